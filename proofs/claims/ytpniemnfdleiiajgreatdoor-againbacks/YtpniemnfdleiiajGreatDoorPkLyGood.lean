/- Plain facts on what layers give: what Check takes. No program in sight. -/
import Derived.Test.YtpniemnfdleiiajGreatDoorPkLy
import Derived.Test.YtpniemnfdleiiajGreatDoorPlain
import Derived.Test.YtpniemnfdleiiajGreatDoorPkLBox
import Derived.Test.YtpniemnfdleiiajGreatDoorPkReg
import Derived.Test.YtpniemnfdleiiajGreatDoorLists
import Derived.RangeFuncNested
import Derived.RangeFuncBound
import Derived.RangeFuncCalls
import Derived.RangeFuncLeaves
import Derived.Maps.AppendAt
namespace Go.Proofs.YtpniemnfdleiiajGreatDoor
def LyG (l:Ly):Prop:=(∃Rw Cw:Nat,l.k=1∧Good l.w Rw Cw∧Good l.b 1 Cw∧1≤Rw∧Rw≤12∧1≤Cw)∨(l.k=2∧Good l.w 0 0∧Good l.b 0 0)∨(l.k=3∧Good l.w 1 1∧Good l.b 0 0)∨(∃Cb:Nat,l.k=4∧Good l.w 0 0∧Good l.b 1 Cb∧1≤Cb)
theorem LyG.lin{l:Ly}(Rw Cw:Nat)(hk:l.k=1)(gw:Good l.w Rw Cw)(gb:Good l.b 1 Cw)(h1:1≤Rw)(h2:Rw≤12)(h3:1≤Cw):LyG l:=.inl ⟨Rw,Cw,hk,gw,gb,h1,h2,h3⟩
theorem LyG.relu{l:Ly}(hk:l.k=2)(gw:Good l.w 0 0)(gb:Good l.b 0 0):LyG l:=.inr (.inl ⟨hk,gw,gb⟩)
theorem LyG.scale{l:Ly}(hk:l.k=3)(gw:Good l.w 1 1)(gb:Good l.b 0 0):LyG l:=.inr (.inr (.inl ⟨hk,gw,gb⟩))
theorem LyG.shift{l:Ly}(Cb:Nat)(hk:l.k=4)(gw:Good l.w 0 0)(gb:Good l.b 1 Cb)(h:1≤Cb):LyG l:=.inr (.inr (.inr ⟨Cb,hk,gw,gb,h⟩))
theorem LyG.el{l:Ly}{motive:LyG l→Prop}(lin:∀(Rw Cw:Nat) (hk:l.k=1) (gw:Good l.w Rw Cw) (gb:Good l.b 1 Cw) (h1:1≤Rw) (h2:Rw≤12) (h3:1≤Cw),motive (.lin Rw Cw hk gw gb h1 h2 h3))(relu:∀(hk:l.k=2) (gw:Good l.w 0 0) (gb:Good l.b 0 0),motive (.relu hk gw gb))
  (scale:∀(hk:l.k=3) (gw:Good l.w 1 1) (gb:Good l.b 0 0),motive (.scale hk gw gb)) (shift:∀(Cb:Nat) (hk:l.k=4) (gw:Good l.w 0 0) (gb:Good l.b 1 Cb) (h:1≤Cb),motive (.shift Cb hk gw gb h)) (t:LyG l):motive t:=by
 rcases t with ⟨Rw,Cw,hk,gw,gb,h1,h2,h3⟩|⟨hk,gw,gb⟩|⟨hk,gw,gb⟩|⟨Cb,hk,gw,gb,h⟩
 ·exact lin Rw Cw hk gw gb h1 h2 h3
 ·exact relu hk gw gb
 ·exact scale hk gw gb
 ·exact shift Cb hk gw gb h
theorem Good.same{m:Mx}{R C R' C':Nat}(g:Good m R C)(h1:R=R')(h2:C=C'):Good m R' C':=by subst h1 h2;exact g
theorem lyG_of{l:Ly}(h:l_ l=0):LyG l:=by
 obtain ⟨h1,h2,fw,fb,hf⟩:=lgood_of h
 obtain ⟨Rw,Cw,gw⟩:=o__ fw
 obtain ⟨Rb,Cb,gb⟩:=o__ fb
 have e1:=gw.r
 have e2:=gw.c
 have e3:=gb.r
 have e4:=gb.c
 unfold fitsL at hf
 by_cases k1:l.k=1
 ·rw[if_pos k1]at hf
  have hf:=of_decide_eq_true hf
  exact .lin Rw Cw k1 gw (gb.same (by omega) (by omega)) (by omega) (by omega) (by omega)
 ·rw[if_neg k1]at hf
  by_cases k2:l.k=2
  ·rw[if_pos k2]at hf
   have hf:=of_decide_eq_true hf
   exact .relu k2 (gw.same (by omega) (by omega)) (gb.same (by omega) (by omega))
  ·rw[if_neg k2]at hf
   by_cases k3:l.k=3
   ·rw[if_pos k3]at hf
    have hf:=of_decide_eq_true hf
    exact .scale k3 (gw.same (by omega) (by omega)) (gb.same (by omega) (by omega))
   ·rw[if_neg k3]at hf
    have hf:=of_decide_eq_true hf
    exact .shift Cb (by omega) (gw.same (by omega) (by omega)) (gb.same (by omega) rfl) (by omega)
theorem goE_zero{l:Ly}{x:Mx}(h:goE l x=0):l_ l=0∧q_ x=0∧takesL l x.cols=true:=by
 unfold goE at h
 by_cases h1:l_ l≠0
 ·rw[if_pos h1]at h;exact absurd h h1
 ·rw[if_neg h1]at h
  by_cases h2:q_ x≠0
  ·rw[if_pos h2]at h;exact absurd h h2
  ·rw[if_neg h2]at h
   by_cases h3:takesL l x.cols=false
   ·rw[if_pos h3]at h;cases h
   ·exact ⟨Decidable.not_not.1 h1,Decidable.not_not.1 h2,by simpa using h3⟩
theorem goE_of{l:Ly}{x:Mx}(h1:l_ l=0)(h2:q_ x=0)(h3:takesL l x.cols=true):goE l x=0:=by
 unfold goE;rw[if_neg (by simp[h1]),if_neg (by simp[h2]),if_neg (by simp[h3])]
theorem backE_zero{l:Ly}{x g:Mx}(h:backE l x g=0):goE l x=0∧q_ g=0∧g.rows=x.rows∧g.cols=g_ l x.cols∧¬(l.k=1∧12<x.rows):=by
 unfold backE at h
 by_cases h1:goE l x≠0
 ·rw[if_pos h1]at h;exact absurd h h1
 ·rw[if_neg h1]at h
  by_cases h2:q_ g≠0
  ·rw[if_pos h2]at h;exact absurd h h2
  ·rw[if_neg h2]at h
   by_cases h3:g.rows≠x.rows∨g.cols≠g_ l x.cols
   ·rw[if_pos h3]at h;cases h
   ·rw[if_neg h3]at h
    by_cases h4:l.k=1∧12<x.rows
    ·rw[if_pos h4]at h;cases h
    ·exact ⟨Decidable.not_not.1 h1,Decidable.not_not.1 h2,by omega,by omega,h4⟩
theorem backE_of{l:Ly}{x g:Mx}(h1:goE l x=0)(h2:q_ g=0)(h3:g.rows=x.rows)(h4:g.cols=g_ l x.cols)(h5:¬(l.k=1∧12<x.rows)):backE l x g=0:=by
 unfold backE;rw[if_neg (by simp[h1]),if_neg (by simp[h2]),if_neg (by omega),if_neg h5]
theorem each_eq{a:Mx}{R C:Nat}(g:Good a R C)(f:Nat→Int):eachX a f=⟨R,C,tab (R*C) f⟩:=by unfold eachX;rw[g.r,g.c,g.l]
theorem Good.each{a:Mx}{R C:Nat}(g:Good a R C){f:Nat→Int}(hf:∀q,q<R*C→inEnds (f q)=true):Good (eachX a f) R C:=by
 rw[each_eq g];exact ⟨rfl,rfl,g.hR,g.hC,tab_len _ _,tab_ends hf⟩
theorem each_self{a:Mx}{R C:Nat}(g:Good a R C):eachX a (A_ a)=a:=by
 obtain ⟨r,c,cs⟩:=a
 unfold eachX A_
 simp only[tab_list]
theorem times_each{a:Mx}{R C:Nat}(g:Good a R C)(x:Int):timesX a x=eachX a (fun q=>ml (A_ a q) x):=by
 rw[each_eq g]
 have e:timesE a=0:=by unfold timesE;rw[if_neg (by simp[g.fault])]
 unfold timesX
 rw[if_pos e,g.r,g.c]
 simp[A_]
theorem Good.times{a:Mx}{R C:Nat}(g:Good a R C)(x:Int):Good (timesX a x) R C:=by
 rw[times_each g];exact g.each (fun q _=>by rw[ends_iff];exact ml_bd _ _)
theorem takes_lin{l:Ly}{n:Int}(hk:l.k=1)(h:takesL l n=true):n=l.w.rows:=by unfold takesL at h;rw[if_pos hk]at h;exact of_decide_eq_true h
theorem takes_shift{l:Ly}{n:Int}(hk:l.k=4)(h:takesL l n=true):n=l.b.cols:=by unfold takesL at h;rw[if_neg (by omega),if_pos hk]at h;exact of_decide_eq_true h
end Go.Proofs.YtpniemnfdleiiajGreatDoor
/- Two nets, one behind the other, are one net, there and back: plain facts. No program in sight. -/
namespace Go.Proofs.YtpniemnfdleiiajGreatDoor
def endX:List Ly→Mx→Mx
 |[],x=>x
 |l::ls,x=>endX ls (goX l x)
theorem runE_cons(l:Ly)(ls:List Ly)(x:Mx):runE (l::ls) x=if goE l x≠0 then goE l x else runE ls (goX l x):=rfl
theorem runE_zero{l:Ly}{ls:List Ly}{x:Mx}(h:runE (l::ls) x=0):goE l x=0∧runE ls (goX l x)=0:=by
 by_cases h0:goE l x=0
 ·rw[runE_cons,if_neg (by simp[h0])]at h;exact ⟨h0,h⟩
 ·rw[runE_cons,if_pos h0]at h;exact absurd h h0
theorem runT_len:∀(a:List Ly) (x:Mx),(runT a x).length=a.length
 |[],_=>rfl
 |l::a,x=>by show (goX l x::runT a (goX l x)).length=_;rw[List.length_cons,runT_len a];rfl
theorem endX_at:∀(a:List Ly) (x:Mx),(x::runT a x)[a.length]?=some (endX a x)
 |[],_=>rfl
 |l::a,x=>by
  show (x::goX l x::runT a (goX l x))[a.length+1]?=_
  rw[List.getElem?_cons_succ];exact endX_at a (goX l x)
theorem ngE_iff(a:List Ly)(x:Mx):ngE a x=0↔¬12<a.length∧q_ x=0∧runE a x=0:=by
 unfold ngE
 by_cases h1:12<a.length
 ·rw[if_pos h1];exact ⟨fun h=>by simp at h,fun h=>absurd h1 h.1⟩
 ·rw[if_neg h1]
  by_cases h2:q_ x=0
  ·rw[if_neg (by simp[h2])];exact ⟨fun h=>⟨h1,h2,h⟩,fun h=>h.2.2⟩
  ·rw[if_pos h2];exact ⟨fun h=>absurd h h2,fun h=>absurd h.2.1 h2⟩
end Go.Proofs.YtpniemnfdleiiajGreatDoor
/- Blocks of cells, as they lie: what a block holds, and that it is kept. No program in sight. -/
namespace Go.Proofs.YtpniemnfdleiiajGreatDoor
open Go.RowKit
def Blk (W:World) (B:Nat) (cs:Array Value) (t:TypeId):Prop:=W.heap[B]?=some (.cells cs t (0,0))
theorem Blk.cell{W:World}{B:Nat}{cs:Array Value}{t:TypeId}(h:Blk W B cs t){j:Nat}{x:Value}(hx:cs[j]?=some x):W.cell? ⟨B,j,none⟩=some x:=by simp[World.cell?,show W.heap[B]?=_ from h,hx]
theorem Blk.frozen{W:World}{B:Nat}{cs:Array Value}{t:TypeId}(h:Blk W B cs t)(j:Nat):W.frozen? ⟨B,j,none⟩=false:=by simp[World.frozen?,show W.heap[B]?=_ from h]
theorem Blk.new(W:World)(cs:Array Value)(t:TypeId){B:Nat}(hB:W.heap.size=B):Blk (W.alloc (.cells cs t)) B cs t:=by subst hB;exact World.alloc_heap_new W _
theorem Blk.lt{W:World}{B:Nat}{cs:Array Value}{t:TypeId}(h:Blk W B cs t):B<W.heap.size:=(Array.getElem?_eq_some_iff.1 h).1
theorem Blk.kept{W W':World}{row:Option Nat}{B:Nat}{cs:Array Value}{t:TypeId}(h:Blk W B cs t)(hg:W.grownBy W' row)(hne:some B≠row):Blk W' B cs t:=(hg.block B h.lt hne).trans h
theorem Blk.own{β:Type}(B:Nat)(cs:Array Value)(t:TypeId):Go.Own (fun (_:β) W=>Blk W B cs t):=fun s X Y row hs hg hrow=>
 hs.kept hg (fun e'=>by obtain ⟨o,ho,hc⟩:=hrow B e'.symm;rw[show X.heap[B]?=_ from hs]at ho;cases ho;cases hc)
theorem Blk.alloc{W:World}{B:Nat}{cs:Array Value}{t:TypeId}(h:Blk W B cs t)(o:Obj):Blk (W.alloc o) B cs t:=h.kept (World.grownBy_alloc W o none) (by simp)
theorem Blk.u_{W W':World}{B:Nat}{cs:Array Value}{t:TypeId}(h:Blk W B cs t)(hb:Below W.heap.size W W'):Blk W' B cs t:=(hb.block B h.lt).trans h
theorem Blk.not_row{W:World}{B:Nat}{cs:Array Value}{t e:TypeId}(h:Blk W B cs t)(hte:t≠e){base size k:Nat}{v:Value}{xs:List Value}(hr:W.ownsRow base e size v k xs):some B≠v.ownBlock:=by
 rcases hr.2 with ⟨rfl,_⟩|⟨g,cap,cur,rfl,_,hgb,_⟩
 ·simp[Value.ownBlock]
 ·intro e'
  obtain rfl:B=g:=by simpa [Value.ownBlock] using e'
  have:=(show W.heap[B]?=_ from h).symm.trans hgb
  simp at this
  exact hte this.2
theorem Blk.set{W:World}{B:Nat}{cs:Array Value}{t:TypeId}(h:Blk W B cs t)(q:Nat)(x:Value):Blk (W.setCell ⟨B,q,none⟩ x) B (cs.setIfInBounds q x) t:=by
 have h':W.heap[B]?=some (.cells cs t (0,0)):=h
 obtain ⟨hlt,he⟩:=Array.getElem?_eq_some_iff.1 h'
 show (W.heap.modify B _)[B]?=_
 rw[Array.getElem?_eq_getElem (by simpa using hlt),Array.getElem_modify,if_pos rfl,he]
 rfl
theorem Blk.box{W:World}{B:Nat}{cs:List Value}{t:TypeId}(h:Blk W B cs.toArray t):Box W B cs:=fun j x hx=>h.cell (by simpa using hx)
end Go.Proofs.YtpniemnfdleiiajGreatDoor
