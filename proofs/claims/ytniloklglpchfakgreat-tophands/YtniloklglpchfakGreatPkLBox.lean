/- Boxes of any size: what a variable holds, cell by cell; a box that is written again. No program in sight. -/
import Derived.Test.YtniloklglpchfakGreatPkMOps1
import Derived.Test.YtniloklglpchfakGreatLists
import Derived.Test.YtniloklglpchfakGreatPkLvOf
namespace Go.Proofs.YtniloklglpchfakGreat
open Go.RowKit
def Box (w:World) (B:Nat) (cs:List Value):Prop:=∀(j:Nat) x,cs[j]?=some x→w.cell? ⟨B,j,none⟩=some x
theorem Box.u_{w w':World}{B:Nat}{cs:List Value}(h:Box w B cs)(hb:Below w.heap.size w w'):Box w' B cs:=fun j x hx=>c_ hb (h j x hx)
theorem Box.new(V:World)(cs:List Value)(t:TypeId){B:Nat}(hB:V.heap.size=B):Box (V.alloc (.cells cs.toArray t)) B cs:=fun j x hx=>box_new V _ t hB (by simpa using hx)
theorem Box.lt{w:World}{B:Nat}{x:Value}{cs:List Value}(h:Box w B (x::cs)):B<w.heap.size:=World.block_lt_of_cell? w _ (h 0 x rfl)
def Free (w:World) (B:Nat):Prop:=∀j,w.frozen? ⟨B,j,none⟩=false
theorem Free.new(V:World)(cs:Array Value)(t:TypeId){B:Nat}(hB:V.heap.size=B):Free (V.alloc (.cells cs t)) B:=box_free V cs t hB
theorem Free.u_{w w':World}{B:Nat}(h:Free w B)(hb:Below w.heap.size w w')(hlt:B<w.heap.size):Free w' B:=fun j=>(hb.frozen (p:=⟨B,j,none⟩) hlt).trans (h j)
theorem below_sets{V u:World}(h:Below V.heap.size V u){B:Nat}(hB:V.heap.size≤B)(q:Nat)(x:Value):Below V.heap.size V (u.setCell ⟨B,q,none⟩ x):=h.setCell hB _
theorem f_{B B':Nat}{v:Value}(h:F_ B v)(hb:B'≤B):F_ B' v:=fun r c x n k e=>(h r c x n k e).imp id (fun h=>Nat.le_trans hb h)
theorem ints_new(V:World)(zs:List Int)(h:zs.length≤100)(t:TypeId):I_ (V.alloc (.cells (zs.map (Value.int .i64)).toArray t)) (.slice (some ⟨V.heap.size,0,none⟩) zs.length zs.length) zs:=by
 refine ⟨_,_,rfl,Nat.le_refl _,by unfold maxLen;omega,.inr ⟨V.heap.size,0,rfl,fun i x hx=>?_⟩⟩
 rw[Nat.zero_add]
 exact box_new V _ t rfl (by simp[hx])
theorem ints_newB(V:World)(zs:List Int)(h:zs.length≤100)(t:TypeId){B:Nat}(hB:V.heap.size=B):I_ (V.alloc (.cells (zs.map (Value.int .i64)).toArray t)) (.slice (some ⟨B,0,none⟩) zs.length zs.length) zs:=by subst hB;exact ints_new V zs h t
theorem Box.c2{w:World}{B:Nat}{x0 x1:Value}{cs:List Value}(h:Box w B (x0::x1::cs)):w.cell? ⟨B,0,none⟩=some x0∧w.cell? ⟨B,1,none⟩=some x1:=⟨h 0 _ rfl,h 1 _ rfl⟩
theorem Box.c3{w:World}{B:Nat}{x0 x1 x2:Value}{cs:List Value}(h:Box w B (x0::x1::x2::cs)):w.cell? ⟨B,0,none⟩=some x0∧w.cell? ⟨B,1,none⟩=some x1∧w.cell? ⟨B,2,none⟩=some x2:=⟨h 0 _ rfl,h 1 _ rfl,h 2 _ rfl⟩
theorem Box.c35{w:World}{B:Nat}{x0 x1 x2 x3 x4 x5:Value}{cs:List Value}(h:Box w B (x0::x1::x2::x3::x4::x5::cs)):w.cell? ⟨B,3,none⟩=some x3∧w.cell? ⟨B,4,none⟩=some x4∧w.cell? ⟨B,5,none⟩=some x5:=⟨h 3 _ rfl,h 4 _ rfl,h 5 _ rfl⟩
theorem Box.c6{w:World}{B:Nat}{x0 x1 x2 x3 x4 x5:Value}{cs:List Value}(h:Box w B (x0::x1::x2::x3::x4::x5::cs)):w.cell? ⟨B,0,none⟩=some x0∧w.cell? ⟨B,1,none⟩=some x1∧w.cell? ⟨B,2,none⟩=some x2∧w.cell? ⟨B,3,none⟩=some x3∧w.cell? ⟨B,4,none⟩=some x4∧w.cell? ⟨B,5,none⟩=some x5:=⟨h 0 _ rfl,h 1 _ rfl,h 2 _ rfl,h 3 _ rfl,h 4 _ rfl,h 5 _ rfl⟩
theorem Box.c7{w:World}{B:Nat}{x0 x1 x2 x3 x4 x5 x6:Value}{cs:List Value}(h:Box w B (x0::x1::x2::x3::x4::x5::x6::cs)):w.cell? ⟨B,0,none⟩=some x0∧w.cell? ⟨B,1,none⟩=some x1∧w.cell? ⟨B,2,none⟩=some x2∧w.cell? ⟨B,3,none⟩=some x3∧w.cell? ⟨B,4,none⟩=some x4∧w.cell? ⟨B,5,none⟩=some x5∧w.cell? ⟨B,6,none⟩=some x6:=⟨h 0 _ rfl,h 1 _ rfl,h 2 _ rfl,h 3 _ rfl,h 4 _ rfl,h 5 _ rfl,h 6 _ rfl⟩
theorem Free.f3{w:World}{B:Nat}(h:Free w B):w.frozen? ⟨B,0,none⟩=false∧w.frozen? ⟨B,1,none⟩=false∧w.frozen? ⟨B,2,none⟩=false:=⟨h 0,h 1,h 2⟩
theorem Free.f6{w:World}{B:Nat}(h:Free w B):w.frozen? ⟨B,0,none⟩=false∧w.frozen? ⟨B,1,none⟩=false∧w.frozen? ⟨B,2,none⟩=false∧w.frozen? ⟨B,3,none⟩=false∧w.frozen? ⟨B,4,none⟩=false∧w.frozen? ⟨B,5,none⟩=false:=⟨h 0,h 1,h 2,h 3,h 4,h 5⟩
def netE:List Ly→Int→Int
 |[],n=>if n<0∨12<n then 1 else 0
 |l::ls,n=>if wideE l n≠0 then wideE l n else netE ls (g_ l n)
def netW:List Ly→Int→Int
 |[],n=>n
 |l::ls,n=>netW ls (g_ l n)
def nwE (ls:List Ly) (n:Int):Int:=if 12<ls.length then 3 else netE ls n
def nwX (ls:List Ly) (n:Int):Int:=if nwE ls n=0 then netW ls n else 0
theorem drop_at{α:Type}{xs:List α}{i:Nat}{x:α}(h:xs[i]?=some x):xs.drop i=x::xs.drop (i+1):=by
 obtain ⟨hi,rfl⟩:=List.getElem?_eq_some_iff.1 h
 exact List.drop_eq_getElem_cons hi
theorem infoMx:(Tryz.prog.info? 28).map (fun i=>(i.zero,i.size,i.bytes))=some (some (.agg #[.int .i64 0,.int .i64 0,.slice none 0 0]),3,40):=by kernel_rfl
def runE:List Ly→Mx→Int
 |[],_=>0
 |l::ls,x=>if goE l x≠0 then goE l x else runE ls (goX l x)
def runT:List Ly→Mx→List Mx
 |[],_=>[]
 |l::ls,x=>goX l x::runT ls (goX l x)
def ngE (ls:List Ly) (x:Mx):Int:=if 12<ls.length then 3 else if q_ x≠0 then q_ x else runE ls x
def ngX (ls:List Ly) (x:Mx):List Mx:=if ngE ls x=0 then x::runT ls x else []
theorem enc_mx{w:World}{G:Nat→Prop}{m:Mx}{s:Value}(h:P_ w G (.inr m.cells) s):Enc w G (mxS m) [.int .i64 m.rows,.int .i64 m.cols,s]:=.cons rfl (.cons rfl (.cons h (.nil _ _)))
theorem x_{w:World}{n:Nat}{r c s:Value}{zs:List Int}(h:I_ w s zs)(hf:F_ n (.agg #[r,c,s])){G:Nat→Prop}(hG:∀b,G b→b<n):P_ w G (.inr zs) s:=by
 refine ⟨h,?_⟩
 by_cases h0:zs=[]
 ·exact .inl h0
 ·obtain ⟨a,cap,rfl,_,_,h4⟩:=h
  obtain ⟨b,off,rfl,_⟩:=h4.resolve_left h0
  refine .inr fun k hk hg=>?_
  have hlt:=hG k hg
  obtain rfl:b=k:=by simpa [Value.ownBlock] using hk
  rcases hf r c ⟨b,off,none⟩ zs.length cap rfl with h1|h1
  ·exact absurd (List.eq_nil_of_length_eq_zero h1) h0
  ·have:n≤b:=h1
   omega
theorem part_old{w w':World}{s:Value}{zs:List Int}(h:I_ w s zs)(hb:Below w.heap.size w w'){G:Nat→Prop}(hG:∀b,G b→w.heap.size≤b):P_ w' G (.inr zs) s:=by
 refine ⟨h.u_ hb,?_⟩
 by_cases h0:zs=[]
 ·exact .inl h0
 ·obtain ⟨b,hb',hlt⟩:=h.lt h0
  refine .inr fun k hk hg=>?_
  rw[hb']at hk
  obtain rfl:=Option.some.inj hk
  have:=hG b hg
  omega
theorem three_set{w:World}{B:Nat}{a0 a1 a2:Value}(h:Box w B [a0,a1,a2])(x y z:Value):Box (((w.setCell ⟨B,0,none⟩ x).setCell ⟨B,1,none⟩ y).setCell ⟨B,2,none⟩ z) B [x,y,z]:=by
 have o:∀(u:World) (i j:Nat) (v:Value),i≠j→(u.setCell ⟨B,i,none⟩ v).cell? ⟨B,j,none⟩=u.cell? ⟨B,j,none⟩:=fun u i j v hij=>cell_at_other u B i j v hij
 intro j v hv
 match j,hv with
 |0,hv=>simp at hv;subst hv;rw[o _ 2 0 _ (by decide),o _ 1 0 _ (by decide)];exact World.cell?_setCell_same _ _ _ (h 0 _ rfl)
 |1,hv=>simp at hv;subst hv;rw[o _ 2 1 _ (by decide)];exact World.cell?_setCell_same _ _ _ ((o _ 0 1 _ (by decide)).trans (h 1 _ rfl))
 |2,hv=>simp at hv;subst hv;exact World.cell?_setCell_same _ _ _ ((o _ 1 2 _ (by decide)).trans ((o _ 0 2 _ (by decide)).trans (h 2 _ rfl)))
theorem infoGd:(Tryz.prog.info? 109).map (fun i=>(i.zero,i.size,i.bytes))=some (some (.agg #[.int .i64 0,.int .i64 0,.slice none 0 0,.int .i64 0,.int .i64 0,.slice none 0 0]),6,80):=by kernel_rfl
def gat1E (p q:Mx×Mx):Int:=if addE p.1 q.1≠0 then addE p.1 q.1 else addE p.2 q.2
def gat1X (p q:Mx×Mx):Mx×Mx:=(addX p.1 q.1,addX p.2 q.2)
def gatE:List (Mx×Mx)→List (Mx×Mx)→Int
 |p::ps,q::qs=>if gat1E p q≠0 then gat1E p q else gatE ps qs
 |_,_=>0
def gatX:List (Mx×Mx)→List (Mx×Mx)→List (Mx×Mx)
 |p::ps,q::qs=>gat1X p q::gatX ps qs
 |_,_=>[]
def gaE (ps qs:List (Mx×Mx)):Int:=if ps.length≠qs.length then 2 else gatE ps qs
def gaX (ps qs:List (Mx×Mx)):List (Mx×Mx):=if gaE ps qs=0 then gatX ps qs else []
theorem isGds_nil(w:World):D_ w (.slice none 0 0) []:=⟨none,0,rfl,Nat.le_refl _,Nat.zero_le _,.inl rfl⟩
theorem enc_gd{w:World}{G:Nat→Prop}{d:Mx×Mx}{s t:Value}(h:P_ w G (.inr d.1.cells) s)(h':P_ w G (.inr d.2.cells) t):Enc w G (gdS d) [.int .i64 d.1.rows,.int .i64 d.1.cols,s,.int .i64 d.2.rows,.int .i64 d.2.cols,t]:=.cons rfl (.cons rfl (.cons h (.cons rfl (.cons rfl (.cons h' (.nil _ _))))))
def zeroM (m:Mx):Mx:=⟨m.rows,m.cols,tab m.cells.length (fun _=>0)⟩
def zeroD (ls:List Ly):List (Mx×Mx):=ls.map fun l=>(zeroM l.w,zeroM l.b)
end Go.Proofs.YtniloklglpchfakGreat
/- Plain facts on what layers give: what Check takes. No program in sight. -/
namespace Go.Proofs.YtniloklglpchfakGreat
def LyG (l:Ly):Prop:=(∃Rw Cw:Nat,l.k=1∧Good l.w Rw Cw∧Good l.b 1 Cw∧1≤Rw∧Rw≤12∧1≤Cw)∨(l.k=2∧Good l.w 0 0∧Good l.b 0 0)∨(l.k=3∧Good l.w 1 1∧Good l.b 0 0)∨(∃Cb:Nat,l.k=4∧Good l.w 0 0∧Good l.b 1 Cb∧1≤Cb)
theorem LyG.lin{l:Ly}(Rw Cw:Nat)(hk:l.k=1)(gw:Good l.w Rw Cw)(gb:Good l.b 1 Cw)(h1:1≤Rw)(h2:Rw≤12)(h3:1≤Cw):LyG l:=.inl ⟨Rw,Cw,hk,gw,gb,h1,h2,h3⟩
theorem LyG.relu{l:Ly}(hk:l.k=2)(gw:Good l.w 0 0)(gb:Good l.b 0 0):LyG l:=.inr (.inl ⟨hk,gw,gb⟩)
theorem LyG.scale{l:Ly}(hk:l.k=3)(gw:Good l.w 1 1)(gb:Good l.b 0 0):LyG l:=.inr (.inr (.inl ⟨hk,gw,gb⟩))
theorem LyG.shift{l:Ly}(Cb:Nat)(hk:l.k=4)(gw:Good l.w 0 0)(gb:Good l.b 1 Cb)(h:1≤Cb):LyG l:=.inr (.inr (.inr ⟨Cb,hk,gw,gb,h⟩))
theorem LyG.el{l:Ly}{motive:LyG l→Prop}(lin:∀(Rw Cw:Nat) (hk:l.k=1) (gw:Good l.w Rw Cw) (gb:Good l.b 1 Cw) (h1:1≤Rw) (h2:Rw≤12) (h3:1≤Cw),motive (.lin Rw Cw hk gw gb h1 h2 h3))(relu:∀(hk:l.k=2) (gw:Good l.w 0 0) (gb:Good l.b 0 0),motive (.relu hk gw gb))
  (scale:∀(hk:l.k=3) (gw:Good l.w 1 1) (gb:Good l.b 0 0),motive (.scale hk gw gb)) (shift:∀(Cb:Nat) (hk:l.k=4) (gw:Good l.w 0 0) (gb:Good l.b 1 Cb) (h:1≤Cb),motive (.shift Cb hk gw gb h)) (t:LyG l):motive t:=by
 rcases t with ⟨Rw,Cw,hk,gw,gb,h1,h2,h3⟩|⟨hk,gw,gb⟩|⟨hk,gw,gb⟩|⟨Cb,hk,gw,gb,h⟩
 ·exact lin Rw Cw hk gw gb h1 h2 h3
 ·exact relu hk gw gb
 ·exact scale hk gw gb
 ·exact shift Cb hk gw gb h
theorem Good.same{m:Mx}{R C R' C':Nat}(g:Good m R C)(h1:R=R')(h2:C=C'):Good m R' C':=by subst h1 h2;exact g
theorem lyG_of{l:Ly}(h:l_ l=0):LyG l:=by
 obtain ⟨h1,h2,fw,fb,hf⟩:=lgood_of h
 obtain ⟨Rw,Cw,gw⟩:=o__ fw
 obtain ⟨Rb,Cb,gb⟩:=o__ fb
 have e1:=gw.r
 have e2:=gw.c
 have e3:=gb.r
 have e4:=gb.c
 unfold fitsL at hf
 by_cases k1:l.k=1
 ·rw[if_pos k1]at hf
  have hf:=of_decide_eq_true hf
  exact .lin Rw Cw k1 gw (gb.same (by omega) (by omega)) (by omega) (by omega) (by omega)
 ·rw[if_neg k1]at hf
  by_cases k2:l.k=2
  ·rw[if_pos k2]at hf
   have hf:=of_decide_eq_true hf
   exact .relu k2 (gw.same (by omega) (by omega)) (gb.same (by omega) (by omega))
  ·rw[if_neg k2]at hf
   by_cases k3:l.k=3
   ·rw[if_pos k3]at hf
    have hf:=of_decide_eq_true hf
    exact .scale k3 (gw.same (by omega) (by omega)) (gb.same (by omega) (by omega))
   ·rw[if_neg k3]at hf
    have hf:=of_decide_eq_true hf
    exact .shift Cb (by omega) (gw.same (by omega) (by omega)) (gb.same (by omega) rfl) (by omega)
theorem goE_zero{l:Ly}{x:Mx}(h:goE l x=0):l_ l=0∧q_ x=0∧takesL l x.cols=true:=by
 unfold goE at h
 by_cases h1:l_ l≠0
 ·rw[if_pos h1]at h;exact absurd h h1
 ·rw[if_neg h1]at h
  by_cases h2:q_ x≠0
  ·rw[if_pos h2]at h;exact absurd h h2
  ·rw[if_neg h2]at h
   by_cases h3:takesL l x.cols=false
   ·rw[if_pos h3]at h;cases h
   ·exact ⟨Decidable.not_not.1 h1,Decidable.not_not.1 h2,by simpa using h3⟩
theorem backE_zero{l:Ly}{x g:Mx}(h:backE l x g=0):goE l x=0∧q_ g=0∧g.rows=x.rows∧g.cols=g_ l x.cols∧¬(l.k=1∧12<x.rows):=by
 unfold backE at h
 by_cases h1:goE l x≠0
 ·rw[if_pos h1]at h;exact absurd h h1
 ·rw[if_neg h1]at h
  by_cases h2:q_ g≠0
  ·rw[if_pos h2]at h;exact absurd h h2
  ·rw[if_neg h2]at h
   by_cases h3:g.rows≠x.rows∨g.cols≠g_ l x.cols
   ·rw[if_pos h3]at h;cases h
   ·rw[if_neg h3]at h
    by_cases h4:l.k=1∧12<x.rows
    ·rw[if_pos h4]at h;cases h
    ·exact ⟨Decidable.not_not.1 h1,Decidable.not_not.1 h2,by omega,by omega,h4⟩
theorem backE_of{l:Ly}{x g:Mx}(h1:goE l x=0)(h2:q_ g=0)(h3:g.rows=x.rows)(h4:g.cols=g_ l x.cols)(h5:¬(l.k=1∧12<x.rows)):backE l x g=0:=by
 unfold backE;rw[if_neg (by simp[h1]),if_neg (by simp[h2]),if_neg (by omega),if_neg h5]
theorem cellAt_ends{m:Mx}{R C:Nat}(g:Good m R C)(q:Nat):inEnds (A_ m q)=true:=getD_ends g.e q
theorem each_eq{a:Mx}{R C:Nat}(g:Good a R C)(f:Nat→Int):eachX a f=⟨R,C,tab (R*C) f⟩:=by unfold eachX;rw[g.r,g.c,g.l]
theorem Good.each{a:Mx}{R C:Nat}(g:Good a R C){f:Nat→Int}(hf:∀q,q<R*C→inEnds (f q)=true):Good (eachX a f) R C:=by
 rw[each_eq g];exact ⟨rfl,rfl,g.hR,g.hC,tab_len _ _,tab_ends hf⟩
theorem Good.addRows{a b:Mx}{R C:Nat}(g:Good a R C):Good (addRows a b) R C:=g.each (fun q _=>by rw[ends_iff];exact ad_bd _ _)
theorem max_ends{x:Int}(h:inEnds x=true):inEnds (max x 0)=true:=by rw[ends_iff]at h ⊢;omega
theorem Good.relu{a:Mx}{R C:Nat}(g:Good a R C):Good (reluX a) R C:=g.each (fun q _=>max_ends (cellAt_ends g q))
theorem Good.reluB{x a:Mx}{R C:Nat}(g:Good a R C):Good (reluB x a) R C:=g.each (fun q _=>by split;exact cellAt_ends g q;decide)
theorem Good.copy{a:Mx}{R C:Nat}(g:Good a R C):Good (eachX a (A_ a)) R C:=g.each (fun q _=>cellAt_ends g q)
theorem times_each{a:Mx}{R C:Nat}(g:Good a R C)(x:Int):timesX a x=eachX a (fun q=>ml (A_ a q) x):=by
 rw[each_eq g]
 have e:timesE a=0:=by unfold timesE;rw[if_neg (by simp[g.fault])]
 unfold timesX
 rw[if_pos e,g.r,g.c]
 simp[A_]
theorem Good.times{a:Mx}{R C:Nat}(g:Good a R C)(x:Int):Good (timesX a x) R C:=by
 rw[times_each g];exact g.each (fun q _=>by rw[ends_iff];exact ml_bd _ _)
theorem takes_lin{l:Ly}{n:Int}(hk:l.k=1)(h:takesL l n=true):n=l.w.rows:=by unfold takesL at h;rw[if_pos hk]at h;exact of_decide_eq_true h
theorem takes_shift{l:Ly}{n:Int}(hk:l.k=4)(h:takesL l n=true):n=l.b.cols:=by unfold takesL at h;rw[if_neg (by omega),if_pos hk]at h;exact of_decide_eq_true h
theorem go_good{l:Ly}{x:Mx}{R C:Nat}(gx:Good x R C)(h:goE l x=0):∃C',Good (goX l x) R C'∧g_ l x.cols=(C':Int):=by
 obtain ⟨hl,_,ht⟩:=goE_zero h
 unfold goX
 rw[if_pos h]
 unfold goG g_
 cases lyG_of hl using LyG.el with
 |lin Rw Cw hk gw gb h1 h2 h3=>
  have e:=takes_lin hk ht
  rw[if_pos hk,if_pos hk]
  exact ⟨Cw,((gx.same (R':=R) (C':=Rw) rfl (by have:=gx.c;have:=gw.r;omega)).mul gw).addRows,gw.c⟩
 |relu hk gw gb=>rw[if_neg (by omega),if_pos hk,if_neg (by omega)];exact ⟨C,gx.relu,gx.c⟩
 |scale hk gw gb=>rw[if_neg (by omega),if_neg (by omega),if_pos hk,if_neg (by omega)];exact ⟨C,gx.times _,gx.c⟩
 |shift Cb hk gw gb h1=>rw[if_neg (by omega),if_neg (by omega),if_neg (by omega),if_neg (by omega)];exact ⟨C,gx.addRows,gx.c⟩
theorem back_good{l:Ly}{x g:Mx}{R C:Nat}(gx:Good x R C)(h:backE l x g=0):∃Cg,Good g R Cg∧g_ l x.cols=(Cg:Int)∧Good (backX l x g) R C:=by
 obtain ⟨hg,fg,e1,e2,h4⟩:=backE_zero h
 obtain ⟨hl,_,ht⟩:=goE_zero hg
 obtain ⟨Rg,Cg,gg⟩:=o__ fg
 have gg:=gg.same (R':=R) (C':=Cg) (by have:=gg.r;have:=gx.r;omega) rfl
 refine ⟨Cg,gg,by rw[←e2];exact gg.c,?_⟩
 unfold backX
 rw[if_pos h]
 unfold backG
 unfold g_ at e2
 cases lyG_of hl using LyG.el with
 |lin Rw Cw hk gw gb h1 h2 h3=>
  have e:=takes_lin hk ht
  rw[if_pos hk]at e2 ⊢
  have gt:=gw.turn h2
  have:=(gg.same (R':=R) (C':=Cw) rfl (by have:=gg.c;have:=gw.c;omega)).mul gt
  exact this.same rfl (by have:=gx.c;have:=gw.r;omega)
 |relu hk gw gb=>rw[if_neg (by omega)]at e2;rw[if_neg (by omega),if_pos hk];exact (gg.same rfl (by have:=gx.c;have:=gg.c;omega)).reluB
 |scale hk gw gb=>rw[if_neg (by omega)]at e2;rw[if_neg (by omega),if_neg (by omega),if_pos hk];exact (gg.same rfl (by have:=gx.c;have:=gg.c;omega)).times _
 |shift Cb hk gw gb h1=>rw[if_neg (by omega)]at e2;rw[if_neg (by omega),if_neg (by omega),if_neg (by omega)];exact (gg.same rfl (by have:=gx.c;have:=gg.c;omega)).copy
end Go.Proofs.YtniloklglpchfakGreat
/- A step, as plain data: what is wrong, what comes of a net and of its speed. No program in sight. -/
namespace Go.Proofs.YtniloklglpchfakGreat
open Go.RowKit
def H_ (a b:Mx):Bool:=decide (a.rows=b.rows∧a.cols=b.cols)
def stp1E (l:Ly) (p q:Mx×Mx):Int:=if l_ l≠0 then l_ l else if q_ p.1≠0 then q_ p.1 else if q_ p.2≠0 then q_ p.2 else if q_ q.1≠0 then q_ q.1 else if q_ q.2≠0 then q_ q.2 else
 if H_ p.1 l.w=false∨H_ p.2 l.b=false∨H_ q.1 l.w=false∨H_ q.2 l.b=false then 2 else 0
def stpE:List Ly→List (Mx×Mx)→List (Mx×Mx)→Int
 |l::ls,p::ps,q::qs=>if stp1E l p q≠0 then stp1E l p q else stpE ls ps qs
 |_,_,_=>0
def badR (le ke:Int):Bool:=decide (le<0)||decide (256<le)||decide (ke<0)||decide (256<ke)
def stE (ls:List Ly) (ps qs:List (Mx×Mx)) (le ke:Int):Int:=if badR le ke=true then 1 else if 12<ls.length then 3 else if ps.length≠ls.length∨qs.length≠ls.length then 2 else stpE ls ps qs
def spdX (v d:Mx) (ke:Int):Mx:=addX (timesX v ke) d
def newX (w sp:Mx) (le:Int):Mx:=⟨w.rows,w.cols,tab w.cells.length fun q=>sb (A_ w q) (A_ (timesX sp le) q)⟩
def stp1L (l:Ly) (p q:Mx×Mx) (le ke:Int):Ly:=⟨l.k,newX l.w (spdX p.1 q.1 ke) le,newX l.b (spdX p.2 q.2 ke) le⟩
def stp1G (p q:Mx×Mx) (ke:Int):Mx×Mx:=(spdX p.1 q.1 ke,spdX p.2 q.2 ke)
def stpL (le ke:Int):List Ly→List (Mx×Mx)→List (Mx×Mx)→List Ly
 |l::ls,p::ps,q::qs=>stp1L l p q le ke::stpL le ke ls ps qs
 |_,_,_=>[]
def stpG (ke:Int):List Ly→List (Mx×Mx)→List (Mx×Mx)→List (Mx×Mx)
 |_::ls,p::ps,q::qs=>stp1G p q ke::stpG ke ls ps qs
 |_,_,_=>[]
theorem sameSh_yes{a b:Mx}(h:H_ a b=true):a.rows=b.rows∧a.cols=b.cols:=of_decide_eq_true h
theorem stp1_good{l:Ly}{p q:Mx×Mx}(h:stp1E l p q=0):l_ l=0∧q_ p.1=0∧q_ p.2=0∧q_ q.1=0∧q_ q.2=0∧H_ p.1 l.w=true∧H_ p.2 l.b=true∧H_ q.1 l.w=true∧H_ q.2 l.b=true:=by
 unfold stp1E at h
 by_cases h0:l_ l=0
 ·rw[if_neg (by simp[h0])]at h
  by_cases h1:q_ p.1=0
  ·rw[if_neg (by simp[h1])]at h
   by_cases h2:q_ p.2=0
   ·rw[if_neg (by simp[h2])]at h
    by_cases h3:q_ q.1=0
    ·rw[if_neg (by simp[h3])]at h
     by_cases h4:q_ q.2=0
     ·rw[if_neg (by simp[h4])]at h
      by_cases h5:H_ p.1 l.w=false∨H_ p.2 l.b=false∨H_ q.1 l.w=false∨H_ q.2 l.b=false
      ·rw[if_pos h5]at h;cases h
      ·simp only[not_or,Bool.not_eq_false]at h5
       exact ⟨h0,h1,h2,h3,h4,h5.1,h5.2.1,h5.2.2.1,h5.2.2.2⟩
     ·rw[if_pos h4]at h;exact absurd h h4
    ·rw[if_pos h3]at h;exact absurd h h3
   ·rw[if_pos h2]at h;exact absurd h h2
  ·rw[if_pos h1]at h;exact absurd h h1
 ·rw[if_pos h0]at h;exact absurd h h0
theorem Good.addE{a b:Mx}{R C:Nat}(ga:Good a R C)(gb:Good b R C):addE a b=0:=by
 have hf:faults [a,b]=0:=by unfold faults faults faults;rw[ga.fault,gb.fault];rfl
 show (if faults [a,b]≠0 then faults [a,b] else if a.rows≠b.rows∨a.cols≠b.cols then 2 else 0)=0
 rw[if_neg (by simp[hf]),if_neg (by rw[ga.r,ga.c,gb.r,gb.c];simp)]
theorem Good.add{a b:Mx}{R C:Nat}(ga:Good a R C)(gb:Good b R C):Good (addX a b) R C:=by
 unfold addX
 rw[if_pos (ga.addE gb)]
 have e:a.rows.toNat*a.cols.toNat=R*C:=by rw[ga.r,ga.c];simp
 exact ⟨ga.r,ga.c,ga.hR,ga.hC,by rw[tab_len,e],tab_ends (fun q _=>by rw[ends_iff];exact cl_bd _)⟩
theorem infoLy2:(Tryz.prog.info? 83).map (fun i=>(i.zero,i.size,i.bytes))=some (some (.agg #[.int .i64 0,.int .i64 0,.int .i64 0,.slice none 0 0,.int .i64 0,.int .i64 0,.slice none 0 0]),7,88):=by kernel_rfl
theorem enc_ly2{w:World}{G:Nat→Prop}{l:Ly}{s t:Value}(h:P_ w G (.inr l.w.cells) s)(h':P_ w G (.inr l.b.cells) t):Enc w G (lyS l) [.int .i64 l.k,.int .i64 l.w.rows,.int .i64 l.w.cols,s,.int .i64 l.b.rows,.int .i64 l.b.cols,t]:=.cons rfl (.cons rfl (.cons rfl (.cons h (.cons rfl (.cons rfl (.cons h' (.nil _ _)))))))
theorem stp1_sizes{l:Ly}{p q:Mx×Mx}(h:stp1E l p q=0):(∃R C,Good l.w R C∧Good p.1 R C∧Good q.1 R C)∧(∃R C,Good l.b R C∧Good p.2 R C∧Good q.2 R C):=by
 obtain ⟨h0,h1,h2,h3,h4,h5,h6,h7,h8⟩:=stp1_good h
 obtain ⟨_,_,fw,fb,_⟩:=lgood_of h0
 have key:∀{a c:Mx},q_ a=0→H_ a c=true→∀{R C:Nat},Good c R C→Good a R C:=fun {a c} fa hs {R C} gc=>by
  obtain ⟨R',C',ga⟩:=o__ fa
  obtain ⟨e1,e2⟩:=sameSh_yes hs
  have hr:=ga.r
  have hc:=ga.c
  have hr':=gc.r
  have hc':=gc.c
  obtain rfl:R'=R:=by omega
  obtain rfl:C'=C:=by omega
  exact ga
 obtain ⟨R,C,gw⟩:=o__ fw
 obtain ⟨R2,C2,gb⟩:=o__ fb
 exact ⟨⟨R,C,gw,key h1 h5 gw,key h3 h7 gw⟩,⟨R2,C2,gb,key h2 h6 gb,key h4 h8 gb⟩⟩
def doL (ls:List Ly) (ps qs:List (Mx×Mx)) (le ke:Int):List Ly:=if stE ls ps qs le ke=0 then stpL le ke ls ps qs else []
def doG (ls:List Ly) (ps qs:List (Mx×Mx)) (le ke:Int):List (Mx×Mx):=if stE ls ps qs le ke=0 then stpG ke ls ps qs else []
theorem Good.timesEq{a:Mx}{R C:Nat}(g:Good a R C)(x:Int):timesX a x=⟨a.rows,a.cols,tab (R*C) (fun q=>ml (A_ a q) x)⟩:=by
 have e:timesE a=0:=by unfold timesE;rw[if_neg (by simp[g.fault])]
 unfold timesX
 rw[if_pos e,g.r,g.c]
 simp[A_]
theorem cellAt_tab{r c:Int}{n q:Nat}{f:Nat→Int}(h:q<n):A_ ⟨r,c,tab n f⟩ q=f q:=by unfold A_;rw[tab_at h];rfl
theorem spd_eq{v d:Mx}{R C:Nat}(gv:Good v R C)(gd:Good d R C)(ke:Int):spdX v d ke=⟨v.rows,v.cols,tab (R*C) (fun q=>ad (ml (A_ v q) ke) (A_ d q))⟩:=by
 unfold spdX addX
 rw[if_pos ((gv.times ke).addE gd),gv.timesEq ke]
 simp only[gv.r,gv.c,Int.toNat_natCast]
 congr 1
 refine tab_congr (fun q hq=>?_)
 rw[tab_at hq];rfl
theorem Good.spd{v d:Mx}{R C:Nat}(gv:Good v R C)(gd:Good d R C)(ke:Int):Good (spdX v d ke) R C:=(gv.times ke).add gd
theorem new_eq{a s:Mx}{R C:Nat}(ga:Good a R C)(gs:Good s R C)(le:Int):newX a s le=⟨a.rows,a.cols,tab (R*C) (fun q=>sb (A_ a q) (ml (A_ s q) le))⟩:=by
 unfold newX
 rw[ga.l,gs.timesEq le]
 congr 1
 exact tab_congr (fun q hq=>by rw[cellAt_tab hq])
def stt1E (l:Ly) (p:Mx×Mx):Int:=if l_ l≠0 then l_ l else if q_ p.1≠0 then q_ p.1 else if q_ p.2≠0 then q_ p.2 else if H_ p.1 l.w=false∨H_ p.2 l.b=false then 2 else 0
def sttE:List Ly→List (Mx×Mx)→Int
 |l::ls,p::ps=>if stt1E l p≠0 then stt1E l p else sttE ls ps
 |_,_=>0
def stateE (ls:List Ly) (ps:List (Mx×Mx)) (n:Int):Int:=if 12<ls.length then 3 else if ps.length≠ls.length then 2 else if n<0∨1000000000<n then 1 else sttE ls ps
end Go.Proofs.YtniloklglpchfakGreat
/- How far a matrix is off another one, as plain numbers: never below 0, 0 at itself, the other way round as far. No program in sight. -/
namespace Go.Proofs.YtniloklglpchfakGreat
def offAt (a b:Mx) (q:Nat):Int:=sb (A_ a q) (A_ b q)
def lossS (a b:Mx):Nat→Int
 |0=>0
 |n+1=>ad (lossS a b n) (ml (offAt a b n) (offAt a b n))
def offX (a b:Mx):Mx:=if addE a b=0 then ⟨a.rows,a.cols,tab a.cells.length (offAt a b)⟩ else noMx
def lossX (a b:Mx):Int:=if addE a b=0 then ml (lossS a b a.cells.length) 128 else 0
theorem addE_a{a b:Mx}(h:q_ a≠0):addE a b=q_ a:=by
 have e:faults [a,b]=q_ a:=by unfold faults;rw[if_neg h]
 unfold addE;rw[if_pos (by rw[e];exact h),e]
theorem addE_b{a b:Mx}(ha:q_ a=0)(h:q_ b≠0):addE a b=q_ b:=by
 have e:faults [a,b]=q_ b:=by unfold faults;rw[if_pos ha,faults_one]
 unfold addE;rw[if_pos (by rw[e];exact h),e]
theorem addE_s{a b:Mx}(ha:q_ a=0)(hb:q_ b=0):addE a b=if a.rows≠b.rows∨a.cols≠b.cols then 2 else 0:=by
 have e:faults [a,b]=0:=by unfold faults;rw[if_pos ha,faults_one,hb]
 unfold addE;rw[if_neg (by simp[e])]
theorem addE_good{a b:Mx}(h:addE a b=0):∃R C,Good a R C∧Good b R C:=by
 have ha:q_ a=0:=Classical.byContradiction fun e=>e ((addE_a e).symm.trans h)
 have hb:q_ b=0:=Classical.byContradiction fun e=>e ((addE_b ha e).symm.trans h)
 obtain ⟨R,C,ga⟩:=o__ ha
 obtain ⟨R',C',gb⟩:=o__ hb
 rw[addE_s ha hb]at h
 have hs:¬(a.rows≠b.rows∨a.cols≠b.cols):=fun e=>by rw[if_pos e]at h;cases h
 have:=ga.r
 have:=gb.r
 have:=ga.c
 have:=gb.c
 exact ⟨R,C,ga,gb.same (by omega) (by omega)⟩
end Go.Proofs.YtniloklglpchfakGreat
