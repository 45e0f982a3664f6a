/- Two nets, one behind the other, are one net, there and back: plain facts. No program in sight. -/
import Derived.Test.YtpniemnfdleiiajPkLBox
import Derived.Test.YtpniemnfdleiiajPkNetB
import Derived.Test.YtpniemnfdleiiajLists
import Derived.RangeFuncNested
import Derived.RangeFuncBound
import Derived.RangeFuncCalls
import Derived.RangeFuncLeaves
import Derived.Maps.AppendAt
namespace Go.Proofs.Ytpniemnfdleiiaj
def endX:List Ly→Mx→Mx
 |[],x=>x
 |l::ls,x=>endX ls (goX l x)
theorem runE_cons(l:Ly)(ls:List Ly)(x:Mx):runE (l::ls) x=if goE l x≠0 then goE l x else runE ls (goX l x):=rfl
theorem runE_zero{l:Ly}{ls:List Ly}{x:Mx}(h:runE (l::ls) x=0):goE l x=0∧runE ls (goX l x)=0:=by
 by_cases h0:goE l x=0
 ·rw[runE_cons,if_neg (by simp[h0])]at h;exact ⟨h0,h⟩
 ·rw[runE_cons,if_pos h0]at h;exact absurd h h0
theorem runT_len:∀(a:List Ly) (x:Mx),(runT a x).length=a.length
 |[],_=>rfl
 |l::a,x=>by show (goX l x::runT a (goX l x)).length=_;rw[List.length_cons,runT_len a];rfl
theorem endX_at:∀(a:List Ly) (x:Mx),(x::runT a x)[a.length]?=some (endX a x)
 |[],_=>rfl
 |l::a,x=>by
  show (x::goX l x::runT a (goX l x))[a.length+1]?=_
  rw[List.getElem?_cons_succ];exact endX_at a (goX l x)
theorem ngE_iff(a:List Ly)(x:Mx):ngE a x=0↔¬12<a.length∧q_ x=0∧runE a x=0:=by
 unfold ngE
 by_cases h1:12<a.length
 ·rw[if_pos h1];exact ⟨fun h=>by simp at h,fun h=>absurd h1 h.1⟩
 ·rw[if_neg h1]
  by_cases h2:q_ x=0
  ·rw[if_neg (by simp[h2])];exact ⟨fun h=>⟨h1,h2,h⟩,fun h=>h.2.2⟩
  ·rw[if_pos h2];exact ⟨fun h=>absurd h h2,fun h=>absurd h.2.1 h2⟩
end Go.Proofs.Ytpniemnfdleiiaj
/- Blocks of cells, as they lie: what a block holds, and that it is kept. No program in sight. -/
namespace Go.Proofs.Ytpniemnfdleiiaj
open Go.RowKit
def Blk (W:World) (B:Nat) (cs:Array Value) (t:TypeId):Prop:=W.heap[B]?=some (.cells cs t (0,0))
theorem Blk.cell{W:World}{B:Nat}{cs:Array Value}{t:TypeId}(h:Blk W B cs t){j:Nat}{x:Value}(hx:cs[j]?=some x):W.cell? ⟨B,j,none⟩=some x:=by simp[World.cell?,show W.heap[B]?=_ from h,hx]
theorem Blk.frozen{W:World}{B:Nat}{cs:Array Value}{t:TypeId}(h:Blk W B cs t)(j:Nat):W.frozen? ⟨B,j,none⟩=false:=by simp[World.frozen?,show W.heap[B]?=_ from h]
theorem Blk.new(W:World)(cs:Array Value)(t:TypeId){B:Nat}(hB:W.heap.size=B):Blk (W.alloc (.cells cs t)) B cs t:=by subst hB;exact World.alloc_heap_new W _
theorem Blk.lt{W:World}{B:Nat}{cs:Array Value}{t:TypeId}(h:Blk W B cs t):B<W.heap.size:=(Array.getElem?_eq_some_iff.1 h).1
theorem Blk.kept{W W':World}{row:Option Nat}{B:Nat}{cs:Array Value}{t:TypeId}(h:Blk W B cs t)(hg:W.grownBy W' row)(hne:some B≠row):Blk W' B cs t:=(hg.block B h.lt hne).trans h
theorem Blk.own{β:Type}(B:Nat)(cs:Array Value)(t:TypeId):Go.Own (fun (_:β) W=>Blk W B cs t):=fun s X Y row hs hg hrow=>
 hs.kept hg (fun e'=>by obtain ⟨o,ho,hc⟩:=hrow B e'.symm;rw[show X.heap[B]?=_ from hs]at ho;cases ho;cases hc)
theorem Blk.alloc{W:World}{B:Nat}{cs:Array Value}{t:TypeId}(h:Blk W B cs t)(o:Obj):Blk (W.alloc o) B cs t:=h.kept (World.grownBy_alloc W o none) (by simp)
theorem Blk.u_{W W':World}{B:Nat}{cs:Array Value}{t:TypeId}(h:Blk W B cs t)(hb:Below W.heap.size W W'):Blk W' B cs t:=(hb.block B h.lt).trans h
theorem Blk.not_row{W:World}{B:Nat}{cs:Array Value}{t e:TypeId}(h:Blk W B cs t)(hte:t≠e){base size k:Nat}{v:Value}{xs:List Value}(hr:W.ownsRow base e size v k xs):some B≠v.ownBlock:=by
 rcases hr.2 with ⟨rfl,_⟩|⟨g,cap,cur,rfl,_,hgb,_⟩
 ·simp[Value.ownBlock]
 ·intro e'
  obtain rfl:B=g:=by simpa [Value.ownBlock] using e'
  have:=(show W.heap[B]?=_ from h).symm.trans hgb
  simp at this
  exact hte this.2
theorem Blk.other{W:World}{B:Nat}{cs:Array Value}{t:TypeId}(h:Blk W B cs t){B' q:Nat}(hne:B≠B')(x:Value):Blk (W.setCell ⟨B',q,none⟩ x) B cs t:=h.kept (row:=some B') (grown_of_set W B' q x) (fun e=>hne (Option.some.inj e))
theorem Blk.set{W:World}{B:Nat}{cs:Array Value}{t:TypeId}(h:Blk W B cs t)(q:Nat)(x:Value):Blk (W.setCell ⟨B,q,none⟩ x) B (cs.setIfInBounds q x) t:=by
 have h':W.heap[B]?=some (.cells cs t (0,0)):=h
 obtain ⟨hlt,he⟩:=Array.getElem?_eq_some_iff.1 h'
 show (W.heap.modify B _)[B]?=_
 rw[Array.getElem?_eq_getElem (by simpa using hlt),Array.getElem_modify,if_pos rfl,he]
 rfl
theorem Blk.drew{W:World}{B:Nat}{cs:Array Value}{t:TypeId}(h:Blk W B cs t):Blk W.drew B cs t:=h
theorem Blk.box{W:World}{B:Nat}{cs:List Value}{t:TypeId}(h:Blk W B cs.toArray t):Box W B cs:=fun j x hx=>h.cell (by simpa using hx)
end Go.Proofs.Ytpniemnfdleiiaj
