/- Layers as plain data and in memory: what is wrong with one, how wide it is, what comes of a matrix by it, what goes back. No program in sight. -/
import Derived.Test.YtpniemnfdleiiajGreatDoorPkMAt2
import Derived.Test.YtpniemnfdleiiajGreatDoorPkMOps1
import Derived.Test.YtpniemnfdleiiajGreatDoorPkMAt
namespace Go.Proofs.YtpniemnfdleiiajGreatDoor
open Go.RowKit
structure Ly where
 k:Int
 w:Mx
 b:Mx
def IsLy (w:World) (v:Value) (l:Ly):Prop:=∃s t,v=.agg #[.int .i64 l.k,.int .i64 l.w.rows,.int .i64 l.w.cols,s,.int .i64 l.b.rows,.int .i64 l.b.cols,t]∧I_ w s l.w.cells∧I_ w t l.b.cells
theorem IsLy.u_{w w':World}{v:Value}{l:Ly}(h:IsLy w v l)(hb:Below w.heap.size w w'):IsLy w' v l:=by
 obtain ⟨s,t,h1,h2,h3⟩:=h;exact ⟨s,t,h1,h2.u_ hb,h3.u_ hb⟩
def IsTwo (w:World) (v:Value) (a b:Mx):Prop:=∃s t,v=.agg #[.int .i64 a.rows,.int .i64 a.cols,s,.int .i64 b.rows,.int .i64 b.cols,t]∧I_ w s a.cells∧I_ w t b.cells
def fitsL (l:Ly):Bool:=
 if l.k=1 then decide (1≤l.w.rows∧l.w.rows≤12∧1≤l.w.cols∧l.b.rows=1∧l.b.cols=l.w.cols)
 else if l.k=2 then decide (l.w.rows=0∧l.w.cols=0∧l.b.rows=0∧l.b.cols=0)
 else if l.k=3 then decide (l.w.rows=1∧l.w.cols=1∧l.b.rows=0∧l.b.cols=0)
 else decide (l.w.rows=0∧l.w.cols=0∧l.b.rows=1∧1≤l.b.cols)
def l_ (l:Ly):Int:=if l.k<1∨4<l.k then 1 else if q_ l.w≠0 then q_ l.w else if q_ l.b≠0 then q_ l.b else if fitsL l=false then 2 else 0
def takesL (l:Ly) (n:Int):Bool:=if l.k=1 then decide (n=l.w.rows) else if l.k=4 then decide (n=l.b.cols) else true
def g_ (l:Ly) (n:Int):Int:=if l.k=1 then l.w.cols else n
def goE (l:Ly) (x:Mx):Int:=if l_ l≠0 then l_ l else if q_ x≠0 then q_ x else if takesL l x.cols=false then 2 else 0
def eachX (a:Mx) (f:Nat→Int):Mx:=⟨a.rows,a.cols,tab a.cells.length f⟩
def A_ (m:Mx) (q:Nat):Int:=(m.cells[q]?).getD 0
theorem cellAt_some{m:Mx}{i:Nat}{x:Int}(h:m.cells[i]?=some x):A_ m i=x:=by unfold A_;rw[h];rfl
def addRows (a b:Mx):Mx:=eachX a (fun q=>ad (A_ a q) (A_ b (q % b.cols.toNat)))
def reluX (a:Mx):Mx:=eachX a (fun q=>max (A_ a q) 0)
def reluB (x g:Mx):Mx:=eachX g (fun q=>if 0<A_ x q then A_ g q else 0)
def goG (l:Ly) (x:Mx):Mx:=if l.k=1 then addRows (mulX x l.w) l.b else if l.k=2 then reluX x else if l.k=3 then timesX x (A_ l.w 0) else addRows x l.b
def goX (l:Ly) (x:Mx):Mx:=if goE l x=0 then goG l x else noMx
def backE (l:Ly) (x g:Mx):Int:=if goE l x≠0 then goE l x else if q_ g≠0 then q_ g else if g.rows≠x.rows∨g.cols≠g_ l x.cols then 2 else if l.k=1∧12<x.rows then 1 else 0
def sumP (x g:Mx):Nat→Int
 |0=>0
 |n+1=>ad (sumP x g n) (ml (A_ x n) (A_ g n))
def backG (l:Ly) (x g:Mx):Mx:=if l.k=1 then mulX g (turnX l.w) else if l.k=2 then reluB x g else if l.k=3 then timesX g (A_ l.w 0) else eachX g (A_ g)
def backX (l:Ly) (x g:Mx):Mx:=if backE l x g=0 then backG l x g else noMx
def gradW (l:Ly) (x g:Mx):Mx:=if backE l x g=0 then (if l.k=1 then mulX (turnX x) g else if l.k=3 then ⟨1,1,[sumP x g x.cells.length]⟩ else noMx) else noMx
def gradB (l:Ly) (x g:Mx):Mx:=if backE l x g=0 then (if l.k=1∨l.k=4 then sumsX g else noMx) else noMx
def Fresh2 (B:Nat) (v:Value):Prop:=∀r c x n k r' c' x' n' k',v=.agg #[r,c,.slice x n k,r',c',.slice x' n' k']→F_ B (.agg #[r,c,.slice x n k])∧F_ B (.agg #[r',c',.slice x' n' k'])
def BackErr (w:World) (m a b:Mx) (k:Int) (e:Ending) (w':World):Prop:=∃v' d,e=.returned (.tuple #[v',d,errV k])∧M_ w' v' m∧IsTwo w' d a b∧Below w.heap.size w w'∧F_ w.heap.size v'∧Fresh2 w.heap.size d
theorem lgood_of{l:Ly}(h:l_ l=0):1≤l.k∧l.k≤4∧q_ l.w=0∧q_ l.b=0∧fitsL l=true:=by
 unfold l_ at h
 by_cases h1:l.k<1∨4<l.k
 ·rw[if_pos h1]at h;cases h
 ·rw[if_neg h1]at h
  by_cases h2:q_ l.w≠0
  ·rw[if_pos h2]at h;exact absurd h h2
  ·rw[if_neg h2]at h
   by_cases h3:q_ l.b≠0
   ·rw[if_pos h3]at h;exact absurd h h3
   ·rw[if_neg h3]at h
    by_cases h4:fitsL l=false
    ·rw[if_pos h4]at h;cases h
    ·exact ⟨by omega,by omega,Decidable.not_not.1 h2,Decidable.not_not.1 h3,by simpa using h4⟩
def Three (w:World) (B:Nat) (r c:Int) (s:Value):Prop:=w.cell? ⟨B,0,none⟩=some (.int .i64 r)∧w.cell? ⟨B,1,none⟩=some (.int .i64 c)∧w.cell? ⟨B,2,none⟩=some s
theorem Three.u_{w w':World}{B:Nat}{r c:Int}{s:Value}(h:Three w B r c s)(hb:Below w.heap.size w w'):Three w' B r c s:=⟨c_ hb h.1,c_ hb h.2.1,c_ hb h.2.2⟩
theorem Three.lt{w:World}{B:Nat}{r c:Int}{s:Value}(h:Three w B r c s):B<w.heap.size:=World.block_lt_of_cell? w _ h.1
theorem three_new(V:World)(r c:Int)(s:Value)(t:TypeId):Three (V.alloc (.cells #[.int .i64 r,.int .i64 c,s] t)) V.heap.size r c s:=⟨box_new V _ t rfl rfl,box_new V _ t rfl rfl,box_new V _ t rfl rfl⟩
structure Mut (w:World) (B:Nat) (r c:Int) (s:Value):Prop where
 t:Three w B r c s
 f:∀j,w.frozen? ⟨B,j,none⟩=false
theorem Mut.new(V:World)(r c:Int)(s:Value)(t:TypeId):Mut (V.alloc (.cells #[.int .i64 r,.int .i64 c,s] t)) V.heap.size r c s:=⟨three_new V r c s t,box_free V _ t rfl⟩
theorem Mut.u_{w w':World}{B:Nat}{r c:Int}{s:Value}(h:Mut w B r c s)(hb:Below w.heap.size w w'):Mut w' B r c s:=
 ⟨h.t.u_ hb,fun j=>(hb.frozen (p:=⟨B,j,none⟩) h.t.lt).trans (h.f j)⟩
theorem Mut.set{w:World}{B:Nat}{r c:Int}{s:Value}(h:Mut w B r c s)(r' c':Int)(s':Value):Mut (((w.setCell ⟨B,0,none⟩ (.int .i64 r')).setCell ⟨B,1,none⟩ (.int .i64 c')).setCell ⟨B,2,none⟩ s') B r' c' s':=by
 obtain ⟨⟨h0,h1,h2⟩,hf⟩:=h
 have o:∀(u:World) (i j:Nat) (x:Value),i≠j→(u.setCell ⟨B,i,none⟩ x).cell? ⟨B,j,none⟩=u.cell? ⟨B,j,none⟩:=fun u i j x hij=>World.cell?_setCell_other _ _ _ _ (fun e=>hij (by injection e))
 refine ⟨⟨?_,?_,?_⟩,fun j=>by simp[hf]⟩
 ·rw[o _ 2 0 _ (by decide),o _ 1 0 _ (by decide)];exact World.cell?_setCell_same _ _ _ h0
 ·rw[o _ 2 1 _ (by decide)];exact World.cell?_setCell_same _ _ _ ((o _ 0 1 _ (by decide)).trans h1)
 ·exact World.cell?_setCell_same _ _ _ ((o _ 1 2 _ (by decide)).trans ((o _ 0 2 _ (by decide)).trans h2))
theorem cell_at_other(u:World)(B i j:Nat)(x:Value)(hij:i≠j):(u.setCell ⟨B,i,none⟩ x).cell? ⟨B,j,none⟩=u.cell? ⟨B,j,none⟩:=World.cell?_setCell_other _ _ _ _ (fun e=>hij (by injection e))
theorem S_{V u:World}{B:Nat}(h:Below V.heap.size V u)(hB:V.heap.size≤B)(x y z:Value):Below V.heap.size V (((u.setCell ⟨B,0,none⟩ x).setCell ⟨B,1,none⟩ y).setCell ⟨B,2,none⟩ z):=
 ((h.setCell hB _).setCell hB _).setCell hB _
theorem Mut.newB(V:World)(r c:Int)(s:Value)(t:TypeId){B:Nat}(hB:V.heap.size=B):Mut (V.alloc (.cells #[.int .i64 r,.int .i64 c,s] t)) B r c s:=by subst hB;exact Mut.new V r c s t
end Go.Proofs.YtpniemnfdleiiajGreatDoor
