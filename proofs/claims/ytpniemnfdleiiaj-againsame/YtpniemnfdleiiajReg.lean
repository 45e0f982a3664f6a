/- Small facts for regions whose order is drawn and that hold a call, a box that is made, and a store into it. No program in sight. -/
import Derived.Test.YtpniemnfdleiiajLists
import Derived.Test.YtpniemnfdleiiajLBack
import Derived.Deep.CutRange
import Derived.Deep.RegionHeld3
namespace Go.Proofs.Ytpniemnfdleiiaj
open Go.RowKit
def Cells3 (u:World) (B:Nat) (x y z:Value):Prop:=u.cell? ⟨B,0,none⟩=some x∧u.cell? ⟨B,1,none⟩=some y∧u.cell? ⟨B,2,none⟩=some z
theorem c__{u:World}{B:Nat}{x y z:Value}(h:Box u B [x,y,z]):Cells3 u B x y z:=⟨h 0 _ rfl,h 1 _ rfl,h 2 _ rfl⟩
theorem set_three{w:World}{B:Nat}{a0 a1 a2:Value}(h:Box w B [a0,a1,a2])(x y z:Value):Box (((w.setCell ⟨B,0,none⟩ x).setCell ⟨B,1,none⟩ y).setCell ⟨B,2,none⟩ z) B [x,y,z]:=by
 have o:∀(u:World) (i j:Nat) (v:Value),i≠j→(u.setCell ⟨B,i,none⟩ v).cell? ⟨B,j,none⟩=u.cell? ⟨B,j,none⟩:=fun u i j v hij=>cell_at_other u B i j v hij
 intro j v hv
 match j,hv with
 |0,hv=>simp at hv;subst hv;rw[o _ 2 0 _ (by decide),o _ 1 0 _ (by decide)];exact World.cell?_setCell_same _ _ _ (h 0 _ rfl)
 |1,hv=>simp at hv;subst hv;rw[o _ 2 1 _ (by decide)];exact World.cell?_setCell_same _ _ _ ((o _ 0 1 _ (by decide)).trans (h 1 _ rfl))
 |2,hv=>simp at hv;subst hv;exact World.cell?_setCell_same _ _ _ ((o _ 1 2 _ (by decide)).trans ((o _ 0 2 _ (by decide)).trans (h 2 _ rfl)))
theorem szd1(w:World)(a:Obj):w.heap.size+1≤(w.alloc a).drew.heap.size:=by show _≤(w.alloc a).heap.size;rw[World.size_alloc];exact Nat.le_refl _
theorem szd2(w:World)(a b:Obj):w.heap.size+2≤((w.alloc a).alloc b).drew.heap.size:=by show _≤((w.alloc a).alloc b).heap.size;rw[World.size_alloc,World.size_alloc];exact Nat.le_refl _
theorem abv_drew{n:Nat}{w u:World}(h:Above n w u):Above n w u.drew:=h
theorem abv_alloc{n:Nat}{w u:World}{o:Obj}(h:Above n w u):Above n w (u.alloc o):=fun p x hp hx=>p_ (h p x hp hx) o
theorem v_{n B q:Nat}{w u:World}{x:Value}(h:Above n w u)(hB:B<n):Above n w (u.setCell ⟨B,q,none⟩ x):=h.set hB q x
theorem t_{V u:World}{B q:Nat}{x:Value}(h:Below V.heap.size V u)(hB:V.heap.size≤B):Below V.heap.size V (u.setCell ⟨B,q,none⟩ x):=h.setCell hB _
theorem a_{V u:World}{o:Obj}(h:Below V.heap.size V u):Below V.heap.size V (u.alloc o):=b_ h (o_ _ _)
theorem d_{V u:World}(h:Below V.heap.size V u):Below V.heap.size V u.drew:=r_ h
def Cells6 (u:World) (B:Nat) (x y z x' y' z':Value):Prop:=u.cell? ⟨B,0,none⟩=some x∧u.cell? ⟨B,1,none⟩=some y∧u.cell? ⟨B,2,none⟩=some z∧u.cell? ⟨B,3,none⟩=some x'∧u.cell? ⟨B,4,none⟩=some y'∧u.cell? ⟨B,5,none⟩=some z'
theorem cells6_of{u:World}{B:Nat}{x y z x' y' z':Value}(h:Box u B [x,y,z,x',y',z']):Cells6 u B x y z x' y' z':=⟨h 0 _ rfl,h 1 _ rfl,h 2 _ rfl,h 3 _ rfl,h 4 _ rfl,h 5 _ rfl⟩
theorem Box.put{w:World}{B:Nat}{cs:List Value}(h:Box w B cs)(q:Nat)(x:Value):Box (w.setCell ⟨B,q,none⟩ x) B (cs.set q x):=by
 intro j v hv
 rw[List.getElem?_set]at hv
 by_cases hj:q=j
 ·subst hj
  rw[if_pos rfl]at hv
  split at hv
  ·rename_i hlt
   obtain rfl:=Option.some.inj hv
   exact World.cell?_setCell_same _ _ _ (h q _ (List.getElem?_eq_getElem hlt))
  ·cases hv
 ·rw[if_neg hj]at hv
  rw[cell_at_other w B q j x hj]
  exact h j v hv
theorem set_six{w:World}{B:Nat}{a0 a1 a2 a3 a4 a5:Value}(h:Box w B [a0,a1,a2,a3,a4,a5])(y0 y1 y2 y3 y4 y5:Value):Box ((((((w.setCell ⟨B,0,none⟩ y0).setCell ⟨B,1,none⟩ y1).setCell ⟨B,2,none⟩ y2).setCell ⟨B,3,none⟩ y3).setCell ⟨B,4,none⟩ y4).setCell ⟨B,5,none⟩ y5) B [y0,y1,y2,y3,y4,y5]:=(((((h.put 0 y0).put 1 y1).put 2 y2).put 3 y3).put 4 y4).put 5 y5
theorem box_set3{w:World}{B B':Nat}{cs:List Value}(h:Box w B cs)(hne:B≠B')(y0 y1 y2:Value):Box (((w.setCell ⟨B',0,none⟩ y0).setCell ⟨B',1,none⟩ y1).setCell ⟨B',2,none⟩ y2) B cs:=((h.other hne y0).other hne y1).other hne y2
theorem box_set6{w:World}{B B':Nat}{cs:List Value}(h:Box w B cs)(hne:B≠B')(y0 y1 y2 y3 y4 y5:Value):Box ((((((w.setCell ⟨B',0,none⟩ y0).setCell ⟨B',1,none⟩ y1).setCell ⟨B',2,none⟩ y2).setCell ⟨B',3,none⟩ y3).setCell ⟨B',4,none⟩ y4).setCell ⟨B',5,none⟩ y5) B cs:=(((((h.other hne y0).other hne y1).other hne y2).other hne y3).other hne y4).other hne y5
theorem size_set3(w:World)(B:Nat)(y0 y1 y2:Value):(((w.setCell ⟨B,0,none⟩ y0).setCell ⟨B,1,none⟩ y1).setCell ⟨B,2,none⟩ y2).heap.size=w.heap.size:=by simp
theorem size_set6(w:World)(B:Nat)(y0 y1 y2 y3 y4 y5:Value):((((((w.setCell ⟨B,0,none⟩ y0).setCell ⟨B,1,none⟩ y1).setCell ⟨B,2,none⟩ y2).setCell ⟨B,3,none⟩ y3).setCell ⟨B,4,none⟩ y4).setCell ⟨B,5,none⟩ y5).heap.size=w.heap.size:=by simp
end Go.Proofs.Ytpniemnfdleiiaj
