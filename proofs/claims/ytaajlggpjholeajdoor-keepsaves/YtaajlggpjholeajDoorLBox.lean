/- Boxes of any size: what a variable holds, cell by cell; a box that is written again. No program in sight. -/
import Derived.Test.YtaajlggpjholeajDoorLy
namespace Go.Proofs.YtaajlggpjholeajDoor
open Go.RowKit
def Box (w:World) (B:Nat) (cs:List Value):Prop:=∀(j:Nat) x,cs[j]?=some x→w.cell? ⟨B,j,none⟩=some x
theorem Box.u_{w w':World}{B:Nat}{cs:List Value}(h:Box w B cs)(hb:Below w.heap.size w w'):Box w' B cs:=fun j x hx=>c_ hb (h j x hx)
theorem Box.new(V:World)(cs:List Value)(t:TypeId){B:Nat}(hB:V.heap.size=B):Box (V.alloc (.cells cs.toArray t)) B cs:=fun j x hx=>box_new V _ t hB (by simpa using hx)
def Free (w:World) (B:Nat):Prop:=∀j,w.frozen? ⟨B,j,none⟩=false
theorem Box.c2{w:World}{B:Nat}{x0 x1:Value}{cs:List Value}(h:Box w B (x0::x1::cs)):w.cell? ⟨B,0,none⟩=some x0∧w.cell? ⟨B,1,none⟩=some x1:=⟨h 0 _ rfl,h 1 _ rfl⟩
theorem Box.c3{w:World}{B:Nat}{x0 x1 x2:Value}{cs:List Value}(h:Box w B (x0::x1::x2::cs)):w.cell? ⟨B,0,none⟩=some x0∧w.cell? ⟨B,1,none⟩=some x1∧w.cell? ⟨B,2,none⟩=some x2:=⟨h 0 _ rfl,h 1 _ rfl,h 2 _ rfl⟩
theorem Box.c35{w:World}{B:Nat}{x0 x1 x2 x3 x4 x5:Value}{cs:List Value}(h:Box w B (x0::x1::x2::x3::x4::x5::cs)):w.cell? ⟨B,3,none⟩=some x3∧w.cell? ⟨B,4,none⟩=some x4∧w.cell? ⟨B,5,none⟩=some x5:=⟨h 3 _ rfl,h 4 _ rfl,h 5 _ rfl⟩
theorem Box.c6{w:World}{B:Nat}{x0 x1 x2 x3 x4 x5:Value}{cs:List Value}(h:Box w B (x0::x1::x2::x3::x4::x5::cs)):w.cell? ⟨B,0,none⟩=some x0∧w.cell? ⟨B,1,none⟩=some x1∧w.cell? ⟨B,2,none⟩=some x2∧w.cell? ⟨B,3,none⟩=some x3∧w.cell? ⟨B,4,none⟩=some x4∧w.cell? ⟨B,5,none⟩=some x5:=⟨h 0 _ rfl,h 1 _ rfl,h 2 _ rfl,h 3 _ rfl,h 4 _ rfl,h 5 _ rfl⟩
theorem Box.c7{w:World}{B:Nat}{x0 x1 x2 x3 x4 x5 x6:Value}{cs:List Value}(h:Box w B (x0::x1::x2::x3::x4::x5::x6::cs)):w.cell? ⟨B,0,none⟩=some x0∧w.cell? ⟨B,1,none⟩=some x1∧w.cell? ⟨B,2,none⟩=some x2∧w.cell? ⟨B,3,none⟩=some x3∧w.cell? ⟨B,4,none⟩=some x4∧w.cell? ⟨B,5,none⟩=some x5∧w.cell? ⟨B,6,none⟩=some x6:=⟨h 0 _ rfl,h 1 _ rfl,h 2 _ rfl,h 3 _ rfl,h 4 _ rfl,h 5 _ rfl,h 6 _ rfl⟩
theorem Free.f3{w:World}{B:Nat}(h:Free w B):w.frozen? ⟨B,0,none⟩=false∧w.frozen? ⟨B,1,none⟩=false∧w.frozen? ⟨B,2,none⟩=false:=⟨h 0,h 1,h 2⟩
theorem Free.f6{w:World}{B:Nat}(h:Free w B):w.frozen? ⟨B,0,none⟩=false∧w.frozen? ⟨B,1,none⟩=false∧w.frozen? ⟨B,2,none⟩=false∧w.frozen? ⟨B,3,none⟩=false∧w.frozen? ⟨B,4,none⟩=false∧w.frozen? ⟨B,5,none⟩=false:=⟨h 0,h 1,h 2,h 3,h 4,h 5⟩
end Go.Proofs.YtaajlggpjholeajDoor
