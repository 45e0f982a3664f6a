/- The three cells of a variable that holds a matrix. No program in sight. -/
import Derived.Test.YtpgmbpgclnhkgabMOps
namespace Go.Proofs.Ytpgmbpgclnhkgab
open Go.RowKit
/-- The three cells of a matrix's box. -/
def Three (w : World) (B : Nat) (r c : Int) (s : Value) : Prop := w.cell? ⟨B, 0, none⟩ = some (.int .i64 r) ∧ w.cell? ⟨B, 1, none⟩ = some (.int .i64 c) ∧ w.cell? ⟨B, 2, none⟩ = some s
theorem Three.below {w w' : World} {B : Nat} {r c : Int} {s : Value} (h : Three w B r c s) (hb : Below w.heap.size w w') : Three w' B r c s := ⟨cell_below hb h.1, cell_below hb h.2.1, cell_below hb h.2.2⟩
theorem Three.lt {w : World} {B : Nat} {r c : Int} {s : Value} (h : Three w B r c s) : B < w.heap.size := World.block_lt_of_cell? w _ h.1
theorem Three.grown {w w' : World} {B g : Nat} {r c : Int} {s : Value} (h : Three w B r c s) (hg : w.grownBy w' (some g)) (hne : B ≠ g) : Three w' B r c s := ⟨hg.cell h.1 (by simpa using hne), hg.cell h.2.1 (by simpa using hne), hg.cell h.2.2 (by simpa using hne)⟩
theorem three_new (V : World) (r c : Int) (s : Value) (t : TypeId) : Three (V.alloc (.cells #[.int .i64 r, .int .i64 c, s] t)) V.heap.size r c s := ⟨box_new V _ t rfl rfl, box_new V _ t rfl rfl, box_new V _ t rfl rfl⟩
end Go.Proofs.Ytpgmbpgclnhkgab
