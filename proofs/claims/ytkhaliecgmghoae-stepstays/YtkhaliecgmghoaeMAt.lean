/- What at of package mat and the closures that read one matrix come to. -/
import Derived.Test.YtkhaliecgmghoaeMFill
import Derived.Test.YtkhaliecgmghoaePlain
import Derived.Deep.RegionHeld3
namespace Go.Proofs.Ytkhaliecgmghoae
open Go.RowKit
theorem idx_cell {m : Mx} {R C i j : Nat} (hl : m.cells.length = R * C) (hi : i < R) (hj : j < C) : m.cells[i * C + j]? = some ((m.cells[i * C + j]?).getD 0) := by
  have := idx_lt hi hj
  rw [List.getElem?_eq_getElem (by omega)]; rfl
/-- A variable that holds a matrix. -/
def BoxMx (w : World) (B : Nat) (m : Mx) : Prop := ∃ s, w.cell? ⟨B, 0, none⟩ = some (.int .i64 m.rows) ∧ w.cell? ⟨B, 1, none⟩ = some (.int .i64 m.cols) ∧ w.cell? ⟨B, 2, none⟩ = some s ∧ IsInts w s m.cells
theorem BoxMx.below {w w' : World} {B : Nat} {m : Mx} (h : BoxMx w B m) (hb : Below w.heap.size w w') : BoxMx w' B m := by
  obtain ⟨s, h0, h1, h2, h3⟩ := h
  exact ⟨s, cell_below hb h0, cell_below hb h1, cell_below hb h2, h3.below hb⟩
end Go.Proofs.Ytkhaliecgmghoae
