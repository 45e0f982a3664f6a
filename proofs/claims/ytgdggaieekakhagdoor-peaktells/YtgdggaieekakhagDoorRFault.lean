/- What MatFault of the document's answer comes to: what is wrong with a matrix. -/
import Derived.Test.YtgdggaieekakhagDoorSame
namespace Go.Proofs.YtgdggaieekakhagDoor
open Go.RowKit
def inEnds (x : Int) : Bool := decide (-2147483647 ≤ x) && decide (x ≤ 2147483647)
/-- Rows and columns are such as may be. -/
def okSides (m : Mx) : Bool := decide (0 ≤ m.rows) && decide (m.rows ≤ 24) && decide (0 ≤ m.cols) && decide (m.cols ≤ 12)
def fault (m : Mx) : Int := if okSides m = false then 1 else if (m.cells.length : Int) ≠ m.rows * m.cols then 2 else if m.cells.all inEnds = false then 1 else 0
theorem fault_side {m : Mx} (h : m.rows < 0 ∨ 24 < m.rows ∨ m.cols < 0 ∨ 12 < m.cols) : 1 = fault m := by
  unfold fault; rw [if_pos (by simp [okSides]; omega)]
theorem fault_in {m : Mx} (h : 0 ≤ m.rows ∧ m.rows ≤ 24 ∧ 0 ≤ m.cols ∧ m.cols ≤ 12) : okSides m = true := by simp [okSides]; omega
theorem fault_len {m : Mx} (h : okSides m = true) (hl : (m.cells.length : Int) ≠ m.rows * m.cols) : 2 = fault m := by
  unfold fault; rw [if_neg (by simp [h]), if_pos hl]
theorem fault_cell {m : Mx} (h : okSides m = true) (hl : (m.cells.length : Int) = m.rows * m.cols) (hc : m.cells.all inEnds = false) : 1 = fault m := by
  unfold fault; rw [if_neg (by simp [h]), if_neg (by simp [hl]), if_pos hc]
theorem fault_none {m : Mx} (h : okSides m = true) (hl : (m.cells.length : Int) = m.rows * m.cols) (hc : m.cells.all inEnds = true) : 0 = fault m := by
  unfold fault; rw [if_neg (by simp [h]), if_neg (by simp [hl]), if_neg (by simp [hc])]
theorem all_no {zs : List Int} {k : Nat} {x : Int} (h : zs[k]? = some x) (hx : inEnds x = false) : zs.all inEnds = false := by
  rw [List.all_eq_false]; exact ⟨x, List.mem_of_getElem? h, by simp [hx]⟩
theorem all_yes {zs : List Int} (h : ∀ k x, k < zs.length → zs[k]? = some x → inEnds x = true) : zs.all inEnds = true := by
  rw [List.all_eq_true]; intro x hx
  obtain ⟨k, hk, rfl⟩ := List.getElem_of_mem hx
  exact h k _ hk (List.getElem?_eq_getElem hk)
theorem rc_bd (r c : Int) (h : 0 ≤ r ∧ r ≤ 24 ∧ 0 ≤ c ∧ c ≤ 12) : 0 ≤ r * c ∧ r * c ≤ 288 := by
  refine ⟨Int.mul_nonneg h.1 h.2.2.1, ?_⟩
  have h1 : r * c ≤ 24 * c := Int.mul_le_mul_of_nonneg_right h.2.1 h.2.2.1
  omega
end Go.Proofs.YtgdggaieekakhagDoor
