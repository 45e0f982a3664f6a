/- What Turn and Rows of package mat come to. -/
import Derived.Test.YtkhaliecgmghoaeMOps
namespace Go.Proofs.Ytkhaliecgmghoae
open Go.RowKit
/-- What Turn says. -/
def turnE (a : Mx) : Int := if fault a ≠ 0 then fault a else if 12 < a.rows then 1 else 0
/-- What Turn gives. -/
def turnX (a : Mx) : Mx := if turnE a = 0 then ⟨a.cols, a.rows, tab (a.cols.toNat * a.rows.toNat) (fun q => (a.cells[q % a.rows.toNat * a.cols.toNat + q / a.rows.toNat]?).getD 0)⟩ else noMx
theorem turnX_no {a : Mx} (h : turnE a ≠ 0) : turnX a = noMx := by unfold turnX; rw [if_neg h]
theorem turnX_yes {a : Mx} {R C : Nat} (h : turnE a = 0) (e1 : a.rows = (R : Int)) (e2 : a.cols = (C : Int)) : turnX a = ⟨C, R, tab (C * R) (fun q => (a.cells[q % R * C + q / R]?).getD 0)⟩ := by
  unfold turnX; rw [if_pos h, e1, e2]; simp
/-- What Rows says. -/
def rowsE (a : Mx) (f t : Int) : Int := if fault a ≠ 0 then fault a else if f < 0 ∨ t < f ∨ a.rows < t then 1 else 0
/-- What Rows gives. -/
def rowsX (a : Mx) (f t : Int) : Mx := if rowsE a f t = 0 then ⟨t - f, a.cols, tab ((t - f).toNat * a.cols.toNat) (fun q => (a.cells[f.toNat * a.cols.toNat + q]?).getD 0)⟩ else noMx
theorem rowsX_no {a : Mx} {f t : Int} (h : rowsE a f t ≠ 0) : rowsX a f t = noMx := by unfold rowsX; rw [if_neg h]
theorem row_col {f C q : Nat} : (f + q / C) * C + q % C = f * C + q := by
  rw [Nat.add_mul, Nat.add_assoc, Nat.mul_comm (q / C), Nat.div_add_mod]
end Go.Proofs.Ytkhaliecgmghoae
