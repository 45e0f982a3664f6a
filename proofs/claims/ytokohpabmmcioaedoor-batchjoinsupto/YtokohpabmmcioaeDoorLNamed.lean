/- What named and the small methods of the kinds of package layer come to: which kind it is, whether W and B fit, how many columns are taken and given. -/
import Derived.Test.YtokohpabmmcioaeDoorLClos
namespace Go.Proofs.YtokohpabmmcioaeDoor
open Go.RowKit
/-- So many rows and columns. -/
def shapeB (r c a b : Int) : Bool := decide (r = a ∧ c = b)
theorem shapeB_yes {r c a b : Int} (h : r = a ∧ c = b) : shapeB r c a b = true := decide_eq_true h
theorem shapeB_no {r c a b : Int} (h : ¬ (r = a ∧ c = b)) : shapeB r c a b = false := decide_eq_false h
/-- W and B fit, by the kind. -/
def fits1 (a b : Mx) : Bool := decide (1 ≤ a.rows ∧ a.rows ≤ 12 ∧ 1 ≤ a.cols ∧ b.rows = 1 ∧ b.cols = a.cols)
def fits2 (a b : Mx) : Bool := decide (a.rows = 0 ∧ a.cols = 0 ∧ b.rows = 0 ∧ b.cols = 0)
def fits3 (a b : Mx) : Bool := decide (a.rows = 1 ∧ a.cols = 1 ∧ b.rows = 0 ∧ b.cols = 0)
def fits4 (a b : Mx) : Bool := decide (a.rows = 0 ∧ a.cols = 0 ∧ b.rows = 1 ∧ 1 ≤ b.cols)
theorem fitsL_1 {l : Ly} (h : l.k = 1) : fitsL l = fits1 l.w l.b := by unfold fitsL fits1; rw [if_pos h]
theorem fitsL_2 {l : Ly} (h : l.k = 2) : fitsL l = fits2 l.w l.b := by unfold fitsL fits2; rw [if_neg (by omega), if_pos h]
theorem fitsL_3 {l : Ly} (h : l.k = 3) : fitsL l = fits3 l.w l.b := by unfold fitsL fits3; rw [if_neg (by omega), if_neg (by omega), if_pos h]
theorem fitsL_4 {l : Ly} (h : l.k = 4) : fitsL l = fits4 l.w l.b := by unfold fitsL fits4; rw [if_neg (by omega), if_neg (by omega), if_neg (by omega)]
end Go.Proofs.YtokohpabmmcioaeDoor
