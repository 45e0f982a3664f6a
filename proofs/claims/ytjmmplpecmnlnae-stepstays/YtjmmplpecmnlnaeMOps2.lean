/- What Add, Times and Sums of package mat come to. -/
import Derived.Test.YtjmmplpecmnlnaeMOps
import Derived.Test.YtjmmplpecmnlnaeMAt2
namespace Go.Proofs.Ytjmmplpecmnlnae
open Go.RowKit
/-- What Add says. -/
def addE (a b : Mx) : Int := if faults [a, b] ≠ 0 then faults [a, b] else if a.rows ≠ b.rows ∨ a.cols ≠ b.cols then 2 else 0
/-- What Add gives. -/
def addX (a b : Mx) : Mx := if addE a b = 0 then ⟨a.rows, a.cols, tab (a.rows.toNat * a.cols.toNat) (fun q => ad ((a.cells[q]?).getD 0) ((b.cells[q]?).getD 0))⟩ else noMx
theorem addX_no {a b : Mx} (h : addE a b ≠ 0) : addX a b = noMx := by unfold addX; rw [if_neg h]
/-- What Times and Sums say. -/
def timesE (a : Mx) : Int := if fault a ≠ 0 then fault a else 0
/-- What Times gives. -/
def timesX (a : Mx) (x : Int) : Mx := if timesE a = 0 then ⟨a.rows, a.cols, tab (a.rows.toNat * a.cols.toNat) (fun q => ml ((a.cells[q]?).getD 0) x)⟩ else noMx
theorem timesX_no {a : Mx} {x : Int} (h : timesE a ≠ 0) : timesX a x = noMx := by unfold timesX; rw [if_neg h]
/-- What Sums gives. -/
def sumsX (a : Mx) : Mx := if timesE a = 0 then ⟨1, a.cols, tab a.cols.toNat (fun q => colS a.cells a.cols.toNat q a.rows.toNat)⟩ else noMx
theorem sumsX_no {a : Mx} (h : timesE a ≠ 0) : sumsX a = noMx := by unfold sumsX; rw [if_neg h]
end Go.Proofs.Ytjmmplpecmnlnae
