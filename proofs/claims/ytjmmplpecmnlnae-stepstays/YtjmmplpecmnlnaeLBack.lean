/- What back of the kinds Linear, Relu and Shift of package layer comes to. -/
import Derived.Test.YtjmmplpecmnlnaeLGrad
namespace Go.Proofs.Ytjmmplpecmnlnae
open Go.RowKit
theorem Above.drew {n : Nat} {w u : World} (h : Above n w u) : Above n w u.drew := h
theorem above9 {n B C : Nat} (hB : B < n) (hC : C < n) (u : World) (x0 x1 x2 y0 y1 y2 y3 y4 y5 : Value) : Above n u (((((((((u.setCell ⟨B, 0, none⟩ x0).setCell ⟨B, 1, none⟩ x1).setCell ⟨B, 2, none⟩ x2).setCell ⟨C, 0, none⟩ y0).setCell ⟨C, 1, none⟩ y1).setCell ⟨C, 2, none⟩ y2).setCell ⟨C, 3, none⟩ y3).setCell ⟨C, 4, none⟩ y4).setCell ⟨C, 5, none⟩ y5) := above6 hC (above3 hB u x0 x1 x2) y0 y1 y2 y3 y4 y5
theorem below9 {V u : World} {B C : Nat} (h : Below V.heap.size V u) (hB : V.heap.size ≤ B) (hC : V.heap.size ≤ C) (x0 x1 x2 y0 y1 y2 y3 y4 y5 : Value) : Below V.heap.size V (((((((((u.setCell ⟨B, 0, none⟩ x0).setCell ⟨B, 1, none⟩ x1).setCell ⟨B, 2, none⟩ x2).setCell ⟨C, 0, none⟩ y0).setCell ⟨C, 1, none⟩ y1).setCell ⟨C, 2, none⟩ y2).setCell ⟨C, 3, none⟩ y3).setCell ⟨C, 4, none⟩ y4).setCell ⟨C, 5, none⟩ y5) := below6 (below_set3 h hB x0 x1 x2) hC y0 y1 y2 y3 y4 y5
end Go.Proofs.Ytjmmplpecmnlnae
