/- What forth of the kinds of package layer comes to: what a layer that fits gives of a matrix that goes with it. -/
import Derived.Test.YtjmmplpecmnlnaeLNamed
import Derived.Test.YtjmmplpecmnlnaeThree
namespace Go.Proofs.Ytjmmplpecmnlnae
open Go.RowKit
theorem newEnd {w V w2 : World} {m : Mx} {B : Nat} {s : Value} (hnew : NewInts V.heap.size w2 s m.cells) (hV : Below w.heap.size w V) (hB : w.heap.size ≤ B) (hlt : B < V.heap.size) (hb : Below V.heap.size V w2) (x y z : Value) :
    IsMx (((w2.setCell ⟨B, 0, none⟩ x).setCell ⟨B, 1, none⟩ y).setCell ⟨B, 2, none⟩ z) (.agg #[.int .i64 m.rows, .int .i64 m.cols, s]) m ∧ Below w.heap.size w (((w2.setCell ⟨B, 0, none⟩ x).setCell ⟨B, 1, none⟩ y).setCell ⟨B, 2, none⟩ z) ∧ Fresh w.heap.size (.agg #[.int .i64 m.rows, .int .i64 m.cols, s]) :=
  ⟨⟨_, rfl, (((hnew.set hlt 0 x).set hlt 1 y).set hlt 2 z).isInts⟩, below_set3 (below_next hV hb) hB x y z, hnew.fresh hV.size _ _⟩
theorem cell_set3 {w : World} {p : Addr} {u : Value} {B : Nat} (h : w.cell? p = some u) (hne : ¬ p.block = B) (x y z : Value) : (((w.setCell ⟨B, 0, none⟩ x).setCell ⟨B, 1, none⟩ y).setCell ⟨B, 2, none⟩ z).cell? p = some u := cell_other (cell_other (cell_other h hne 0 x) hne 1 y) hne 2 z
theorem errEnd {w V w2 : World} {m : Mx} {B : Nat} {v : Value} (hm : IsMx w2 v m) (hf : Fresh V.heap.size v) (hV : Below w.heap.size w V) (hB : w.heap.size ≤ B) (hlt : B < V.heap.size) (hb : Below V.heap.size V w2) (x y z : Value) :
    IsMx (((w2.setCell ⟨B, 0, none⟩ x).setCell ⟨B, 1, none⟩ y).setCell ⟨B, 2, none⟩ z) v m ∧ Below w.heap.size w (((w2.setCell ⟨B, 0, none⟩ x).setCell ⟨B, 1, none⟩ y).setCell ⟨B, 2, none⟩ z) ∧ Fresh w.heap.size v :=
  ⟨hm.set3 hf hlt x y z, below_set3 (below_next hV hb) hB x y z, fresh_mono hf hV.size⟩
end Go.Proofs.Ytjmmplpecmnlnae
