/- What Ints of package galleysame comes to: whether two lists of ints are the same. -/
import Derived.Test.YtgdggaieekakhagDoorRows
import Derived.WalkKit
import Derived.WalkSpells
import Derived.WalkLawsBesides
import Derived.Outline
import Derived.Deep.QuietTactic
import Derived.BigQuiet
import Derived.Test.YtgdggaieekakhagDoorPlain
namespace Go.Proofs.YtgdggaieekakhagDoor
open Go.RowKit
theorem eq_at (zs ys : List Int) (hl : zs.length = ys.length) (h : ∀ i, i < zs.length → zs[i]? = ys[i]?) : zs = ys := by
  apply List.ext_getElem?
  intro i
  by_cases hi : i < zs.length
  · exact h i hi
  · rw [List.getElem?_eq_none (by omega), List.getElem?_eq_none (by omega)]
def sameI (zs ys : List Int) : Bool := decide (zs = ys)
def sameM (m k : Mx) : Bool := decide (m.rows = k.rows ∧ m.cols = k.cols ∧ m.cells = k.cells)
theorem sameM_no {m k : Mx} (h : ¬ (m.rows = k.rows ∧ m.cols = k.cols)) : false = sameM m k := by
  unfold sameM; rw [eq_comm, decide_eq_false_iff_not]; exact fun e => h ⟨e.1, e.2.1⟩
theorem sameM_yes {m k : Mx} (h1 : m.rows = k.rows) (h2 : m.cols = k.cols) : sameI m.cells k.cells = sameM m k := by
  unfold sameM sameI; rw [decide_eq_decide]; exact ⟨fun h => ⟨h1, h2, h⟩, fun h => h.2.2⟩
end Go.Proofs.YtgdggaieekakhagDoor
