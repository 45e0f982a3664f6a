/- What mulTurned and linearGrad of package layer come to. -/
import Derived.Test.YtjmmplpecmnlnaeLEnd
namespace Go.Proofs.Ytjmmplpecmnlnae
open Go.RowKit
theorem MxErr.fresh_any {w : World} {m : Mx} {j : Int} {e : Ending} {w' : World} (h : MxErr w m j e w') : ∀ v x, e = .returned (.tuple #[v, x]) → Fresh w.heap.size v := by
  intro v x he
  rw [he] at h
  exact h.fresh
/-- What linearGrad comes to. -/
def GradErr (w : World) (a b : Mx) (k : Int) (e : Ending) (w' : World) : Prop := ∃ d, e = .returned (.tuple #[d, errV k]) ∧ IsTwo w' d a b ∧ Below w.heap.size w w' ∧ Fresh2 w.heap.size d
end Go.Proofs.Ytjmmplpecmnlnae
