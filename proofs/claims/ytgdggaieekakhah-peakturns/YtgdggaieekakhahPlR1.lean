/- What ActsFault and where of the document's answer come to. -/
import Derived.Test.YtgdggaieekakhahPlB
import Derived.Test.YtgdggaieekakhahRows
import Derived.Deep.RegionHeld3
namespace Go.Proofs.Ytgdggaieekakhah
open Go.RowKit
theorem bel_d2 (w : World) (q n : Nat) : Below w.heap.size w ((w.drewN q).drewN n) := ⟨rfl, rfl, rfl, Nat.le_refl _, fun _ _ => rfl⟩
theorem okA_no {m kx mx : Int} (h : kx < 1 ∨ 2 < kx ∨ mx < 0 ∨ m ≤ mx) : ¬ okA m (kx, mx) := by
  rintro ⟨h1, h2, h3, h4⟩
  dsimp only at h1 h2 h3 h4
  omega
end Go.Proofs.Ytgdggaieekakhah
