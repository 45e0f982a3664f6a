/- What back of the kind Scale of package layer comes to. -/
import Derived.Test.YtjmmplpecmnlnaeLBack
namespace Go.Proofs.Ytjmmplpecmnlnae
open Go.RowKit
theorem sumP_step {x g : Mx} {i : Nat} {ex ey : Int} (hex : x.cells[i]? = some ex) (hey : g.cells[i]? = some ey) : ad (sumP x g i) (ml ex ey) = sumP x g (i + 1) := by
  show _ = ad (sumP x g i) (ml (cellAt x i) (cellAt g i))
  unfold cellAt; rw [hex, hey]; rfl
theorem one_ints (V : World) (z : Int) : IsInts (V.alloc (.cells #[.int .i64 z] 3)) (.slice (some ⟨V.heap.size, 0, none⟩) 1 1) [z] := by
  refine ⟨_, _, rfl, Nat.le_refl _, by unfold maxLen; omega, .inr ⟨V.heap.size, 0, rfl, fun i x hx => ?_⟩⟩
  match i, hx with
  | 0, hx => simp at hx; subst hx; exact box_new V _ _ rfl rfl
end Go.Proofs.Ytjmmplpecmnlnae
