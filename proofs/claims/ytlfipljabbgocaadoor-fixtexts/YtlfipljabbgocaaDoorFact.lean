/- The fact that the laws of package fix ask first: the product of 1.5 and 2 is 3, and the text of 1.5 is 1.5. Condition: the table of powers of ten that Itoa reads is as its text lays it. -/
import Derived.Test.YtlfipljabbgocaaDoorText
namespace Go.Proofs.YtlfipljabbgocaaDoor
open Go.RowKit
theorem mul_fact (w : World) : Calls Tryd.prog 14 #[.int .i64 384, .int .i64 512] w fun e w' => e = .returned (.int .i64 768) ∧ w' = w :=
  (show ml 384 512 = 768 by decide) ▸ mul_any 384 512 w
theorem tx_fact : tx (cl 384) = [49, 46, 53] := by
  unfold tx; rw [show (cl 384).natAbs / 256 = 1 by decide, Lib.decDigits_one (by omega)]; decide
theorem text_fact (w : World) (ht : Pow w) : Calls Tryd.prog 7 #[.int .i64 384] w fun e w' => e = .returned (.string ⟨#[49, 46, 53]⟩) ∧ Below w.heap.size w w' := by
  have h := text_any 384 w ht
  rw [tx_fact] at h; exact h
set_option maxHeartbeats 400000 in
theorem fact_any (w : World) (ht : Pow w) : Calls Tryd.prog 12 #[] w fun e w' => e = .returned (.bool true) ∧ Below w.heap.size w w' := by
  go_enter Tryd.func12, Tryd.ntmps12
  go_wp2_with (first | (go_at_call 14; refine (mul_fact _).mono ?_; rintro e w' ⟨rfl, rfl⟩) | (go_at_call 7; refine (text_fact _ ht).mono ?_; rintro e w1 ⟨rfl, hb1⟩))
  go_ret
  exact ⟨rfl, hb1⟩
end Go.Proofs.YtlfipljabbgocaaDoor
