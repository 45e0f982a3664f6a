/- What package fix and its document's answer come to on numbers: Clamp, Add, Sub, Mul, as the plain functions cl, ad, sb, ml; the world is as it was. For every int. -/
import Derived.Test.YtjmmplpecmnlnaeRows
import Derived.Test.YtjmmplpecmnlnaePlain
namespace Go.Proofs.Ytjmmplpecmnlnae
open Go.RowKit
set_option maxHeartbeats 400000 in
theorem clamp_any (x : Int) (w : World) : Calls Try.prog 35 #[.int .i64 x] w fun e w' => e = .returned (.int .i64 (cl x)) ∧ w' = w := by
  by_cases h1 : x < -2147483647
  · rw [cl_lo x h1]
    go_enter Try.func35, Try.ntmps35
    go_wp2
    go_ret
    exact ⟨rfl, rfl⟩
  · by_cases h2 : 2147483647 < x
    · rw [cl_hi x h2]
      go_enter Try.func35, Try.ntmps35
      go_wp2
      go_ret
      exact ⟨rfl, rfl⟩
    · rw [cl_in x (by omega) (by omega)]
      go_enter Try.func35, Try.ntmps35
      go_wp2
      all_goals
        go_ret
        exact ⟨ret_int (by omega), rfl⟩
set_option maxHeartbeats 400000 in
theorem add_any (a b : Int) (w : World) : Calls Try.prog 27 #[.int .i64 a, .int .i64 b] w fun e w' => e = .returned (.int .i64 (ad a b)) ∧ w' = w := by
  have ha := cl_bd a
  have hb := cl_bd b
  unfold ad
  go_enter Try.func27, Try.ntmps27
  go_wp2_with (go_at_call 35; refine (clamp_any _ _).mono ?_; rintro e w' ⟨rfl, rfl⟩)
  go_ret
  exact ⟨rfl, rfl⟩
set_option maxHeartbeats 400000 in
theorem sub_any (a b : Int) (w : World) : Calls Try.prog 31 #[.int .i64 a, .int .i64 b] w fun e w' => e = .returned (.int .i64 (sb a b)) ∧ w' = w := by
  have ha := cl_bd a
  have hb := cl_bd b
  unfold sb
  go_enter Try.func31, Try.ntmps31
  go_wp2_with (go_at_call 35; refine (clamp_any _ _).mono ?_; rintro e w' ⟨rfl, rfl⟩)
  go_ret
  exact ⟨rfl, rfl⟩
set_option maxHeartbeats 400000 in
theorem down_any (x : Int) (w : World) (h0 : -4611686014132420609 ≤ x) (h1 : x ≤ 4611686014132420609) : Calls Try.prog 36 #[.int .i64 x, .int .i64 256] w fun e w' => e = .returned (.int .i64 (x / 256)) ∧ w' = w := by
  go_enter Try.func36, Try.ntmps36
  go_wp2
  · go_ret
    exact ⟨ret_int (down_lo x h0 h1 (by assumption)), rfl⟩
  · go_ret
    exact ⟨ret_int (down_up x (by assumption)), rfl⟩
set_option maxHeartbeats 400000 in
theorem mul_any (a b : Int) (w : World) : Calls Try.prog 28 #[.int .i64 a, .int .i64 b] w fun e w' => e = .returned (.int .i64 (ml a b)) ∧ w' = w := by
  have ha := cl_bd a
  have hb := cl_bd b
  have hm := mul_bd a b
  unfold ml
  go_enter Try.func28, Try.ntmps28
  go_wp2_with (first | (go_at_call 35; refine (clamp_any _ _).mono ?_; rintro e w' ⟨rfl, rfl⟩) | (go_at_call 36; refine (down_any _ _ (by omega) (by omega)).mono ?_; rintro e w' ⟨rfl, rfl⟩))
  go_ret
  exact ⟨rfl, rfl⟩
end Go.Proofs.Ytjmmplpecmnlnae
