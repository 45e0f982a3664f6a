/- What package fix and its document's answer come to on numbers: Clamp, Add, Sub, Mul, as the plain functions cl, ad, sb, ml; the world is as it was. For every int. -/
import Derived.Test.YtlbcmebifmebgafRows
import Derived.Test.YtlbcmebifmebgafPlain
namespace Go.Proofs.Ytlbcmebifmebgaf
open Go.RowKit
set_option maxHeartbeats 400000 in
theorem clamp_any (x : Int) (w : World) : Calls Try.prog 62 #[.int .i64 x] w fun e w' => e = .returned (.int .i64 (cl x)) ∧ w' = w := by
  by_cases h1 : x < -2147483647
  · rw [cl_lo x h1]
    go_enter Try.func62, Try.ntmps62
    go_wp2
    go_ret
    exact ⟨rfl, rfl⟩
  · by_cases h2 : 2147483647 < x
    · rw [cl_hi x h2]
      go_enter Try.func62, Try.ntmps62
      go_wp2
      go_ret
      exact ⟨rfl, rfl⟩
    · rw [cl_in x (by omega) (by omega)]
      go_enter Try.func62, Try.ntmps62
      go_wp2
      all_goals
        go_ret
        exact ⟨ret_int (by omega), rfl⟩
set_option maxHeartbeats 400000 in
theorem add_any (a b : Int) (w : World) : Calls Try.prog 40 #[.int .i64 a, .int .i64 b] w fun e w' => e = .returned (.int .i64 (ad a b)) ∧ w' = w := by
  have ha := cl_bd a
  have hb := cl_bd b
  unfold ad
  go_enter Try.func40, Try.ntmps40
  go_wp2_with (go_at_call 62; refine (clamp_any _ _).mono ?_; rintro e w' ⟨rfl, rfl⟩)
  go_ret
  exact ⟨rfl, rfl⟩
set_option maxHeartbeats 400000 in
theorem sub_any (a b : Int) (w : World) : Calls Try.prog 68 #[.int .i64 a, .int .i64 b] w fun e w' => e = .returned (.int .i64 (sb a b)) ∧ w' = w := by
  have ha := cl_bd a
  have hb := cl_bd b
  unfold sb
  go_enter Try.func68, Try.ntmps68
  go_wp2_with (go_at_call 62; refine (clamp_any _ _).mono ?_; rintro e w' ⟨rfl, rfl⟩)
  go_ret
  exact ⟨rfl, rfl⟩
set_option maxHeartbeats 400000 in
theorem down_any (x : Int) (w : World) (h0 : -4611686014132420609 ≤ x) (h1 : x ≤ 4611686014132420609) : Calls Try.prog 77 #[.int .i64 x, .int .i64 256] w fun e w' => e = .returned (.int .i64 (x / 256)) ∧ w' = w := by
  go_enter Try.func77, Try.ntmps77
  go_wp2
  · go_ret
    exact ⟨ret_int (down_lo x h0 h1 (by assumption)), rfl⟩
  · go_ret
    exact ⟨ret_int (down_up x (by assumption)), rfl⟩
set_option maxHeartbeats 400000 in
theorem mul_any (a b : Int) (w : World) : Calls Try.prog 65 #[.int .i64 a, .int .i64 b] w fun e w' => e = .returned (.int .i64 (ml a b)) ∧ w' = w := by
  have ha := cl_bd a
  have hb := cl_bd b
  have hm := mul_bd a b
  unfold ml
  go_enter Try.func65, Try.ntmps65
  go_wp2_with (first | (go_at_call 62; refine (clamp_any _ _).mono ?_; rintro e w' ⟨rfl, rfl⟩) | (go_at_call 77; refine (down_any _ _ (by omega) (by omega)).mono ?_; rintro e w' ⟨rfl, rfl⟩))
  go_ret
  exact ⟨rfl, rfl⟩
end Go.Proofs.Ytlbcmebifmebgaf
