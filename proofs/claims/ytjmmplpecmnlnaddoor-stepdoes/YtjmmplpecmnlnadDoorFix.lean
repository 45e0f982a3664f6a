/- What package fix and its document's answer come to on numbers: Clamp, Add, Sub, Mul, as the plain functions cl, ad, sb, ml; the world is as it was. For every int. -/
import Derived.Test.YtjmmplpecmnlnadDoorRows
import Derived.Test.YtjmmplpecmnlnadDoorPlain
namespace Go.Proofs.YtjmmplpecmnlnadDoor
open Go.RowKit
set_option maxHeartbeats 400000 in
theorem clamp_any (x : Int) (w : World) : Calls Tryd.prog 85 #[.int .i64 x] w fun e w' => e = .returned (.int .i64 (cl x)) ∧ w' = w := by
  by_cases h1 : x < -2147483647
  · rw [cl_lo x h1]
    go_enter Tryd.func85, Tryd.ntmps85
    go_wp2
    go_ret
    exact ⟨rfl, rfl⟩
  · by_cases h2 : 2147483647 < x
    · rw [cl_hi x h2]
      go_enter Tryd.func85, Tryd.ntmps85
      go_wp2
      go_ret
      exact ⟨rfl, rfl⟩
    · rw [cl_in x (by omega) (by omega)]
      go_enter Tryd.func85, Tryd.ntmps85
      go_wp2
      all_goals
        go_ret
        exact ⟨ret_int (by omega), rfl⟩
set_option maxHeartbeats 400000 in
theorem add_any (a b : Int) (w : World) : Calls Tryd.prog 69 #[.int .i64 a, .int .i64 b] w fun e w' => e = .returned (.int .i64 (ad a b)) ∧ w' = w := by
  have ha := cl_bd a
  have hb := cl_bd b
  unfold ad
  go_enter Tryd.func69, Tryd.ntmps69
  go_wp2_with (go_at_call 85; refine (clamp_any _ _).mono ?_; rintro e w' ⟨rfl, rfl⟩)
  go_ret
  exact ⟨rfl, rfl⟩
set_option maxHeartbeats 400000 in
theorem sub_any (a b : Int) (w : World) : Calls Tryd.prog 73 #[.int .i64 a, .int .i64 b] w fun e w' => e = .returned (.int .i64 (sb a b)) ∧ w' = w := by
  have ha := cl_bd a
  have hb := cl_bd b
  unfold sb
  go_enter Tryd.func73, Tryd.ntmps73
  go_wp2_with (go_at_call 85; refine (clamp_any _ _).mono ?_; rintro e w' ⟨rfl, rfl⟩)
  go_ret
  exact ⟨rfl, rfl⟩
set_option maxHeartbeats 400000 in
theorem down_any (x : Int) (w : World) (h0 : -4611686014132420609 ≤ x) (h1 : x ≤ 4611686014132420609) : Calls Tryd.prog 87 #[.int .i64 x, .int .i64 256] w fun e w' => e = .returned (.int .i64 (x / 256)) ∧ w' = w := by
  go_enter Tryd.func87, Tryd.ntmps87
  go_wp2
  · go_ret
    exact ⟨ret_int (down_lo x h0 h1 (by assumption)), rfl⟩
  · go_ret
    exact ⟨ret_int (down_up x (by assumption)), rfl⟩
set_option maxHeartbeats 400000 in
theorem mul_any (a b : Int) (w : World) : Calls Tryd.prog 70 #[.int .i64 a, .int .i64 b] w fun e w' => e = .returned (.int .i64 (ml a b)) ∧ w' = w := by
  have ha := cl_bd a
  have hb := cl_bd b
  have hm := mul_bd a b
  unfold ml
  go_enter Tryd.func70, Tryd.ntmps70
  go_wp2_with (first | (go_at_call 85; refine (clamp_any _ _).mono ?_; rintro e w' ⟨rfl, rfl⟩) | (go_at_call 87; refine (down_any _ _ (by omega) (by omega)).mono ?_; rintro e w' ⟨rfl, rfl⟩))
  go_ret
  exact ⟨rfl, rfl⟩
end Go.Proofs.YtjmmplpecmnlnadDoor
