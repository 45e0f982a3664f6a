/- What package fix and its document's answer come to on numbers: Clamp, Add, Sub, Mul, as the plain functions cl, ad, sb, ml; the world is as it was. For every int. -/
import Derived.Test.YtlfipljabbgocaaDoorRows
import Derived.WalkKit
import Derived.WalkSpells
import Derived.WalkLawsBesides
import Derived.Outline
import Derived.Test.YtlfipljabbgocaaDoorNum
namespace Go.Proofs.YtlfipljabbgocaaDoor
open Go.RowKit
theorem tdiv_256 (x : Int) : x.tdiv 256 = if 0 ≤ x then x / 256 else -(-x / 256) := by
  split
  · exact Int.tdiv_eq_ediv_of_nonneg (by assumption)
  · have e : x.tdiv 256 = -((-x).tdiv 256) := by rw [Int.neg_tdiv]; omega
    rw [e, Int.tdiv_eq_ediv_of_nonneg (by omega)]
theorem tmod_256 (x : Int) : x.tmod 256 = if 0 ≤ x then x % 256 else -(-x % 256) := by
  split
  · exact Int.tmod_eq_emod_of_nonneg (by assumption)
  · have e : x.tmod 256 = -((-x).tmod 256) := by rw [Int.neg_tmod]; omega
    rw [e, Int.tmod_eq_emod_of_nonneg (by omega)]
theorem down_up (x : Int) (h : 0 ≤ x.tmod 256) : x.tdiv 256 = x / 256 := by
  rw [tmod_256] at h; rw [tdiv_256]; split at h <;> split <;> omega
theorem down_lo (x : Int) (h0 : -4611686014132420609 ≤ x) (h1 : x ≤ 4611686014132420609) (h : x.tmod 256 < 0) : wrap64 (x.tdiv 256 - 1) = x / 256 := by
  rw [tmod_256] at h; rw [tdiv_256]; unfold wrap64; split at h <;> split <;> omega
theorem ret_int {k : IntKind} {a b : Int} (h : a = b) : Ending.returned (.int k a) = .returned (.int k b) := by rw [h]
set_option maxHeartbeats 400000 in
theorem clamp_any (x : Int) (w : World) : Calls Tryd.prog 15 #[.int .i64 x] w fun e w' => e = .returned (.int .i64 (cl x)) ∧ w' = w := by
  by_cases h1 : x < -2147483647
  · rw [cl_lo x h1]
    go_enter Tryd.func15, Tryd.ntmps15
    go_wp2
    go_ret
    exact ⟨rfl, rfl⟩
  · by_cases h2 : 2147483647 < x
    · rw [cl_hi x h2]
      go_enter Tryd.func15, Tryd.ntmps15
      go_wp2
      go_ret
      exact ⟨rfl, rfl⟩
    · rw [cl_in x (by omega) (by omega)]
      go_enter Tryd.func15, Tryd.ntmps15
      go_wp2
      all_goals
        go_ret
        exact ⟨ret_int (by omega), rfl⟩
set_option maxHeartbeats 400000 in
theorem add_any (a b : Int) (w : World) : Calls Tryd.prog 13 #[.int .i64 a, .int .i64 b] w fun e w' => e = .returned (.int .i64 (ad a b)) ∧ w' = w := by
  have ha := cl_bd a
  have hb := cl_bd b
  unfold ad
  go_enter Tryd.func13, Tryd.ntmps13
  go_wp2_with (go_at_call 15; refine (clamp_any _ _).mono ?_; rintro e w' ⟨rfl, rfl⟩)
  go_ret
  exact ⟨rfl, rfl⟩
set_option maxHeartbeats 400000 in
theorem sub_any (a b : Int) (w : World) : Calls Tryd.prog 16 #[.int .i64 a, .int .i64 b] w fun e w' => e = .returned (.int .i64 (sb a b)) ∧ w' = w := by
  have ha := cl_bd a
  have hb := cl_bd b
  unfold sb
  go_enter Tryd.func16, Tryd.ntmps16
  go_wp2_with (go_at_call 15; refine (clamp_any _ _).mono ?_; rintro e w' ⟨rfl, rfl⟩)
  go_ret
  exact ⟨rfl, rfl⟩
set_option maxHeartbeats 400000 in
theorem down_any (x : Int) (w : World) (h0 : -4611686014132420609 ≤ x) (h1 : x ≤ 4611686014132420609) : Calls Tryd.prog 26 #[.int .i64 x, .int .i64 256] w fun e w' => e = .returned (.int .i64 (x / 256)) ∧ w' = w := by
  go_enter Tryd.func26, Tryd.ntmps26
  go_wp2
  · go_ret
    exact ⟨ret_int (down_lo x h0 h1 (by assumption)), rfl⟩
  · go_ret
    exact ⟨ret_int (down_up x (by assumption)), rfl⟩
set_option maxHeartbeats 400000 in
theorem mul_any (a b : Int) (w : World) : Calls Tryd.prog 14 #[.int .i64 a, .int .i64 b] w fun e w' => e = .returned (.int .i64 (ml a b)) ∧ w' = w := by
  have ha := cl_bd a
  have hb := cl_bd b
  have hm := mul_bd a b
  unfold ml
  go_enter Tryd.func14, Tryd.ntmps14
  go_wp2_with (first | (go_at_call 15; refine (clamp_any _ _).mono ?_; rintro e w' ⟨rfl, rfl⟩) | (go_at_call 26; refine (down_any _ _ (by omega) (by omega)).mono ?_; rintro e w' ⟨rfl, rfl⟩))
  go_ret
  exact ⟨rfl, rfl⟩
end Go.Proofs.YtlfipljabbgocaaDoor
