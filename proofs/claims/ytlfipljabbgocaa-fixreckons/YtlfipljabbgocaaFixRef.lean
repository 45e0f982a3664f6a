/- What the document's answer comes to on numbers: its Clamp, Add, Sub, Mul are the plain functions cl, ad, sb, ml; the world is as it was. For every int. -/
import Derived.Test.YtlfipljabbgocaaFix
namespace Go.Proofs.Ytlfipljabbgocaa
open Go.RowKit
set_option maxHeartbeats 400000 in
theorem rclamp_any (x : Int) (w : World) : Calls Try.prog 10 #[.int .i64 x] w fun e w' => e = .returned (.int .i64 (cl x)) ∧ w' = w := by
  by_cases h1 : x < -2147483647
  · rw [cl_lo x h1]
    go_enter Try.func10, Try.ntmps10
    go_wp2
    go_ret
    exact ⟨rfl, rfl⟩
  · by_cases h2 : 2147483647 < x
    · rw [cl_hi x h2]
      go_enter Try.func10, Try.ntmps10
      go_wp2
      go_ret
      exact ⟨rfl, rfl⟩
    · rw [cl_in x (by omega) (by omega)]
      go_enter Try.func10, Try.ntmps10
      go_wp2
      go_ret
      exact ⟨rfl, rfl⟩
set_option maxHeartbeats 400000 in
theorem radd_any (a b : Int) (w : World) : Calls Try.prog 11 #[.int .i64 a, .int .i64 b] w fun e w' => e = .returned (.int .i64 (ad a b)) ∧ w' = w := by
  have ha := cl_bd a
  have hb := cl_bd b
  unfold ad
  go_enter Try.func11, Try.ntmps11
  go_wp2_with (go_at_call 10; refine (rclamp_any _ _).mono ?_; rintro e w' ⟨rfl, rfl⟩)
  go_ret
  exact ⟨rfl, rfl⟩
set_option maxHeartbeats 400000 in
theorem rsub_any (a b : Int) (w : World) : Calls Try.prog 12 #[.int .i64 a, .int .i64 b] w fun e w' => e = .returned (.int .i64 (sb a b)) ∧ w' = w := by
  have ha := cl_bd a
  have hb := cl_bd b
  unfold sb
  go_enter Try.func12, Try.ntmps12
  go_wp2_with (go_at_call 10; refine (rclamp_any _ _).mono ?_; rintro e w' ⟨rfl, rfl⟩)
  go_ret
  exact ⟨rfl, rfl⟩
theorem rdown_a (p : Int) (h : 0 ≤ p) : p.tdiv 256 = p / 256 := by rw [tdiv_256, if_pos h]
theorem rdown_b (p : Int) (_h : p < 0) (h0 : -4611686014132420609 ≤ p) (e : wrap64 (p.tdiv 256 * 256) = p) : p.tdiv 256 = p / 256 := by
  rw [tdiv_256] at *; unfold wrap64 at e; split at e <;> split <;> omega
theorem rdown_c (p : Int) (_h : p < 0) (h0 : -4611686014132420609 ≤ p) (e : ¬ wrap64 (p.tdiv 256 * 256) = p) : wrap64 (p.tdiv 256 - 1) = p / 256 := by
  rw [tdiv_256] at *; unfold wrap64 at *; split at e <;> split <;> omega
set_option maxHeartbeats 400000 in
theorem rmul_any (a b : Int) (w : World) : Calls Try.prog 13 #[.int .i64 a, .int .i64 b] w fun e w' => e = .returned (.int .i64 (ml a b)) ∧ w' = w := by
  have ha := cl_bd a
  have hb := cl_bd b
  have hm := mul_bd a b
  unfold ml
  go_enter Try.func13, Try.ntmps13
  go_wp2_with (go_at_call 10; refine (rclamp_any _ _).mono ?_; rintro e w' ⟨rfl, rfl⟩)
  · have hn : cl a * cl b < 0 := by assumption
    have hx : (wrap64 ((cl a * cl b).tdiv 256 * 256) != cl a * cl b) = true := by assumption
    go_ret
    exact ⟨ret_int (by rw [rdown_c _ hn hm.1 (by simpa using hx)]), rfl⟩
  · have hn : cl a * cl b < 0 := by assumption
    have hx : (wrap64 ((cl a * cl b).tdiv 256 * 256) != cl a * cl b) = false := by assumption
    go_ret
    exact ⟨ret_int (by rw [rdown_b _ hn hm.1 (by simpa using hx)]), rfl⟩
  · have hn : 0 ≤ cl a * cl b := by assumption
    go_ret
    exact ⟨ret_int (by rw [rdown_a _ hn]), rfl⟩
end Go.Proofs.Ytlfipljabbgocaa
