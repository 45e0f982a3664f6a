/- What the document's answer comes to on numbers: its Add, Sub, Mul are the plain functions ad, sb, ml; the world is as it was. For every int. -/
import Derived.Test.YtjmmplpecmnlnadDoorRClamp
namespace Go.Proofs.YtjmmplpecmnlnadDoor
open Go.RowKit
set_option maxHeartbeats 400000 in
theorem radd_any (a b : Int) (w : World) : Calls Tryd.prog 59 #[.int .i64 a, .int .i64 b] w fun e w' => e = .returned (.int .i64 (ad a b)) ∧ w' = w := by
  have ha := cl_bd a
  have hb := cl_bd b
  unfold ad
  go_enter Tryd.func59, Tryd.ntmps59
  go_wp2_with (go_at_call 84; refine (rclamp_any _ _).mono ?_; rintro e w' ⟨rfl, rfl⟩)
  go_ret
  exact ⟨rfl, rfl⟩
set_option maxHeartbeats 400000 in
theorem rsub_any (a b : Int) (w : World) : Calls Tryd.prog 74 #[.int .i64 a, .int .i64 b] w fun e w' => e = .returned (.int .i64 (sb a b)) ∧ w' = w := by
  have ha := cl_bd a
  have hb := cl_bd b
  unfold sb
  go_enter Tryd.func74, Tryd.ntmps74
  go_wp2_with (go_at_call 84; refine (rclamp_any _ _).mono ?_; rintro e w' ⟨rfl, rfl⟩)
  go_ret
  exact ⟨rfl, rfl⟩
theorem rdown_a (p : Int) (h : 0 ≤ p) : p.tdiv 256 = p / 256 := by rw [tdiv_256, if_pos h]
theorem rdown_b (p : Int) (_h : p < 0) (h0 : -4611686014132420609 ≤ p) (e : wrap64 (p.tdiv 256 * 256) = p) : p.tdiv 256 = p / 256 := by
  rw [tdiv_256] at *; unfold wrap64 at e; split at e <;> split <;> omega
theorem rdown_c (p : Int) (_h : p < 0) (h0 : -4611686014132420609 ≤ p) (e : ¬ wrap64 (p.tdiv 256 * 256) = p) : wrap64 (p.tdiv 256 - 1) = p / 256 := by
  rw [tdiv_256] at *; unfold wrap64 at *; split at e <;> split <;> omega
set_option maxHeartbeats 400000 in
theorem rmul_any (a b : Int) (w : World) : Calls Tryd.prog 65 #[.int .i64 a, .int .i64 b] w fun e w' => e = .returned (.int .i64 (ml a b)) ∧ w' = w := by
  have ha := cl_bd a
  have hb := cl_bd b
  have hm := mul_bd a b
  unfold ml
  go_enter Tryd.func65, Tryd.ntmps65
  go_wp2_with (go_at_call 84; refine (rclamp_any _ _).mono ?_; rintro e w' ⟨rfl, rfl⟩)
  · have hn : cl a * cl b < 0 := by assumption
    have hx : (wrap64 ((cl a * cl b).tdiv 256 * 256) != cl a * cl b) = true := by assumption
    go_ret
    exact ⟨ret_int (by rw [rdown_c _ hn hm.1 (by simpa using hx)]), rfl⟩
  · have hn : cl a * cl b < 0 := by assumption
    have hx : (wrap64 ((cl a * cl b).tdiv 256 * 256) != cl a * cl b) = false := by assumption
    go_ret
    exact ⟨ret_int (by rw [rdown_b _ hn hm.1 (by simpa using hx)]), rfl⟩
  · have hn : 0 ≤ cl a * cl b := by assumption
    go_ret
    exact ⟨ret_int (by rw [rdown_a _ hn]), rfl⟩
end Go.Proofs.YtjmmplpecmnlnadDoor
