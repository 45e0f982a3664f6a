/- Plain facts on numbers that end somewhere: the clamp, sums, differences and products of clamped numbers. No Go in sight, no condition but those that stand in each row. -/
namespace Go.Proofs.Ytkncgelkbpeagac
/-- The number itself, or the end beyond which it lies. -/
def cl (x : Int) : Int := if x < -2147483647 then -2147483647 else if 2147483647 < x then 2147483647 else x
theorem cl_bd (x : Int) : -2147483647 ≤ cl x ∧ cl x ≤ 2147483647 := by unfold cl; split <;> (try split) <;> omega
theorem cl_lo (x : Int) (h : x < -2147483647) : cl x = -2147483647 := by unfold cl; rw [if_pos h]
theorem cl_hi (x : Int) (h : 2147483647 < x) : cl x = 2147483647 := by unfold cl; rw [if_neg (by omega), if_pos h]
theorem cl_in (x : Int) (h0 : -2147483647 ≤ x) (h1 : x ≤ 2147483647) : cl x = x := by unfold cl; rw [if_neg (by omega), if_neg (by omega)]
theorem cl_cl (x : Int) : cl (cl x) = cl x := cl_in _ (cl_bd x).1 (cl_bd x).2
theorem cl_mono (x y : Int) (h : x ≤ y) : cl x ≤ cl y := by unfold cl; split <;> split <;> (try split) <;> (try split) <;> omega
theorem mul_bd0 (x y M : Int) (h0 : -M ≤ x) (h1 : x ≤ M) (h2 : -M ≤ y) (h3 : y ≤ M) : -(M * M) ≤ x * y ∧ x * y ≤ M * M := by
  have e1 : 0 ≤ (M - x) * (M + y) := Int.mul_nonneg (by omega) (by omega)
  have e2 : 0 ≤ (M + x) * (M - y) := Int.mul_nonneg (by omega) (by omega)
  have e3 : 0 ≤ (M - x) * (M - y) := Int.mul_nonneg (by omega) (by omega)
  have e4 : 0 ≤ (M + x) * (M + y) := Int.mul_nonneg (by omega) (by omega)
  simp only [Int.sub_mul, Int.add_mul, Int.mul_sub, Int.mul_add] at e1 e2 e3 e4
  have c1 : x * M = M * x := Int.mul_comm _ _
  have c2 : y * M = M * y := Int.mul_comm _ _
  omega
/-- A product of two clamped numbers is far within 64 bits. -/
theorem mul_bd (a b : Int) : -4611686014132420609 ≤ cl a * cl b ∧ cl a * cl b ≤ 4611686014132420609 := by
  have h := mul_bd0 (cl a) (cl b) 2147483647 (by have := cl_bd a; omega) (by have := cl_bd a; omega) (by have := cl_bd b; omega) (by have := cl_bd b; omega)
  omega
def ad (a b : Int) : Int := cl (cl a + cl b)
def sb (a b : Int) : Int := cl (cl a - cl b)
def ml (a b : Int) : Int := cl (cl a * cl b / 256)
theorem ad_bd (a b : Int) : -2147483647 ≤ ad a b ∧ ad a b ≤ 2147483647 := cl_bd _
theorem sb_bd (a b : Int) : -2147483647 ≤ sb a b ∧ sb a b ≤ 2147483647 := cl_bd _
theorem ml_bd (a b : Int) : -2147483647 ≤ ml a b ∧ ml a b ≤ 2147483647 := cl_bd _
theorem ad_comm (a b : Int) : ad a b = ad b a := by unfold ad; rw [Int.add_comm]
theorem ml_comm (a b : Int) : ml a b = ml b a := by unfold ml; rw [Int.mul_comm]
theorem ml_one (a : Int) : ml a 256 = cl a := by
  unfold ml; rw [cl_in 256 (by omega) (by omega), Int.mul_ediv_cancel _ (by omega), cl_cl]
theorem ad_zero (a : Int) : ad a 0 = cl a := by
  unfold ad; rw [cl_in 0 (by omega) (by omega), Int.add_zero, cl_cl]
theorem ml_zero (a : Int) : ml a 0 = 0 := by
  unfold ml; rw [cl_in 0 (by omega) (by omega)]; simp [cl]
/-- Within the ends what is added is taken away again. -/
theorem sb_ad (a b : Int) (h0 : ad a b ≠ 2147483647) (h1 : ad a b ≠ -2147483647) : sb (ad a b) b = cl a := by
  have ha := cl_bd a
  have hb := cl_bd b
  have e : ad a b = cl a + cl b := by
    unfold ad
    by_cases l : cl a + cl b < -2147483647
    · exact absurd (cl_lo _ l) h1
    · by_cases u : 2147483647 < cl a + cl b
      · exact absurd (cl_hi _ u) h0
      · exact cl_in _ (by omega) (by omega)
  have hd := ad_bd a b
  unfold sb; rw [cl_in (ad a b) (by omega) (by omega), e]
  rw [show cl a + cl b - cl b = cl a by omega, cl_cl]
theorem ad_mono (a b c : Int) (h : b ≤ a) : ad b c ≤ ad a c := by
  have := cl_mono b a h
  exact cl_mono _ _ (by omega)
theorem ml_mono (a b c : Int) (h : b ≤ a) (hc : 0 ≤ c) : ml b c ≤ ml a c := by
  have h1 := cl_mono b a h
  have h2 : 0 ≤ cl c := by have := cl_mono 0 c hc; rw [cl_in 0 (by omega) (by omega)] at this; exact this
  have h3 : cl b * cl c ≤ cl a * cl c := Int.mul_le_mul_of_nonneg_right h1 h2
  exact cl_mono _ _ (Int.ediv_le_ediv (by omega) h3)
end Go.Proofs.Ytkncgelkbpeagac
