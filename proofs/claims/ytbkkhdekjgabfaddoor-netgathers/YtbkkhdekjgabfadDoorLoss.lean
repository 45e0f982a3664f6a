/- How far a matrix is off another one, as plain numbers: never below 0, 0 at itself, the other way round as far. No program in sight. -/
import Derived.Test.YtbkkhdekjgabfadDoorLyGood
namespace Go.Proofs.YtbkkhdekjgabfadDoor
/-- By how much two matrices are off at a cell. -/
def offAt (a b : Mx) (q : Nat) : Int := sb (cellAt a q) (cellAt b q)
/-- What is summed up over so many cells. -/
def lossS (a b : Mx) : Nat → Int
  | 0 => 0
  | n + 1 => ad (lossS a b n) (ml (offAt a b n) (offAt a b n))
/-- What goes back. -/
def offX (a b : Mx) : Mx := if addE a b = 0 then ⟨a.rows, a.cols, tab a.cells.length (offAt a b)⟩ else noMx
/-- How far it is off. -/
def lossX (a b : Mx) : Int := if addE a b = 0 then ml (lossS a b a.cells.length) 128 else 0
theorem cl_neg (x : Int) : cl (-x) = -cl x := by unfold cl; split <;> split <;> (try split) <;> (try split) <;> omega
theorem sb_swap (a b : Int) : sb a b = -sb b a := by unfold sb; rw [← cl_neg]; congr 1; omega
theorem sb_self (a : Int) : sb a a = 0 := by unfold sb; rw [Int.sub_self]; rfl
theorem off_swap (a b : Mx) (q : Nat) : offAt a b q = -offAt b a q := sb_swap _ _
theorem ml_neg (d : Int) : ml (-d) (-d) = ml d d := by unfold ml; rw [cl_neg, Int.neg_mul_neg]
theorem ml_sq (d : Int) : 0 ≤ ml d d := by
  have h : 0 ≤ cl d * cl d := by
    rcases Int.le_total 0 (cl d) with h | h
    · exact Int.mul_nonneg h h
    · rw [← Int.neg_mul_neg]; exact Int.mul_nonneg (by omega) (by omega)
  have h2 : 0 ≤ cl d * cl d / 256 := Int.ediv_nonneg h (by omega)
  have := cl_mono _ _ h2
  rw [cl_in 0 (by omega) (by omega)] at this
  exact this
theorem ad_pos (a b : Int) (ha : 0 ≤ a) (hb : 0 ≤ b) : 0 ≤ ad a b := by
  have h1 := cl_mono _ _ ha
  have h2 := cl_mono _ _ hb
  rw [cl_in 0 (by omega) (by omega)] at h1 h2
  have h3 := cl_mono 0 (cl a + cl b) (by omega)
  rw [cl_in 0 (by omega) (by omega)] at h3
  exact h3
theorem lossS_bd (a b : Mx) : ∀ n, 0 ≤ lossS a b n ∧ lossS a b n ≤ 2147483647
  | 0 => ⟨Int.le_refl _, show (0 : Int) ≤ 2147483647 by decide⟩
  | n + 1 => ⟨ad_pos _ _ (lossS_bd a b n).1 (ml_sq _), (ad_bd _ _).2⟩
theorem lossS_swap (a b : Mx) : ∀ n, lossS a b n = lossS b a n
  | 0 => rfl
  | n + 1 => by show ad _ _ = ad _ _; rw [lossS_swap a b n, off_swap a b n, ml_neg]
theorem lossS_self (a : Mx) : ∀ n, lossS a a n = 0
  | 0 => rfl
  | n + 1 => by show ad _ _ = 0; rw [lossS_self a n, show offAt a a n = 0 from sb_self _]; rfl
/-- The half. -/
theorem half_ml {s : Int} (h0 : 0 ≤ s) (h1 : s ≤ 2147483647) : ml s 128 = s / 2 := by
  unfold ml
  rw [cl_in s (by omega) h1, cl_in 128 (by omega) (by omega), show s * 128 / 256 = s / 2 by omega]
  exact cl_in _ (by omega) (by omega)
theorem half_t {s : Int} (h0 : 0 ≤ s) (h1 : s ≤ 2147483647) : s.tdiv 2 = ml s 128 := by rw [half_ml h0 h1]; exact Int.tdiv_eq_ediv_of_nonneg h0
theorem half_wrap {s : Int} (h0 : 0 ≤ s) (h1 : s ≤ 2147483647) : Go.RowKit.wrap64 (s.tdiv 2) = s.tdiv 2 := by
  rw [Int.tdiv_eq_ediv_of_nonneg h0]; unfold Go.RowKit.wrap64; omega
theorem lossX_bd (a b : Mx) : 0 ≤ lossX a b := by
  unfold lossX; split
  · have h := lossS_bd a b a.cells.length; rw [half_ml h.1 h.2]; omega
  · exact Int.le_refl _
theorem addE_a {a b : Mx} (h : fault a ≠ 0) : addE a b = fault a := by
  have e : faults [a, b] = fault a := by unfold faults; rw [if_neg h]
  unfold addE; rw [if_pos (by rw [e]; exact h), e]
theorem addE_b {a b : Mx} (ha : fault a = 0) (h : fault b ≠ 0) : addE a b = fault b := by
  have e : faults [a, b] = fault b := by unfold faults; rw [if_pos ha, faults_one]
  unfold addE; rw [if_pos (by rw [e]; exact h), e]
theorem addE_s {a b : Mx} (ha : fault a = 0) (hb : fault b = 0) : addE a b = if a.rows ≠ b.rows ∨ a.cols ≠ b.cols then 2 else 0 := by
  have e : faults [a, b] = 0 := by unfold faults; rw [if_pos ha, faults_one, hb]
  unfold addE; rw [if_neg (by simp [e])]
theorem addE_good {a b : Mx} (h : addE a b = 0) : ∃ R C, Good a R C ∧ Good b R C := by
  have ha : Go.Proofs.YtbkkhdekjgabfadDoor.fault a = 0 := Classical.byContradiction fun e => e ((addE_a e).symm.trans h)
  have hb : Go.Proofs.YtbkkhdekjgabfadDoor.fault b = 0 := Classical.byContradiction fun e => e ((addE_b ha e).symm.trans h)
  obtain ⟨R, C, ga⟩ := good_of ha
  obtain ⟨R', C', gb⟩ := good_of hb
  rw [addE_s ha hb] at h
  have hs : ¬ (a.rows ≠ b.rows ∨ a.cols ≠ b.cols) := fun e => by rw [if_pos e] at h; cases h
  have := ga.r
  have := gb.r
  have := ga.c
  have := gb.c
  exact ⟨R, C, ga, gb.same (by omega) (by omega)⟩
end Go.Proofs.YtbkkhdekjgabfadDoor
