/- Numbers of cells: row, column and place; bounds. No program in sight. -/
import Derived.Test.YtkncgelkbpeagacRow
namespace Go.Proofs.Ytkncgelkbpeagac
open Go.RowKit
theorem at_div {R i j : Nat} (h : i < R) : (j * R + i) % R = i ∧ (j * R + i) / R = j := by
  constructor
  · rw [Nat.add_comm, Nat.add_mul_mod_self_right, Nat.mod_eq_of_lt h]
  · rw [Nat.add_comm, Nat.add_mul_div_right _ _ (by omega), Nat.div_eq_of_lt h, Nat.zero_add]
theorem idx_lt {R C i j : Nat} (hi : i < R) (hj : j < C) : i * C + j < R * C := by
  have := Nat.mul_le_mul_right C (show i + 1 ≤ R by omega)
  rw [Nat.add_mul] at this; omega
theorem mul_cast_idx {i j C : Nat} {xi xj c : Int} (h1 : xi = (i : Int)) (h2 : xj = (j : Int)) (h3 : c = (C : Int)) : xi * c + xj = ((i * C + j : Nat) : Int) := by subst h1 h2 h3; simp
theorem idx_nat {i j C : Nat} {xi xj c : Int} (h1 : xi = (i : Int)) (h2 : xj = (j : Int)) (h3 : c = (C : Int)) : (xi * c + xj).toNat = i * C + j := by rw [mul_cast_idx h1 h2 h3]; exact Int.toNat_natCast _
theorem mul_bds {i C : Nat} {xi c : Int} (h1 : xi = (i : Int)) (h3 : c = (C : Int)) (hi : i ≤ 24) (hC : C ≤ 24) : 0 ≤ xi * c ∧ xi * c ≤ 576 := by
  subst h1 h3
  have h := Nat.mul_le_mul hi hC
  have e : ((i * C : Nat) : Int) = (i : Int) * (C : Int) := by simp
  refine ⟨Int.mul_nonneg (by omega) (by omega), ?_⟩
  rw [← e]; omega
theorem wrap_in {x : Int} (h0 : -1000000 ≤ x) (h1 : x ≤ 1000000) : IntKind.i64.wrap x = x := by rw [IntKind.wrap_i64]; omega
theorem wrap_in' {x : Int} (h0 : -1000000 ≤ x) (h1 : x ≤ 1000000) : wrap64 x = x := by unfold wrap64; omega
theorem cell_num {C q : Nat} : q / C * C + q % C = q := by rw [Nat.mul_comm, Nat.div_add_mod]
end Go.Proofs.Ytkncgelkbpeagac
