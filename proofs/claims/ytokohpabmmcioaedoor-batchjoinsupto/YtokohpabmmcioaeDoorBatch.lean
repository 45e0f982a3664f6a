/- Batches as plain data: what is wrong with one, how many rows each part has, the parts. No program in sight. -/
import Derived.Test.YtokohpabmmcioaeDoorNetP
namespace Go.Proofs.YtokohpabmmcioaeDoor
open Go.RowKit
/-- What is wrong with a batch (what goes in, what ought to come). -/
def batE (b : Mx × Mx) : Int := if fault b.1 ≠ 0 then fault b.1 else if fault b.2 ≠ 0 then fault b.2 else if b.1.rows ≠ b.2.rows ∨ b.1.rows = 0 then 2 else 0
/-- How many of the first i numbers leave j when parted by p. -/
def cnt (p j : Nat) : Nat → Int
  | 0 => 0
  | i + 1 => cnt p j i + if i % p = j then 1 else 0
def szE (rows parts : Int) : Int := if rows < 1 ∨ 24 < rows ∨ parts < 1 ∨ 12 < parts then 1 else if rows < parts then 2 else 0
def szX (rows parts : Int) : List Int := if szE rows parts = 0 then tab parts.toNat (fun j => cnt parts.toNat j rows.toNat) else []
/-- Where part j begins. -/
def begAt (p r : Nat) : Nat → Int
  | 0 => 0
  | j + 1 => begAt p r j + cnt p j r
theorem cnt_nonneg (p j : Nat) : ∀ i, 0 ≤ cnt p j i
  | 0 => Int.le_refl _
  | i + 1 => by have := cnt_nonneg p j i; show 0 ≤ cnt p j i + _; split <;> omega
theorem cnt_le (p j : Nat) : ∀ i, cnt p j i ≤ (i : Int)
  | 0 => Int.le_refl _
  | i + 1 => by have := cnt_le p j i; show cnt p j i + _ ≤ _; split <;> omega
theorem begAt_zero (p : Nat) : ∀ j, begAt p 0 j = 0
  | 0 => rfl
  | j + 1 => by show begAt p 0 j + 0 = 0; rw [begAt_zero p j]; rfl
theorem begAt_succ (p r : Nat) : ∀ j, begAt p (r + 1) j = begAt p r j + if r % p < j then 1 else 0
  | 0 => by simp [begAt]
  | j + 1 => by
    show begAt p (r + 1) j + (cnt p j r + if r % p = j then 1 else 0) = (begAt p r j + cnt p j r) + _
    rw [begAt_succ p r j]
    by_cases h1 : r % p < j
    · rw [if_pos h1, if_neg (by omega), if_pos (by omega)]; omega
    · by_cases h2 : r % p = j
      · rw [if_neg h1, if_pos h2, if_pos (by omega)]; omega
      · rw [if_neg h1, if_neg h2, if_neg (by omega)]; omega
theorem begAt_nonneg (p r : Nat) : ∀ j, 0 ≤ begAt p r j
  | 0 => Int.le_refl _
  | j + 1 => by have := begAt_nonneg p r j; have := cnt_nonneg p j r; show 0 ≤ begAt p r j + cnt p j r; omega
theorem begAt_le (p j : Nat) : ∀ r, begAt p r j ≤ (r : Int)
  | 0 => by rw [begAt_zero]; exact Int.le_refl _
  | r + 1 => by have := begAt_le p j r; rw [begAt_succ]; split <;> omega
/-- All rows are dealt out. -/
theorem begAt_all (p : Nat) (hp : 0 < p) : ∀ r, begAt p r p = (r : Int)
  | 0 => by rw [begAt_zero]; rfl
  | r + 1 => by rw [begAt_succ, begAt_all p hp r, if_pos (Nat.mod_lt _ hp)]; omega
/-- As many as the quotient, and one more where the rest reaches. -/
theorem cnt_eq (p j : Nat) (hp : 0 < p) (hj : j < p) : ∀ r, cnt p j r = ((r / p : Nat) : Int) + if j < r % p then 1 else 0
  | 0 => by simp [cnt]
  | r + 1 => by
    show cnt p j r + (if r % p = j then 1 else 0) = _
    rw [cnt_eq p j hp hj r]
    have hlt := Nat.mod_lt r hp
    have hdm := Nat.div_add_mod r p
    by_cases h : r % p + 1 < p
    · have e1 : (r + 1) / p = r / p := by
        apply Nat.div_eq_of_lt_le
        · rw [Nat.mul_comm]; omega
        · rw [Nat.succ_mul, Nat.mul_comm]; omega
      have e2 : (r + 1) % p = r % p + 1 := by have h2 := Nat.div_add_mod (r + 1) p; rw [e1] at h2; omega
      rw [e1, e2]
      by_cases h1 : j < r % p
      · rw [if_pos h1, if_neg (by omega), if_pos (by omega)]; omega
      · by_cases h2 : r % p = j
        · rw [if_neg h1, if_pos h2, if_pos (by omega)]; omega
        · rw [if_neg h1, if_neg h2, if_neg (by omega)]; omega
    · have e0 : r + 1 = p * (r / p + 1) := by rw [Nat.mul_succ]; omega
      have e1 : (r + 1) / p = r / p + 1 := by rw [e0, Nat.mul_div_cancel_left _ hp]
      have e2 : (r + 1) % p = 0 := by rw [e0, Nat.mul_mod_right]
      rw [e1, e2]
      by_cases h1 : j < r % p
      · rw [if_pos h1, if_neg (by omega), if_neg (by omega)]; omega
      · rw [if_neg h1, if_pos (by omega), if_neg (by omega)]; omega
/-- The parts of a batch. -/
def partX (b : Mx × Mx) (p r j : Nat) : Mx × Mx := (rowsX b.1 (begAt p r j) (begAt p r (j + 1)), rowsX b.2 (begAt p r j) (begAt p r (j + 1)))
def splE (b : Mx × Mx) (parts : Int) : Int := if batE b ≠ 0 then batE b else szE b.1.rows parts
def splX (b : Mx × Mx) (parts : Int) : List (Mx × Mx) := if splE b parts = 0 then (List.range parts.toNat).map (partX b parts.toNat b.1.rows.toNat) else []
theorem bat_good {b : Mx × Mx} (h : batE b = 0) : fault b.1 = 0 ∧ fault b.2 = 0 ∧ b.1.rows = b.2.rows ∧ b.1.rows ≠ 0 := by
  unfold batE at h
  by_cases h1 : fault b.1 = 0
  · rw [if_neg (by simp [h1])] at h
    by_cases h2 : fault b.2 = 0
    · rw [if_neg (by simp [h2])] at h
      by_cases h3 : b.1.rows ≠ b.2.rows ∨ b.1.rows = 0
      · rw [if_pos h3] at h; cases h
      · exact ⟨h1, h2, Classical.byContradiction fun e => h3 (.inl e), fun e => h3 (.inr e)⟩
    · rw [if_pos h2] at h; exact absurd h h2
  · rw [if_pos h1] at h; exact absurd h h1
end Go.Proofs.YtokohpabmmcioaeDoor
