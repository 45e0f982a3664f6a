/- How far what is read reaches: plain facts for a message that is read. No program in sight. -/
import Derived.Test.YtaajlggpjholeahDoorWrP
namespace Go.Proofs.YtaajlggpjholeahDoor
theorem pow_pos128 (k : Nat) : (1 : Int) ≤ 128 ^ k := by
  induction k with
  | zero => simp
  | succ k ih => rw [Int.pow_succ]; omega
theorem rdB_drop : ∀ {j : Nat} {f : Bool} {P acc : Int} {l : List Int} {x : Int} {t : List Int}, rdB j f P acc l = some (x, t) → ∃ c, 1 ≤ c ∧ c ≤ j ∧ c ≤ l.length ∧ t = l.drop c
  | 0, f, P, acc, l, x, t, h => by simp [rdB] at h
  | j + 1, f, P, acc, [], x, t, h => by simp [rdB] at h
  | j + 1, f, P, acc, d :: l, x, t, h => by
    unfold rdB at h
    by_cases c : d < 128
    · rw [if_pos c] at h
      by_cases e : d = 0 ∧ f = false
      · rw [if_pos e] at h; cases h
      · rw [if_neg e] at h
        have h := Option.some.inj h
        exact ⟨1, by omega, by omega, by simp, by rw [← (Prod.mk.inj h).2]; rfl⟩
    · rw [if_neg c] at h
      obtain ⟨q, q1, q2, q3, q4⟩ := rdB_drop h
      exact ⟨q + 1, by omega, by omega, by simp; omega, by rw [q4]; rfl⟩
theorem rdB_bd : ∀ {j : Nat} {f : Bool} {P acc : Int} {l : List Int} {x : Int} {t : List Int}, (∀ d ∈ l, 0 ≤ d ∧ d < 256) → 0 ≤ acc → acc < P → rdB j f P acc l = some (x, t) → 0 ≤ x ∧ x < P * 128 ^ j
  | 0, f, P, acc, l, x, t, _, _, _, h => by simp [rdB] at h
  | j + 1, f, P, acc, [], x, t, _, _, _, h => by simp [rdB] at h
  | j + 1, f, P, acc, d :: l, x, t, hl, h0, h1, h => by
    have hd := hl d (by simp)
    have hP : 0 < P := by omega
    have hs0 : 0 ≤ d % 128 * P := Int.mul_nonneg (by omega) (by omega)
    have hs1 : d % 128 * P ≤ 127 * P := Int.mul_le_mul_of_nonneg_right (by omega) (by omega)
    have hp := pow_pos128 j
    have hbig : P * 128 ≤ P * 128 ^ (j + 1) := by
      rw [Int.pow_succ, ← Int.mul_assoc, Int.mul_comm (P * 128 ^ j) 128, Int.mul_comm P 128]
      refine Int.mul_le_mul_of_nonneg_left ?_ (by omega)
      have := Int.mul_le_mul_of_nonneg_left hp (Int.le_of_lt hP)
      omega
    unfold rdB at h
    by_cases c : d < 128
    · rw [if_pos c] at h
      by_cases e : d = 0 ∧ f = false
      · rw [if_pos e] at h; cases h
      · rw [if_neg e] at h
        have h := (Prod.mk.inj (Option.some.inj h)).1
        omega
    · rw [if_neg c] at h
      have := rdB_bd (fun d hd => hl d (List.mem_cons_of_mem _ hd)) (by omega) (by omega) h
      rw [Int.mul_assoc, Int.mul_comm 128, ← Int.pow_succ] at this
      exact this
theorem rd1_at {l : List Int} {a : Nat} {x : Int} {t : List Int} (hb : ∀ d ∈ l, 0 ≤ d ∧ d < 256) (h : rd1 (l.drop a) = some (x, t)) : ∃ c, 1 ≤ c ∧ c ≤ 9 ∧ a + c ≤ l.length ∧ t = l.drop (a + c) ∧ 0 ≤ x ∧ x ≤ 9223372036854775807 := by
  unfold rd1 at h
  obtain ⟨c, c1, c2, c3, c4⟩ := rdB_drop h
  have hx := rdB_bd (fun d hd => hb d (List.mem_of_mem_drop hd)) (by omega) (by omega) h
  rw [List.length_drop] at c3
  rw [List.drop_drop] at c4
  refine ⟨c, c1, c2, by omega, c4, hx.1, ?_⟩
  have : (1 : Int) * 128 ^ 9 = 9223372036854775808 := by decide
  omega
theorem rdNs_no {k : Nat} {b : List Int} (h : rd1 b = none) : rdNs (k + 1) b = none := by rw [rdNs, h]
theorem rdNs_yes {k : Nat} {b t : List Int} {x : Int} (h : rd1 b = some (x, t)) : rdNs (k + 1) b = match rdNs k t with | none => none | some (l, t') => some (x :: l, t') := by
  rw [rdNs, h]
  dsimp only
  cases rdNs k t <;> rfl
/-- So many numbers have been read, and so many are to come. -/
def Came (l : List Int) (K k : Nat) (hs : List Int) (a : Nat) (base : Nat) : Prop := hs.length = k ∧ rdNs K (l.drop base) = match rdNs (K - k) (l.drop a) with | none => none | some (r, t) => some (hs ++ r, t)
theorem Came.first (l : List Int) (K base : Nat) : Came l K 0 [] base base := ⟨rfl, by cases rdNs K (l.drop base) <;> rfl⟩
theorem Came.no {l : List Int} {K k a base : Nat} {hs : List Int} (h : Came l K k hs a base) (hk : k < K) (hr : rd1 (l.drop a) = none) : rdNs K (l.drop base) = none := by
  rw [h.2, show K - k = (K - (k + 1)) + 1 by omega, rdNs_no hr]
theorem Came.next {l : List Int} {K k a a' base : Nat} {hs : List Int} {x : Int} (h : Came l K k hs a base) (hk : k < K) (hr : rd1 (l.drop a) = some (x, l.drop a')) : Came l K (k + 1) (hs ++ [x]) a' base := by
  refine ⟨by rw [List.length_append, h.1]; rfl, ?_⟩
  rw [h.2, show K - k = (K - (k + 1)) + 1 by omega, rdNs_yes hr]
  cases rdNs (K - (k + 1)) (l.drop a') with
  | none => rfl
  | some q => obtain ⟨r, t⟩ := q; simp
theorem Came.done {l : List Int} {K a base : Nat} {hs : List Int} (h : Came l K K hs a base) : rdNs K (l.drop base) = some (hs, l.drop a) := by
  rw [h.2, Nat.sub_self]
  simp [rdNs]
end Go.Proofs.YtaajlggpjholeahDoor
