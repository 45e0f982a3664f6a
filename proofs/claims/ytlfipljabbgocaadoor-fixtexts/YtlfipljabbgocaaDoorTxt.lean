/- Plain facts on the digits behind the point: each step takes one factor 2 of 256 away, so eight digits are enough. No Go in sight. -/
namespace Go.Proofs.YtlfipljabbgocaaDoor
/-- The digits behind the point of r / 256, at most so many as the first number says. -/
def bpd : Nat → Nat → List UInt8
  | 0, _ => []
  | f + 1, r => if r = 0 then [] else UInt8.ofNat (48 + r * 10 / 256) :: bpd f (r * 10 % 256)
/-- They with their point; nothing, if nothing is behind it. -/
def bp (r : Nat) : List UInt8 := if r = 0 then [] else 46 :: bpd 8 r
theorem bpd_zero (f : Nat) : bpd f 0 = [] := by cases f <;> simp [bpd]
theorem bpd_succ (f r : Nat) (h : 0 < r) : bpd (f + 1) r = UInt8.ofNat (48 + r * 10 / 256) :: bpd f (r * 10 % 256) := by
  rw [bpd, if_neg (by omega)]
theorem two_step (f r : Nat) (h : r * 2 ^ (f + 1) % 256 = 0) : (r * 10 % 256) * 2 ^ f % 256 = 0 := by
  have e : r * 10 * 2 ^ f = r * 2 ^ (f + 1) * 5 := by
    rw [Nat.pow_succ, Nat.mul_assoc, Nat.mul_assoc, show 10 * 2 ^ f = 2 ^ f * 2 * 5 by omega]
  rw [Nat.mod_mul_mod, e, Nat.mul_mod, h]
theorem two_end (r : Nat) (h : r < 256) (h0 : r * 2 ^ 0 % 256 = 0) : r = 0 := by omega
theorem digit_bd (r : Nat) (h : r < 256) : r * 10 / 256 < 10 := by omega
/-- What the loop holds behind each round: what stands, and what is still to come. -/
def BpRel (r0 k r : Nat) (l : List UInt8) : Prop := k ≤ 8 ∧ r < 256 ∧ l.length = k + 1 ∧ r * 2 ^ (8 - k) % 256 = 0 ∧ l ++ bpd (8 - k) r = 46 :: bpd 8 r0
theorem bpRel_start (r : Nat) (h : r < 256) : BpRel r 0 r [46] := ⟨by omega, h, rfl, by omega, rfl⟩
theorem bpRel_lt {r0 k r : Nat} {l : List UInt8} (h : BpRel r0 k r l) (hr : 0 < r) : k < 8 := by
  obtain ⟨h1, h2, _, h4, _⟩ := h
  rcases Nat.lt_or_ge k 8 with e | e
  · exact e
  · have : k = 8 := by omega
    subst this; have := two_end r h2 (by simpa using h4); omega
theorem bpRel_step {r0 k r : Nat} {l : List UInt8} (h : BpRel r0 k r l) (hr : 0 < r) : BpRel r0 (k + 1) (r * 10 % 256) (l ++ [UInt8.ofNat (48 + r * 10 / 256)]) := by
  have hk := bpRel_lt h hr
  obtain ⟨h1, h2, h3, h4, h5⟩ := h
  obtain ⟨f, hf⟩ : ∃ f, 8 - k = f + 1 := ⟨7 - k, by omega⟩
  have hf' : 8 - (k + 1) = f := by omega
  rw [hf] at h4 h5
  refine ⟨by omega, by omega, by simp; omega, ?_, ?_⟩
  · rw [hf']; exact two_step f r h4
  · rw [hf', List.append_assoc]; rw [bpd_succ f r hr] at h5; simpa using h5
theorem bpRel_end {r0 k : Nat} {l : List UInt8} (h : BpRel r0 k 0 l) : l = 46 :: bpd 8 r0 := by
  obtain ⟨_, _, _, _, h5⟩ := h
  rw [bpd_zero, List.append_nil] at h5; exact h5
end Go.Proofs.YtlfipljabbgocaaDoor
