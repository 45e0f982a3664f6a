/- Plain facts on the digits behind the point: all eight of them, padded and stripped again, are those that come one by one. No Go in sight. -/
import Derived.Test.YtlfipljabbgocaaDoorTxt
import Derived.Lib.ItoaNum
namespace Go.Proofs.YtlfipljabbgocaaDoor
def dd : Nat → Nat → List UInt8
  | 0, u => [UInt8.ofNat (48 + u)]
  | f + 1, u => if u < 10 then [UInt8.ofNat (48 + u)] else dd f (u / 10) ++ [UInt8.ofNat (48 + u % 10)]
theorem dd_eq : ∀ (f u : Nat), u < 10 ^ (f + 1) → dd f u = Lib.decDigits u
  | 0, u, h => by rw [Lib.decDigits_one (by omega), dd]
  | f + 1, u, h => by
    rw [dd, Lib.decDigits]
    split
    · rfl
    · rw [dd_eq f (u / 10) (by rw [Nat.pow_succ] at h; omega)]
/-- A list, filled up to eight from ahead. -/
def pad (t : List UInt8) : List UInt8 := List.replicate (8 - t.length) 48 ++ t
theorem pad_cons (t : List UInt8) (h : t.length < 8) : pad (48 :: t) = pad t := by
  unfold pad
  obtain ⟨k, hk⟩ : ∃ k, 8 - t.length = k + 1 := ⟨7 - t.length, by omega⟩
  rw [hk, List.length_cons, show 8 - (t.length + 1) = k by omega, List.replicate_succ']
  simp
theorem pad_full (t : List UInt8) (h : 8 ≤ t.length) : pad t = t := by
  unfold pad; rw [show 8 - t.length = 0 by omega]; rfl
theorem part_dd : ∀ r, r < 256 → r ≠ 0 → pad (dd 8 (r * 390625)) = bpd 8 r ++ List.replicate (8 - (bpd 8 r).length) 48 ∧ (bpd 8 r).getLast? ≠ some 48 ∧ bpd 8 r ≠ [] := by decide +kernel
theorem part_pad (r : Nat) (h : r < 256) (h0 : r ≠ 0) : pad (Lib.decDigits (r * 390625)) = bpd 8 r ++ List.replicate (8 - (bpd 8 r).length) 48 := by
  rw [← dd_eq 8 _ (by omega)]; exact (part_dd r h h0).1
theorem last_cases (u : List UInt8) (i : Nat) (hu : u ≠ []) (hl : u.getLast? ≠ some 48) : u ++ List.replicate i 48 ≠ [] ∧ ((u ++ List.replicate i 48).getLast? = some 48 → ∃ j, i = j + 1) ∧ ((u ++ List.replicate i 48).getLast? ≠ some 48 → i = 0) := by
  refine ⟨by simp [hu], fun h => ?_, fun h => ?_⟩
  · cases i with
    | zero => simp at h; exact absurd h hl
    | succ j => exact ⟨j, rfl⟩
  · cases i with
    | zero => rfl
    | succ j => exact absurd (by simp [List.replicate_succ']) h
theorem strip_one (u : List UInt8) (j n : Nat) (h : (u ++ List.replicate (j + 1) (48 : UInt8)).length = n + 1) : (u ++ List.replicate (j + 1) (48 : UInt8)).take n = u ++ List.replicate j 48 := by
  rw [List.replicate_succ', ← List.append_assoc]
  have e : n = (u ++ List.replicate j (48 : UInt8)).length := by simp at h ⊢; omega
  rw [e, List.take_left']
  rfl
end Go.Proofs.YtlfipljabbgocaaDoor
