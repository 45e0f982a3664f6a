/- What Check of package net comes to: how wide a net is, or what is wrong. -/
import Derived.Test.YtbkkhdekjgabfadNetP
import Derived.Test.YtbkkhdekjgabfadLWide
import Derived.Test.YtbkkhdekjgabfadReg
namespace Go.Proofs.Ytbkkhdekjgabfad
open Go.RowKit
theorem count_any (a : Option Addr) (N cap : Nat) (w : World) (hN : N ≤ maxLen) : Calls Try.prog 16 #[.slice a N cap] w fun e w' => e = .returned (errV (if 12 < N then 3 else 0)) ∧ w' = w := by
  unfold maxLen at hN
  by_cases h12 : 12 < N
  · have h12' : (12 : Int) < (N : Int) := by omega
    rw [if_pos h12]
    go_enter Try.func16, Try.ntmps16
    go_wp2
    go_ret
    exact ⟨rfl, rfl⟩
  · have h12' : ¬ (12 : Int) < (N : Int) := by omega
    rw [if_neg h12]
    go_enter Try.func16, Try.ntmps16
    go_wp2
    go_ret
    exact ⟨rfl, rfl⟩
theorem gives_range {l : Ly} {m : Int} (h : wideE l m = 0) : 0 ≤ givesL l m ∧ givesL l m ≤ 12 := by
  unfold wideE at h
  by_cases hf : lfault l = 0
  · rw [if_neg (by simp [hf])] at h
    by_cases hm : m < 0 ∨ 12 < m
    · rw [if_pos hm] at h; cases h
    · obtain ⟨_, _, fw, _, _⟩ := lgood_of hf
      obtain ⟨_, Cw, gw⟩ := good_of fw
      have h1 := gw.c
      have h2 := gw.hC
      unfold givesL; split <;> omega
  · rw [if_pos hf] at h; exact absurd h hf
end Go.Proofs.Ytbkkhdekjgabfad
