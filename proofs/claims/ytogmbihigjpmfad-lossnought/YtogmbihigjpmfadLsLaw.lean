/- How far two matrices are off, the one way and the other way round: plain facts. No program in sight. -/
import Derived.Test.YtogmbihigjpmfadLoss
namespace Go.Proofs.Ytogmbihigjpmfad
theorem addE_of {a b : Mx} {R C : Nat} (ga : Good a R C) (gb : Good b R C) : addE a b = 0 := by
  rw [addE_s ga.fault gb.fault, if_neg (by have := ga.r; have := gb.r; have := ga.c; have := gb.c; omega)]
theorem off_at {a b : Mx} {R C i : Nat} (ga : Good a R C) (h : addE a b = 0) (hi : i < R * C) : (offX a b).cells[i]? = some (offAt a b i) := by
  unfold offX; rw [if_pos h, ga.l]; exact tab_at hi
theorem off_len {a b : Mx} {R C : Nat} (ga : Good a R C) (h : addE a b = 0) : (offX a b).cells.length = R * C := by
  unfold offX; rw [if_pos h, ga.l]; simp [tab]
theorem nought_facts {a b : Mx} (h : addE a b = 0) : ∃ n, n ≤ 576 ∧ addE b a = 0 ∧ addE a a = 0 ∧ lossX b a = lossX a b ∧ lossX a a = 0 ∧ 0 ≤ lossX a b ∧ (offX a b).cells.length = n ∧ (offX b a).cells.length = n ∧
    ∀ i, i < n → ∃ d, (offX a b).cells[i]? = some (-d) ∧ (offX b a).cells[i]? = some d ∧ -2147483647 ≤ d ∧ d ≤ 2147483647 := by
  obtain ⟨R, C, ga, gb⟩ := addE_good h
  have h1 := addE_of gb ga
  have h2 := addE_of ga ga
  refine ⟨R * C, by have := Nat.mul_le_mul ga.hR ga.hC; omega, h1, h2, ?_, ?_, lossX_bd a b, off_len ga h, off_len gb h1, fun i hi => ⟨offAt b a i, ?_, off_at gb h1 hi, ?_⟩⟩
  · unfold lossX; rw [if_pos h, if_pos h1, ga.l, gb.l, lossS_swap]
  · unfold lossX; rw [if_pos h2, lossS_self]; rfl
  · rw [off_at ga h hi, off_swap]
  · unfold offAt sb; exact cl_bd _
def factA : Mx := ⟨1, 2, [512, 0]⟩
def factB : Mx := ⟨1, 2, [256, 256]⟩
theorem factE : addE factA factB = 0 := by decide
theorem factL : lossX factA factB = 256 := by unfold lossX; rw [if_pos factE]; rfl
end Go.Proofs.Ytogmbihigjpmfad
