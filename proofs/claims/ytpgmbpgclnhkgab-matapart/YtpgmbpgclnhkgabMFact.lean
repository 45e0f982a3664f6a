/- What matFact of the laws comes to: the document's own product. -/
import Derived.Test.YtpgmbpgclnhkgabMLaw
namespace Go.Proofs.Ytpgmbpgclnhkgab
open Go.RowKit
def factMx : Mx := ⟨2, 2, [256, 512, 0, 256]⟩
theorem fact_E : mulE factMx factMx = 0 := by decide
theorem fact_X : mulX factMx factMx = ⟨2, 2, [256, 1024, 0, 256]⟩ := by unfold mulX; rw [if_pos fact_E]; congr 1
theorem row_ints (V : World) (zs : List Int) (h : zs.length ≤ 100) (t : TypeId) : IsInts (V.alloc (.cells (zs.map (Value.int .i64)).toArray t)) (.slice (some ⟨V.heap.size, 0, none⟩) zs.length zs.length) zs := by
  refine ⟨_, _, rfl, Nat.le_refl _, by unfold maxLen; omega, .inr ⟨V.heap.size, 0, rfl, fun i x hx => ?_⟩⟩
  rw [Nat.zero_add]
  exact box_new V _ t rfl (by simp [hx])
set_option maxHeartbeats 800000 in
theorem factm_any (w : World) : Calls Try.prog 6 #[] w fun e w' => e = .returned (.bool true) ∧ Below w.heap.size w w' := by
  have hI := row_ints w [256, 512, 0, 256] (by decide) 3
  have hI1 := hI.below (below_one _ (.cells #[.int .i64 2, .int .i64 2, .slice (some ⟨w.heap.size, 0, none⟩) 4 4] 24))
  have hM : IsMx _ (.agg #[.int .i64 2, .int .i64 2, .slice (some ⟨w.heap.size, 0, none⟩) 4 4]) factMx := ⟨_, rfl, hI1⟩
  have hc := mmul_any _ _ _ _ _ hM hM
  rw [fact_X, fact_E] at hc
  have HC := hide hc
  clear hI hI1 hM hc
  go_enter Try.func6, Try.ntmps6
  go_wp2_with fail
  refine HC.out.mono ?_
  rintro e w1 ⟨v', rfl, ⟨sv, rfl, hsv⟩, hb1, _⟩
  obtain ⟨xa, xn, xc, rfl⟩ := hsv.shape
  simp only [err_eq rfl]
  have HB1 := hide (((below_one w _).trans ((below_one _ _).mono (by simp))).trans (hb1.mono (by simp; omega)))
  have HV := hide hsv
  clear hb1 hsv HC
  go_wp2_with fail
  have hb2 := below_one w1 (.cells #[.int .i64 2, .int .i64 2, .slice xa xn xc] 24)
  have hI2 := row_ints (w1.alloc (.cells #[.int .i64 2, .int .i64 2, .slice xa xn xc] 24)) [256, 1024, 0, 256] (by decide) 3
  rw [World.size_alloc] at hI2
  have hc := ints_any _ _ _ _ _ ((HV.out.below hb2).below (below_one _ _)) hI2
  refine hc.mono ?_
  rintro e w3 ⟨rfl, n, rfl⟩
  clear hI2 hc hb2
  have hs : sameI [256, 1024, 0, 256] [256, 1024, 0, 256] = true := by decide
  simp only [hs]
  go_wp2
  go_ret
  exact ⟨rfl, HB1.out.trans ((((below_one _ _).trans ((below_one _ _).mono (by simp))).trans ((below_drewN _ _).mono (by simp; omega))).mono HB1.out.size)⟩
end Go.Proofs.Ytpgmbpgclnhkgab
