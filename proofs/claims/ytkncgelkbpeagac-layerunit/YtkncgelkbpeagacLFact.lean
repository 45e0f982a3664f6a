/- What layerFact of the laws comes to: the document's own layer. -/
import Derived.Test.YtkncgelkbpeagacLGo
namespace Go.Proofs.Ytkncgelkbpeagac
open Go.RowKit
def factL : Ly := ⟨1, ⟨2, 2, [256, 0, 0, 512]⟩, ⟨1, 2, [1, 2]⟩⟩
def factX : Mx := ⟨1, 2, [3, 4]⟩
theorem factL_E : goE factL factX = 0 := by decide
theorem factL_X : goX factL factX = ⟨1, 2, [4, 10]⟩ := by unfold goX; rw [if_pos factL_E]; rfl
theorem ints_new (V : World) (zs : List Int) (h : zs.length ≤ 100) (t : TypeId) : IsInts (V.alloc (.cells (zs.map (Value.int .i64)).toArray t)) (.slice (some ⟨V.heap.size, 0, none⟩) zs.length zs.length) zs := by
  refine ⟨_, _, rfl, Nat.le_refl _, by unfold maxLen; omega, .inr ⟨V.heap.size, 0, rfl, fun i x hx => ?_⟩⟩
  rw [Nat.zero_add]
  exact box_new V _ t rfl (by simp [hx])
theorem ints_newB (V : World) (zs : List Int) (h : zs.length ≤ 100) (t : TypeId) {B : Nat} (hB : V.heap.size = B) : IsInts (V.alloc (.cells (zs.map (Value.int .i64)).toArray t)) (.slice (some ⟨B, 0, none⟩) zs.length zs.length) zs := by subst hB; exact ints_new V zs h t
set_option maxHeartbeats 1600000 in
theorem lfact_any (w : World) : Calls Try.prog 6 #[] w fun e w' => e = .returned (.bool true) ∧ Below w.heap.size w w' := by
  have i1 := ints_new w [256, 0, 0, 512] (by decide) 3
  have i2 := ints_newB (w.alloc (.cells #[.int .i64 256, .int .i64 0, .int .i64 0, .int .i64 512] 3)) [1, 2] (by decide) 3 (B := w.heap.size + 1) (by simp)
  have b1 := below_one (w.alloc (.cells #[.int .i64 256, .int .i64 0, .int .i64 0, .int .i64 512] 3)) (.cells #[.int .i64 1, .int .i64 2] 3)
  obtain ⟨V, hV⟩ : ∃ V, V = (w.alloc (.cells #[.int .i64 256, .int .i64 0, .int .i64 0, .int .i64 512] 3)).alloc (.cells #[.int .i64 1, .int .i64 2] 3) := ⟨_, rfl⟩
  have j1 := i1.below b1
  have HW := hide (below_next (below_one w (.cells #[.int .i64 256, .int .i64 0, .int .i64 0, .int .i64 512] 3)) b1)
  have hVs : V.heap.size = w.heap.size + 1 + 1 := by rw [hV]; simp
  have j2 : IsInts V (.slice (some ⟨w.heap.size + 1, 0, none⟩) 2 2) [1, 2] := by rw [hV]; exact i2
  have j1' : IsInts V (.slice (some ⟨w.heap.size, 0, none⟩) 4 4) [256, 0, 0, 512] := by rw [hV]; exact j1
  rw [← hV] at HW
  have HV := hide hV
  have HJ := hide (And.intro j1' j2)
  have HVS := hide hVs
  clear i1 i2 b1 j1 j1' j2 hV hVs
  have hb2 := below_one V (.cells #[.int .i64 1, .int .i64 2, .int .i64 2, .slice (some ⟨w.heap.size, 0, none⟩) 4 4, .int .i64 1, .int .i64 2, .slice (some ⟨w.heap.size + 1, 0, none⟩) 2 2] 26)
  have hb3 := below_one (V.alloc (.cells #[.int .i64 1, .int .i64 2, .int .i64 2, .slice (some ⟨w.heap.size, 0, none⟩) 4 4, .int .i64 1, .int .i64 2, .slice (some ⟨w.heap.size + 1, 0, none⟩) 2 2] 26)) (.cells #[.int .i64 3, .int .i64 4] 3)
  have hD := below_next hb2 hb3
  have k1 := ints_newB (V.alloc (.cells #[.int .i64 1, .int .i64 2, .int .i64 2, .slice (some ⟨w.heap.size, 0, none⟩) 4 4, .int .i64 1, .int .i64 2, .slice (some ⟨w.heap.size + 1, 0, none⟩) 2 2] 26)) [3, 4] (by decide) 3 (B := V.heap.size + 1) (by simp)
  have hL : IsLy _ (.agg #[.int .i64 1, .int .i64 2, .int .i64 2, .slice (some ⟨w.heap.size, 0, none⟩) 4 4, .int .i64 1, .int .i64 2, .slice (some ⟨w.heap.size + 1, 0, none⟩) 2 2]) factL := ⟨_, _, rfl, HJ.out.1.below hD, HJ.out.2.below hD⟩
  have hX : IsMx _ (.agg #[.int .i64 1, .int .i64 2, .slice (some ⟨V.heap.size + 1, 0, none⟩) 2 2]) factX := ⟨_, rfl, k1⟩
  have hc := lgo_any _ _ _ _ _ hL hX
  rw [factL_X, factL_E] at hc
  have HC := hide hc
  have HD := hide hD
  rw [HVS.out] at HC
  clear hb2 hb3 k1 hL hX hc hD
  go_enter Try.func6, Try.ntmps6
  go_wp2_with fail
  rw [← HV.out]
  refine HC.out.mono ?_
  rintro e w1 ⟨v', rfl, ⟨sv, rfl, hsv⟩, hb1, _⟩
  obtain ⟨xa, xn, xc, rfl⟩ := hsv.shape
  simp only [err_eq rfl]
  have HB1 := hide (below_next (below_next HW.out HD.out) hb1)
  have HS := hide hsv
  clear hb1 hsv HC
  go_wp2_with fail
  have hb2 := below_one w1 (.cells #[.int .i64 1, .int .i64 2, .slice xa xn xc] 24)
  have hI2 := ints_newB (w1.alloc (.cells #[.int .i64 1, .int .i64 2, .slice xa xn xc] 24)) [4, 10] (by decide) 3 (B := w1.heap.size + 1) (by simp)
  have hc := ints_any _ _ _ _ _ ((HS.out.below hb2).below (below_one _ _)) hI2
  refine hc.mono ?_
  rintro e w3 ⟨rfl, n, rfl⟩
  clear hI2 hc hb2
  have hs : sameI [4, 10] [4, 10] = true := by decide
  simp only [hs]
  go_wp2
  go_ret
  exact ⟨rfl, below_next HB1.out (below_next (below_next (below_one _ _) (below_one _ _)) (below_drewN _ _))⟩
end Go.Proofs.Ytkncgelkbpeagac
