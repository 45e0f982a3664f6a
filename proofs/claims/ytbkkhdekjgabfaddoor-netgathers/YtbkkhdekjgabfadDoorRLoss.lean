/- What LossFault and LossOf of the document's answer come to: what is wrong with two matrices, how far they are off, and what goes back. -/
import Derived.Test.YtbkkhdekjgabfadDoorRBlank
import Derived.Test.YtbkkhdekjgabfadDoorFixRef
import Derived.Test.YtbkkhdekjgabfadDoorLBox
import Derived.Test.YtbkkhdekjgabfadDoorThree
import Derived.Test.YtbkkhdekjgabfadDoorLoss
namespace Go.Proofs.YtbkkhdekjgabfadDoor
open Go.RowKit
set_option maxHeartbeats 1600000 in
theorem rlossfault_any (va vb : Value) (ma mb : Mx) (w : World) (hva : IsMx w va ma) (hvb : IsMx w vb mb) : Calls Tryd.prog 35 #[va, vb] w fun e w' => e = .returned (.int .i64 (addE ma mb)) ∧ Below w.heap.size w w' := by
  obtain ⟨sa, rfl, hsa⟩ := hva
  obtain ⟨sb', rfl, hsb⟩ := hvb
  obtain ⟨xa, xn, xk, rfl⟩ := hsa.shape
  obtain ⟨ya, yn, yk, rfl⟩ := hsb.shape
  obtain ⟨r, er⟩ : ∃ r, ma.rows = r := ⟨_, rfl⟩
  obtain ⟨c, ec⟩ : ∃ c, ma.cols = c := ⟨_, rfl⟩
  obtain ⟨r', er'⟩ : ∃ r, mb.rows = r := ⟨_, rfl⟩
  obtain ⟨c', ec'⟩ : ∃ c, mb.cols = c := ⟨_, rfl⟩
  have HA := hide (fun W (h : Below w.heap.size w W) => fault_any (.agg #[.int .i64 ma.rows, .int .i64 ma.cols, .slice xa xn xk]) ma W ⟨_, rfl, hsa.below h⟩)
  have HB := hide (fun W (h : Below w.heap.size w W) => fault_any (.agg #[.int .i64 mb.rows, .int .i64 mb.cols, .slice ya yn yk]) mb W ⟨_, rfl, hsb.below h⟩)
  rw [er, ec] at HA
  rw [er', ec'] at HB
  have HES := hide (fun (h1 : fault ma = 0) (h2 : fault mb = 0) => addE_s h1 h2)
  rw [er, ec, er', ec'] at HES
  rw [er, ec, er', ec']
  obtain ⟨E, hE⟩ : ∃ E, addE ma mb = E := ⟨_, rfl⟩
  have HE := hide hE
  rw [hE] at HES ⊢
  obtain ⟨V, hV⟩ : ∃ V, V = ((w.alloc (.cells #[.int .i64 r, .int .i64 c, .slice xa xn xk] 25)).alloc (.cells #[.int .i64 r', .int .i64 c', .slice ya yn yk] 25)) := ⟨_, rfl⟩
  have HV := hide hV
  have HWV : Hid (Below w.heap.size w V) := by rw [hV]; exact hide (below_next (below_one _ _) (below_one _ _))
  have HXA : Hid (Box V w.heap.size [.int .i64 r, .int .i64 c, .slice xa xn xk]) := by rw [hV]; exact hide ((Box.new w [.int .i64 r, .int .i64 c, .slice xa xn xk] 25 rfl).below (below_one _ _))
  have HXB : Hid (Box V (w.heap.size + 1) [.int .i64 r', .int .i64 c', .slice ya yn yk]) := by rw [hV]; exact hide (Box.new _ [.int .i64 r', .int .i64 c', .slice ya yn yk] 25 (by simp))
  clear hsa hsb er ec er' ec' hV hE
  have d0 := HXA.out 0 _ rfl
  have d1 := HXA.out 1 _ rfl
  have d2 := HXA.out 2 _ rfl
  rw [HV.out] at d0 d1 d2
  go_enter Tryd.func35, Tryd.ntmps35
  go_wp2_with fail
  rw [← HV.out]
  refine (HA.out _ HWV.out).mono ?_
  rintro e w1 ⟨rfl, hb1⟩
  have HB1 := hide hb1
  clear hb1 d0 d1 d2 HA
  by_cases ha : fault ma = 0
  · rw [ha]
    have y0 := (HXB.out.below HB1.out) 0 _ rfl
    have y1 := (HXB.out.below HB1.out) 1 _ rfl
    have y2 := (HXB.out.below HB1.out) 2 _ rfl
    have HFA := hide ha
    clear ha
    go_wp2_with fail
    refine (HB.out _ (below_next HWV.out HB1.out)).mono ?_
    rintro e w2 ⟨rfl, hb2⟩
    have HB2 := hide (below_next HB1.out hb2)
    clear hb2 y0 y1 y2 HB
    by_cases hb : fault mb = 0
    · rw [hb]
      have hes := HES.out HFA.out hb
      have d0 := (HXA.out.below HB2.out) 0 _ rfl
      have d1 := (HXA.out.below HB2.out) 1 _ rfl
      have y0 := (HXB.out.below HB2.out) 0 _ rfl
      have y1 := (HXB.out.below HB2.out) 1 _ rfl
      clear hb
      by_cases hr : r = r'
      · by_cases hc : c = c'
        · have hE0 : E = 0 := by rw [hes, if_neg (by simp [hr, hc])]
          subst hr hc hE0
          clear hes
          go_wp2
          go_ret
          exact ⟨rfl, below_next HWV.out HB2.out⟩
        · have hE0 : E = 2 := by rw [hes, if_pos (.inr hc)]
          have hc1 : (c != c') = true := by simp [hc]
          subst hr hE0
          clear hes hc
          go_wp2
          go_ret
          exact ⟨rfl, below_next HWV.out HB2.out⟩
      · have hE0 : E = 2 := by rw [hes, if_pos (.inl hr)]
        have hr1 : (r != r') = true := by simp [hr]
        subst hE0
        clear hes hr
        go_wp2
        go_ret
        exact ⟨rfl, below_next HWV.out HB2.out⟩
    · have hE0 : fault mb = E := by rw [← HE.out, addE_b HFA.out hb]
      rw [hE0]
      have hj0 : (E == 0) = false := by rw [← hE0]; simp [hb]
      clear hb hE0
      go_wp2
      go_ret
      exact ⟨rfl, below_next HWV.out HB2.out⟩
  · have hE0 : fault ma = E := by rw [← HE.out, addE_a ha]
    rw [hE0]
    have hj0 : (E == 0) = false := by rw [← hE0]; simp [ha]
    clear ha hE0
    go_wp2
    go_ret
    exact ⟨rfl, below_next HWV.out HB1.out⟩
end Go.Proofs.YtbkkhdekjgabfadDoor
