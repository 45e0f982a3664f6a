/- The walk of the law PeakTurns: a wave keeps all parts; turns keep as many as there are stages from one on, or all parts, if they are fewer. -/
import Derived.Test.YtgdggaieekakhahPkH
import Derived.Test.YtgdggaieekakhahPkT
import Derived.Test.YtgdggaieekakhahPlE
import Derived.Test.YtgdggaieekakhahWPDone
namespace Go.Proofs.Ytgdggaieekakhah
open Go.RowKit
theorem pkp_at {S M : Nat} (hS : 1 ≤ S) (hS6 : S ≤ 6) (hM : 1 ≤ M) (hM12 : M ≤ 12) (wave : Bool) {s : Nat} (hs : s < S) : (pkN (List.replicate M 1) (planX S M wave) (planX S M wave).length)[s]? = some (pkW S M wave s) := by
  unfold pkN
  rw [List.take_length, List.getElem?_map, show (planX S M wave)[s]? = some (stageX S M wave s) by simp [planX, hs]]
  show some (pkA _ _) = _
  unfold pkA
  rw [pk_made hS hS6 hM hM12 wave hs]
set_option maxHeartbeats 32000000 in
set_option maxRecDepth 100000 in
theorem pkturns_walk (S M : Int) (w : World) : Calls Try.prog 3 #[.int .i64 S, .int .i64 M] w fun e w' => e = .returned (.bool true) ∧ Below w.heap.size w w' := by
  have HF := hide (pfact_any w)
  obtain ⟨E, hE⟩ : ∃ E, makeE S M = E := ⟨_, rfl⟩
  by_cases c : makeE S M = 0
  · obtain ⟨b1, b2, b3, b4⟩ := makeE_in c
    have HM := hide (show ∀ wave, makeX S M wave = planX S.toNat M.toNat wave from fun wave => by unfold makeX; rw [if_neg (by omega)])
    obtain ⟨sn, hsn⟩ : ∃ x, S.toNat = x := ⟨_, rfl⟩
    obtain ⟨mn, hmn⟩ : ∃ x, M.toNat = x := ⟨_, rfl⟩
    rw [hsn, hmn] at HM
    have HSM := hide (show S = (sn : Int) ∧ M = (mn : Int) by omega)
    have HTN := hide hmn
    have HPE := hide (show ∀ wave, planE (planX sn mn wave) M = 0 from fun wave => by
      have := (plan_ok (s := sn) (m := mn) (by omega) (by omega) (by omega) (by omega) wave).1
      rw [show M = (mn : Int) by omega]
      exact this)
    have HAT := hide (fun wave (s : Nat) (hs : s < sn) => pkp_at (S := sn) (M := mn) (by omega) (by omega) (by omega) (by omega) wave hs)
    have HLN := hide (show ∀ wave, (pkN (List.replicate mn 1) (planX sn mn wave) (planX sn mn wave).length).length = sn from fun wave => by rw [pkN_len _ _ (Nat.le_refl _)]; simp [planX])
    have HZ := hide (show errV (makeE S M) = .nilIface from err_eq c)
    have nS : ((sn : Int) != S) = false := by simp; omega
    clear c hE hsn hmn
    go_enter Try.func3, Try.ntmps3
    go_wp2_with fail
    refine HF.out.mono ?_
    rintro e u1 ⟨rfl, hb⟩
    have C0 := hide hb
    clear hb HF
    have HX := hide (pwave_any S M u1)
    unfold Built at HX
    rw [HZ.out] at HX
    go_wp2_with fail
    refine HX.out.mono ?_
    rintro e u2 ⟨s1, rfl, hp, hla, hb⟩
    replace C0 := hide (below_go C0.out hb)
    have HP1 := hide hp
    clear hb hp HX hla
    have HX := hide (pturns_any S M u2)
    unfold Built at HX
    rw [HZ.out] at HX
    go_wp2_with fail
    refine HX.out.mono ?_
    rintro e u3 ⟨s2, rfl, hp, hla, hb⟩
    replace C0 := hide (below_go C0.out hb)
    replace HP1 := hide (HP1.out.below hb)
    have HP2 := hide hp
    clear hb hp HX hla
    have HX := hide (peaks_any s1 (makeX S M true) M u3 HP1.out)
    rw [HM.out, HPE.out, err_eq rfl, HTN.out] at HX
    unfold pkL at HX
    rw [if_pos rfl] at HX
    go_wp2_with fail
    refine HX.out.mono ?_
    rintro e u4 ⟨s3, rfl, hi, hb⟩
    replace C0 := hide (below_go C0.out hb)
    replace HP2 := hide (HP2.out.below hb)
    have HI1 := hide hi
    clear hb hi HX
    have HX := hide (peaks_any s2 (makeX S M false) M u4 HP2.out)
    rw [HM.out, HPE.out, err_eq rfl, HTN.out] at HX
    unfold pkL at HX
    rw [if_pos rfl] at HX
    go_wp2_with fail
    refine HX.out.mono ?_
    rintro e u5 ⟨s4, rfl, hi, hb⟩
    replace C0 := hide (below_go C0.out hb)
    replace HI1 := hide (HI1.out.below hb)
    obtain ⟨a4, k4, rfl, i2, i3, i4⟩ := hi
    obtain ⟨a3, k3, he3, j2, j3, j4⟩ := HI1.out
    subst he3
    have H3 := hide j4
    have H4 := hide i4
    rw [HLN.out] at i2 j2
    rw [HLN.out, HLN.out]
    clear hb HX i4 j4 HI1
    have hs6 : sn ≤ 6 := by have := HSM.out; omega
    go_wp2
    go_loopw [12, 13] (fun sv _ wr => ∃ (k : Nat) (xi : Int), k ≤ sn ∧ xi = (k : Int) ∧ sv = .int .i64 xi ∧ wr = u5) (fun sv _ _ => sn - (intOf sv).toNat)
    case atStart => exact ⟨0, 0, Nat.zero_le _, rfl, rfl, rfl⟩
    case round =>
      obtain ⟨k, xi, hk, hxi, rfl, hwr⟩ := hrel
      subst hwr
      have HXI := hide hxi
      have hx0 : 0 ≤ xi := by omega
      have hx6 : xi ≤ 6 := by omega
      clear hxi
      by_cases hlt : xi < S
      · have hks : k < sn := by have := HXI.out; have := HSM.out; omega
        have h1 := HAT.out true k hks
        have h2 := HAT.out false k hks
        obtain ⟨b3', o3, ha3, hc3⟩ := H3.out.resolve_left (fun e => by rw [e] at h1; simp at h1)
        obtain ⟨b4', o4, ha4, hc4⟩ := H4.out.resolve_left (fun e => by rw [e] at h2; simp at h2)
        subst ha3 ha4
        have d3 := hc3 k _ h1
        have d4 := hc4 k _ h2
        rw [show pkW sn mn true k = M by unfold pkW; rw [if_pos (.inl rfl), HSM.out.2]] at d3
        rw [show k = xi.toNat by have := HXI.out; omega] at d3
        have hxs : xi < (sn : Int) := by have := HSM.out; omega
        have hdd : S - xi ≥ 1 := by omega
        clear hc3 hc4 h1 h2
        by_cases q : S - xi > M
        · rw [show pkW sn mn false k = M by
            unfold pkW
            rw [if_pos (.inr (by have := HSM.out; have := HXI.out; omega)), HSM.out.2], show k = xi.toNat by have := HXI.out; omega] at d4
          go_wp2
          go_roundw
          case rel => exact ⟨k + 1, _, by have := HXI.out; have := HSM.out; omega, by have := HXI.out; omega, rfl, by first | rfl | trivial⟩
          case measure => have := HXI.out; have := HSM.out; simp [intOf]; omega
        · rw [show pkW sn mn false k = S - xi by
            unfold pkW
            rw [if_neg (by have := HSM.out; have := HXI.out; simp; omega)]
            have := HSM.out; have := HXI.out; omega, show k = xi.toNat by have := HXI.out; omega] at d4
          go_wp2
          go_roundw
          case rel => exact ⟨k + 1, _, by have := HXI.out; have := HSM.out; omega, by have := HXI.out; omega, rfl, by first | rfl | trivial⟩
          case measure => have := HXI.out; have := HSM.out; simp [intOf]; omega
      · go_wp2
        go_ret
        exact ⟨rfl, C0.out⟩
  · have hc : S < 1 ∨ 6 < S ∨ M < 1 ∨ 12 < M := by unfold makeE at c; split at c <;> simp_all
    have HZ := hide (show errV (makeE S M) = .iface 46 (.int .i64 E) by rw [err_ne c, hE])
    clear c hE
    have HX := hide (fun u => pwave_any S M u)
    unfold Built at HX
    rw [HZ.out] at HX
    clear hc
    go_enter Try.func3, Try.ntmps3
    go_wp2_with (first | (go_at_call 4; refine HF.out.mono ?_; rintro e u1 ⟨rfl, hb1⟩) | (go_at_call 5; refine (HX.out _).mono ?_; rintro e u2 ⟨s1, rfl, _, _, hb2⟩))
    go_ret
    exact ⟨rfl, below_go hb1 hb2⟩
end Go.Proofs.Ytgdggaieekakhah
