/- The walk of the law ClockBubble: where all stages take the same, waves and turns are as long, and each stage waits as long. -/
import Derived.Test.YtcpgomjaegickagClT
import Derived.Test.YtcpgomjaegickagClI
import Derived.Test.YtcpgomjaegickagTwoZ
import Derived.Test.YtcpgomjaegickagWPDone
import Derived.Test.YtcpgomjaegickagPick
namespace Go.Proofs.Ytcpgomjaegickag
open Go.RowKit
theorem timE_zero {p : List (List (Int × Int))} {m : Int} {n : Nat} {x y : Int} (h : planE p m = 0) (hn : p.length = n) (hx : 1 ≤ x ∧ x ≤ 1000000) (hy : 1 ≤ y ∧ y ≤ 1000000) : timE p m (List.replicate n x) (List.replicate n y) = 0 :=
  (timE_ok h ⟨by rw [List.length_replicate, hn], by rw [List.length_replicate, hn]⟩ (fun z hz => by rw [(List.mem_replicate.1 hz).2]; exact hx) (fun z hz => by rw [(List.mem_replicate.1 hz).2]; exact hy)).symm
theorem rep_succ (n : Nat) (x : Int) : List.replicate (n + 1) x = List.replicate n x ++ [x] := by rw [List.replicate_succ']
set_option maxHeartbeats 32000000 in
set_option maxRecDepth 100000 in
theorem bubble_walk (S M f b : Int) (w : World) (hf0 : -9223372036854775808 ≤ f) (hf1 : f ≤ 9223372036854775807) (hb0 : -9223372036854775808 ≤ b) (hb1 : b ≤ 9223372036854775807) : Calls Try.prog 6 #[.int .i64 S, .int .i64 M, .int .i64 f, .int .i64 b] w fun e w' => e = .returned (.bool true) ∧ Below w.heap.size w w' := by
  have HF := hide (pfact_any w)
  obtain ⟨E, hE⟩ : ∃ E, makeE S M = E := ⟨_, rfl⟩
  by_cases c : makeE S M = 0
  · obtain ⟨b1, b2, b3, b4⟩ := makeE_in c
    have HM := hide (show ∀ wave, makeX S M wave = planX S.toNat M.toNat wave from fun wave => by unfold makeX; rw [if_neg (by omega)])
    obtain ⟨sn, hsn⟩ : ∃ x, S.toNat = x := ⟨_, rfl⟩
    obtain ⟨mn, hmn⟩ : ∃ x, M.toNat = x := ⟨_, rfl⟩
    rw [hsn, hmn] at HM
    have HSM := hide (show S = (sn : Int) ∧ M = (mn : Int) by omega)
    have HPE := hide (show ∀ wave, planE (planX sn mn wave) M = 0 from fun wave => by
      have := (plan_ok (s := sn) (m := mn) (by omega) (by omega) (by omega) (by omega) wave).1
      rw [show M = (mn : Int) by omega]
      exact this)
    have HBM := hide (fun wave (x y : Int) (hx : 0 ≤ x) (hy : 0 ≤ y) (T : List (List (Int × Int))) h => bub_mx (S := sn) (M := mn) (by omega) (by omega) (by omega) (by omega) wave hx hy (T := T) h)
    have HZ := hide (show errV (makeE S M) = .nilIface from err_eq c)
    have nS : ((sn : Int) != S) = false := by simp; omega
    have HK1 := hide (fun w => pick_any f 1000000 w hf0 hf1 (by decide) (by decide))
    have HK2 := hide (fun w => pick_any b 1000000 w hb0 hb1 (by decide) (by decide))
    clear c hE hsn hmn
    go_enter Try.func6, Try.ntmps6
    go_wp2_with fail
    refine HF.out.mono ?_
    rintro e u1 ⟨rfl, hb⟩
    have C0 := hide hb
    clear hb HF
    have HX := hide (pwave_any S M u1)
    unfold Built at HX
    rw [HZ.out] at HX
    go_wp2_with fail
    refine HX.out.mono ?_
    rintro e u2 ⟨s1, rfl, hp, hla, hb⟩
    replace C0 := hide (below_go C0.out hb)
    have HP1 := hide hp
    clear hb hp HX hla
    have HX := hide (pturns_any S M u2)
    unfold Built at HX
    rw [HZ.out] at HX
    go_wp2_with fail
    refine HX.out.mono ?_
    rintro e u3 ⟨s2, rfl, hp, hla, hb⟩
    replace C0 := hide (below_go C0.out hb)
    replace HP1 := hide (HP1.out.below hb)
    have HP2 := hide hp
    clear hb hp HX hla
    go_wp2_with fail
    refine (HK1.out u3).mono ?_
    rintro e uu ⟨k1, rfl, hk1, huu⟩
    obtain rfl := huu.symm
    clear huu
    obtain ⟨x, hx⟩ : ∃ x, 1 + (k1 : Int) = x := ⟨_, rfl⟩
    have hwx : IntKind.i64.wrap (1 + (k1 : Int)) = x := by rw [hx, IntKind.wrap_i64]; omega
    have hx1 : 1 ≤ x := by omega
    have hx2 : x ≤ 1000000 := by omega
    clear hx hk1
    go_wp2_with fail
    refine (HK2.out _).mono ?_
    rintro e uv ⟨k2, rfl, hk2, huv⟩
    obtain rfl := huv.symm
    clear huv
    obtain ⟨y, hy⟩ : ∃ y, 1 + (k2 : Int) = y := ⟨_, rfl⟩
    have hwy : IntKind.i64.wrap (1 + (k2 : Int)) = y := by rw [hy, IntKind.wrap_i64]; omega
    have hy1 : 1 ≤ y := by omega
    have hy2 : y ≤ 1000000 := by omega
    clear hy hk2 hwx
    obtain ⟨U, hU⟩ : ∃ U, U = u3 := ⟨_, rfl⟩
    subst hU
    go_wp2
    clear hwy
    go_loopw [15, 16, 17] (fun tv bv iv wr => ∃ (k : Nat) (xi : Int), k ≤ sn ∧ xi = (k : Int) ∧ iv = .int .i64 xi ∧ TwoZ wr U.heap.size tv (List.replicate k x) bv (List.replicate k y) ∧ Below U.heap.size U wr) (fun _ _ iv _ => sn - (intOf iv).toNat)
    case atStart => exact ⟨0, 0, Nat.zero_le _, rfl, rfl, TwoZ.nil _ _, Below.refl _ _⟩
    case round =>
      obtain ⟨k, xi, hk, hxi, rfl, htw, hbw⟩ := hrel
      have HTW := hide htw
      have HBW := hide hbw
      have HXI := hide hxi
      have hi0 : 0 ≤ xi := by omega
      have hi6 : xi ≤ 6 := by have := HSM.out; omega
      obtain ⟨ta, tk, hte⟩ := htw.1.shape
      obtain ⟨ba, bk, hbe⟩ := htw.2.1.shape
      rw [List.length_replicate] at hte hbe
      subst hte hbe
      clear htw hbw hxi
      by_cases hlt : xi < S
      · go_wp2_with (at_builtin; refine app_two (w := wr) rfl _ _ rfl U.heap.size (.slice ta k tk) (.slice ba k bk) (List.replicate k x) (List.replicate k y) x rfl HTW.out rfl ?h1 ?h2 ?_)
        case h1 => rw [List.length_replicate]; have := HSM.out; omega
        case h2 => exact HBW.out.size
        intro v1 w2 htw2 hbl2
        have HT2 := hide htw2.symm
        have HB2 := hide (hbl2 U HBW.out (Nat.le_refl _))
        obtain ⟨ta2, tk2, hte⟩ := htw2.1.shape
        rw [List.length_append, List.length_replicate] at hte
        subst hte
        clear htw2 hbl2
        go_wp2_with (at_builtin; refine app_two (w := w2) rfl _ _ rfl U.heap.size (.slice ba k bk) _ (List.replicate k y) (List.replicate k x ++ [x]) y rfl HT2.out rfl ?h1 ?h2 ?_)
        case h1 => rw [List.length_replicate]; have := HSM.out; omega
        case h2 => exact HB2.out.size
        intro v2 w3 htw3 hbl3
        have HT3 := hide (show TwoZ w3 U.heap.size (.slice ta2 (k + 1) tk2) (List.replicate (k + 1) x) v2 (List.replicate (k + 1) y) by rw [rep_succ, rep_succ]; exact htw3.symm)
        have HB3 := hide (hbl3 U HB2.out (Nat.le_refl _))
        clear htw3 hbl3
        go_wp2
        go_roundw
        case rel => exact ⟨k + 1, _, by have := HXI.out; have := HSM.out; omega, by have := HXI.out; omega, rfl, HT3.out, HB3.out⟩
        case measure => have := HXI.out; have := HSM.out; simp [intOf]; omega
      · obtain rfl : k = sn := by have := HXI.out; have := HSM.out; omega
        have HI1 := hide HTW.out.1.isInts
        have HI2 := hide HTW.out.2.1.isInts
        replace C0 := hide (below_go C0.out HBW.out)
        replace HP1 := hide (HP1.out.below HBW.out)
        replace HP2 := hide (HP2.out.below HBW.out)
        obtain ⟨SU, hSU⟩ : ∃ z, x + y = z := ⟨_, rfl⟩
        have hq1 : IntKind.i64.wrap (x + y) = SU := by rw [hSU, IntKind.wrap_i64]; omega
        have hs0 : 2 ≤ SU := by omega
        have hs1 : SU ≤ 2000000 := by omega
        obtain ⟨LG, hLG⟩ : ∃ z, (M + S - 1) * SU = z := ⟨_, rfl⟩
        have hg0 : 0 ≤ LG := by rw [← hLG]; exact Int.mul_nonneg (by omega) (by omega)
        have hg1 : LG ≤ 17 * 2000000 := by rw [← hLG]; exact Int.mul_le_mul (by omega) hs1 (by omega) (by omega)
        have hq2 : IntKind.i64.wrap (M + S) = M + S := by rw [IntKind.wrap_i64]; omega
        have hq3 : IntKind.i64.wrap (M + S - 1) = M + S - 1 := by rw [IntKind.wrap_i64]; omega
        have hq4 : IntKind.i64.wrap ((M + S - 1) * SU) = LG := by rw [hLG, IntKind.wrap_i64]; omega
        obtain ⟨ID, hID⟩ : ∃ z, (S - 1) * SU = z := ⟨_, rfl⟩
        have hd0 : 0 ≤ ID := by rw [← hID]; exact Int.mul_nonneg (by omega) (by omega)
        have hd1 : ID ≤ 5 * 2000000 := by rw [← hID]; exact Int.mul_le_mul (by omega) hs1 (by omega) (by omega)
        have hq5 : IntKind.i64.wrap (S - 1) = S - 1 := by rw [IntKind.wrap_i64]; omega
        have hq6 : IntKind.i64.wrap ((S - 1) * SU) = ID := by rw [hID, IntKind.wrap_i64]; omega
        have HLM := hide (show LG - (mn : Int) * (x + y) = ID by
          rw [← hLG, ← hID, hSU, ← HSM.out.2, show M + S - 1 = M + (S - 1) by omega, Int.add_mul]
          omega)
        have HLG := hide (show ((mn : Int) + (k : Int) - 1) * (x + y) = LG by rw [← hLG, hSU, HSM.out.1, HSM.out.2])
        have HTZ := hide (show ∀ wave, timE (planX k mn wave) M (List.replicate k x) (List.replicate k y) = 0 from fun wave => timE_zero (HPE.out wave) (planX_ln _ _ _) ⟨hx1, hx2⟩ ⟨hy1, hy2⟩)
        have HX0 := hide (show (0 : Int) ≤ x ∧ (0 : Int) ≤ y by omega)
        clear hLG hID hSU hi0 hi6
        obtain ⟨U1, hU1⟩ : ∃ U, U = wr := ⟨_, rfl⟩
        subst hU1
        have HX := hide (ctimes_any s1 (.slice ta k tk) (.slice ba k bk) (makeX S M true) (List.replicate k x) (List.replicate k y) M U1 HP1.out HI1.out HI2.out)
        unfold TimesEnd at HX
        rw [HM.out, HTZ.out, err_eq rfl] at HX
        go_wp2_with fail
        refine HX.out.mono ?_
        rintro e U2 ⟨t1, T1, rfl, hp, hb, hno, htm⟩
        obtain ⟨htm1, hbd1⟩ := htm (by first | rfl | trivial)
        have HT1 := hide htm1
        have HD1 := hide hbd1
        have HQ1 := hide hp
        replace C0 := hide (below_go C0.out hb)
        replace HP2 := hide (HP2.out.below hb)
        replace HI1 := hide (HI1.out.below hb)
        replace HI2 := hide (HI2.out.below hb)
        clear HX hp hb hno htm htm1 hbd1
        have HX := hide (ctimes_any s2 (.slice ta k tk) (.slice ba k bk) (makeX S M false) (List.replicate k x) (List.replicate k y) M U2 HP2.out HI1.out HI2.out)
        unfold TimesEnd at HX
        rw [HM.out, HTZ.out, err_eq rfl] at HX
        go_wp2_with fail
        refine HX.out.mono ?_
        rintro e U3 ⟨t2, T2, rfl, hp, hb, hno, htm⟩
        obtain ⟨htm1, hbd1⟩ := htm (by first | rfl | trivial)
        have HT2 := hide htm1
        have HD2 := hide hbd1
        have HQ2 := hide hp
        replace C0 := hide (below_go C0.out hb)
        replace HQ1 := hide (HQ1.out.below hb)
        clear HX hp hb hno htm htm1 hbd1
        have HB1 := hide (HBM.out true x y HX0.out.1 HX0.out.2 T1 HT1.out)
        have HB2 := hide (HBM.out false x y HX0.out.1 HX0.out.2 T2 HT2.out)
        rw [HLG.out] at HB1 HB2
        have HX := hide (long_any t1 T1 _ U3 HQ1.out HD1.out (by rw [HT1.out.1.1]; exact HB1.out.1.n6) (tm_st24 HB1.out.1 HT1.out))
        rw [HB1.out.2] at HX
        go_wp2_with fail
        refine HX.out.mono ?_
        rintro e U4 ⟨rfl, hb⟩
        replace C0 := hide (below_go C0.out hb)
        replace HQ2 := hide (HQ2.out.below hb)
        clear HX hb
        have HX := hide (long_any t2 T2 _ U4 HQ2.out HD2.out (by rw [HT2.out.1.1]; exact HB2.out.1.n6) (tm_st24 HB2.out.1 HT2.out))
        rw [HB2.out.2] at HX
        go_wp2_with fail
        refine HX.out.mono ?_
        rintro e U5 ⟨rfl, hb⟩
        replace C0 := hide (below_go C0.out hb)
        replace HQ2 := hide (HQ2.out.below hb)
        clear HX hb
        have HX := hide (idle_any t2 T2 U5 HQ2.out HD2.out (by rw [HT2.out.1.1]; exact HB2.out.1.n6) (tm_st24 HB2.out.1 HT2.out))
        go_wp2_with fail
        refine HX.out.mono ?_
        rintro e U6 ⟨ls, rfl, hi, hb⟩
        replace C0 := hide (below_go C0.out hb)
        obtain ⟨ia, ic, rfl, i2, i3, i4⟩ := hi
        have HIL := hide (show (idlX T2).length = k by rw [idl_len, HT2.out.1.1, planX_ln])
        have HIA := hide (show ∀ s, s < k → (idlX T2)[s]? = some ID from fun s hs => by
          have := tm_idl HB2.out.1 HT2.out (s := s) (by rw [planX_ln]; exact hs)
          rw [HB2.out.2, rep_at hs, rep_at hs, HLM.out] at this
          exact this)
        have H4 := hide i4
        rw [HIL.out] at i2 ⊢
        have hk6 : k ≤ 6 := by have := HSM.out; omega
        clear HX hb i4
        go_wp2
        go_loopw [25] (fun iv wr => ∃ (j : Nat) (xj : Int), j ≤ k ∧ xj = (j : Int) ∧ iv = .int .i64 xj ∧ wr = U6) (fun iv _ => k - (intOf iv).toNat)
        case atStart => exact ⟨0, 0, Nat.zero_le _, rfl, rfl, rfl⟩
        case round =>
          obtain ⟨j, xj, hj, hxj, rfl, hwr⟩ := hrel
          subst hwr
          have HXJ := hide hxj
          have hj0 : 0 ≤ xj := by omega
          have hj6 : xj ≤ 6 := by omega
          clear hxj
          by_cases hlt2 : xj < S
          · have hjk : j < k := by have := HXJ.out; have := HSM.out; omega
            have hat := HIA.out j hjk
            obtain ⟨b9, o9, ha9, hc9⟩ := H4.out.resolve_left (fun e => by rw [e] at hat; simp at hat)
            subst ha9
            have d9 := hc9 j ID hat
            rw [show j = xj.toNat by have := HXJ.out; omega] at d9
            have hjk2 : xj < (k : Int) := by have := HSM.out; omega
            clear hc9 hat hjk
            go_wp2
            go_roundw
            case rel => exact ⟨j + 1, _, by have := HXJ.out; have := HSM.out; omega, by have := HXJ.out; omega, rfl, by first | rfl | trivial⟩
            case measure => have := HXJ.out; have := HSM.out; simp [intOf]; omega
          · go_wp2
            go_ret
            exact ⟨rfl, C0.out⟩
  · have hc : S < 1 ∨ 6 < S ∨ M < 1 ∨ 12 < M := by unfold makeE at c; split at c <;> simp_all
    have HZ := hide (show errV (makeE S M) = .iface 56 (.int .i64 E) by rw [err_ne c, hE])
    clear c hE
    have HX := hide (fun u => pwave_any S M u)
    unfold Built at HX
    rw [HZ.out] at HX
    clear hc
    go_enter Try.func6, Try.ntmps6
    go_wp2_with (first | (go_at_call 7; refine HF.out.mono ?_; rintro e u1 ⟨rfl, hb1⟩) | (go_at_call 8; refine (HX.out _).mono ?_; rintro e u2 ⟨s1, rfl, _, _, hb2⟩))
    go_ret
    exact ⟨rfl, below_go hb1 hb2⟩
end Go.Proofs.Ytcpgomjaegickag
