/- What forwards and PlanOf of the document's answer come to: waves, and turns. -/
import Derived.Test.YtgkoelmmcmmicafDoorPlD
namespace Go.Proofs.YtgkoelmmcmmicafDoor
open Go.RowKit
set_option maxHeartbeats 8000000 in
set_option maxRecDepth 100000 in
theorem forwards_any (n : Nat) (t : Int) (w : World) (ht : t = (n : Int)) (hn : n ≤ 12) : Calls Tryd.prog 38 #[.int .i64 0, .int .i64 t] w fun e w' => ∃ s, e = .returned s ∧ OwnA w' w.heap.size s (fwdL n) ∧ Below w.heap.size w w' := by
  have HT := hide ht
  have ht0 : 0 ≤ t := by omega
  have ht1 : t ≤ 12 := by omega
  clear ht
  go_enter Tryd.func38, Tryd.ntmps38
  go_wp2
  go_loopw [5, 6] (fun sv iv wr => ∃ (k : Nat) (xi : Int), k ≤ n ∧ xi = (k : Int) ∧ iv = .int .i64 xi ∧ OwnA wr w.heap.size sv (fwdL k) ∧ Below w.heap.size w wr) (fun _ iv _ => n - (intOf iv).toNat)
  case atStart => exact ⟨0, 0, Nat.zero_le _, rfl, rfl, OwnA.nil _ _, Below.refl _ _⟩
  case round =>
    obtain ⟨k, xi, hk, hxi, rfl, hro, hbw⟩ := hrel
    have HRO := hide hro
    have HBW := hide hbw
    have HXI := hide hxi
    have hx0 : 0 ≤ xi := by omega
    have hx1 : xi ≤ 12 := by omega
    obtain ⟨sa, sk, hse⟩ := hro.shape
    rw [fwdL_len] at hse
    subst hse
    clear hro hbw hxi
    by_cases hlt : xi < t
    · go_wp2_with (at_builtin; refine app_act rfl _ _ rfl w.heap.size _ (fwdL k) 1 xi rfl ?h1 rfl ?h2 ?h3 ?_)
      case h1 => exact HRO.out.alloc _
      case h2 => rw [fwdL_len]; omega
      case h3 => exact HBW.out.size
      intro v' w2 hown hgr
      have HO2 := hide (show OwnA w2 w.heap.size v' (fwdL (k + 1)) by rw [fwdL_succ, ← HXI.out]; exact hown)
      have HB2 := hide (hgr w (below_go HBW.out (below_one _ _)) (Nat.le_refl _))
      clear hown hgr
      go_wp2
      go_roundw
      case rel => exact ⟨k + 1, _, by have := HXI.out; have := HT.out; omega, by have := HXI.out; omega, rfl, HO2.out, HB2.out⟩
      case measure => have := HXI.out; have := HT.out; simp [intOf]; omega
    · obtain rfl : k = n := by have := HXI.out; have := HT.out; omega
      go_wp2
      exact bodyPost_ret (v := .slice sa k sk) (by simp [results, Tryd.results38, go_sem]) rfl ⟨_, rfl, HRO.out, HBW.out⟩
set_option maxHeartbeats 16000000 in
set_option maxRecDepth 100000 in
theorem rplanof_any (S M : Int) (wave : Bool) (w : World) : Calls Tryd.prog 20 #[.int .i64 S, .int .i64 M, .bool wave] w fun e w' => ∃ s, e = .returned (.tuple #[s, .int .i64 (makeE S M)]) ∧ IsPlan w' s (makeX S M wave) ∧ Below w.heap.size w w' := by
  obtain ⟨E, hE⟩ : ∃ E, makeE S M = E := ⟨_, rfl⟩
  obtain ⟨X, hX⟩ : ∃ X, makeX S M wave = X := ⟨_, rfl⟩
  have HE := hide hE
  have HX := hide hX
  rw [hE, hX]
  clear hE hX
  have bad : (S < 1 ∨ 6 < S ∨ M < 1 ∨ 12 < M) → E = 1 ∧ X = [] := fun h => ⟨by rw [← HE.out]; unfold makeE; rw [if_pos h], by rw [← HX.out]; unfold makeX; rw [if_pos h]⟩
  by_cases c1 : S < 1
  · obtain ⟨rfl, rfl⟩ := bad (.inl c1)
    clear bad
    go_enter Tryd.func20, Tryd.ntmps20
    go_wp2
    exact bodyPost_ret (v := .tuple #[.slice none 0 0, .int .i64 1]) (by simp [results, Tryd.results20, go_sem]) rfl ⟨_, rfl, IsPlan.nil _, Below.refl _ _⟩
  by_cases c2 : 6 < S
  · obtain ⟨rfl, rfl⟩ := bad (.inr (.inl c2))
    clear bad
    go_enter Tryd.func20, Tryd.ntmps20
    go_wp2
    exact bodyPost_ret (v := .tuple #[.slice none 0 0, .int .i64 1]) (by simp [results, Tryd.results20, go_sem]) rfl ⟨_, rfl, IsPlan.nil _, Below.refl _ _⟩
  by_cases c3 : M < 1
  · obtain ⟨rfl, rfl⟩ := bad (.inr (.inr (.inl c3)))
    clear bad
    go_enter Tryd.func20, Tryd.ntmps20
    go_wp2
    exact bodyPost_ret (v := .tuple #[.slice none 0 0, .int .i64 1]) (by simp [results, Tryd.results20, go_sem]) rfl ⟨_, rfl, IsPlan.nil _, Below.refl _ _⟩
  by_cases c4 : 12 < M
  · obtain ⟨rfl, rfl⟩ := bad (.inr (.inr (.inr c4)))
    clear bad
    go_enter Tryd.func20, Tryd.ntmps20
    go_wp2
    exact bodyPost_ret (v := .tuple #[.slice none 0 0, .int .i64 1]) (by simp [results, Tryd.results20, go_sem]) rfl ⟨_, rfl, IsPlan.nil _, Below.refl _ _⟩
  clear bad
  obtain rfl : E = 0 := by rw [← HE.out]; unfold makeE; rw [if_neg (by omega)]
  obtain ⟨s, hs⟩ : ∃ s : Nat, S = (s : Int) := ⟨S.toNat, by omega⟩
  obtain ⟨m, hm⟩ : ∃ m : Nat, M = (m : Int) := ⟨M.toNat, by omega⟩
  have HSM := hide (And.intro hs hm)
  obtain rfl : X = planN s m wave s := by rw [← HX.out]; unfold makeX; rw [if_neg (by omega), show S.toNat = s by omega, show M.toNat = m by omega]; rfl
  have hs6 : s ≤ 6 := by omega
  have hm12 : m ≤ 12 := by omega
  clear hs hm HX
  go_enter Tryd.func20, Tryd.ntmps20
  go_wp2
  go_loopw [8, 9] (fun ov sv wr => ∃ (k : Nat) (xi : Int), k ≤ s ∧ xi = (k : Int) ∧ sv = .int .i64 xi ∧ OwnP wr w.heap.size ov (planN s m wave k) ∧ Below w.heap.size w wr) (fun _ sv _ => s - (intOf sv).toNat)
  case atStart => exact ⟨0, 0, Nat.zero_le _, rfl, rfl, OwnP.nil _ _, Below.refl _ _⟩
  case round =>
    obtain ⟨wo, hwo⟩ : ∃ x, x = wr := ⟨_, rfl⟩
    subst hwo
    obtain ⟨k, xi, hk, hxi, rfl, hro, hbw⟩ := hrel
    have HRO := hide hro
    have HBW := hide hbw
    have HXI := hide hxi
    have hx0 : 0 ≤ xi := by omega
    have hx1 : xi ≤ 6 := by omega
    obtain ⟨oa, ok, hoe⟩ := hro.shape
    rw [planN_len] at hoe
    subst hoe
    clear hro hbw hxi
    by_cases hlt : xi < S
    · obtain ⟨fi, hfi⟩ : ∃ fi : Nat, firstN s m wave k = fi := ⟨_, rfl⟩
      have hfi12 : fi ≤ 12 := by rw [← hfi]; unfold firstN; split <;> omega
      obtain ⟨xf, hxf⟩ : ∃ xf : Int, xf = (fi : Int) := ⟨_, rfl⟩
      have HFI := hide hfi
      have HXF := hide hxf
      have hxf0 : 0 ≤ xf := by omega
      have hxf1 : xf ≤ 12 := by omega
      have HC := hide (forwards_any fi xf wo hxf hfi12)
      clear hfi hxf
      -- behind the test the slot holds xf
      have step : ∀ (Q : Prop), ((wave = true ∧ xf = M) ∨ (wave = false ∧ M < S - 1 - xi ∧ xf = M) ∨ (wave = false ∧ ¬ M < S - 1 - xi ∧ xf = S - 1 - xi) → Q) → Q := fun Q h => h (by
        have h1 := HFI.out
        have h2 := HXF.out
        have h3 := HSM.out
        have h4 := HXI.out
        unfold firstN at h1
        cases wave with
        | true => left; simp at h1; exact ⟨rfl, by omega⟩
        | false =>
          right
          simp at h1
          by_cases hc : m < s - 1 - k
          · rw [if_pos hc] at h1; exact .inl ⟨rfl, by omega, by omega⟩
          · rw [if_neg hc] at h1; exact .inr ⟨rfl, by omega, by omega⟩)
      refine step _ (fun hcase => ?_)
      clear step
      rcases hcase with ⟨hw, hxm⟩ | ⟨hw, hgt, hxm⟩ | ⟨hw, hgt, hxm⟩
      · subst hw hxm
        go_wp2_with fail
        refine HC.out.mono ?_
        rintro e w1 ⟨s1, rfl, ho1, hb1⟩
        have HO1 := hide (show OwnA w1 wo.heap.size s1 (fwdL fi ++ turnL fi m 0) by unfold turnL; rw [List.append_nil]; exact ho1)
        have HB1 := hide hb1
        clear ho1 hb1 HC
        go_wp2
        go_loopw [11, 12] (fun av mv w2 => ∃ (j : Nat) (xj : Int), j ≤ m ∧ xj = (j : Int) ∧ mv = .int .i64 xj ∧ OwnA w2 wo.heap.size av (fwdL fi ++ turnL fi m j) ∧ Below wo.heap.size wo w2) (fun _ mv _ => m - (intOf mv).toNat)
        case atStart => exact ⟨0, 0, Nat.zero_le _, rfl, rfl, HO1.out, HB1.out⟩
        case round =>
          obtain ⟨j, xj, hj, hxj, rfl, hoa, hba⟩ := hrel
          have HOA := hide hoa
          have HBA := hide hba
          have HXJ := hide hxj
          have hy0 : 0 ≤ xj := by omega
          have hy1 : xj ≤ 12 := by omega
          obtain ⟨LA, hLA⟩ : ∃ x, fwdL fi ++ turnL fi m j = x := ⟨_, rfl⟩
          rw [hLA] at HOA hoa
          have HLL := hide (show LA.length ≤ 100 by rw [← hLA, List.length_append, fwdL_len]; have := turnL_len fi m j; omega)
          have HLA := hide hLA
          obtain ⟨sa, sk, hse⟩ := hoa.shape
          obtain ⟨sn, hsn⟩ : ∃ x, LA.length = x := ⟨_, rfl⟩
          rw [hsn] at hse
          subst hse
          clear hoa hba hxj hsn hLA
          by_cases hjm : xj < xf
          · by_cases hfw : xf + xj < xf
            · exfalso; omega
            · have HT := hide (show LA ++ [((2 : Int), xj)] = fwdL fi ++ turnL fi m (j + 1) by
                rw [← HLA.out]
                have h1 := HXF.out
                have h2 := HXJ.out
                have h3 := HSM.out
                conv => rhs; unfold turnL
                rw [if_neg (by omega), ← h2]
                simp only [List.append_assoc, List.append_nil])
              go_wp2_with (at_builtin; refine app_act rfl _ _ rfl wo.heap.size _ LA 2 xj rfl ?h31 rfl ?h32 ?h33 ?_)
              case h31 => exact HOA.out.alloc _
              case h32 => have := HLL.out; omega
              case h33 => exact HBA.out.size
              intro v3 w3 ho3 hg3
              have HO3 := hide (show OwnA w3 wo.heap.size v3 (fwdL fi ++ turnL fi m (j + 1)) by rw [← HT.out]; exact ho3)
              have HB3 := hide (hg3 wo (below_go HBA.out (below_one _ _)) (Nat.le_refl _))
              clear ho3 hg3
              go_wp2
              go_roundw
              case rel => exact ⟨j + 1, _, by have := HXJ.out; have := HSM.out; omega, by have := HXJ.out; omega, rfl, HO3.out, HB3.out⟩
              case measure => have := HXJ.out; have := HSM.out; simp [intOf]; omega
          · have HJM := hide (show j = m by have := HXJ.out; have := HSM.out; omega)
            have HAC := hide (show IsActs wr (.slice sa sn sk) (stageX s m true k) by have h := HOA.out.isActs; rw [← HLA.out, HJM.out] at h; unfold stageX; rw [HFI.out]; exact h)
            have HOF := hide (show OffB (.slice sa sn sk) (stageX s m true k) (Value.ownBlock (.slice oa k ok)) by
              have h := HOA.out.off (B := Value.ownBlock (.slice oa k ok)) (fun q hq => (HRO.out.lt q hq).2)
              rw [← HLA.out, HJM.out] at h
              unfold stageX; rw [HFI.out]; exact h)
            have HOP := hide (HRO.out.below HBA.out)
            have HBB := hide (below_go HBW.out HBA.out)
            go_wp2_with (at_builtin; refine app_plan rfl _ _ rfl w.heap.size _ _ (planN s m true k) (stageX s m true k) rfl ?p1 ?p2 ?p3 rfl ?p4 ?p5 ?_)
            case p1 => exact HOP.out
            case p2 => exact HAC.out
            case p3 => exact HOF.out
            case p4 => rw [planN_len]; omega
            case p5 => exact HBB.out.size
            intro v4 w4 ho4 hg4
            have HO4 := hide (show OwnP w4 w.heap.size v4 (planN s m true (k + 1)) by rw [planN_succ]; exact ho4)
            have HB4 := hide (hg4 w (below_go HBB.out (below_one _ _)) (Nat.le_refl _))
            clear ho4 hg4
            go_wp2
            go_roundw
            case rel => exact ⟨k + 1, _, by have := HXI.out; have := HSM.out; omega, by have := HXI.out; omega, rfl, HO4.out, HB4.out⟩
            case measure => have := HXI.out; have := HSM.out; simp [intOf]; omega
      · subst hw hxm
        go_wp2_with fail
        refine HC.out.mono ?_
        rintro e w1 ⟨s1, rfl, ho1, hb1⟩
        have HO1 := hide (show OwnA w1 wo.heap.size s1 (fwdL fi ++ turnL fi m 0) by unfold turnL; rw [List.append_nil]; exact ho1)
        have HB1 := hide hb1
        clear ho1 hb1 HC
        go_wp2
        go_loopw [11, 12] (fun av mv w2 => ∃ (j : Nat) (xj : Int), j ≤ m ∧ xj = (j : Int) ∧ mv = .int .i64 xj ∧ OwnA w2 wo.heap.size av (fwdL fi ++ turnL fi m j) ∧ Below wo.heap.size wo w2) (fun _ mv _ => m - (intOf mv).toNat)
        case atStart => exact ⟨0, 0, Nat.zero_le _, rfl, rfl, HO1.out, HB1.out⟩
        case round =>
          obtain ⟨j, xj, hj, hxj, rfl, hoa, hba⟩ := hrel
          have HOA := hide hoa
          have HBA := hide hba
          have HXJ := hide hxj
          have hy0 : 0 ≤ xj := by omega
          have hy1 : xj ≤ 12 := by omega
          obtain ⟨LA, hLA⟩ : ∃ x, fwdL fi ++ turnL fi m j = x := ⟨_, rfl⟩
          rw [hLA] at HOA hoa
          have HLL := hide (show LA.length ≤ 100 by rw [← hLA, List.length_append, fwdL_len]; have := turnL_len fi m j; omega)
          have HLA := hide hLA
          obtain ⟨sa, sk, hse⟩ := hoa.shape
          obtain ⟨sn, hsn⟩ : ∃ x, LA.length = x := ⟨_, rfl⟩
          rw [hsn] at hse
          subst hse
          clear hoa hba hxj hsn hLA
          by_cases hjm : xj < xf
          · by_cases hfw : xf + xj < xf
            · exfalso; omega
            · have HT := hide (show LA ++ [((2 : Int), xj)] = fwdL fi ++ turnL fi m (j + 1) by
                rw [← HLA.out]
                have h1 := HXF.out
                have h2 := HXJ.out
                have h3 := HSM.out
                conv => rhs; unfold turnL
                rw [if_neg (by omega), ← h2]
                simp only [List.append_assoc, List.append_nil])
              go_wp2_with (at_builtin; refine app_act rfl _ _ rfl wo.heap.size _ LA 2 xj rfl ?h61 rfl ?h62 ?h63 ?_)
              case h61 => exact HOA.out.alloc _
              case h62 => have := HLL.out; omega
              case h63 => exact HBA.out.size
              intro v3 w3 ho3 hg3
              have HO3 := hide (show OwnA w3 wo.heap.size v3 (fwdL fi ++ turnL fi m (j + 1)) by rw [← HT.out]; exact ho3)
              have HB3 := hide (hg3 wo (below_go HBA.out (below_one _ _)) (Nat.le_refl _))
              clear ho3 hg3
              go_wp2
              go_roundw
              case rel => exact ⟨j + 1, _, by have := HXJ.out; have := HSM.out; omega, by have := HXJ.out; omega, rfl, HO3.out, HB3.out⟩
              case measure => have := HXJ.out; have := HSM.out; simp [intOf]; omega
          · have HJM := hide (show j = m by have := HXJ.out; have := HSM.out; omega)
            have HAC := hide (show IsActs wr (.slice sa sn sk) (stageX s m false k) by have h := HOA.out.isActs; rw [← HLA.out, HJM.out] at h; unfold stageX; rw [HFI.out]; exact h)
            have HOF := hide (show OffB (.slice sa sn sk) (stageX s m false k) (Value.ownBlock (.slice oa k ok)) by
              have h := HOA.out.off (B := Value.ownBlock (.slice oa k ok)) (fun q hq => (HRO.out.lt q hq).2)
              rw [← HLA.out, HJM.out] at h
              unfold stageX; rw [HFI.out]; exact h)
            have HOP := hide (HRO.out.below HBA.out)
            have HBB := hide (below_go HBW.out HBA.out)
            go_wp2_with (at_builtin; refine app_plan rfl _ _ rfl w.heap.size _ _ (planN s m false k) (stageX s m false k) rfl ?p1 ?p2 ?p3 rfl ?p4 ?p5 ?_)
            case p1 => exact HOP.out
            case p2 => exact HAC.out
            case p3 => exact HOF.out
            case p4 => rw [planN_len]; omega
            case p5 => exact HBB.out.size
            intro v4 w4 ho4 hg4
            have HO4 := hide (show OwnP w4 w.heap.size v4 (planN s m false (k + 1)) by rw [planN_succ]; exact ho4)
            have HB4 := hide (hg4 w (below_go HBB.out (below_one _ _)) (Nat.le_refl _))
            clear ho4 hg4
            go_wp2
            go_roundw
            case rel => exact ⟨k + 1, _, by have := HXI.out; have := HSM.out; omega, by have := HXI.out; omega, rfl, HO4.out, HB4.out⟩
            case measure => have := HXI.out; have := HSM.out; simp [intOf]; omega
      · subst hw hxm
        go_wp2_with fail
        refine HC.out.mono ?_
        rintro e w1 ⟨s1, rfl, ho1, hb1⟩
        have HO1 := hide (show OwnA w1 wo.heap.size s1 (fwdL fi ++ turnL fi m 0) by unfold turnL; rw [List.append_nil]; exact ho1)
        have HB1 := hide hb1
        clear ho1 hb1 HC
        go_wp2
        go_loopw [11, 12] (fun av mv w2 => ∃ (j : Nat) (xj : Int), j ≤ m ∧ xj = (j : Int) ∧ mv = .int .i64 xj ∧ OwnA w2 wo.heap.size av (fwdL fi ++ turnL fi m j) ∧ Below wo.heap.size wo w2) (fun _ mv _ => m - (intOf mv).toNat)
        case atStart => exact ⟨0, 0, Nat.zero_le _, rfl, rfl, HO1.out, HB1.out⟩
        case round =>
          obtain ⟨j, xj, hj, hxj, rfl, hoa, hba⟩ := hrel
          have HOA := hide hoa
          have HBA := hide hba
          have HXJ := hide hxj
          have hy0 : 0 ≤ xj := by omega
          have hy1 : xj ≤ 12 := by omega
          obtain ⟨LA, hLA⟩ : ∃ x, fwdL fi ++ turnL fi m j = x := ⟨_, rfl⟩
          rw [hLA] at HOA hoa
          have HLL := hide (show LA.length ≤ 100 by rw [← hLA, List.length_append, fwdL_len]; have := turnL_len fi m j; omega)
          have HLA := hide hLA
          obtain ⟨sa, sk, hse⟩ := hoa.shape
          obtain ⟨sn, hsn⟩ : ∃ x, LA.length = x := ⟨_, rfl⟩
          rw [hsn] at hse
          subst hse
          clear hoa hba hxj hsn hLA
          by_cases hjm : xj < M
          · by_cases hfw : (S - 1 - xi) + xj < M
            · have HT := hide (show LA ++ [((1 : Int), (S - 1 - xi) + xj)] ++ [((2 : Int), xj)] = fwdL fi ++ turnL fi m (j + 1) by
                rw [← HLA.out]
                have h1 := HXF.out
                have h2 := HXJ.out
                have h3 := HSM.out
                conv => rhs; unfold turnL
                rw [if_pos (by omega), show ((fi + j : Nat) : Int) = (S - 1 - xi) + xj by omega, ← h2]
                simp only [List.append_assoc])
              go_wp2_with (at_builtin; refine app_act rfl _ _ rfl wo.heap.size _ LA 1 ((S - 1 - xi) + xj) rfl ?h71 rfl ?h72 ?h73 ?_)
              case h71 => exact HOA.out.alloc _
              case h72 => have := HLL.out; omega
              case h73 => exact HBA.out.size
              intro v2 w2 ho2 hg2
              have HO2 := hide ho2
              have HB2 := hide (hg2 wo (below_go HBA.out (below_one _ _)) (Nat.le_refl _))
              obtain ⟨LB, hLB⟩ : ∃ x, LA ++ [((1 : Int), (S - 1 - xi) + xj)] = x := ⟨_, rfl⟩
              rw [hLB] at HO2 ho2 HT
              have HLL2 := hide (show LB.length ≤ 200 by rw [← hLB, List.length_append]; have := HLL.out; simp; omega)
              obtain ⟨ta, tk, hte⟩ := ho2.shape
              obtain ⟨tn, htn⟩ : ∃ x, LB.length = x := ⟨_, rfl⟩
              rw [htn] at hte
              subst hte
              clear ho2 hg2 htn hLB
              go_wp2_with (at_builtin; refine app_act rfl _ _ rfl wo.heap.size _ LB 2 xj rfl ?h81 rfl ?h82 ?h83 ?_)
              case h81 => exact HO2.out.alloc _
              case h82 => have := HLL2.out; omega
              case h83 => exact HB2.out.size
              intro v3 w3 ho3 hg3
              have HO3 := hide (show OwnA w3 wo.heap.size v3 (fwdL fi ++ turnL fi m (j + 1)) by rw [← HT.out]; exact ho3)
              have HB3 := hide (hg3 wo (below_go HB2.out (below_one _ _)) (Nat.le_refl _))
              clear ho3 hg3
              go_wp2
              go_roundw
              case rel => exact ⟨j + 1, _, by have := HXJ.out; have := HSM.out; omega, by have := HXJ.out; omega, rfl, HO3.out, HB3.out⟩
              case measure => have := HXJ.out; have := HSM.out; simp [intOf]; omega
            · have HT := hide (show LA ++ [((2 : Int), xj)] = fwdL fi ++ turnL fi m (j + 1) by
                rw [← HLA.out]
                have h1 := HXF.out
                have h2 := HXJ.out
                have h3 := HSM.out
                conv => rhs; unfold turnL
                rw [if_neg (by omega), ← h2]
                simp only [List.append_assoc, List.append_nil])
              go_wp2_with (at_builtin; refine app_act rfl _ _ rfl wo.heap.size _ LA 2 xj rfl ?h91 rfl ?h92 ?h93 ?_)
              case h91 => exact HOA.out.alloc _
              case h92 => have := HLL.out; omega
              case h93 => exact HBA.out.size
              intro v3 w3 ho3 hg3
              have HO3 := hide (show OwnA w3 wo.heap.size v3 (fwdL fi ++ turnL fi m (j + 1)) by rw [← HT.out]; exact ho3)
              have HB3 := hide (hg3 wo (below_go HBA.out (below_one _ _)) (Nat.le_refl _))
              clear ho3 hg3
              go_wp2
              go_roundw
              case rel => exact ⟨j + 1, _, by have := HXJ.out; have := HSM.out; omega, by have := HXJ.out; omega, rfl, HO3.out, HB3.out⟩
              case measure => have := HXJ.out; have := HSM.out; simp [intOf]; omega
          · have HJM := hide (show j = m by have := HXJ.out; have := HSM.out; omega)
            have HAC := hide (show IsActs wr (.slice sa sn sk) (stageX s m false k) by have h := HOA.out.isActs; rw [← HLA.out, HJM.out] at h; unfold stageX; rw [HFI.out]; exact h)
            have HOF := hide (show OffB (.slice sa sn sk) (stageX s m false k) (Value.ownBlock (.slice oa k ok)) by
              have h := HOA.out.off (B := Value.ownBlock (.slice oa k ok)) (fun q hq => (HRO.out.lt q hq).2)
              rw [← HLA.out, HJM.out] at h
              unfold stageX; rw [HFI.out]; exact h)
            have HOP := hide (HRO.out.below HBA.out)
            have HBB := hide (below_go HBW.out HBA.out)
            go_wp2_with (at_builtin; refine app_plan rfl _ _ rfl w.heap.size _ _ (planN s m false k) (stageX s m false k) rfl ?p1 ?p2 ?p3 rfl ?p4 ?p5 ?_)
            case p1 => exact HOP.out
            case p2 => exact HAC.out
            case p3 => exact HOF.out
            case p4 => rw [planN_len]; omega
            case p5 => exact HBB.out.size
            intro v4 w4 ho4 hg4
            have HO4 := hide (show OwnP w4 w.heap.size v4 (planN s m false (k + 1)) by rw [planN_succ]; exact ho4)
            have HB4 := hide (hg4 w (below_go HBB.out (below_one _ _)) (Nat.le_refl _))
            clear ho4 hg4
            go_wp2
            go_roundw
            case rel => exact ⟨k + 1, _, by have := HXI.out; have := HSM.out; omega, by have := HXI.out; omega, rfl, HO4.out, HB4.out⟩
            case measure => have := HXI.out; have := HSM.out; simp [intOf]; omega
    · obtain rfl : k = s := by have := HXI.out; have := HSM.out; omega
      have HI := hide HRO.out.isPlan
      go_wp2
      exact bodyPost_ret (v := .tuple #[.slice oa k ok, .int .i64 0]) (by simp [results, Tryd.results20, go_sem]) rfl ⟨_, rfl, HI.out, HBW.out⟩
end Go.Proofs.YtgkoelmmcmmicafDoor
