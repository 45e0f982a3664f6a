/- What BestOf of the document's answer comes to: the first cuts of all that begin so, whose dearest stage is cheapest, and what that one costs. -/
import Derived.Test.YtlbcmebifmebgafDoorCtR1
namespace Go.Proofs.YtlbcmebifmebgafDoor
open Go.RowKit
def lstN (ts : List Nat) : Nat := ts.getLastD 0
theorem lstN_snoc (ts : List Nat) (e : Nat) : lstN (ts ++ [e]) = e := by simp [lstN, List.getLastD_eq_getLast?]
theorem ctI_at {ts : List Nat} {i e : Nat} (h : ts[i]? = some e) : (ctI ts)[i]? = some (e : Int) := by simp [ctI, h]
theorem prv_lst (ts : List Nat) : prv (ctI ts) ts.length = (lstN ts : Int) := by
  cases h : ts.length with
  | zero =>
    obtain rfl : ts = [] := List.eq_nil_of_length_eq_zero h
    rfl
  | succ k =>
    have hl : ts.getLast? = ts[k]? := by rw [List.getLast?_eq_getElem?, h]; rfl
    obtain ⟨e, he⟩ : ∃ e, ts[k]? = some e := ⟨ts[k], List.getElem?_eq_getElem (by omega)⟩
    rw [prv_at (ctI_at he)]
    unfold lstN
    rw [List.getLastD_eq_getLast?, hl, he]
    rfl
theorem prv_old (ts : List Nat) (e : Nat) {i : Nat} (h : i ≤ ts.length) : prv (ctI (ts ++ [e])) i = prv (ctI ts) i := by
  cases i with
  | zero => rfl
  | succ i =>
    have : i < ts.length := by omega
    rw [prv_at (ctI_at (List.getElem?_append_left (by omega) |>.trans (List.getElem?_eq_getElem this))), prv_at (ctI_at (List.getElem?_eq_getElem this))]
theorem prv_new (ts : List Nat) (e : Nat) : prv (ctI (ts ++ [e])) (ts.length + 1) = (e : Int) := by
  have := prv_lst (ts ++ [e])
  rw [lstN_snoc, List.length_append] at this
  exact this
theorem rising_snoc {ts : List Nat} {e : Nat} (h : rising (ctI ts)) (he : lstN ts < e) : rising (ctI (ts ++ [e])) := by
  intro i hi
  rw [ctI_len, List.length_append] at hi
  simp at hi
  rcases Nat.lt_or_ge i ts.length with q | q
  · rw [prv_old ts e (by omega), prv_old ts e (by omega)]
    exact h i (by rw [ctI_len]; exact q)
  · obtain rfl : i = ts.length := by omega
    rw [prv_old ts e (Nat.le_refl _), prv_new, prv_lst]
    omega
/-- What the dearest of the stages so far costs. -/
def topT (cs : List Int) (ts : List Nat) : Int := topF (stg cs (ctI ts)) ts.length
theorem topT_nil (cs : List Int) : topT cs [] = 0 := rfl
theorem topT_snoc (cs : List Int) (ts : List Nat) (e : Nat) : topT cs (ts ++ [e]) = max (topT cs ts) (preS cs e - preS cs (lstN ts)) := by
  have h1 : topT cs (ts ++ [e]) = max (topF (stg cs (ctI (ts ++ [e]))) ts.length) (stg cs (ctI (ts ++ [e])) ts.length) := by
    unfold topT
    rw [List.length_append]
    rfl
  have h2 : topF (stg cs (ctI (ts ++ [e]))) ts.length = topT cs ts := by
    unfold topT
    refine topF_congr (fun i hi => ?_)
    unfold stg
    rw [prv_old ts e (by omega), prv_old ts e (by omega)]
  have h3 : stg cs (ctI (ts ++ [e])) ts.length = preS cs e - preS cs (lstN ts) := by
    unfold stg
    rw [prv_new, prv_old ts e (Nat.le_refl _), prv_lst, Int.toNat_natCast, Int.toNat_natCast]
  rw [h1, h2, h3]
theorem empty_own (w : World) : OwnZ (w.alloc (.cells #[] 3)) w.heap.size (.slice (some ⟨w.heap.size, 0, none⟩) 0 0) [] := World.ownsRow_made _ _ _ (Nat.le_refl _) (by unfold maxLen; omega) rfl
set_option maxHeartbeats 16000000 in
set_option maxRecDepth 100000 in
theorem rbest_one (v u : Value) (cs : List Int) (ts : List Nat) (R : Nat) (r : Int) (w : World) (hc : ∀ c ∈ cs, 0 ≤ c ∧ c ≤ 1000000) (hl : cs.length ≤ 12) (hR : R ≤ 6) (hr : r = (R : Int)) (hv : IsInts w v cs) (hu : IsInts w u (ctI ts)) (hnu : NilOk u) (hts : ts.length + 1 = R) (hri : rising (ctI ts)) (hlt : lstN ts < cs.length) :
    Calls Tryd.prog 12 #[v, .int .i64 r, u] w fun e w' => ∃ s m, e = .returned (.tuple #[s, .int .i64 m]) ∧ (∃ t, IsInts w' s (ctI (ts ++ t)) ∧ Least (preS cs) cs.length 1 (lstN ts) (topT cs ts) m ∧ First (preS cs) cs.length m 1 (lstN ts) t) ∧ Below w.heap.size w w' := by
  obtain ⟨a, cap, hve, g2, g3, g4⟩ := id hv
  obtain ⟨a', cap', hue, g2', g3', g4'⟩ := id hu
  subst hve hue
  clear g4
  rw [ctI_len] at g2' hnu hu ⊢
  have HC := hide hc
  have HV := hide hv
  have HU := hide hu
  have HNU := hide hnu
  have H4 := hide g4'
  have HRI := hide hri
  have HLT := hide hlt
  have HTS := hide hts
  obtain ⟨n, hn⟩ : ∃ n, cs.length = n := ⟨_, rfl⟩
  have HN := hide hn
  have HL := hide hl
  rw [hn] at g2 hl HV ⊢
  obtain ⟨k, hk⟩ : ∃ k, ts.length = k := ⟨_, rfl⟩
  have HK := hide hk
  rw [hk] at g2' hts HNU HU ⊢
  have HA := hide (show rising (ctI (ts ++ [n])) ∧ prv (ctI (ts ++ [n])) (ctI (ts ++ [n])).length ≤ (cs.length : Int) ∧ (ctI (ts ++ [n])).length ≤ 6 from ⟨rising_snoc hri (by rw [← hn]; exact hlt), by rw [ctI_len, prv_lst, lstN_snoc, hn]; omega, by rw [ctI_len, List.length_append]; simp; omega⟩)
  have HT := hide (show topT cs (ts ++ [n]) = max (topT cs ts) (preS cs n - preS cs (lstN ts)) from topT_snoc cs ts n)
  have HLE := hide (show Least (preS cs) n 1 (lstN ts) (topT cs ts) (max (topT cs ts) (preS cs n - preS cs (lstN ts))) from least_one (by rw [← hn]; exact hlt))
  have HFI := hide (show ∀ m, First (preS cs) n m 1 (lstN ts) [n] from fun m => first_one (by rw [← hn]; exact hlt))
  have hr1 : (k : Int) = r - 1 := by omega
  have hr0 : 0 ≤ r := by omega
  have hr6 : r ≤ 6 := by omega
  have hk6 : k ≤ 6 := by omega
  have HEM := hide (empty_own w)
  have HUA := hide (HU.out.below (below_one w (.cells #[] 3)))
  clear hc hv hu hnu g4' hri hlt hts hn hk hr hR
  rcases Nat.eq_zero_or_pos k with h0 | h0
  · subst h0
    obtain rfl : r = 1 := by omega
    clear hr0 hr6 hr1
    go_enter Tryd.func12, Tryd.ntmps12
    go_wp2_with (at_builtin; refine app_ints rfl _ _ rfl w.heap.size _ _ [] (ctI ts) rfl ?h11 rfl ?h12 ?h13 ?h14 ?h15 ?_)
    case h11 => exact HEM.out
    case h12 => exact HUA.out
    case h13 => exact HNU.out
    case h14 => rw [ctI_len, HK.out]; simp; try omega
    case h15 => simp
    intro v1 w1 ho1 hb1
    have HO1 := hide (show OwnZ w1 w.heap.size v1 (ctI ts) from ho1)
    have HB1 := hide (hb1 w (below_one _ _) (Nat.le_refl _))
    obtain ⟨sa, sk, hse⟩ := HO1.out.shape
    subst hse
    clear ho1 hb1
    go_wp2_with (at_builtin; refine app_ints rfl _ _ rfl w.heap.size _ _ (ctI ts) [(n : Int)] rfl ?h21 rfl ?h22 ?h23 ?h24 ?h25 ?_)
    case h21 => exact HO1.out.alloc _
    case h22 => exact ints_one _ _
    case h23 => exact nil_some _ _ _
    case h24 => rw [ctI_len, HK.out]; simp; try omega
    case h25 => have := HB1.out.size; simp; omega
    intro v2 w2 ho2 hb2
    rw [← ctI_snoc] at ho2
    have HO2 := hide ho2
    have HB2 := hide (hb2 w (bel_al HB1.out) (Nat.le_refl _))
    obtain ⟨sa2, sk2, hse⟩ := ho2.shape
    subst hse
    have HCO := hide (rcost_any _ _ cs (ctI (ts ++ [n])) w2 (HV.out.below HB2.out) HO2.out.isInts HC.out HL.out HA.out.1 HA.out.2.1 HA.out.2.2)
    clear ho2 hb2
    go_wp2_with fail
    refine HCO.out.mono ?_
    rintro e w3 ⟨s3, rfl, hi3, hb3⟩
    have HB3 := hide (bel_nx HB2.out hb3)
    have HD := hide (dearest_any s3 _ w3 hi3)
    rw [tab_len, topF_tab, ctI_len, show topF (stg cs (ctI (ts ++ [n]))) (ts ++ [n]).length = topT cs (ts ++ [n]) from rfl, HT.out] at HD
    have HI2 := hide (HO2.out.isInts.below hb3)
    obtain ⟨ea, en, ek, hee⟩ := hi3.shape
    subst hee
    obtain ⟨M, hM⟩ : ∃ M, max (topT cs ts) (preS cs n - preS cs (lstN ts)) = M := ⟨_, rfl⟩
    rw [hM] at HD HLE
    clear hi3 hb3 hM
    go_wp2_with fail
    refine HD.out.mono ?_
    rintro e w4 ⟨rfl, rfl⟩
    go_wp2
    exact bodyPost_ret (v := .tuple #[.slice sa2 (ctI (ts ++ [n])).length sk2, .int .i64 M]) (by simp [results, Tryd.results12, go_sem]) rfl ⟨_, _, rfl, ⟨[n], HI2.out, HLE.out, HFI.out _⟩, HB3.out⟩
  · have hw1 : IntKind.i64.wrap (r - 1) = r - 1 := wrap_in (by omega) (by omega)
    obtain ⟨y, hy⟩ := some_at (cs := ctI ts) (p := k - 1) (by rw [ctI_len, HK.out]; omega)
    obtain ⟨b, off, ha, hcl⟩ := H4.out.resolve_left (fun e => by rw [e] at hy; simp at hy)
    subst ha
    have cy := hcl (k - 1) y hy
    have hk1 : ((k : Int) - 1).toNat = k - 1 := by omega
    have hxr : ((k : Int) == r - 1) = true := by rw [hr1]; simp
    clear hy hcl hr1
    go_enter Tryd.func12, Tryd.ntmps12
    go_wp2_with (at_builtin; refine app_ints rfl _ _ rfl w.heap.size _ _ [] (ctI ts) rfl ?h31 rfl ?h32 ?h33 ?h34 ?h35 ?_)
    case h31 => exact HEM.out
    case h32 => exact HUA.out
    case h33 => exact HNU.out
    case h34 => rw [ctI_len, HK.out]; simp; try omega
    case h35 => simp
    intro v1 w1 ho1 hb1
    have HO1 := hide (show OwnZ w1 w.heap.size v1 (ctI ts) from ho1)
    have HB1 := hide (hb1 w (below_one _ _) (Nat.le_refl _))
    obtain ⟨sa, sk, hse⟩ := HO1.out.shape
    subst hse
    clear ho1 hb1
    go_wp2_with (at_builtin; refine app_ints rfl _ _ rfl w.heap.size _ _ (ctI ts) [(n : Int)] rfl ?h41 rfl ?h42 ?h43 ?h44 ?h45 ?_)
    case h41 => exact HO1.out.alloc _
    case h42 => exact ints_one _ _
    case h43 => exact nil_some _ _ _
    case h44 => rw [ctI_len, HK.out]; simp; try omega
    case h45 => have := HB1.out.size; simp; omega
    intro v2 w2 ho2 hb2
    rw [← ctI_snoc] at ho2
    have HO2 := hide ho2
    have HB2 := hide (hb2 w (bel_al HB1.out) (Nat.le_refl _))
    obtain ⟨sa2, sk2, hse⟩ := ho2.shape
    subst hse
    have HCO := hide (rcost_any _ _ cs (ctI (ts ++ [n])) w2 (HV.out.below HB2.out) HO2.out.isInts HC.out HL.out HA.out.1 HA.out.2.1 HA.out.2.2)
    clear ho2 hb2
    go_wp2_with fail
    refine HCO.out.mono ?_
    rintro e w3 ⟨s3, rfl, hi3, hb3⟩
    have HB3 := hide (bel_nx HB2.out hb3)
    have HD := hide (dearest_any s3 _ w3 hi3)
    rw [tab_len, topF_tab, ctI_len, show topF (stg cs (ctI (ts ++ [n]))) (ts ++ [n]).length = topT cs (ts ++ [n]) from rfl, HT.out] at HD
    have HI2 := hide (HO2.out.isInts.below hb3)
    obtain ⟨ea, en, ek, hee⟩ := hi3.shape
    subst hee
    obtain ⟨M, hM⟩ : ∃ M, max (topT cs ts) (preS cs n - preS cs (lstN ts)) = M := ⟨_, rfl⟩
    rw [hM] at HD HLE
    clear hi3 hb3 hM
    go_wp2_with fail
    refine HD.out.mono ?_
    rintro e w4 ⟨rfl, rfl⟩
    go_wp2
    exact bodyPost_ret (v := .tuple #[.slice sa2 (ctI (ts ++ [n])).length sk2, .int .i64 M]) (by simp [results, Tryd.results12, go_sem]) rfl ⟨_, _, rfl, ⟨[n], HI2.out, HLE.out, HFI.out _⟩, HB3.out⟩
set_option maxHeartbeats 16000000 in
set_option maxRecDepth 100000 in
theorem rbest_more (q : Nat) (v u : Value) (cs : List Int) (ts : List Nat) (R : Nat) (r : Int) (w : World) (hc : ∀ c ∈ cs, 0 ≤ c ∧ c ≤ 1000000) (hl : cs.length ≤ 12) (hR : R ≤ 6) (hr : r = (R : Int)) (hv : IsInts w v cs) (hu : IsInts w u (ctI ts)) (hnu : NilOk u) (hts : ts.length + (q + 2) = R) (hri : rising (ctI ts)) (hlt : lstN ts + (q + 2) ≤ cs.length)
    (ih : ∀ (ts : List Nat) (v u : Value) (w : World), IsInts w v cs → IsInts w u (ctI ts) → NilOk u → ts.length + (q + 1) = R → rising (ctI ts) → lstN ts + (q + 1) ≤ cs.length → Calls Tryd.prog 12 #[v, .int .i64 r, u] w fun e w' => ∃ s m, e = .returned (.tuple #[s, .int .i64 m]) ∧ (∃ t, IsInts w' s (ctI (ts ++ t)) ∧ Least (preS cs) cs.length (q + 1) (lstN ts) (topT cs ts) m ∧ First (preS cs) cs.length m (q + 1) (lstN ts) t) ∧ Below w.heap.size w w') :
    Calls Tryd.prog 12 #[v, .int .i64 r, u] w fun e w' => ∃ s m, e = .returned (.tuple #[s, .int .i64 m]) ∧ (∃ t, IsInts w' s (ctI (ts ++ t)) ∧ Least (preS cs) cs.length (q + 2) (lstN ts) (topT cs ts) m ∧ First (preS cs) cs.length m (q + 2) (lstN ts) t) ∧ Below w.heap.size w w' := by
  obtain ⟨a, cap, hve, g2, g3, g4⟩ := id hv
  obtain ⟨a', cap', hue, g2', g3', g4'⟩ := id hu
  subst hve hue
  clear g4
  rw [ctI_len] at g2' hnu hu ⊢
  have HC := hide hc
  have HV := hide hv
  have HU := hide hu
  have HNU := hide hnu
  have H4 := hide g4'
  have HRI := hide hri
  have HLT := hide hlt
  have HTS := hide hts
  obtain ⟨n, hn⟩ : ∃ n, cs.length = n := ⟨_, rfl⟩
  have HN := hide hn
  have HL := hide hl
  rw [hn] at g2 hl HV ⊢
  obtain ⟨k, hk⟩ : ∃ k, ts.length = k := ⟨_, rfl⟩
  have HK := hide hk
  rw [hk] at g2' hts HNU HU ⊢
  have HIH := hide ih
  have hr1 : (k : Int) + q + 1 = r - 1 := by omega
  have hr0 : 0 ≤ r := by omega
  have hr6 : r ≤ 6 := by omega
  have hk6 : k ≤ 6 := by omega
  have hq6 : q ≤ 6 := by omega
  clear hc hv hu hnu g4' hri hlt hts hn hk hr hR ih
  rcases Nat.eq_zero_or_pos k with h0 | h0
  · subst h0
    have hxr : ((0 : Int) == r - 1) = false := by simp; omega
    have HXA := hide (show (0 : Int) = (lstN ts : Int) by
      have : ts = [] := List.eq_nil_of_length_eq_zero HK.out
      rw [this]; rfl)
    go_enter Tryd.func12, Tryd.ntmps12
    go_wp2
    go_loopw [12, 13, 14] (fun bv lv ev wr => ∃ (x : Nat) (xx M : Int), lstN ts < x ∧ x + q + 1 ≤ n + 1 ∧ xx = (x : Int) ∧ ev = .int .i64 xx ∧ lv = .int .i64 M ∧ Below w.heap.size w wr ∧ ((x = lstN ts + 1 ∧ M = -1) ∨ (0 ≤ M ∧ ∃ t, IsInts wr bv (ctI (ts ++ t)) ∧ Seen (preS cs) n (q + 1) (lstN ts) x (topT cs ts) t M))) (fun _ _ ev _ => n + 1 - (intOf ev).toNat)
    case atStart => exact ⟨lstN ts + 1, _, -1, by omega, by have := HLT.out; have := HN.out; omega, by have := HXA.out; omega, rfl, rfl, Below.refl _ _, .inl ⟨rfl, rfl⟩⟩
    case round =>
      obtain ⟨x, xx, M, hx1, hx2, hxx, rfl, rfl, hbw, hse⟩ := hrel
      have HXX := hide hxx
      have HBW := hide hbw
      have HSE := hide hse
      have hb0 : 0 ≤ xx := by omega
      have hb1 : xx ≤ 13 := by omega
      clear hxx hbw hse
      by_cases hgo : (q : Int) + 1 ≤ n - xx
      · have HXQ := hide (show x + (q + 1) ≤ n by have := HXX.out; omega)
        have HEM := hide (empty_own wr)
        have HUA := hide (HU.out.below (bel_al (o := .cells #[] 3) HBW.out))
        have hgo' : r - 1 - 0 ≤ (n : Int) - xx := by omega
        go_wp2_with (at_builtin; refine app_ints rfl _ _ rfl wr.heap.size _ _ [] (ctI ts) rfl ?h51 rfl ?h52 ?h53 ?h54 ?h55 ?_)
        case h51 => exact HEM.out
        case h52 => exact HUA.out
        case h53 => exact HNU.out
        case h54 => rw [ctI_len, HK.out]; simp; try omega
        case h55 => simp
        intro v1 w1 ho1 hg1
        have HO1 := hide (show OwnZ w1 wr.heap.size v1 (ctI ts) from ho1)
        have HB1 := hide (hg1 wr (below_one _ _) (Nat.le_refl _))
        obtain ⟨sa, sk, hse⟩ := HO1.out.shape
        subst hse
        clear ho1 hg1
        go_wp2_with (at_builtin; refine app_ints rfl _ _ rfl wr.heap.size _ _ (ctI ts) [xx] rfl ?h61 rfl ?h62 ?h63 ?h64 ?h65 ?_)
        case h61 => exact HO1.out.alloc _
        case h62 => exact ints_one _ _
        case h63 => exact nil_some _ _ _
        case h64 => rw [ctI_len, HK.out]; simp; try omega
        case h65 => have := HB1.out.size; simp; omega
        intro v2 w2 ho2 hg2
        rw [HXX.out, ← ctI_snoc] at ho2
        have HO2 := hide ho2
        have HW2 := hide (hg2 wr (bel_al HB1.out) (Nat.le_refl _))
        have HB2 := hide (bel_nx HBW.out HW2.out)
        obtain ⟨sa2, sk2, hse⟩ := ho2.shape
        subst hse
        have HCA := hide (HIH.out (ts ++ [x]) _ _ w2 (HV.out.below HB2.out) HO2.out.isInts HO2.out.nilOk (by rw [List.length_append]; have := HTS.out; simp; omega) (rising_snoc HRI.out hx1) (by rw [lstN_snoc]; have := HXQ.out; have := HN.out; omega))
        rw [lstN_snoc, topT_snoc, HN.out] at HCA
        clear ho2 hg2
        go_wp2_with fail
        refine HCA.out.mono ?_
        rintro e w3 ⟨s3, N, rfl, ⟨t', hi3, hle3, hfi3⟩, hb3⟩
        have HI3 := hide (show IsInts w3 s3 (ctI (ts ++ (x :: t'))) by rw [List.append_assoc] at hi3; exact hi3)
        have HLE := hide hle3
        have HFI := hide hfi3
        have HB3 := hide (bel_nx HB2.out hb3)
        have HW3 := hide (bel_nx HW2.out hb3)
        have HTN := hide (topF_nonneg (stg cs (ctI ts)) ts.length)
        have hN0 : 0 ≤ N := by have h1 := hle3.1; have h2 : 0 ≤ topT cs ts := HTN.out; omega
        obtain ⟨ea, en, ek, hee⟩ := hi3.shape
        subst hee
        clear hi3 hle3 hfi3 hb3
        rcases HSE.out with ⟨hx, hM⟩ | ⟨hM, t, hib, hsn⟩
        · subst hM
          have HS := hide (show Seen (preS cs) n (q + 1) (lstN ts) (x + 1) (topT cs ts) (x :: t') N by
            have h1 := HLE.out
            have h2 := HFI.out
            rw [hx] at h1 h2 ⊢
            exact seen_first h1 h2)
          clear hx
          go_wp2
          go_roundw
          case rel => exact ⟨x + 1, _, _, by omega, by have := HXQ.out; omega, by have := HXX.out; omega, rfl, rfl, HB3.out, .inr ⟨hN0, x :: t', HI3.out, HS.out⟩⟩
          case measure => have := HXX.out; simp [intOf]; omega
        · have HIB := hide hib
          have HSN := hide hsn
          have hM' : ¬ M < 0 := by omega
          obtain ⟨ba, bn, bk, hbe⟩ := hib.shape
          subst hbe
          clear hib hsn
          by_cases hNM : N < M
          · have HS := hide (HSN.out.less hx1 HLE.out HFI.out hNM)
            go_wp2
            go_roundw
            case rel => exact ⟨x + 1, _, _, by omega, by have := HXQ.out; omega, by have := HXX.out; omega, rfl, rfl, HB3.out, .inr ⟨hN0, x :: t', HI3.out, HS.out⟩⟩
            case measure => have := HXX.out; simp [intOf]; omega
          · have HS := hide (HSN.out.more HLE.out hNM)
            have HIB3 := hide (HIB.out.below HW3.out)
            go_wp2
            go_roundw
            case rel => exact ⟨x + 1, _, _, by omega, by have := HXQ.out; omega, by have := HXX.out; omega, rfl, rfl, HB3.out, .inr ⟨hM, t, HIB3.out, HS.out⟩⟩
            case measure => have := HXX.out; simp [intOf]; omega
      · have HXQ := hide (show n < x + (q + 1) by have := HXX.out; omega)
        have hgo' : ¬ r - 1 - 0 ≤ (n : Int) - xx := by omega
        rcases HSE.out with ⟨hx, hM⟩ | ⟨hM, t, hib, hsn⟩
        · exfalso
          have := HXQ.out
          have := HLT.out
          have := HN.out
          omega
        · obtain ⟨hA1, hA2⟩ := hsn.all (preS_mono (fun c h => (HC.out c h).1)) HXQ.out
          have HA1 := hide hA1
          have HA2 := hide hA2
          have HIB := hide hib
          obtain ⟨ba, bn, bk, hbe⟩ := hib.shape
          subst hbe
          clear hib hsn hA1 hA2
          go_wp2
          exact bodyPost_ret (v := .tuple #[.slice ba bn bk, .int .i64 M]) (by simp [results, Tryd.results12, go_sem]) rfl ⟨_, _, rfl, ⟨t, HIB.out, HA1.out, HA2.out⟩, HBW.out⟩
  · have hw1 : IntKind.i64.wrap (r - 1) = r - 1 := wrap_in (by omega) (by omega)
    obtain ⟨y, hy⟩ := some_at (cs := ctI ts) (p := k - 1) (by rw [ctI_len, HK.out]; omega)
    obtain ⟨b, off, ha, hcl⟩ := H4.out.resolve_left (fun e => by rw [e] at hy; simp at hy)
    subst ha
    have cy := hcl (k - 1) y hy
    have hk1 : ((k : Int) - 1).toNat = k - 1 := by omega
    have HXA := hide (show y = (lstN ts : Int) by
      have h1 := prv_lst ts
      rw [HK.out, show k = k - 1 + 1 by omega, prv_at hy] at h1
      exact h1)
    have hy0 : 0 ≤ y := by have := HXA.out; omega
    have hy1 : y ≤ 12 := by have := HXA.out; have := HLT.out; have := HL.out; omega
    have hxr : ((k : Int) == r - 1) = false := by simp; omega
    clear hy hcl
    go_enter Tryd.func12, Tryd.ntmps12
    go_wp2
    go_loopw [12, 13, 14] (fun bv lv ev wr => ∃ (x : Nat) (xx M : Int), lstN ts < x ∧ x + q + 1 ≤ n + 1 ∧ xx = (x : Int) ∧ ev = .int .i64 xx ∧ lv = .int .i64 M ∧ Below w.heap.size w wr ∧ ((x = lstN ts + 1 ∧ M = -1) ∨ (0 ≤ M ∧ ∃ t, IsInts wr bv (ctI (ts ++ t)) ∧ Seen (preS cs) n (q + 1) (lstN ts) x (topT cs ts) t M))) (fun _ _ ev _ => n + 1 - (intOf ev).toNat)
    case atStart => exact ⟨lstN ts + 1, _, -1, by omega, by have := HLT.out; have := HN.out; omega, by have := HXA.out; omega, rfl, rfl, Below.refl _ _, .inl ⟨rfl, rfl⟩⟩
    case round =>
      obtain ⟨x, xx, M, hx1, hx2, hxx, rfl, rfl, hbw, hse⟩ := hrel
      have HXX := hide hxx
      have HBW := hide hbw
      have HSE := hide hse
      have hb0 : 0 ≤ xx := by omega
      have hb1 : xx ≤ 13 := by omega
      clear hxx hbw hse
      by_cases hgo : (q : Int) + 1 ≤ n - xx
      · have HXQ := hide (show x + (q + 1) ≤ n by have := HXX.out; omega)
        have HEM := hide (empty_own wr)
        have HUA := hide (HU.out.below (bel_al (o := .cells #[] 3) HBW.out))
        have hgo' : r - 1 - (k : Int) ≤ (n : Int) - xx := by omega
        go_wp2_with (at_builtin; refine app_ints rfl _ _ rfl wr.heap.size _ _ [] (ctI ts) rfl ?h71 rfl ?h72 ?h73 ?h74 ?h75 ?_)
        case h71 => exact HEM.out
        case h72 => exact HUA.out
        case h73 => exact HNU.out
        case h74 => rw [ctI_len, HK.out]; simp; try omega
        case h75 => simp
        intro v1 w1 ho1 hg1
        have HO1 := hide (show OwnZ w1 wr.heap.size v1 (ctI ts) from ho1)
        have HB1 := hide (hg1 wr (below_one _ _) (Nat.le_refl _))
        obtain ⟨sa, sk, hse⟩ := HO1.out.shape
        subst hse
        clear ho1 hg1
        go_wp2_with (at_builtin; refine app_ints rfl _ _ rfl wr.heap.size _ _ (ctI ts) [xx] rfl ?h81 rfl ?h82 ?h83 ?h84 ?h85 ?_)
        case h81 => exact HO1.out.alloc _
        case h82 => exact ints_one _ _
        case h83 => exact nil_some _ _ _
        case h84 => rw [ctI_len, HK.out]; simp; try omega
        case h85 => have := HB1.out.size; simp; omega
        intro v2 w2 ho2 hg2
        rw [HXX.out, ← ctI_snoc] at ho2
        have HO2 := hide ho2
        have HW2 := hide (hg2 wr (bel_al HB1.out) (Nat.le_refl _))
        have HB2 := hide (bel_nx HBW.out HW2.out)
        obtain ⟨sa2, sk2, hse⟩ := ho2.shape
        subst hse
        have HCA := hide (HIH.out (ts ++ [x]) _ _ w2 (HV.out.below HB2.out) HO2.out.isInts HO2.out.nilOk (by rw [List.length_append]; have := HTS.out; simp; omega) (rising_snoc HRI.out hx1) (by rw [lstN_snoc]; have := HXQ.out; have := HN.out; omega))
        rw [lstN_snoc, topT_snoc, HN.out] at HCA
        clear ho2 hg2
        go_wp2_with fail
        refine HCA.out.mono ?_
        rintro e w3 ⟨s3, N, rfl, ⟨t', hi3, hle3, hfi3⟩, hb3⟩
        have HI3 := hide (show IsInts w3 s3 (ctI (ts ++ (x :: t'))) by rw [List.append_assoc] at hi3; exact hi3)
        have HLE := hide hle3
        have HFI := hide hfi3
        have HB3 := hide (bel_nx HB2.out hb3)
        have HW3 := hide (bel_nx HW2.out hb3)
        have HTN := hide (topF_nonneg (stg cs (ctI ts)) ts.length)
        have hN0 : 0 ≤ N := by have h1 := hle3.1; have h2 : 0 ≤ topT cs ts := HTN.out; omega
        obtain ⟨ea, en, ek, hee⟩ := hi3.shape
        subst hee
        clear hi3 hle3 hfi3 hb3
        rcases HSE.out with ⟨hx, hM⟩ | ⟨hM, t, hib, hsn⟩
        · subst hM
          have HS := hide (show Seen (preS cs) n (q + 1) (lstN ts) (x + 1) (topT cs ts) (x :: t') N by
            have h1 := HLE.out
            have h2 := HFI.out
            rw [hx] at h1 h2 ⊢
            exact seen_first h1 h2)
          clear hx
          go_wp2
          go_roundw
          case rel => exact ⟨x + 1, _, _, by omega, by have := HXQ.out; omega, by have := HXX.out; omega, rfl, rfl, HB3.out, .inr ⟨hN0, x :: t', HI3.out, HS.out⟩⟩
          case measure => have := HXX.out; simp [intOf]; omega
        · have HIB := hide hib
          have HSN := hide hsn
          have hM' : ¬ M < 0 := by omega
          obtain ⟨ba, bn, bk, hbe⟩ := hib.shape
          subst hbe
          clear hib hsn
          by_cases hNM : N < M
          · have HS := hide (HSN.out.less hx1 HLE.out HFI.out hNM)
            go_wp2
            go_roundw
            case rel => exact ⟨x + 1, _, _, by omega, by have := HXQ.out; omega, by have := HXX.out; omega, rfl, rfl, HB3.out, .inr ⟨hN0, x :: t', HI3.out, HS.out⟩⟩
            case measure => have := HXX.out; simp [intOf]; omega
          · have HS := hide (HSN.out.more HLE.out hNM)
            have HIB3 := hide (HIB.out.below HW3.out)
            go_wp2
            go_roundw
            case rel => exact ⟨x + 1, _, _, by omega, by have := HXQ.out; omega, by have := HXX.out; omega, rfl, rfl, HB3.out, .inr ⟨hM, t, HIB3.out, HS.out⟩⟩
            case measure => have := HXX.out; simp [intOf]; omega
      · have HXQ := hide (show n < x + (q + 1) by have := HXX.out; omega)
        have hgo' : ¬ r - 1 - (k : Int) ≤ (n : Int) - xx := by omega
        rcases HSE.out with ⟨hx, hM⟩ | ⟨hM, t, hib, hsn⟩
        · exfalso
          have := HXQ.out
          have := HLT.out
          have := HN.out
          omega
        · obtain ⟨hA1, hA2⟩ := hsn.all (preS_mono (fun c h => (HC.out c h).1)) HXQ.out
          have HA1 := hide hA1
          have HA2 := hide hA2
          have HIB := hide hib
          obtain ⟨ba, bn, bk, hbe⟩ := hib.shape
          subst hbe
          clear hib hsn hA1 hA2
          go_wp2
          exact bodyPost_ret (v := .tuple #[.slice ba bn bk, .int .i64 M]) (by simp [results, Tryd.results12, go_sem]) rfl ⟨_, _, rfl, ⟨t, HIB.out, HA1.out, HA2.out⟩, HBW.out⟩
theorem rbest_any (cs : List Int) (R : Nat) (r : Int) (hc : ∀ c ∈ cs, 0 ≤ c ∧ c ≤ 1000000) (hl : cs.length ≤ 12) (hR : R ≤ 6) (hr : r = (R : Int)) : ∀ (q : Nat) (ts : List Nat) (v u : Value) (w : World), IsInts w v cs → IsInts w u (ctI ts) → NilOk u → ts.length + (q + 1) = R → rising (ctI ts) → lstN ts + (q + 1) ≤ cs.length → Calls Tryd.prog 12 #[v, .int .i64 r, u] w fun e w' => ∃ s m, e = .returned (.tuple #[s, .int .i64 m]) ∧ (∃ t, IsInts w' s (ctI (ts ++ t)) ∧ Least (preS cs) cs.length (q + 1) (lstN ts) (topT cs ts) m ∧ First (preS cs) cs.length m (q + 1) (lstN ts) t) ∧ Below w.heap.size w w'
  | 0, ts, v, u, w, hv, hu, hnu, hts, hri, hlt => rbest_one v u cs ts R r w hc hl hR hr hv hu hnu hts hri (by omega)
  | q + 1, ts, v, u, w, hv, hu, hnu, hts, hri, hlt => rbest_more q v u cs ts R r w hc hl hR hr hv hu hnu hts hri hlt (rbest_any cs R r hc hl hR hr q)
end Go.Proofs.YtlbcmebifmebgafDoor
