/- What none, LayerFault, WideOf, GoFault and BackFault of the document's answer come to. -/
import Derived.Test.YtjmmplpecmnlnadDoorLKind
import Derived.Test.YtjmmplpecmnlnadDoorLAt
namespace Go.Proofs.YtjmmplpecmnlnadDoor
open Go.RowKit
/-- No rows and no columns. -/
def noneB (r c : Int) : Bool := decide (r = 0 ∧ c = 0)
theorem noneB_yes {r c : Int} (h : r = 0 ∧ c = 0) : noneB r c = true := decide_eq_true h
theorem noneB_no {r c : Int} (h : ¬ (r = 0 ∧ c = 0)) : noneB r c = false := decide_eq_false h
set_option maxHeartbeats 400000 in
theorem none_any (r c : Int) (s : Value) (w : World) : Calls Tryd.prog 52 #[.agg #[.int .i64 r, .int .i64 c, s]] w fun e w' => e = .returned (.bool (noneB r c)) ∧ Below w.heap.size w w' := by
  by_cases h1 : r = 0
  · by_cases h2 : c = 0
    · have HE := hide (noneB_yes ⟨h1, h2⟩)
      subst h1 h2
      go_enter Tryd.func52, Tryd.ntmps52
      go_wp2
      go_ret
      exact ⟨rfl, below_one _ _⟩
    · have HE := hide (noneB_no (r := r) (c := c) (fun h => h2 h.2)).symm
      have g1 : (c == 0) = false := by simp [h2]
      clear h2
      subst h1
      go_enter Tryd.func52, Tryd.ntmps52
      go_wp2
      go_ret
      exact ⟨ret_bool HE.out, below_one _ _⟩
  · have HE := hide (noneB_no (r := r) (c := c) (fun h => h1 h.1)).symm
    have g1 : (r == 0) = false := by simp [h1]
    clear h1
    go_enter Tryd.func52, Tryd.ntmps52
    go_wp2
    go_ret
    exact ⟨ret_bool HE.out, below_one _ _⟩
set_option maxHeartbeats 8000000 in
theorem rlfault_1 (v : Value) (l : Ly) (w : World) (hv : IsLy w v l) (hk : l.k = 1) : Calls Tryd.prog 26 #[v] w fun e w' => e = .returned (.int .i64 (lfault l)) ∧ Below w.heap.size w w' := by
  obtain ⟨s, t, rfl, hs, ht⟩ := hv
  obtain ⟨xa, xn, xk, rfl⟩ := hs.shape
  obtain ⟨ya, yn, yk, rfl⟩ := ht.shape
  obtain ⟨k, e0⟩ : ∃ r, l.k = r := ⟨_, rfl⟩
  obtain ⟨wr, e1⟩ : ∃ r, l.w.rows = r := ⟨_, rfl⟩
  obtain ⟨wc, e2⟩ : ∃ r, l.w.cols = r := ⟨_, rfl⟩
  obtain ⟨br, e3⟩ : ∃ r, l.b.rows = r := ⟨_, rfl⟩
  obtain ⟨bc, e4⟩ : ∃ r, l.b.cols = r := ⟨_, rfl⟩
  have HMW := hide (fun W (h : Below w.heap.size w W) => fault_any _ l.w W ⟨_, rfl, hs.below h⟩)
  have HMB := hide (fun W (h : Below w.heap.size w W) => fault_any _ l.b W ⟨_, rfl, ht.below h⟩)
  have HNW := hide (fun W => none_any wr wc (.slice xa xn xk) W)
  have HNB := hide (fun W => none_any br bc (.slice ya yn yk) W)
  have HNR := hide (show ¬ (l.k < 1 ∨ 4 < l.k) by omega)
  obtain rfl : k = 1 := by omega
  rw [e1, e2] at HMW
  rw [e3, e4] at HMB
  have HKK := hide hk
  have HLL := hide (And.intro e1 (And.intro e2 (And.intro e3 e4)))
  rw [e0, e1, e2, e3, e4]
  have HBX := hide (Box.new w [.int .i64 1, .int .i64 wr, .int .i64 wc, .slice xa xn xk, .int .i64 br, .int .i64 bc, .slice ya yn yk] 55 rfl)
  clear hs ht e0 e1 e2 e3 e4 hk
  go_enter Tryd.func26, Tryd.ntmps26
  go_wp2_with fail
  refine (HMW.out _ (below_one _ _)).mono ?_
  rintro e w1 ⟨rfl, hb1⟩
  have H1 := hide (HBX.out.below hb1)
  have W1 := hide (below_box (Below.refl _ _) hb1)
  clear hb1
  by_cases hf : fault l.w = 0
  · rw [hf]
    have HFW := hide hf
    clear hf
    have d0 := H1.out 0 _ rfl
    have d1 := H1.out 1 _ rfl
    have d2 := H1.out 2 _ rfl
    have d3 := H1.out 3 _ rfl
    have d4 := H1.out 4 _ rfl
    have d5 := H1.out 5 _ rfl
    have d6 := H1.out 6 _ rfl
    go_wp2_with fail
    refine (HMB.out _ W1.out).mono ?_
    rintro e w2 ⟨rfl, hb2⟩
    clear d0 d1 d2 d3 d4 d5 d6
    have H2 := hide (H1.out.below hb2)
    have W2 := hide (below_next W1.out hb2)
    clear hb2
    by_cases hg : fault l.b = 0
    · rw [hg]
      have HFB := hide hg
      clear hg
      by_cases hq1 : wr = 0 ∧ wc = 0
      · rw [noneB_yes hq1] at HNW
        have HQ1 := hide hq1
        clear hq1
        by_cases hq2 : br = 0 ∧ bc = 0
        · rw [noneB_yes hq2] at HNB
          have HQ2 := hide hq2
          clear hq2
          have d0 := H2.out 0 _ rfl
          have d1 := H2.out 1 _ rfl
          have d2 := H2.out 2 _ rfl
          have d3 := H2.out 3 _ rfl
          have d4 := H2.out 4 _ rfl
          have d5 := H2.out 5 _ rfl
          have d6 := H2.out 6 _ rfl
          go_wp2_with fail
          refine (HNW.out _).mono ?_
          rintro e w3 ⟨rfl, hb3⟩
          clear d0 d1 d2 d3 d4 d5 d6
          have H3 := hide (H2.out.below hb3)
          have d0 := H3.out 0 _ rfl
          have d1 := H3.out 1 _ rfl
          have d2 := H3.out 2 _ rfl
          have d3 := H3.out 3 _ rfl
          have d4 := H3.out 4 _ rfl
          have d5 := H3.out 5 _ rfl
          have d6 := H3.out 6 _ rfl
          have W3 := hide (below_next W2.out hb3)
          clear hb3
          go_wp2_with fail
          refine (HNB.out _).mono ?_
          rintro e w4 ⟨rfl, hb4⟩
          clear d0 d1 d2 d3 d4 d5 d6
          have H4 := hide (H3.out.below hb4)
          have d0 := H4.out 0 _ rfl
          have d1 := H4.out 1 _ rfl
          have d2 := H4.out 2 _ rfl
          have d3 := H4.out 3 _ rfl
          have d4 := H4.out 4 _ rfl
          have d5 := H4.out 5 _ rfl
          have d6 := H4.out 6 _ rfl
          have W4 := hide (below_next W3.out hb4)
          clear hb4
          by_cases c0 : 1 ≤ wr
          · skip
            by_cases c1 : wr ≤ 12
            · skip
              by_cases c2 : 1 ≤ wc
              · skip
                by_cases c3 : br = 1
                · have t3 : (br == 1) = true := by simp [c3]
                  by_cases c4 : bc = wc
                  · have t4 : (bc == wc) = true := by simp [c4]
                    have HE := hide (lfault_0 HNR.out HFW.out HFB.out (l := l) (by rw [fitsL_1 HKK.out]; exact decide_eq_true (by have h1 := HQ1.out; have h2 := HQ2.out; have h3 := HLL.out; have h4 := HKK.out; omega))).symm
                    clear c3 c4
                    go_wp2
                    all_goals first | (exfalso; omega) | (go_ret; exact ⟨ret_int HE.out, W4.out⟩)
                  · have t4 : (bc == wc) = false := by simp [c4]
                    have HE := hide (lfault_f HNR.out HFW.out HFB.out (l := l) (by rw [fitsL_1 HKK.out]; exact decide_eq_false (by have h1 := HQ1.out; have h2 := HQ2.out; have h3 := HLL.out; have h4 := HKK.out; omega))).symm
                    clear c3 c4
                    go_wp2
                    all_goals first | (exfalso; omega) | (go_ret; exact ⟨ret_int HE.out, W4.out⟩)
                · have t3 : (br == 1) = false := by simp [c3]
                  have HE := hide (lfault_f HNR.out HFW.out HFB.out (l := l) (by rw [fitsL_1 HKK.out]; exact decide_eq_false (by have h1 := HQ1.out; have h2 := HQ2.out; have h3 := HLL.out; have h4 := HKK.out; omega))).symm
                  clear c3
                  go_wp2
                  all_goals first | (exfalso; omega) | (go_ret; exact ⟨ret_int HE.out, W4.out⟩)
              · skip
                have HE := hide (lfault_f HNR.out HFW.out HFB.out (l := l) (by rw [fitsL_1 HKK.out]; exact decide_eq_false (by have h1 := HQ1.out; have h2 := HQ2.out; have h3 := HLL.out; have h4 := HKK.out; omega))).symm
                skip
                go_wp2
                all_goals first | (exfalso; omega) | (go_ret; exact ⟨ret_int HE.out, W4.out⟩)
            · skip
              have HE := hide (lfault_f HNR.out HFW.out HFB.out (l := l) (by rw [fitsL_1 HKK.out]; exact decide_eq_false (by have h1 := HQ1.out; have h2 := HQ2.out; have h3 := HLL.out; have h4 := HKK.out; omega))).symm
              skip
              go_wp2
              all_goals first | (exfalso; omega) | (go_ret; exact ⟨ret_int HE.out, W4.out⟩)
          · skip
            have HE := hide (lfault_f HNR.out HFW.out HFB.out (l := l) (by rw [fitsL_1 HKK.out]; exact decide_eq_false (by have h1 := HQ1.out; have h2 := HQ2.out; have h3 := HLL.out; have h4 := HKK.out; omega))).symm
            skip
            go_wp2
            all_goals first | (exfalso; omega) | (go_ret; exact ⟨ret_int HE.out, W4.out⟩)
        · rw [noneB_no hq2] at HNB
          have HQ2 := hide hq2
          clear hq2
          have d0 := H2.out 0 _ rfl
          have d1 := H2.out 1 _ rfl
          have d2 := H2.out 2 _ rfl
          have d3 := H2.out 3 _ rfl
          have d4 := H2.out 4 _ rfl
          have d5 := H2.out 5 _ rfl
          have d6 := H2.out 6 _ rfl
          go_wp2_with fail
          refine (HNW.out _).mono ?_
          rintro e w3 ⟨rfl, hb3⟩
          clear d0 d1 d2 d3 d4 d5 d6
          have H3 := hide (H2.out.below hb3)
          have d0 := H3.out 0 _ rfl
          have d1 := H3.out 1 _ rfl
          have d2 := H3.out 2 _ rfl
          have d3 := H3.out 3 _ rfl
          have d4 := H3.out 4 _ rfl
          have d5 := H3.out 5 _ rfl
          have d6 := H3.out 6 _ rfl
          have W3 := hide (below_next W2.out hb3)
          clear hb3
          go_wp2_with fail
          refine (HNB.out _).mono ?_
          rintro e w4 ⟨rfl, hb4⟩
          clear d0 d1 d2 d3 d4 d5 d6
          have H4 := hide (H3.out.below hb4)
          have d0 := H4.out 0 _ rfl
          have d1 := H4.out 1 _ rfl
          have d2 := H4.out 2 _ rfl
          have d3 := H4.out 3 _ rfl
          have d4 := H4.out 4 _ rfl
          have d5 := H4.out 5 _ rfl
          have d6 := H4.out 6 _ rfl
          have W4 := hide (below_next W3.out hb4)
          clear hb4
          by_cases c0 : 1 ≤ wr
          · skip
            by_cases c1 : wr ≤ 12
            · skip
              by_cases c2 : 1 ≤ wc
              · skip
                by_cases c3 : br = 1
                · have t3 : (br == 1) = true := by simp [c3]
                  by_cases c4 : bc = wc
                  · have t4 : (bc == wc) = true := by simp [c4]
                    have HE := hide (lfault_0 HNR.out HFW.out HFB.out (l := l) (by rw [fitsL_1 HKK.out]; exact decide_eq_true (by have h1 := HQ1.out; have h2 := HQ2.out; have h3 := HLL.out; have h4 := HKK.out; omega))).symm
                    clear c3 c4
                    go_wp2
                    all_goals first | (exfalso; omega) | (go_ret; exact ⟨ret_int HE.out, W4.out⟩)
                  · have t4 : (bc == wc) = false := by simp [c4]
                    have HE := hide (lfault_f HNR.out HFW.out HFB.out (l := l) (by rw [fitsL_1 HKK.out]; exact decide_eq_false (by have h1 := HQ1.out; have h2 := HQ2.out; have h3 := HLL.out; have h4 := HKK.out; omega))).symm
                    clear c3 c4
                    go_wp2
                    all_goals first | (exfalso; omega) | (go_ret; exact ⟨ret_int HE.out, W4.out⟩)
                · have t3 : (br == 1) = false := by simp [c3]
                  have HE := hide (lfault_f HNR.out HFW.out HFB.out (l := l) (by rw [fitsL_1 HKK.out]; exact decide_eq_false (by have h1 := HQ1.out; have h2 := HQ2.out; have h3 := HLL.out; have h4 := HKK.out; omega))).symm
                  clear c3
                  go_wp2
                  all_goals first | (exfalso; omega) | (go_ret; exact ⟨ret_int HE.out, W4.out⟩)
              · skip
                have HE := hide (lfault_f HNR.out HFW.out HFB.out (l := l) (by rw [fitsL_1 HKK.out]; exact decide_eq_false (by have h1 := HQ1.out; have h2 := HQ2.out; have h3 := HLL.out; have h4 := HKK.out; omega))).symm
                skip
                go_wp2
                all_goals first | (exfalso; omega) | (go_ret; exact ⟨ret_int HE.out, W4.out⟩)
            · skip
              have HE := hide (lfault_f HNR.out HFW.out HFB.out (l := l) (by rw [fitsL_1 HKK.out]; exact decide_eq_false (by have h1 := HQ1.out; have h2 := HQ2.out; have h3 := HLL.out; have h4 := HKK.out; omega))).symm
              skip
              go_wp2
              all_goals first | (exfalso; omega) | (go_ret; exact ⟨ret_int HE.out, W4.out⟩)
          · skip
            have HE := hide (lfault_f HNR.out HFW.out HFB.out (l := l) (by rw [fitsL_1 HKK.out]; exact decide_eq_false (by have h1 := HQ1.out; have h2 := HQ2.out; have h3 := HLL.out; have h4 := HKK.out; omega))).symm
            skip
            go_wp2
            all_goals first | (exfalso; omega) | (go_ret; exact ⟨ret_int HE.out, W4.out⟩)
      · rw [noneB_no hq1] at HNW
        have HQ1 := hide hq1
        clear hq1
        by_cases hq2 : br = 0 ∧ bc = 0
        · rw [noneB_yes hq2] at HNB
          have HQ2 := hide hq2
          clear hq2
          have d0 := H2.out 0 _ rfl
          have d1 := H2.out 1 _ rfl
          have d2 := H2.out 2 _ rfl
          have d3 := H2.out 3 _ rfl
          have d4 := H2.out 4 _ rfl
          have d5 := H2.out 5 _ rfl
          have d6 := H2.out 6 _ rfl
          go_wp2_with fail
          refine (HNW.out _).mono ?_
          rintro e w3 ⟨rfl, hb3⟩
          clear d0 d1 d2 d3 d4 d5 d6
          have H3 := hide (H2.out.below hb3)
          have d0 := H3.out 0 _ rfl
          have d1 := H3.out 1 _ rfl
          have d2 := H3.out 2 _ rfl
          have d3 := H3.out 3 _ rfl
          have d4 := H3.out 4 _ rfl
          have d5 := H3.out 5 _ rfl
          have d6 := H3.out 6 _ rfl
          have W3 := hide (below_next W2.out hb3)
          clear hb3
          go_wp2_with fail
          refine (HNB.out _).mono ?_
          rintro e w4 ⟨rfl, hb4⟩
          clear d0 d1 d2 d3 d4 d5 d6
          have H4 := hide (H3.out.below hb4)
          have d0 := H4.out 0 _ rfl
          have d1 := H4.out 1 _ rfl
          have d2 := H4.out 2 _ rfl
          have d3 := H4.out 3 _ rfl
          have d4 := H4.out 4 _ rfl
          have d5 := H4.out 5 _ rfl
          have d6 := H4.out 6 _ rfl
          have W4 := hide (below_next W3.out hb4)
          clear hb4
          by_cases c0 : 1 ≤ wr
          · skip
            by_cases c1 : wr ≤ 12
            · skip
              by_cases c2 : 1 ≤ wc
              · skip
                by_cases c3 : br = 1
                · have t3 : (br == 1) = true := by simp [c3]
                  by_cases c4 : bc = wc
                  · have t4 : (bc == wc) = true := by simp [c4]
                    have HE := hide (lfault_0 HNR.out HFW.out HFB.out (l := l) (by rw [fitsL_1 HKK.out]; exact decide_eq_true (by have h1 := HQ1.out; have h2 := HQ2.out; have h3 := HLL.out; have h4 := HKK.out; omega))).symm
                    clear c3 c4
                    go_wp2
                    all_goals first | (exfalso; omega) | (go_ret; exact ⟨ret_int HE.out, W4.out⟩)
                  · have t4 : (bc == wc) = false := by simp [c4]
                    have HE := hide (lfault_f HNR.out HFW.out HFB.out (l := l) (by rw [fitsL_1 HKK.out]; exact decide_eq_false (by have h1 := HQ1.out; have h2 := HQ2.out; have h3 := HLL.out; have h4 := HKK.out; omega))).symm
                    clear c3 c4
                    go_wp2
                    all_goals first | (exfalso; omega) | (go_ret; exact ⟨ret_int HE.out, W4.out⟩)
                · have t3 : (br == 1) = false := by simp [c3]
                  have HE := hide (lfault_f HNR.out HFW.out HFB.out (l := l) (by rw [fitsL_1 HKK.out]; exact decide_eq_false (by have h1 := HQ1.out; have h2 := HQ2.out; have h3 := HLL.out; have h4 := HKK.out; omega))).symm
                  clear c3
                  go_wp2
                  all_goals first | (exfalso; omega) | (go_ret; exact ⟨ret_int HE.out, W4.out⟩)
              · skip
                have HE := hide (lfault_f HNR.out HFW.out HFB.out (l := l) (by rw [fitsL_1 HKK.out]; exact decide_eq_false (by have h1 := HQ1.out; have h2 := HQ2.out; have h3 := HLL.out; have h4 := HKK.out; omega))).symm
                skip
                go_wp2
                all_goals first | (exfalso; omega) | (go_ret; exact ⟨ret_int HE.out, W4.out⟩)
            · skip
              have HE := hide (lfault_f HNR.out HFW.out HFB.out (l := l) (by rw [fitsL_1 HKK.out]; exact decide_eq_false (by have h1 := HQ1.out; have h2 := HQ2.out; have h3 := HLL.out; have h4 := HKK.out; omega))).symm
              skip
              go_wp2
              all_goals first | (exfalso; omega) | (go_ret; exact ⟨ret_int HE.out, W4.out⟩)
          · skip
            have HE := hide (lfault_f HNR.out HFW.out HFB.out (l := l) (by rw [fitsL_1 HKK.out]; exact decide_eq_false (by have h1 := HQ1.out; have h2 := HQ2.out; have h3 := HLL.out; have h4 := HKK.out; omega))).symm
            skip
            go_wp2
            all_goals first | (exfalso; omega) | (go_ret; exact ⟨ret_int HE.out, W4.out⟩)
        · rw [noneB_no hq2] at HNB
          have HQ2 := hide hq2
          clear hq2
          have d0 := H2.out 0 _ rfl
          have d1 := H2.out 1 _ rfl
          have d2 := H2.out 2 _ rfl
          have d3 := H2.out 3 _ rfl
          have d4 := H2.out 4 _ rfl
          have d5 := H2.out 5 _ rfl
          have d6 := H2.out 6 _ rfl
          go_wp2_with fail
          refine (HNW.out _).mono ?_
          rintro e w3 ⟨rfl, hb3⟩
          clear d0 d1 d2 d3 d4 d5 d6
          have H3 := hide (H2.out.below hb3)
          have d0 := H3.out 0 _ rfl
          have d1 := H3.out 1 _ rfl
          have d2 := H3.out 2 _ rfl
          have d3 := H3.out 3 _ rfl
          have d4 := H3.out 4 _ rfl
          have d5 := H3.out 5 _ rfl
          have d6 := H3.out 6 _ rfl
          have W3 := hide (below_next W2.out hb3)
          clear hb3
          go_wp2_with fail
          refine (HNB.out _).mono ?_
          rintro e w4 ⟨rfl, hb4⟩
          clear d0 d1 d2 d3 d4 d5 d6
          have H4 := hide (H3.out.below hb4)
          have d0 := H4.out 0 _ rfl
          have d1 := H4.out 1 _ rfl
          have d2 := H4.out 2 _ rfl
          have d3 := H4.out 3 _ rfl
          have d4 := H4.out 4 _ rfl
          have d5 := H4.out 5 _ rfl
          have d6 := H4.out 6 _ rfl
          have W4 := hide (below_next W3.out hb4)
          clear hb4
          by_cases c0 : 1 ≤ wr
          · skip
            by_cases c1 : wr ≤ 12
            · skip
              by_cases c2 : 1 ≤ wc
              · skip
                by_cases c3 : br = 1
                · have t3 : (br == 1) = true := by simp [c3]
                  by_cases c4 : bc = wc
                  · have t4 : (bc == wc) = true := by simp [c4]
                    have HE := hide (lfault_0 HNR.out HFW.out HFB.out (l := l) (by rw [fitsL_1 HKK.out]; exact decide_eq_true (by have h1 := HQ1.out; have h2 := HQ2.out; have h3 := HLL.out; have h4 := HKK.out; omega))).symm
                    clear c3 c4
                    go_wp2
                    all_goals first | (exfalso; omega) | (go_ret; exact ⟨ret_int HE.out, W4.out⟩)
                  · have t4 : (bc == wc) = false := by simp [c4]
                    have HE := hide (lfault_f HNR.out HFW.out HFB.out (l := l) (by rw [fitsL_1 HKK.out]; exact decide_eq_false (by have h1 := HQ1.out; have h2 := HQ2.out; have h3 := HLL.out; have h4 := HKK.out; omega))).symm
                    clear c3 c4
                    go_wp2
                    all_goals first | (exfalso; omega) | (go_ret; exact ⟨ret_int HE.out, W4.out⟩)
                · have t3 : (br == 1) = false := by simp [c3]
                  have HE := hide (lfault_f HNR.out HFW.out HFB.out (l := l) (by rw [fitsL_1 HKK.out]; exact decide_eq_false (by have h1 := HQ1.out; have h2 := HQ2.out; have h3 := HLL.out; have h4 := HKK.out; omega))).symm
                  clear c3
                  go_wp2
                  all_goals first | (exfalso; omega) | (go_ret; exact ⟨ret_int HE.out, W4.out⟩)
              · skip
                have HE := hide (lfault_f HNR.out HFW.out HFB.out (l := l) (by rw [fitsL_1 HKK.out]; exact decide_eq_false (by have h1 := HQ1.out; have h2 := HQ2.out; have h3 := HLL.out; have h4 := HKK.out; omega))).symm
                skip
                go_wp2
                all_goals first | (exfalso; omega) | (go_ret; exact ⟨ret_int HE.out, W4.out⟩)
            · skip
              have HE := hide (lfault_f HNR.out HFW.out HFB.out (l := l) (by rw [fitsL_1 HKK.out]; exact decide_eq_false (by have h1 := HQ1.out; have h2 := HQ2.out; have h3 := HLL.out; have h4 := HKK.out; omega))).symm
              skip
              go_wp2
              all_goals first | (exfalso; omega) | (go_ret; exact ⟨ret_int HE.out, W4.out⟩)
          · skip
            have HE := hide (lfault_f HNR.out HFW.out HFB.out (l := l) (by rw [fitsL_1 HKK.out]; exact decide_eq_false (by have h1 := HQ1.out; have h2 := HQ2.out; have h3 := HLL.out; have h4 := HKK.out; omega))).symm
            skip
            go_wp2
            all_goals first | (exfalso; omega) | (go_ret; exact ⟨ret_int HE.out, W4.out⟩)
    · obtain ⟨j, hj⟩ : ∃ j, fault l.b = j := ⟨_, rfl⟩
      have hj0 : (j == 0) = false := by rw [← hj]; simp [hg]
      have hj1 : (j != 0) = true := by rw [← hj]; simp [hg]
      have HE := hide (show j = lfault l by rw [lfault_b HNR.out HFW.out hg, hj])
      rw [hj]
      clear hg hj
      have d0 := H2.out 0 _ rfl
      have d1 := H2.out 1 _ rfl
      have d2 := H2.out 2 _ rfl
      have d3 := H2.out 3 _ rfl
      have d4 := H2.out 4 _ rfl
      have d5 := H2.out 5 _ rfl
      have d6 := H2.out 6 _ rfl
      go_wp2
      go_ret
      exact ⟨ret_int HE.out, W2.out⟩
  · obtain ⟨j, hj⟩ : ∃ j, fault l.w = j := ⟨_, rfl⟩
    have hj0 : (j == 0) = false := by rw [← hj]; simp [hf]
    have hj1 : (j != 0) = true := by rw [← hj]; simp [hf]
    have HE := hide (show j = lfault l by rw [lfault_w HNR.out hf, hj])
    rw [hj]
    clear hf hj
    have d0 := H1.out 0 _ rfl
    have d1 := H1.out 1 _ rfl
    have d2 := H1.out 2 _ rfl
    have d3 := H1.out 3 _ rfl
    have d4 := H1.out 4 _ rfl
    have d5 := H1.out 5 _ rfl
    have d6 := H1.out 6 _ rfl
    go_wp2
    go_ret
    exact ⟨ret_int HE.out, W1.out⟩
set_option maxHeartbeats 8000000 in
theorem rlfault_2 (v : Value) (l : Ly) (w : World) (hv : IsLy w v l) (hk : l.k = 2) : Calls Tryd.prog 26 #[v] w fun e w' => e = .returned (.int .i64 (lfault l)) ∧ Below w.heap.size w w' := by
  obtain ⟨s, t, rfl, hs, ht⟩ := hv
  obtain ⟨xa, xn, xk, rfl⟩ := hs.shape
  obtain ⟨ya, yn, yk, rfl⟩ := ht.shape
  obtain ⟨k, e0⟩ : ∃ r, l.k = r := ⟨_, rfl⟩
  obtain ⟨wr, e1⟩ : ∃ r, l.w.rows = r := ⟨_, rfl⟩
  obtain ⟨wc, e2⟩ : ∃ r, l.w.cols = r := ⟨_, rfl⟩
  obtain ⟨br, e3⟩ : ∃ r, l.b.rows = r := ⟨_, rfl⟩
  obtain ⟨bc, e4⟩ : ∃ r, l.b.cols = r := ⟨_, rfl⟩
  have HMW := hide (fun W (h : Below w.heap.size w W) => fault_any _ l.w W ⟨_, rfl, hs.below h⟩)
  have HMB := hide (fun W (h : Below w.heap.size w W) => fault_any _ l.b W ⟨_, rfl, ht.below h⟩)
  have HNW := hide (fun W => none_any wr wc (.slice xa xn xk) W)
  have HNB := hide (fun W => none_any br bc (.slice ya yn yk) W)
  have HNR := hide (show ¬ (l.k < 1 ∨ 4 < l.k) by omega)
  obtain rfl : k = 2 := by omega
  rw [e1, e2] at HMW
  rw [e3, e4] at HMB
  have HKK := hide hk
  have HLL := hide (And.intro e1 (And.intro e2 (And.intro e3 e4)))
  rw [e0, e1, e2, e3, e4]
  have HBX := hide (Box.new w [.int .i64 2, .int .i64 wr, .int .i64 wc, .slice xa xn xk, .int .i64 br, .int .i64 bc, .slice ya yn yk] 55 rfl)
  clear hs ht e0 e1 e2 e3 e4 hk
  go_enter Tryd.func26, Tryd.ntmps26
  go_wp2_with fail
  refine (HMW.out _ (below_one _ _)).mono ?_
  rintro e w1 ⟨rfl, hb1⟩
  have H1 := hide (HBX.out.below hb1)
  have W1 := hide (below_box (Below.refl _ _) hb1)
  clear hb1
  by_cases hf : fault l.w = 0
  · rw [hf]
    have HFW := hide hf
    clear hf
    have d0 := H1.out 0 _ rfl
    have d1 := H1.out 1 _ rfl
    have d2 := H1.out 2 _ rfl
    have d3 := H1.out 3 _ rfl
    have d4 := H1.out 4 _ rfl
    have d5 := H1.out 5 _ rfl
    have d6 := H1.out 6 _ rfl
    go_wp2_with fail
    refine (HMB.out _ W1.out).mono ?_
    rintro e w2 ⟨rfl, hb2⟩
    clear d0 d1 d2 d3 d4 d5 d6
    have H2 := hide (H1.out.below hb2)
    have W2 := hide (below_next W1.out hb2)
    clear hb2
    by_cases hg : fault l.b = 0
    · rw [hg]
      have HFB := hide hg
      clear hg
      by_cases hq1 : wr = 0 ∧ wc = 0
      · rw [noneB_yes hq1] at HNW
        have HQ1 := hide hq1
        clear hq1
        by_cases hq2 : br = 0 ∧ bc = 0
        · rw [noneB_yes hq2] at HNB
          have HQ2 := hide hq2
          clear hq2
          have d0 := H2.out 0 _ rfl
          have d1 := H2.out 1 _ rfl
          have d2 := H2.out 2 _ rfl
          have d3 := H2.out 3 _ rfl
          have d4 := H2.out 4 _ rfl
          have d5 := H2.out 5 _ rfl
          have d6 := H2.out 6 _ rfl
          go_wp2_with fail
          refine (HNW.out _).mono ?_
          rintro e w3 ⟨rfl, hb3⟩
          clear d0 d1 d2 d3 d4 d5 d6
          have H3 := hide (H2.out.below hb3)
          have d0 := H3.out 0 _ rfl
          have d1 := H3.out 1 _ rfl
          have d2 := H3.out 2 _ rfl
          have d3 := H3.out 3 _ rfl
          have d4 := H3.out 4 _ rfl
          have d5 := H3.out 5 _ rfl
          have d6 := H3.out 6 _ rfl
          have W3 := hide (below_next W2.out hb3)
          clear hb3
          go_wp2_with fail
          refine (HNB.out _).mono ?_
          rintro e w4 ⟨rfl, hb4⟩
          clear d0 d1 d2 d3 d4 d5 d6
          have H4 := hide (H3.out.below hb4)
          have d0 := H4.out 0 _ rfl
          have d1 := H4.out 1 _ rfl
          have d2 := H4.out 2 _ rfl
          have d3 := H4.out 3 _ rfl
          have d4 := H4.out 4 _ rfl
          have d5 := H4.out 5 _ rfl
          have d6 := H4.out 6 _ rfl
          have W4 := hide (below_next W3.out hb4)
          clear hb4
          have HE := hide (lfault_0 HNR.out HFW.out HFB.out (l := l) (by rw [fitsL_2 HKK.out]; exact decide_eq_true (by have h1 := HQ1.out; have h2 := HQ2.out; have h3 := HLL.out; have h4 := HKK.out; omega))).symm
          skip
          go_wp2
          all_goals first | (exfalso; omega) | (go_ret; exact ⟨ret_int HE.out, W4.out⟩)
        · rw [noneB_no hq2] at HNB
          have HQ2 := hide hq2
          clear hq2
          have d0 := H2.out 0 _ rfl
          have d1 := H2.out 1 _ rfl
          have d2 := H2.out 2 _ rfl
          have d3 := H2.out 3 _ rfl
          have d4 := H2.out 4 _ rfl
          have d5 := H2.out 5 _ rfl
          have d6 := H2.out 6 _ rfl
          go_wp2_with fail
          refine (HNW.out _).mono ?_
          rintro e w3 ⟨rfl, hb3⟩
          clear d0 d1 d2 d3 d4 d5 d6
          have H3 := hide (H2.out.below hb3)
          have d0 := H3.out 0 _ rfl
          have d1 := H3.out 1 _ rfl
          have d2 := H3.out 2 _ rfl
          have d3 := H3.out 3 _ rfl
          have d4 := H3.out 4 _ rfl
          have d5 := H3.out 5 _ rfl
          have d6 := H3.out 6 _ rfl
          have W3 := hide (below_next W2.out hb3)
          clear hb3
          go_wp2_with fail
          refine (HNB.out _).mono ?_
          rintro e w4 ⟨rfl, hb4⟩
          clear d0 d1 d2 d3 d4 d5 d6
          have H4 := hide (H3.out.below hb4)
          have d0 := H4.out 0 _ rfl
          have d1 := H4.out 1 _ rfl
          have d2 := H4.out 2 _ rfl
          have d3 := H4.out 3 _ rfl
          have d4 := H4.out 4 _ rfl
          have d5 := H4.out 5 _ rfl
          have d6 := H4.out 6 _ rfl
          have W4 := hide (below_next W3.out hb4)
          clear hb4
          have HE := hide (lfault_f HNR.out HFW.out HFB.out (l := l) (by rw [fitsL_2 HKK.out]; exact decide_eq_false (by have h1 := HQ1.out; have h2 := HQ2.out; have h3 := HLL.out; have h4 := HKK.out; omega))).symm
          skip
          go_wp2
          all_goals first | (exfalso; omega) | (go_ret; exact ⟨ret_int HE.out, W4.out⟩)
      · rw [noneB_no hq1] at HNW
        have HQ1 := hide hq1
        clear hq1
        by_cases hq2 : br = 0 ∧ bc = 0
        · rw [noneB_yes hq2] at HNB
          have HQ2 := hide hq2
          clear hq2
          have d0 := H2.out 0 _ rfl
          have d1 := H2.out 1 _ rfl
          have d2 := H2.out 2 _ rfl
          have d3 := H2.out 3 _ rfl
          have d4 := H2.out 4 _ rfl
          have d5 := H2.out 5 _ rfl
          have d6 := H2.out 6 _ rfl
          go_wp2_with fail
          refine (HNW.out _).mono ?_
          rintro e w3 ⟨rfl, hb3⟩
          clear d0 d1 d2 d3 d4 d5 d6
          have H3 := hide (H2.out.below hb3)
          have d0 := H3.out 0 _ rfl
          have d1 := H3.out 1 _ rfl
          have d2 := H3.out 2 _ rfl
          have d3 := H3.out 3 _ rfl
          have d4 := H3.out 4 _ rfl
          have d5 := H3.out 5 _ rfl
          have d6 := H3.out 6 _ rfl
          have W3 := hide (below_next W2.out hb3)
          clear hb3
          go_wp2_with fail
          refine (HNB.out _).mono ?_
          rintro e w4 ⟨rfl, hb4⟩
          clear d0 d1 d2 d3 d4 d5 d6
          have H4 := hide (H3.out.below hb4)
          have d0 := H4.out 0 _ rfl
          have d1 := H4.out 1 _ rfl
          have d2 := H4.out 2 _ rfl
          have d3 := H4.out 3 _ rfl
          have d4 := H4.out 4 _ rfl
          have d5 := H4.out 5 _ rfl
          have d6 := H4.out 6 _ rfl
          have W4 := hide (below_next W3.out hb4)
          clear hb4
          have HE := hide (lfault_f HNR.out HFW.out HFB.out (l := l) (by rw [fitsL_2 HKK.out]; exact decide_eq_false (by have h1 := HQ1.out; have h2 := HQ2.out; have h3 := HLL.out; have h4 := HKK.out; omega))).symm
          skip
          go_wp2
          all_goals first | (exfalso; omega) | (go_ret; exact ⟨ret_int HE.out, W4.out⟩)
        · rw [noneB_no hq2] at HNB
          have HQ2 := hide hq2
          clear hq2
          have d0 := H2.out 0 _ rfl
          have d1 := H2.out 1 _ rfl
          have d2 := H2.out 2 _ rfl
          have d3 := H2.out 3 _ rfl
          have d4 := H2.out 4 _ rfl
          have d5 := H2.out 5 _ rfl
          have d6 := H2.out 6 _ rfl
          go_wp2_with fail
          refine (HNW.out _).mono ?_
          rintro e w3 ⟨rfl, hb3⟩
          clear d0 d1 d2 d3 d4 d5 d6
          have H3 := hide (H2.out.below hb3)
          have d0 := H3.out 0 _ rfl
          have d1 := H3.out 1 _ rfl
          have d2 := H3.out 2 _ rfl
          have d3 := H3.out 3 _ rfl
          have d4 := H3.out 4 _ rfl
          have d5 := H3.out 5 _ rfl
          have d6 := H3.out 6 _ rfl
          have W3 := hide (below_next W2.out hb3)
          clear hb3
          go_wp2_with fail
          refine (HNB.out _).mono ?_
          rintro e w4 ⟨rfl, hb4⟩
          clear d0 d1 d2 d3 d4 d5 d6
          have H4 := hide (H3.out.below hb4)
          have d0 := H4.out 0 _ rfl
          have d1 := H4.out 1 _ rfl
          have d2 := H4.out 2 _ rfl
          have d3 := H4.out 3 _ rfl
          have d4 := H4.out 4 _ rfl
          have d5 := H4.out 5 _ rfl
          have d6 := H4.out 6 _ rfl
          have W4 := hide (below_next W3.out hb4)
          clear hb4
          have HE := hide (lfault_f HNR.out HFW.out HFB.out (l := l) (by rw [fitsL_2 HKK.out]; exact decide_eq_false (by have h1 := HQ1.out; have h2 := HQ2.out; have h3 := HLL.out; have h4 := HKK.out; omega))).symm
          skip
          go_wp2
          all_goals first | (exfalso; omega) | (go_ret; exact ⟨ret_int HE.out, W4.out⟩)
    · obtain ⟨j, hj⟩ : ∃ j, fault l.b = j := ⟨_, rfl⟩
      have hj0 : (j == 0) = false := by rw [← hj]; simp [hg]
      have hj1 : (j != 0) = true := by rw [← hj]; simp [hg]
      have HE := hide (show j = lfault l by rw [lfault_b HNR.out HFW.out hg, hj])
      rw [hj]
      clear hg hj
      have d0 := H2.out 0 _ rfl
      have d1 := H2.out 1 _ rfl
      have d2 := H2.out 2 _ rfl
      have d3 := H2.out 3 _ rfl
      have d4 := H2.out 4 _ rfl
      have d5 := H2.out 5 _ rfl
      have d6 := H2.out 6 _ rfl
      go_wp2
      go_ret
      exact ⟨ret_int HE.out, W2.out⟩
  · obtain ⟨j, hj⟩ : ∃ j, fault l.w = j := ⟨_, rfl⟩
    have hj0 : (j == 0) = false := by rw [← hj]; simp [hf]
    have hj1 : (j != 0) = true := by rw [← hj]; simp [hf]
    have HE := hide (show j = lfault l by rw [lfault_w HNR.out hf, hj])
    rw [hj]
    clear hf hj
    have d0 := H1.out 0 _ rfl
    have d1 := H1.out 1 _ rfl
    have d2 := H1.out 2 _ rfl
    have d3 := H1.out 3 _ rfl
    have d4 := H1.out 4 _ rfl
    have d5 := H1.out 5 _ rfl
    have d6 := H1.out 6 _ rfl
    go_wp2
    go_ret
    exact ⟨ret_int HE.out, W1.out⟩
set_option maxHeartbeats 8000000 in
theorem rlfault_3 (v : Value) (l : Ly) (w : World) (hv : IsLy w v l) (hk : l.k = 3) : Calls Tryd.prog 26 #[v] w fun e w' => e = .returned (.int .i64 (lfault l)) ∧ Below w.heap.size w w' := by
  obtain ⟨s, t, rfl, hs, ht⟩ := hv
  obtain ⟨xa, xn, xk, rfl⟩ := hs.shape
  obtain ⟨ya, yn, yk, rfl⟩ := ht.shape
  obtain ⟨k, e0⟩ : ∃ r, l.k = r := ⟨_, rfl⟩
  obtain ⟨wr, e1⟩ : ∃ r, l.w.rows = r := ⟨_, rfl⟩
  obtain ⟨wc, e2⟩ : ∃ r, l.w.cols = r := ⟨_, rfl⟩
  obtain ⟨br, e3⟩ : ∃ r, l.b.rows = r := ⟨_, rfl⟩
  obtain ⟨bc, e4⟩ : ∃ r, l.b.cols = r := ⟨_, rfl⟩
  have HMW := hide (fun W (h : Below w.heap.size w W) => fault_any _ l.w W ⟨_, rfl, hs.below h⟩)
  have HMB := hide (fun W (h : Below w.heap.size w W) => fault_any _ l.b W ⟨_, rfl, ht.below h⟩)
  have HNW := hide (fun W => none_any wr wc (.slice xa xn xk) W)
  have HNB := hide (fun W => none_any br bc (.slice ya yn yk) W)
  have HNR := hide (show ¬ (l.k < 1 ∨ 4 < l.k) by omega)
  obtain rfl : k = 3 := by omega
  rw [e1, e2] at HMW
  rw [e3, e4] at HMB
  have HKK := hide hk
  have HLL := hide (And.intro e1 (And.intro e2 (And.intro e3 e4)))
  rw [e0, e1, e2, e3, e4]
  have HBX := hide (Box.new w [.int .i64 3, .int .i64 wr, .int .i64 wc, .slice xa xn xk, .int .i64 br, .int .i64 bc, .slice ya yn yk] 55 rfl)
  clear hs ht e0 e1 e2 e3 e4 hk
  go_enter Tryd.func26, Tryd.ntmps26
  go_wp2_with fail
  refine (HMW.out _ (below_one _ _)).mono ?_
  rintro e w1 ⟨rfl, hb1⟩
  have H1 := hide (HBX.out.below hb1)
  have W1 := hide (below_box (Below.refl _ _) hb1)
  clear hb1
  by_cases hf : fault l.w = 0
  · rw [hf]
    have HFW := hide hf
    clear hf
    have d0 := H1.out 0 _ rfl
    have d1 := H1.out 1 _ rfl
    have d2 := H1.out 2 _ rfl
    have d3 := H1.out 3 _ rfl
    have d4 := H1.out 4 _ rfl
    have d5 := H1.out 5 _ rfl
    have d6 := H1.out 6 _ rfl
    go_wp2_with fail
    refine (HMB.out _ W1.out).mono ?_
    rintro e w2 ⟨rfl, hb2⟩
    clear d0 d1 d2 d3 d4 d5 d6
    have H2 := hide (H1.out.below hb2)
    have W2 := hide (below_next W1.out hb2)
    clear hb2
    by_cases hg : fault l.b = 0
    · rw [hg]
      have HFB := hide hg
      clear hg
      by_cases hq1 : wr = 0 ∧ wc = 0
      · rw [noneB_yes hq1] at HNW
        have HQ1 := hide hq1
        clear hq1
        by_cases hq2 : br = 0 ∧ bc = 0
        · rw [noneB_yes hq2] at HNB
          have HQ2 := hide hq2
          clear hq2
          have d0 := H2.out 0 _ rfl
          have d1 := H2.out 1 _ rfl
          have d2 := H2.out 2 _ rfl
          have d3 := H2.out 3 _ rfl
          have d4 := H2.out 4 _ rfl
          have d5 := H2.out 5 _ rfl
          have d6 := H2.out 6 _ rfl
          go_wp2_with fail
          refine (HNW.out _).mono ?_
          rintro e w3 ⟨rfl, hb3⟩
          clear d0 d1 d2 d3 d4 d5 d6
          have H3 := hide (H2.out.below hb3)
          have d0 := H3.out 0 _ rfl
          have d1 := H3.out 1 _ rfl
          have d2 := H3.out 2 _ rfl
          have d3 := H3.out 3 _ rfl
          have d4 := H3.out 4 _ rfl
          have d5 := H3.out 5 _ rfl
          have d6 := H3.out 6 _ rfl
          have W3 := hide (below_next W2.out hb3)
          clear hb3
          go_wp2_with fail
          refine (HNB.out _).mono ?_
          rintro e w4 ⟨rfl, hb4⟩
          clear d0 d1 d2 d3 d4 d5 d6
          have H4 := hide (H3.out.below hb4)
          have d0 := H4.out 0 _ rfl
          have d1 := H4.out 1 _ rfl
          have d2 := H4.out 2 _ rfl
          have d3 := H4.out 3 _ rfl
          have d4 := H4.out 4 _ rfl
          have d5 := H4.out 5 _ rfl
          have d6 := H4.out 6 _ rfl
          have W4 := hide (below_next W3.out hb4)
          clear hb4
          by_cases c0 : wr = 1
          · have t0 : (wr == 1) = true := by simp [c0]
            by_cases c1 : wc = 1
            · have t1 : (wc == 1) = true := by simp [c1]
              have HE := hide (lfault_0 HNR.out HFW.out HFB.out (l := l) (by rw [fitsL_3 HKK.out]; exact decide_eq_true (by have h1 := HQ1.out; have h2 := HQ2.out; have h3 := HLL.out; have h4 := HKK.out; omega))).symm
              clear c0 c1
              go_wp2
              all_goals first | (exfalso; omega) | (go_ret; exact ⟨ret_int HE.out, W4.out⟩)
            · have t1 : (wc == 1) = false := by simp [c1]
              have HE := hide (lfault_f HNR.out HFW.out HFB.out (l := l) (by rw [fitsL_3 HKK.out]; exact decide_eq_false (by have h1 := HQ1.out; have h2 := HQ2.out; have h3 := HLL.out; have h4 := HKK.out; omega))).symm
              clear c0 c1
              go_wp2
              all_goals first | (exfalso; omega) | (go_ret; exact ⟨ret_int HE.out, W4.out⟩)
          · have t0 : (wr == 1) = false := by simp [c0]
            have HE := hide (lfault_f HNR.out HFW.out HFB.out (l := l) (by rw [fitsL_3 HKK.out]; exact decide_eq_false (by have h1 := HQ1.out; have h2 := HQ2.out; have h3 := HLL.out; have h4 := HKK.out; omega))).symm
            clear c0
            go_wp2
            all_goals first | (exfalso; omega) | (go_ret; exact ⟨ret_int HE.out, W4.out⟩)
        · rw [noneB_no hq2] at HNB
          have HQ2 := hide hq2
          clear hq2
          have d0 := H2.out 0 _ rfl
          have d1 := H2.out 1 _ rfl
          have d2 := H2.out 2 _ rfl
          have d3 := H2.out 3 _ rfl
          have d4 := H2.out 4 _ rfl
          have d5 := H2.out 5 _ rfl
          have d6 := H2.out 6 _ rfl
          go_wp2_with fail
          refine (HNW.out _).mono ?_
          rintro e w3 ⟨rfl, hb3⟩
          clear d0 d1 d2 d3 d4 d5 d6
          have H3 := hide (H2.out.below hb3)
          have d0 := H3.out 0 _ rfl
          have d1 := H3.out 1 _ rfl
          have d2 := H3.out 2 _ rfl
          have d3 := H3.out 3 _ rfl
          have d4 := H3.out 4 _ rfl
          have d5 := H3.out 5 _ rfl
          have d6 := H3.out 6 _ rfl
          have W3 := hide (below_next W2.out hb3)
          clear hb3
          go_wp2_with fail
          refine (HNB.out _).mono ?_
          rintro e w4 ⟨rfl, hb4⟩
          clear d0 d1 d2 d3 d4 d5 d6
          have H4 := hide (H3.out.below hb4)
          have d0 := H4.out 0 _ rfl
          have d1 := H4.out 1 _ rfl
          have d2 := H4.out 2 _ rfl
          have d3 := H4.out 3 _ rfl
          have d4 := H4.out 4 _ rfl
          have d5 := H4.out 5 _ rfl
          have d6 := H4.out 6 _ rfl
          have W4 := hide (below_next W3.out hb4)
          clear hb4
          by_cases c0 : wr = 1
          · have t0 : (wr == 1) = true := by simp [c0]
            by_cases c1 : wc = 1
            · have t1 : (wc == 1) = true := by simp [c1]
              have HE := hide (lfault_f HNR.out HFW.out HFB.out (l := l) (by rw [fitsL_3 HKK.out]; exact decide_eq_false (by have h1 := HQ1.out; have h2 := HQ2.out; have h3 := HLL.out; have h4 := HKK.out; omega))).symm
              clear c0 c1
              go_wp2
              all_goals first | (exfalso; omega) | (go_ret; exact ⟨ret_int HE.out, W4.out⟩)
            · have t1 : (wc == 1) = false := by simp [c1]
              have HE := hide (lfault_f HNR.out HFW.out HFB.out (l := l) (by rw [fitsL_3 HKK.out]; exact decide_eq_false (by have h1 := HQ1.out; have h2 := HQ2.out; have h3 := HLL.out; have h4 := HKK.out; omega))).symm
              clear c0 c1
              go_wp2
              all_goals first | (exfalso; omega) | (go_ret; exact ⟨ret_int HE.out, W4.out⟩)
          · have t0 : (wr == 1) = false := by simp [c0]
            have HE := hide (lfault_f HNR.out HFW.out HFB.out (l := l) (by rw [fitsL_3 HKK.out]; exact decide_eq_false (by have h1 := HQ1.out; have h2 := HQ2.out; have h3 := HLL.out; have h4 := HKK.out; omega))).symm
            clear c0
            go_wp2
            all_goals first | (exfalso; omega) | (go_ret; exact ⟨ret_int HE.out, W4.out⟩)
      · rw [noneB_no hq1] at HNW
        have HQ1 := hide hq1
        clear hq1
        by_cases hq2 : br = 0 ∧ bc = 0
        · rw [noneB_yes hq2] at HNB
          have HQ2 := hide hq2
          clear hq2
          have d0 := H2.out 0 _ rfl
          have d1 := H2.out 1 _ rfl
          have d2 := H2.out 2 _ rfl
          have d3 := H2.out 3 _ rfl
          have d4 := H2.out 4 _ rfl
          have d5 := H2.out 5 _ rfl
          have d6 := H2.out 6 _ rfl
          go_wp2_with fail
          refine (HNW.out _).mono ?_
          rintro e w3 ⟨rfl, hb3⟩
          clear d0 d1 d2 d3 d4 d5 d6
          have H3 := hide (H2.out.below hb3)
          have d0 := H3.out 0 _ rfl
          have d1 := H3.out 1 _ rfl
          have d2 := H3.out 2 _ rfl
          have d3 := H3.out 3 _ rfl
          have d4 := H3.out 4 _ rfl
          have d5 := H3.out 5 _ rfl
          have d6 := H3.out 6 _ rfl
          have W3 := hide (below_next W2.out hb3)
          clear hb3
          go_wp2_with fail
          refine (HNB.out _).mono ?_
          rintro e w4 ⟨rfl, hb4⟩
          clear d0 d1 d2 d3 d4 d5 d6
          have H4 := hide (H3.out.below hb4)
          have d0 := H4.out 0 _ rfl
          have d1 := H4.out 1 _ rfl
          have d2 := H4.out 2 _ rfl
          have d3 := H4.out 3 _ rfl
          have d4 := H4.out 4 _ rfl
          have d5 := H4.out 5 _ rfl
          have d6 := H4.out 6 _ rfl
          have W4 := hide (below_next W3.out hb4)
          clear hb4
          by_cases c0 : wr = 1
          · have t0 : (wr == 1) = true := by simp [c0]
            by_cases c1 : wc = 1
            · have t1 : (wc == 1) = true := by simp [c1]
              have HE := hide (lfault_0 HNR.out HFW.out HFB.out (l := l) (by rw [fitsL_3 HKK.out]; exact decide_eq_true (by have h1 := HQ1.out; have h2 := HQ2.out; have h3 := HLL.out; have h4 := HKK.out; omega))).symm
              clear c0 c1
              go_wp2
              all_goals first | (exfalso; omega) | (go_ret; exact ⟨ret_int HE.out, W4.out⟩)
            · have t1 : (wc == 1) = false := by simp [c1]
              have HE := hide (lfault_f HNR.out HFW.out HFB.out (l := l) (by rw [fitsL_3 HKK.out]; exact decide_eq_false (by have h1 := HQ1.out; have h2 := HQ2.out; have h3 := HLL.out; have h4 := HKK.out; omega))).symm
              clear c0 c1
              go_wp2
              all_goals first | (exfalso; omega) | (go_ret; exact ⟨ret_int HE.out, W4.out⟩)
          · have t0 : (wr == 1) = false := by simp [c0]
            have HE := hide (lfault_f HNR.out HFW.out HFB.out (l := l) (by rw [fitsL_3 HKK.out]; exact decide_eq_false (by have h1 := HQ1.out; have h2 := HQ2.out; have h3 := HLL.out; have h4 := HKK.out; omega))).symm
            clear c0
            go_wp2
            all_goals first | (exfalso; omega) | (go_ret; exact ⟨ret_int HE.out, W4.out⟩)
        · rw [noneB_no hq2] at HNB
          have HQ2 := hide hq2
          clear hq2
          have d0 := H2.out 0 _ rfl
          have d1 := H2.out 1 _ rfl
          have d2 := H2.out 2 _ rfl
          have d3 := H2.out 3 _ rfl
          have d4 := H2.out 4 _ rfl
          have d5 := H2.out 5 _ rfl
          have d6 := H2.out 6 _ rfl
          go_wp2_with fail
          refine (HNW.out _).mono ?_
          rintro e w3 ⟨rfl, hb3⟩
          clear d0 d1 d2 d3 d4 d5 d6
          have H3 := hide (H2.out.below hb3)
          have d0 := H3.out 0 _ rfl
          have d1 := H3.out 1 _ rfl
          have d2 := H3.out 2 _ rfl
          have d3 := H3.out 3 _ rfl
          have d4 := H3.out 4 _ rfl
          have d5 := H3.out 5 _ rfl
          have d6 := H3.out 6 _ rfl
          have W3 := hide (below_next W2.out hb3)
          clear hb3
          go_wp2_with fail
          refine (HNB.out _).mono ?_
          rintro e w4 ⟨rfl, hb4⟩
          clear d0 d1 d2 d3 d4 d5 d6
          have H4 := hide (H3.out.below hb4)
          have d0 := H4.out 0 _ rfl
          have d1 := H4.out 1 _ rfl
          have d2 := H4.out 2 _ rfl
          have d3 := H4.out 3 _ rfl
          have d4 := H4.out 4 _ rfl
          have d5 := H4.out 5 _ rfl
          have d6 := H4.out 6 _ rfl
          have W4 := hide (below_next W3.out hb4)
          clear hb4
          by_cases c0 : wr = 1
          · have t0 : (wr == 1) = true := by simp [c0]
            by_cases c1 : wc = 1
            · have t1 : (wc == 1) = true := by simp [c1]
              have HE := hide (lfault_f HNR.out HFW.out HFB.out (l := l) (by rw [fitsL_3 HKK.out]; exact decide_eq_false (by have h1 := HQ1.out; have h2 := HQ2.out; have h3 := HLL.out; have h4 := HKK.out; omega))).symm
              clear c0 c1
              go_wp2
              all_goals first | (exfalso; omega) | (go_ret; exact ⟨ret_int HE.out, W4.out⟩)
            · have t1 : (wc == 1) = false := by simp [c1]
              have HE := hide (lfault_f HNR.out HFW.out HFB.out (l := l) (by rw [fitsL_3 HKK.out]; exact decide_eq_false (by have h1 := HQ1.out; have h2 := HQ2.out; have h3 := HLL.out; have h4 := HKK.out; omega))).symm
              clear c0 c1
              go_wp2
              all_goals first | (exfalso; omega) | (go_ret; exact ⟨ret_int HE.out, W4.out⟩)
          · have t0 : (wr == 1) = false := by simp [c0]
            have HE := hide (lfault_f HNR.out HFW.out HFB.out (l := l) (by rw [fitsL_3 HKK.out]; exact decide_eq_false (by have h1 := HQ1.out; have h2 := HQ2.out; have h3 := HLL.out; have h4 := HKK.out; omega))).symm
            clear c0
            go_wp2
            all_goals first | (exfalso; omega) | (go_ret; exact ⟨ret_int HE.out, W4.out⟩)
    · obtain ⟨j, hj⟩ : ∃ j, fault l.b = j := ⟨_, rfl⟩
      have hj0 : (j == 0) = false := by rw [← hj]; simp [hg]
      have hj1 : (j != 0) = true := by rw [← hj]; simp [hg]
      have HE := hide (show j = lfault l by rw [lfault_b HNR.out HFW.out hg, hj])
      rw [hj]
      clear hg hj
      have d0 := H2.out 0 _ rfl
      have d1 := H2.out 1 _ rfl
      have d2 := H2.out 2 _ rfl
      have d3 := H2.out 3 _ rfl
      have d4 := H2.out 4 _ rfl
      have d5 := H2.out 5 _ rfl
      have d6 := H2.out 6 _ rfl
      go_wp2
      go_ret
      exact ⟨ret_int HE.out, W2.out⟩
  · obtain ⟨j, hj⟩ : ∃ j, fault l.w = j := ⟨_, rfl⟩
    have hj0 : (j == 0) = false := by rw [← hj]; simp [hf]
    have hj1 : (j != 0) = true := by rw [← hj]; simp [hf]
    have HE := hide (show j = lfault l by rw [lfault_w HNR.out hf, hj])
    rw [hj]
    clear hf hj
    have d0 := H1.out 0 _ rfl
    have d1 := H1.out 1 _ rfl
    have d2 := H1.out 2 _ rfl
    have d3 := H1.out 3 _ rfl
    have d4 := H1.out 4 _ rfl
    have d5 := H1.out 5 _ rfl
    have d6 := H1.out 6 _ rfl
    go_wp2
    go_ret
    exact ⟨ret_int HE.out, W1.out⟩
set_option maxHeartbeats 8000000 in
theorem rlfault_4 (v : Value) (l : Ly) (w : World) (hv : IsLy w v l) (hk : l.k = 4) : Calls Tryd.prog 26 #[v] w fun e w' => e = .returned (.int .i64 (lfault l)) ∧ Below w.heap.size w w' := by
  obtain ⟨s, t, rfl, hs, ht⟩ := hv
  obtain ⟨xa, xn, xk, rfl⟩ := hs.shape
  obtain ⟨ya, yn, yk, rfl⟩ := ht.shape
  obtain ⟨k, e0⟩ : ∃ r, l.k = r := ⟨_, rfl⟩
  obtain ⟨wr, e1⟩ : ∃ r, l.w.rows = r := ⟨_, rfl⟩
  obtain ⟨wc, e2⟩ : ∃ r, l.w.cols = r := ⟨_, rfl⟩
  obtain ⟨br, e3⟩ : ∃ r, l.b.rows = r := ⟨_, rfl⟩
  obtain ⟨bc, e4⟩ : ∃ r, l.b.cols = r := ⟨_, rfl⟩
  have HMW := hide (fun W (h : Below w.heap.size w W) => fault_any _ l.w W ⟨_, rfl, hs.below h⟩)
  have HMB := hide (fun W (h : Below w.heap.size w W) => fault_any _ l.b W ⟨_, rfl, ht.below h⟩)
  have HNW := hide (fun W => none_any wr wc (.slice xa xn xk) W)
  have HNB := hide (fun W => none_any br bc (.slice ya yn yk) W)
  have HNR := hide (show ¬ (l.k < 1 ∨ 4 < l.k) by omega)
  obtain rfl : k = 4 := by omega
  rw [e1, e2] at HMW
  rw [e3, e4] at HMB
  have HKK := hide hk
  have HLL := hide (And.intro e1 (And.intro e2 (And.intro e3 e4)))
  rw [e0, e1, e2, e3, e4]
  have HBX := hide (Box.new w [.int .i64 4, .int .i64 wr, .int .i64 wc, .slice xa xn xk, .int .i64 br, .int .i64 bc, .slice ya yn yk] 55 rfl)
  clear hs ht e0 e1 e2 e3 e4 hk
  go_enter Tryd.func26, Tryd.ntmps26
  go_wp2_with fail
  refine (HMW.out _ (below_one _ _)).mono ?_
  rintro e w1 ⟨rfl, hb1⟩
  have H1 := hide (HBX.out.below hb1)
  have W1 := hide (below_box (Below.refl _ _) hb1)
  clear hb1
  by_cases hf : fault l.w = 0
  · rw [hf]
    have HFW := hide hf
    clear hf
    have d0 := H1.out 0 _ rfl
    have d1 := H1.out 1 _ rfl
    have d2 := H1.out 2 _ rfl
    have d3 := H1.out 3 _ rfl
    have d4 := H1.out 4 _ rfl
    have d5 := H1.out 5 _ rfl
    have d6 := H1.out 6 _ rfl
    go_wp2_with fail
    refine (HMB.out _ W1.out).mono ?_
    rintro e w2 ⟨rfl, hb2⟩
    clear d0 d1 d2 d3 d4 d5 d6
    have H2 := hide (H1.out.below hb2)
    have W2 := hide (below_next W1.out hb2)
    clear hb2
    by_cases hg : fault l.b = 0
    · rw [hg]
      have HFB := hide hg
      clear hg
      by_cases hq1 : wr = 0 ∧ wc = 0
      · rw [noneB_yes hq1] at HNW
        have HQ1 := hide hq1
        clear hq1
        by_cases hq2 : br = 0 ∧ bc = 0
        · rw [noneB_yes hq2] at HNB
          have HQ2 := hide hq2
          clear hq2
          have d0 := H2.out 0 _ rfl
          have d1 := H2.out 1 _ rfl
          have d2 := H2.out 2 _ rfl
          have d3 := H2.out 3 _ rfl
          have d4 := H2.out 4 _ rfl
          have d5 := H2.out 5 _ rfl
          have d6 := H2.out 6 _ rfl
          go_wp2_with fail
          refine (HNW.out _).mono ?_
          rintro e w3 ⟨rfl, hb3⟩
          clear d0 d1 d2 d3 d4 d5 d6
          have H3 := hide (H2.out.below hb3)
          have d0 := H3.out 0 _ rfl
          have d1 := H3.out 1 _ rfl
          have d2 := H3.out 2 _ rfl
          have d3 := H3.out 3 _ rfl
          have d4 := H3.out 4 _ rfl
          have d5 := H3.out 5 _ rfl
          have d6 := H3.out 6 _ rfl
          have W3 := hide (below_next W2.out hb3)
          clear hb3
          go_wp2_with fail
          refine (HNB.out _).mono ?_
          rintro e w4 ⟨rfl, hb4⟩
          clear d0 d1 d2 d3 d4 d5 d6
          have H4 := hide (H3.out.below hb4)
          have d0 := H4.out 0 _ rfl
          have d1 := H4.out 1 _ rfl
          have d2 := H4.out 2 _ rfl
          have d3 := H4.out 3 _ rfl
          have d4 := H4.out 4 _ rfl
          have d5 := H4.out 5 _ rfl
          have d6 := H4.out 6 _ rfl
          have W4 := hide (below_next W3.out hb4)
          clear hb4
          by_cases c0 : br = 1
          · have t0 : (br == 1) = true := by simp [c0]
            by_cases c1 : 1 ≤ bc
            · have t1 : decide (1 ≤ bc) = true := decide_eq_true c1
              have HE := hide (lfault_0 HNR.out HFW.out HFB.out (l := l) (by rw [fitsL_4 HKK.out]; exact decide_eq_true (by have h1 := HQ1.out; have h2 := HQ2.out; have h3 := HLL.out; have h4 := HKK.out; omega))).symm
              clear c0
              go_wp2
              all_goals first | (exfalso; omega) | (go_ret; exact ⟨ret_int HE.out, W4.out⟩)
            · have t1 : decide (1 ≤ bc) = false := decide_eq_false c1
              have HE := hide (lfault_f HNR.out HFW.out HFB.out (l := l) (by rw [fitsL_4 HKK.out]; exact decide_eq_false (by have h1 := HQ1.out; have h2 := HQ2.out; have h3 := HLL.out; have h4 := HKK.out; omega))).symm
              clear c0
              go_wp2
              all_goals first | (exfalso; omega) | (go_ret; exact ⟨ret_int HE.out, W4.out⟩)
          · have t0 : (br == 1) = false := by simp [c0]
            have HE := hide (lfault_f HNR.out HFW.out HFB.out (l := l) (by rw [fitsL_4 HKK.out]; exact decide_eq_false (by have h1 := HQ1.out; have h2 := HQ2.out; have h3 := HLL.out; have h4 := HKK.out; omega))).symm
            clear c0
            go_wp2
            all_goals first | (exfalso; omega) | (go_ret; exact ⟨ret_int HE.out, W4.out⟩)
        · rw [noneB_no hq2] at HNB
          have HQ2 := hide hq2
          clear hq2
          have d0 := H2.out 0 _ rfl
          have d1 := H2.out 1 _ rfl
          have d2 := H2.out 2 _ rfl
          have d3 := H2.out 3 _ rfl
          have d4 := H2.out 4 _ rfl
          have d5 := H2.out 5 _ rfl
          have d6 := H2.out 6 _ rfl
          go_wp2_with fail
          refine (HNW.out _).mono ?_
          rintro e w3 ⟨rfl, hb3⟩
          clear d0 d1 d2 d3 d4 d5 d6
          have H3 := hide (H2.out.below hb3)
          have d0 := H3.out 0 _ rfl
          have d1 := H3.out 1 _ rfl
          have d2 := H3.out 2 _ rfl
          have d3 := H3.out 3 _ rfl
          have d4 := H3.out 4 _ rfl
          have d5 := H3.out 5 _ rfl
          have d6 := H3.out 6 _ rfl
          have W3 := hide (below_next W2.out hb3)
          clear hb3
          go_wp2_with fail
          refine (HNB.out _).mono ?_
          rintro e w4 ⟨rfl, hb4⟩
          clear d0 d1 d2 d3 d4 d5 d6
          have H4 := hide (H3.out.below hb4)
          have d0 := H4.out 0 _ rfl
          have d1 := H4.out 1 _ rfl
          have d2 := H4.out 2 _ rfl
          have d3 := H4.out 3 _ rfl
          have d4 := H4.out 4 _ rfl
          have d5 := H4.out 5 _ rfl
          have d6 := H4.out 6 _ rfl
          have W4 := hide (below_next W3.out hb4)
          clear hb4
          by_cases c0 : br = 1
          · have t0 : (br == 1) = true := by simp [c0]
            by_cases c1 : 1 ≤ bc
            · have t1 : decide (1 ≤ bc) = true := decide_eq_true c1
              have HE := hide (lfault_0 HNR.out HFW.out HFB.out (l := l) (by rw [fitsL_4 HKK.out]; exact decide_eq_true (by have h1 := HQ1.out; have h2 := HQ2.out; have h3 := HLL.out; have h4 := HKK.out; omega))).symm
              clear c0
              go_wp2
              all_goals first | (exfalso; omega) | (go_ret; exact ⟨ret_int HE.out, W4.out⟩)
            · have t1 : decide (1 ≤ bc) = false := decide_eq_false c1
              have HE := hide (lfault_f HNR.out HFW.out HFB.out (l := l) (by rw [fitsL_4 HKK.out]; exact decide_eq_false (by have h1 := HQ1.out; have h2 := HQ2.out; have h3 := HLL.out; have h4 := HKK.out; omega))).symm
              clear c0
              go_wp2
              all_goals first | (exfalso; omega) | (go_ret; exact ⟨ret_int HE.out, W4.out⟩)
          · have t0 : (br == 1) = false := by simp [c0]
            have HE := hide (lfault_f HNR.out HFW.out HFB.out (l := l) (by rw [fitsL_4 HKK.out]; exact decide_eq_false (by have h1 := HQ1.out; have h2 := HQ2.out; have h3 := HLL.out; have h4 := HKK.out; omega))).symm
            clear c0
            go_wp2
            all_goals first | (exfalso; omega) | (go_ret; exact ⟨ret_int HE.out, W4.out⟩)
      · rw [noneB_no hq1] at HNW
        have HQ1 := hide hq1
        clear hq1
        by_cases hq2 : br = 0 ∧ bc = 0
        · rw [noneB_yes hq2] at HNB
          have HQ2 := hide hq2
          clear hq2
          have d0 := H2.out 0 _ rfl
          have d1 := H2.out 1 _ rfl
          have d2 := H2.out 2 _ rfl
          have d3 := H2.out 3 _ rfl
          have d4 := H2.out 4 _ rfl
          have d5 := H2.out 5 _ rfl
          have d6 := H2.out 6 _ rfl
          go_wp2_with fail
          refine (HNW.out _).mono ?_
          rintro e w3 ⟨rfl, hb3⟩
          clear d0 d1 d2 d3 d4 d5 d6
          have H3 := hide (H2.out.below hb3)
          have d0 := H3.out 0 _ rfl
          have d1 := H3.out 1 _ rfl
          have d2 := H3.out 2 _ rfl
          have d3 := H3.out 3 _ rfl
          have d4 := H3.out 4 _ rfl
          have d5 := H3.out 5 _ rfl
          have d6 := H3.out 6 _ rfl
          have W3 := hide (below_next W2.out hb3)
          clear hb3
          go_wp2_with fail
          refine (HNB.out _).mono ?_
          rintro e w4 ⟨rfl, hb4⟩
          clear d0 d1 d2 d3 d4 d5 d6
          have H4 := hide (H3.out.below hb4)
          have d0 := H4.out 0 _ rfl
          have d1 := H4.out 1 _ rfl
          have d2 := H4.out 2 _ rfl
          have d3 := H4.out 3 _ rfl
          have d4 := H4.out 4 _ rfl
          have d5 := H4.out 5 _ rfl
          have d6 := H4.out 6 _ rfl
          have W4 := hide (below_next W3.out hb4)
          clear hb4
          have HE := hide (lfault_f HNR.out HFW.out HFB.out (l := l) (by rw [fitsL_4 HKK.out]; exact decide_eq_false (by have h1 := HQ1.out; have h2 := HQ2.out; have h3 := HLL.out; have h4 := HKK.out; omega))).symm
          skip
          go_wp2
          all_goals first | (exfalso; omega) | (go_ret; exact ⟨ret_int HE.out, W4.out⟩)
        · rw [noneB_no hq2] at HNB
          have HQ2 := hide hq2
          clear hq2
          have d0 := H2.out 0 _ rfl
          have d1 := H2.out 1 _ rfl
          have d2 := H2.out 2 _ rfl
          have d3 := H2.out 3 _ rfl
          have d4 := H2.out 4 _ rfl
          have d5 := H2.out 5 _ rfl
          have d6 := H2.out 6 _ rfl
          go_wp2_with fail
          refine (HNW.out _).mono ?_
          rintro e w3 ⟨rfl, hb3⟩
          clear d0 d1 d2 d3 d4 d5 d6
          have H3 := hide (H2.out.below hb3)
          have d0 := H3.out 0 _ rfl
          have d1 := H3.out 1 _ rfl
          have d2 := H3.out 2 _ rfl
          have d3 := H3.out 3 _ rfl
          have d4 := H3.out 4 _ rfl
          have d5 := H3.out 5 _ rfl
          have d6 := H3.out 6 _ rfl
          have W3 := hide (below_next W2.out hb3)
          clear hb3
          go_wp2_with fail
          refine (HNB.out _).mono ?_
          rintro e w4 ⟨rfl, hb4⟩
          clear d0 d1 d2 d3 d4 d5 d6
          have H4 := hide (H3.out.below hb4)
          have d0 := H4.out 0 _ rfl
          have d1 := H4.out 1 _ rfl
          have d2 := H4.out 2 _ rfl
          have d3 := H4.out 3 _ rfl
          have d4 := H4.out 4 _ rfl
          have d5 := H4.out 5 _ rfl
          have d6 := H4.out 6 _ rfl
          have W4 := hide (below_next W3.out hb4)
          clear hb4
          have HE := hide (lfault_f HNR.out HFW.out HFB.out (l := l) (by rw [fitsL_4 HKK.out]; exact decide_eq_false (by have h1 := HQ1.out; have h2 := HQ2.out; have h3 := HLL.out; have h4 := HKK.out; omega))).symm
          skip
          go_wp2
          all_goals first | (exfalso; omega) | (go_ret; exact ⟨ret_int HE.out, W4.out⟩)
    · obtain ⟨j, hj⟩ : ∃ j, fault l.b = j := ⟨_, rfl⟩
      have hj0 : (j == 0) = false := by rw [← hj]; simp [hg]
      have hj1 : (j != 0) = true := by rw [← hj]; simp [hg]
      have HE := hide (show j = lfault l by rw [lfault_b HNR.out HFW.out hg, hj])
      rw [hj]
      clear hg hj
      have d0 := H2.out 0 _ rfl
      have d1 := H2.out 1 _ rfl
      have d2 := H2.out 2 _ rfl
      have d3 := H2.out 3 _ rfl
      have d4 := H2.out 4 _ rfl
      have d5 := H2.out 5 _ rfl
      have d6 := H2.out 6 _ rfl
      go_wp2
      go_ret
      exact ⟨ret_int HE.out, W2.out⟩
  · obtain ⟨j, hj⟩ : ∃ j, fault l.w = j := ⟨_, rfl⟩
    have hj0 : (j == 0) = false := by rw [← hj]; simp [hf]
    have hj1 : (j != 0) = true := by rw [← hj]; simp [hf]
    have HE := hide (show j = lfault l by rw [lfault_w HNR.out hf, hj])
    rw [hj]
    clear hf hj
    have d0 := H1.out 0 _ rfl
    have d1 := H1.out 1 _ rfl
    have d2 := H1.out 2 _ rfl
    have d3 := H1.out 3 _ rfl
    have d4 := H1.out 4 _ rfl
    have d5 := H1.out 5 _ rfl
    have d6 := H1.out 6 _ rfl
    go_wp2
    go_ret
    exact ⟨ret_int HE.out, W1.out⟩
set_option maxHeartbeats 800000 in
theorem rlfault_any (v : Value) (l : Ly) (w : World) (hv : IsLy w v l) : Calls Tryd.prog 26 #[v] w fun e w' => e = .returned (.int .i64 (lfault l)) ∧ Below w.heap.size w w' := by
  by_cases h1 : l.k = 1
  · exact rlfault_1 v l w hv h1
  · by_cases h2 : l.k = 2
    · exact rlfault_2 v l w hv h2
    · by_cases h3 : l.k = 3
      · exact rlfault_3 v l w hv h3
      · by_cases h4 : l.k = 4
        · exact rlfault_4 v l w hv h4
        · have HE := hide (lfault_k (l := l) (by omega)).symm
          obtain ⟨s, t, rfl, hs, ht⟩ := hv
          obtain ⟨xa, xn, xk, rfl⟩ := hs.shape
          obtain ⟨ya, yn, yk, rfl⟩ := ht.shape
          obtain ⟨k, e0⟩ : ∃ r, l.k = r := ⟨_, rfl⟩
          obtain ⟨wr, e1⟩ : ∃ r, l.w.rows = r := ⟨_, rfl⟩
          obtain ⟨wc, e2⟩ : ∃ r, l.w.cols = r := ⟨_, rfl⟩
          obtain ⟨br, e3⟩ : ∃ r, l.b.rows = r := ⟨_, rfl⟩
          obtain ⟨bc, e4⟩ : ∃ r, l.b.cols = r := ⟨_, rfl⟩
          rw [e0]
          have hk : k < 1 ∨ 4 < k := by omega
          clear hs ht e0 e1 e2 e3 e4 h1 h2 h3 h4
          by_cases hk1 : k < 1
          · clear hk
            go_enter Tryd.func26, Tryd.ntmps26
            go_wp2
            go_ret
            exact ⟨ret_int HE.out, below_one _ _⟩
          · have hk4 : 4 < k := by omega
            clear hk
            go_enter Tryd.func26, Tryd.ntmps26
            go_wp2
            go_ret
            exact ⟨ret_int HE.out, below_one _ _⟩
end Go.Proofs.YtjmmplpecmnlnadDoor
