/- What kindOf, wide and ready of package layer come to: what is wrong with a layer, which kind it is, how many columns come. -/
import Derived.Test.YtjmmplpecmnlnaeLNamed
namespace Go.Proofs.Ytjmmplpecmnlnae
open Go.RowKit
theorem ret_two {a a' b b' : Value} (h1 : a = a') (h2 : b = b') : Ending.returned (.tuple #[a, b]) = .returned (.tuple #[a', b']) := by rw [h1, h2]
theorem ret_three {a a' b b' c c' : Value} (h1 : a = a') (h2 : b = b') (h3 : c = c') : Ending.returned (.tuple #[a, b, c]) = .returned (.tuple #[a', b', c']) := by rw [h1, h2, h3]
theorem int_eq {a b : Int} (h : a = b) : Value.int .i64 a = .int .i64 b := by rw [h]
/-- A kind, where nothing is wrong. -/
def kindR (k : Int) (T : TypeId) (v : Value) : Value := if k = 0 then .iface T v else .nilIface
theorem kindR_yes {k : Int} (h : k = 0) (T : TypeId) (v : Value) : Value.iface T v = kindR k T v := by unfold kindR; rw [if_pos h]
theorem kindR_no {k : Int} (h : k ≠ 0) (T : TypeId) (v : Value) : Value.nilIface = kindR k T v := by unfold kindR; rw [if_neg h]
theorem lfault_k {l : Ly} (h : l.k < 1 ∨ 4 < l.k) : lfault l = 1 := by unfold lfault; rw [if_pos h]
theorem lfault_w {l : Ly} (h : ¬ (l.k < 1 ∨ 4 < l.k)) (hw : fault l.w ≠ 0) : lfault l = fault l.w := by unfold lfault; rw [if_neg h, if_pos hw]
theorem lfault_b {l : Ly} (h : ¬ (l.k < 1 ∨ 4 < l.k)) (hw : fault l.w = 0) (hb : fault l.b ≠ 0) : lfault l = fault l.b := by unfold lfault; rw [if_neg h, if_neg (by simp [hw]), if_pos hb]
theorem lfault_f {l : Ly} (h : ¬ (l.k < 1 ∨ 4 < l.k)) (hw : fault l.w = 0) (hb : fault l.b = 0) (hf : fitsL l = false) : lfault l = 2 := by unfold lfault; rw [if_neg h, if_neg (by simp [hw]), if_neg (by simp [hb]), if_pos hf]
theorem lfault_0 {l : Ly} (h : ¬ (l.k < 1 ∨ 4 < l.k)) (hw : fault l.w = 0) (hb : fault l.b = 0) (hf : fitsL l = true) : lfault l = 0 := by unfold lfault; rw [if_neg h, if_neg (by simp [hw]), if_neg (by simp [hb]), if_neg (by simp [hf])]
set_option maxHeartbeats 1600000 in
theorem kindof_linear (l : Ly) {xa : Option Addr} {xn xk : Nat} {ya : Option Addr} {yn yk : Nat} (w : World) (hk : l.k = 1) (hs : IsInts w (.slice xa xn xk) l.w.cells) (ht : IsInts w (.slice ya yn yk) l.b.cells) :
    Calls Try.prog 34 #[.agg #[.int .i64 1, .int .i64 l.w.rows, .int .i64 l.w.cols, .slice xa xn xk, .int .i64 l.b.rows, .int .i64 l.b.cols, .slice ya yn yk]] w fun e w' => e = .returned (.tuple #[kindR (lfault l) 89 (.agg #[.int .i64 l.w.rows, .int .i64 l.w.cols, .slice xa xn xk, .int .i64 l.b.rows, .int .i64 l.b.cols, .slice ya yn yk]), errV (lfault l)]) ∧ Below w.heap.size w w' := by
  obtain ⟨wr, e1⟩ : ∃ r, l.w.rows = r := ⟨_, rfl⟩
  obtain ⟨wc, e2⟩ : ∃ r, l.w.cols = r := ⟨_, rfl⟩
  obtain ⟨br, e3⟩ : ∃ r, l.b.rows = r := ⟨_, rfl⟩
  obtain ⟨bc, e4⟩ : ∃ r, l.b.cols = r := ⟨_, rfl⟩
  have HMW := hide (fun W (h : Below w.heap.size w W) => check_any _ l.w W ⟨_, rfl, hs.below h⟩)
  have HMB := hide (fun W (h : Below w.heap.size w W) => check_any _ l.b W ⟨_, rfl, ht.below h⟩)
  have HFT := hide (fun W (h : Below w.heap.size w W) => fits_linear _ l.w l.b W ⟨_, _, rfl, hs.below h, ht.below h⟩)
  have HNR := hide (show ¬ (l.k < 1 ∨ 4 < l.k) by omega)
  have HFL := hide (fitsL_1 hk)
  rw [e1, e2] at HMW
  rw [e3, e4] at HMB
  rw [e1, e2, e3, e4] at HFT
  rw [e1, e2, e3, e4]
  have HBX := hide (Box.new w [.int .i64 1, .int .i64 wr, .int .i64 wc, .slice xa xn xk, .int .i64 br, .int .i64 bc, .slice ya yn yk] 30 rfl)
  have hm : ∀ W : World, (method 216 89 (.agg #[.int .i64 wr, .int .i64 wc, .slice xa xn xk, .int .i64 br, .int .i64 bc, .slice ya yn yk]) "galley/layer.fits").run Try.prog W = .ok (63, .agg #[.int .i64 wr, .int .i64 wc, .slice xa xn xk, .int .i64 br, .int .i64 bc, .slice ya yn yk]) W := fun _ => by kernel_rfl
  clear hs ht e1 e2 e3 e4 hk
  go_enter Try.func34, Try.ntmps34
  go_wp2_with fail
  refine (named_linear wr wc br bc xa xn xk ya yn yk _).mono ?_
  rintro e w1 ⟨rfl, hb1⟩
  have H1 := hide (HBX.out.below hb1)
  have W1 := hide (below_box (Below.refl _ _) hb1)
  clear hb1
  have d0 := H1.out 0 _ rfl
  have d1 := H1.out 1 _ rfl
  have d2 := H1.out 2 _ rfl
  have d3 := H1.out 3 _ rfl
  have d4 := H1.out 4 _ rfl
  have d5 := H1.out 5 _ rfl
  have d6 := H1.out 6 _ rfl
  go_wp2_with fail
  refine (HMW.out _ W1.out).mono ?_
  rintro e w2 ⟨rfl, hb2⟩
  clear d0 d1 d2 d3 d4 d5 d6
  have H2 := hide (H1.out.below hb2)
  have W2 := hide (below_next W1.out hb2)
  clear hb2
  have d0 := H2.out 0 _ rfl
  have d1 := H2.out 1 _ rfl
  have d2 := H2.out 2 _ rfl
  have d3 := H2.out 3 _ rfl
  have d4 := H2.out 4 _ rfl
  have d5 := H2.out 5 _ rfl
  have d6 := H2.out 6 _ rfl
  by_cases hf : fault l.w = 0
  · rw [err_eq hf]
    have HF := hide hf
    clear hf
    go_wp2_with fail
    refine (HMB.out _ W2.out).mono ?_
    rintro e w3 ⟨rfl, hb3⟩
    clear d0 d1 d2 d3 d4 d5 d6
    have H3 := hide (H2.out.below hb3)
    have W3 := hide (below_next W2.out hb3)
    clear hb3
    by_cases hg : fault l.b = 0
    · rw [err_eq hg]
      have HG := hide hg
      clear hg
      go_wp2_with fail
      refine (HFT.out _ W3.out).mono ?_
      rintro e w4 ⟨rfl, hb4⟩
      cases hfit : fits1 l.w l.b with
      | true =>
        have HL := hide (lfault_0 HNR.out HF.out HG.out (HFL.out.trans hfit))
        clear hfit
        go_wp2
        go_ret2
        exact ⟨ret_two (kindR_yes HL.out _ _) (by rw [HL.out]; rfl), below_next W3.out hb4⟩
      | false =>
        have HL := hide (lfault_f HNR.out HF.out HG.out (HFL.out.trans hfit))
        clear hfit
        go_wp2
        go_ret2
        exact ⟨ret_two (kindR_no (by rw [HL.out]; decide) _ _) (by rw [HL.out]; rfl), below_next W3.out hb4⟩
    · rw [err_ne hg]
      have HL := hide (And.intro (lfault_b HNR.out HF.out hg) hg)
      obtain ⟨j, hj⟩ : ∃ j, fault l.b = j := ⟨_, rfl⟩
      rw [hj] at HL ⊢
      clear hg hj
      go_wp2
      go_ret2
      exact ⟨ret_two (kindR_no (by rw [HL.out.1]; exact HL.out.2) _ _) (by rw [HL.out.1, err_ne HL.out.2]; rfl), W3.out⟩
  · rw [err_ne hf]
    have HL := hide (And.intro (lfault_w HNR.out hf) hf)
    obtain ⟨j, hj⟩ : ∃ j, fault l.w = j := ⟨_, rfl⟩
    rw [hj] at HL ⊢
    clear hf hj
    go_wp2
    go_ret2
    exact ⟨ret_two (kindR_no (by rw [HL.out.1]; exact HL.out.2) _ _) (by rw [HL.out.1, err_ne HL.out.2]; rfl), W2.out⟩
set_option maxHeartbeats 1600000 in
theorem kindof_relu (l : Ly) {xa : Option Addr} {xn xk : Nat} {ya : Option Addr} {yn yk : Nat} (w : World) (hk : l.k = 2) (hs : IsInts w (.slice xa xn xk) l.w.cells) (ht : IsInts w (.slice ya yn yk) l.b.cells) :
    Calls Try.prog 34 #[.agg #[.int .i64 2, .int .i64 l.w.rows, .int .i64 l.w.cols, .slice xa xn xk, .int .i64 l.b.rows, .int .i64 l.b.cols, .slice ya yn yk]] w fun e w' => e = .returned (.tuple #[kindR (lfault l) 92 (.agg #[.int .i64 l.w.rows, .int .i64 l.w.cols, .slice xa xn xk, .int .i64 l.b.rows, .int .i64 l.b.cols, .slice ya yn yk]), errV (lfault l)]) ∧ Below w.heap.size w w' := by
  obtain ⟨wr, e1⟩ : ∃ r, l.w.rows = r := ⟨_, rfl⟩
  obtain ⟨wc, e2⟩ : ∃ r, l.w.cols = r := ⟨_, rfl⟩
  obtain ⟨br, e3⟩ : ∃ r, l.b.rows = r := ⟨_, rfl⟩
  obtain ⟨bc, e4⟩ : ∃ r, l.b.cols = r := ⟨_, rfl⟩
  have HMW := hide (fun W (h : Below w.heap.size w W) => check_any _ l.w W ⟨_, rfl, hs.below h⟩)
  have HMB := hide (fun W (h : Below w.heap.size w W) => check_any _ l.b W ⟨_, rfl, ht.below h⟩)
  have HFT := hide (fun W (h : Below w.heap.size w W) => fits_relu _ l.w l.b W ⟨_, _, rfl, hs.below h, ht.below h⟩)
  have HNR := hide (show ¬ (l.k < 1 ∨ 4 < l.k) by omega)
  have HFL := hide (fitsL_2 hk)
  rw [e1, e2] at HMW
  rw [e3, e4] at HMB
  rw [e1, e2, e3, e4] at HFT
  rw [e1, e2, e3, e4]
  have HBX := hide (Box.new w [.int .i64 2, .int .i64 wr, .int .i64 wc, .slice xa xn xk, .int .i64 br, .int .i64 bc, .slice ya yn yk] 30 rfl)
  have hm : ∀ W : World, (method 216 92 (.agg #[.int .i64 wr, .int .i64 wc, .slice xa xn xk, .int .i64 br, .int .i64 bc, .slice ya yn yk]) "galley/layer.fits").run Try.prog W = .ok (71, .agg #[.int .i64 wr, .int .i64 wc, .slice xa xn xk, .int .i64 br, .int .i64 bc, .slice ya yn yk]) W := fun _ => by kernel_rfl
  clear hs ht e1 e2 e3 e4 hk
  go_enter Try.func34, Try.ntmps34
  go_wp2_with fail
  refine (named_relu wr wc br bc xa xn xk ya yn yk _).mono ?_
  rintro e w1 ⟨rfl, hb1⟩
  have H1 := hide (HBX.out.below hb1)
  have W1 := hide (below_box (Below.refl _ _) hb1)
  clear hb1
  have d0 := H1.out 0 _ rfl
  have d1 := H1.out 1 _ rfl
  have d2 := H1.out 2 _ rfl
  have d3 := H1.out 3 _ rfl
  have d4 := H1.out 4 _ rfl
  have d5 := H1.out 5 _ rfl
  have d6 := H1.out 6 _ rfl
  go_wp2_with fail
  refine (HMW.out _ W1.out).mono ?_
  rintro e w2 ⟨rfl, hb2⟩
  clear d0 d1 d2 d3 d4 d5 d6
  have H2 := hide (H1.out.below hb2)
  have W2 := hide (below_next W1.out hb2)
  clear hb2
  have d0 := H2.out 0 _ rfl
  have d1 := H2.out 1 _ rfl
  have d2 := H2.out 2 _ rfl
  have d3 := H2.out 3 _ rfl
  have d4 := H2.out 4 _ rfl
  have d5 := H2.out 5 _ rfl
  have d6 := H2.out 6 _ rfl
  by_cases hf : fault l.w = 0
  · rw [err_eq hf]
    have HF := hide hf
    clear hf
    go_wp2_with fail
    refine (HMB.out _ W2.out).mono ?_
    rintro e w3 ⟨rfl, hb3⟩
    clear d0 d1 d2 d3 d4 d5 d6
    have H3 := hide (H2.out.below hb3)
    have W3 := hide (below_next W2.out hb3)
    clear hb3
    by_cases hg : fault l.b = 0
    · rw [err_eq hg]
      have HG := hide hg
      clear hg
      go_wp2_with fail
      refine (HFT.out _ W3.out).mono ?_
      rintro e w4 ⟨rfl, hb4⟩
      cases hfit : fits2 l.w l.b with
      | true =>
        have HL := hide (lfault_0 HNR.out HF.out HG.out (HFL.out.trans hfit))
        clear hfit
        go_wp2
        go_ret2
        exact ⟨ret_two (kindR_yes HL.out _ _) (by rw [HL.out]; rfl), below_next W3.out hb4⟩
      | false =>
        have HL := hide (lfault_f HNR.out HF.out HG.out (HFL.out.trans hfit))
        clear hfit
        go_wp2
        go_ret2
        exact ⟨ret_two (kindR_no (by rw [HL.out]; decide) _ _) (by rw [HL.out]; rfl), below_next W3.out hb4⟩
    · rw [err_ne hg]
      have HL := hide (And.intro (lfault_b HNR.out HF.out hg) hg)
      obtain ⟨j, hj⟩ : ∃ j, fault l.b = j := ⟨_, rfl⟩
      rw [hj] at HL ⊢
      clear hg hj
      go_wp2
      go_ret2
      exact ⟨ret_two (kindR_no (by rw [HL.out.1]; exact HL.out.2) _ _) (by rw [HL.out.1, err_ne HL.out.2]; rfl), W3.out⟩
  · rw [err_ne hf]
    have HL := hide (And.intro (lfault_w HNR.out hf) hf)
    obtain ⟨j, hj⟩ : ∃ j, fault l.w = j := ⟨_, rfl⟩
    rw [hj] at HL ⊢
    clear hf hj
    go_wp2
    go_ret2
    exact ⟨ret_two (kindR_no (by rw [HL.out.1]; exact HL.out.2) _ _) (by rw [HL.out.1, err_ne HL.out.2]; rfl), W2.out⟩
set_option maxHeartbeats 1600000 in
theorem kindof_scale (l : Ly) {xa : Option Addr} {xn xk : Nat} {ya : Option Addr} {yn yk : Nat} (w : World) (hk : l.k = 3) (hs : IsInts w (.slice xa xn xk) l.w.cells) (ht : IsInts w (.slice ya yn yk) l.b.cells) :
    Calls Try.prog 34 #[.agg #[.int .i64 3, .int .i64 l.w.rows, .int .i64 l.w.cols, .slice xa xn xk, .int .i64 l.b.rows, .int .i64 l.b.cols, .slice ya yn yk]] w fun e w' => e = .returned (.tuple #[kindR (lfault l) 93 (.agg #[.int .i64 l.w.rows, .int .i64 l.w.cols, .slice xa xn xk, .int .i64 l.b.rows, .int .i64 l.b.cols, .slice ya yn yk]), errV (lfault l)]) ∧ Below w.heap.size w w' := by
  obtain ⟨wr, e1⟩ : ∃ r, l.w.rows = r := ⟨_, rfl⟩
  obtain ⟨wc, e2⟩ : ∃ r, l.w.cols = r := ⟨_, rfl⟩
  obtain ⟨br, e3⟩ : ∃ r, l.b.rows = r := ⟨_, rfl⟩
  obtain ⟨bc, e4⟩ : ∃ r, l.b.cols = r := ⟨_, rfl⟩
  have HMW := hide (fun W (h : Below w.heap.size w W) => check_any _ l.w W ⟨_, rfl, hs.below h⟩)
  have HMB := hide (fun W (h : Below w.heap.size w W) => check_any _ l.b W ⟨_, rfl, ht.below h⟩)
  have HFT := hide (fun W (h : Below w.heap.size w W) => fits_scale _ l.w l.b W ⟨_, _, rfl, hs.below h, ht.below h⟩)
  have HNR := hide (show ¬ (l.k < 1 ∨ 4 < l.k) by omega)
  have HFL := hide (fitsL_3 hk)
  rw [e1, e2] at HMW
  rw [e3, e4] at HMB
  rw [e1, e2, e3, e4] at HFT
  rw [e1, e2, e3, e4]
  have HBX := hide (Box.new w [.int .i64 3, .int .i64 wr, .int .i64 wc, .slice xa xn xk, .int .i64 br, .int .i64 bc, .slice ya yn yk] 30 rfl)
  have hm : ∀ W : World, (method 216 93 (.agg #[.int .i64 wr, .int .i64 wc, .slice xa xn xk, .int .i64 br, .int .i64 bc, .slice ya yn yk]) "galley/layer.fits").run Try.prog W = .ok (74, .agg #[.int .i64 wr, .int .i64 wc, .slice xa xn xk, .int .i64 br, .int .i64 bc, .slice ya yn yk]) W := fun _ => by kernel_rfl
  clear hs ht e1 e2 e3 e4 hk
  go_enter Try.func34, Try.ntmps34
  go_wp2_with fail
  refine (named_scale wr wc br bc xa xn xk ya yn yk _).mono ?_
  rintro e w1 ⟨rfl, hb1⟩
  have H1 := hide (HBX.out.below hb1)
  have W1 := hide (below_box (Below.refl _ _) hb1)
  clear hb1
  have d0 := H1.out 0 _ rfl
  have d1 := H1.out 1 _ rfl
  have d2 := H1.out 2 _ rfl
  have d3 := H1.out 3 _ rfl
  have d4 := H1.out 4 _ rfl
  have d5 := H1.out 5 _ rfl
  have d6 := H1.out 6 _ rfl
  go_wp2_with fail
  refine (HMW.out _ W1.out).mono ?_
  rintro e w2 ⟨rfl, hb2⟩
  clear d0 d1 d2 d3 d4 d5 d6
  have H2 := hide (H1.out.below hb2)
  have W2 := hide (below_next W1.out hb2)
  clear hb2
  have d0 := H2.out 0 _ rfl
  have d1 := H2.out 1 _ rfl
  have d2 := H2.out 2 _ rfl
  have d3 := H2.out 3 _ rfl
  have d4 := H2.out 4 _ rfl
  have d5 := H2.out 5 _ rfl
  have d6 := H2.out 6 _ rfl
  by_cases hf : fault l.w = 0
  · rw [err_eq hf]
    have HF := hide hf
    clear hf
    go_wp2_with fail
    refine (HMB.out _ W2.out).mono ?_
    rintro e w3 ⟨rfl, hb3⟩
    clear d0 d1 d2 d3 d4 d5 d6
    have H3 := hide (H2.out.below hb3)
    have W3 := hide (below_next W2.out hb3)
    clear hb3
    by_cases hg : fault l.b = 0
    · rw [err_eq hg]
      have HG := hide hg
      clear hg
      go_wp2_with fail
      refine (HFT.out _ W3.out).mono ?_
      rintro e w4 ⟨rfl, hb4⟩
      cases hfit : fits3 l.w l.b with
      | true =>
        have HL := hide (lfault_0 HNR.out HF.out HG.out (HFL.out.trans hfit))
        clear hfit
        go_wp2
        go_ret2
        exact ⟨ret_two (kindR_yes HL.out _ _) (by rw [HL.out]; rfl), below_next W3.out hb4⟩
      | false =>
        have HL := hide (lfault_f HNR.out HF.out HG.out (HFL.out.trans hfit))
        clear hfit
        go_wp2
        go_ret2
        exact ⟨ret_two (kindR_no (by rw [HL.out]; decide) _ _) (by rw [HL.out]; rfl), below_next W3.out hb4⟩
    · rw [err_ne hg]
      have HL := hide (And.intro (lfault_b HNR.out HF.out hg) hg)
      obtain ⟨j, hj⟩ : ∃ j, fault l.b = j := ⟨_, rfl⟩
      rw [hj] at HL ⊢
      clear hg hj
      go_wp2
      go_ret2
      exact ⟨ret_two (kindR_no (by rw [HL.out.1]; exact HL.out.2) _ _) (by rw [HL.out.1, err_ne HL.out.2]; rfl), W3.out⟩
  · rw [err_ne hf]
    have HL := hide (And.intro (lfault_w HNR.out hf) hf)
    obtain ⟨j, hj⟩ : ∃ j, fault l.w = j := ⟨_, rfl⟩
    rw [hj] at HL ⊢
    clear hf hj
    go_wp2
    go_ret2
    exact ⟨ret_two (kindR_no (by rw [HL.out.1]; exact HL.out.2) _ _) (by rw [HL.out.1, err_ne HL.out.2]; rfl), W2.out⟩
set_option maxHeartbeats 1600000 in
theorem kindof_shift (l : Ly) {xa : Option Addr} {xn xk : Nat} {ya : Option Addr} {yn yk : Nat} (w : World) (hk : l.k = 4) (hs : IsInts w (.slice xa xn xk) l.w.cells) (ht : IsInts w (.slice ya yn yk) l.b.cells) :
    Calls Try.prog 34 #[.agg #[.int .i64 4, .int .i64 l.w.rows, .int .i64 l.w.cols, .slice xa xn xk, .int .i64 l.b.rows, .int .i64 l.b.cols, .slice ya yn yk]] w fun e w' => e = .returned (.tuple #[kindR (lfault l) 94 (.agg #[.int .i64 l.w.rows, .int .i64 l.w.cols, .slice xa xn xk, .int .i64 l.b.rows, .int .i64 l.b.cols, .slice ya yn yk]), errV (lfault l)]) ∧ Below w.heap.size w w' := by
  obtain ⟨wr, e1⟩ : ∃ r, l.w.rows = r := ⟨_, rfl⟩
  obtain ⟨wc, e2⟩ : ∃ r, l.w.cols = r := ⟨_, rfl⟩
  obtain ⟨br, e3⟩ : ∃ r, l.b.rows = r := ⟨_, rfl⟩
  obtain ⟨bc, e4⟩ : ∃ r, l.b.cols = r := ⟨_, rfl⟩
  have HMW := hide (fun W (h : Below w.heap.size w W) => check_any _ l.w W ⟨_, rfl, hs.below h⟩)
  have HMB := hide (fun W (h : Below w.heap.size w W) => check_any _ l.b W ⟨_, rfl, ht.below h⟩)
  have HFT := hide (fun W (h : Below w.heap.size w W) => fits_shift _ l.w l.b W ⟨_, _, rfl, hs.below h, ht.below h⟩)
  have HNR := hide (show ¬ (l.k < 1 ∨ 4 < l.k) by omega)
  have HFL := hide (fitsL_4 hk)
  rw [e1, e2] at HMW
  rw [e3, e4] at HMB
  rw [e1, e2, e3, e4] at HFT
  rw [e1, e2, e3, e4]
  have HBX := hide (Box.new w [.int .i64 4, .int .i64 wr, .int .i64 wc, .slice xa xn xk, .int .i64 br, .int .i64 bc, .slice ya yn yk] 30 rfl)
  have hm : ∀ W : World, (method 216 94 (.agg #[.int .i64 wr, .int .i64 wc, .slice xa xn xk, .int .i64 br, .int .i64 bc, .slice ya yn yk]) "galley/layer.fits").run Try.prog W = .ok (77, .agg #[.int .i64 wr, .int .i64 wc, .slice xa xn xk, .int .i64 br, .int .i64 bc, .slice ya yn yk]) W := fun _ => by kernel_rfl
  clear hs ht e1 e2 e3 e4 hk
  go_enter Try.func34, Try.ntmps34
  go_wp2_with fail
  refine (named_shift wr wc br bc xa xn xk ya yn yk _).mono ?_
  rintro e w1 ⟨rfl, hb1⟩
  have H1 := hide (HBX.out.below hb1)
  have W1 := hide (below_box (Below.refl _ _) hb1)
  clear hb1
  have d0 := H1.out 0 _ rfl
  have d1 := H1.out 1 _ rfl
  have d2 := H1.out 2 _ rfl
  have d3 := H1.out 3 _ rfl
  have d4 := H1.out 4 _ rfl
  have d5 := H1.out 5 _ rfl
  have d6 := H1.out 6 _ rfl
  go_wp2_with fail
  refine (HMW.out _ W1.out).mono ?_
  rintro e w2 ⟨rfl, hb2⟩
  clear d0 d1 d2 d3 d4 d5 d6
  have H2 := hide (H1.out.below hb2)
  have W2 := hide (below_next W1.out hb2)
  clear hb2
  have d0 := H2.out 0 _ rfl
  have d1 := H2.out 1 _ rfl
  have d2 := H2.out 2 _ rfl
  have d3 := H2.out 3 _ rfl
  have d4 := H2.out 4 _ rfl
  have d5 := H2.out 5 _ rfl
  have d6 := H2.out 6 _ rfl
  by_cases hf : fault l.w = 0
  · rw [err_eq hf]
    have HF := hide hf
    clear hf
    go_wp2_with fail
    refine (HMB.out _ W2.out).mono ?_
    rintro e w3 ⟨rfl, hb3⟩
    clear d0 d1 d2 d3 d4 d5 d6
    have H3 := hide (H2.out.below hb3)
    have W3 := hide (below_next W2.out hb3)
    clear hb3
    by_cases hg : fault l.b = 0
    · rw [err_eq hg]
      have HG := hide hg
      clear hg
      go_wp2_with fail
      refine (HFT.out _ W3.out).mono ?_
      rintro e w4 ⟨rfl, hb4⟩
      cases hfit : fits4 l.w l.b with
      | true =>
        have HL := hide (lfault_0 HNR.out HF.out HG.out (HFL.out.trans hfit))
        clear hfit
        go_wp2
        go_ret2
        exact ⟨ret_two (kindR_yes HL.out _ _) (by rw [HL.out]; rfl), below_next W3.out hb4⟩
      | false =>
        have HL := hide (lfault_f HNR.out HF.out HG.out (HFL.out.trans hfit))
        clear hfit
        go_wp2
        go_ret2
        exact ⟨ret_two (kindR_no (by rw [HL.out]; decide) _ _) (by rw [HL.out]; rfl), below_next W3.out hb4⟩
    · rw [err_ne hg]
      have HL := hide (And.intro (lfault_b HNR.out HF.out hg) hg)
      obtain ⟨j, hj⟩ : ∃ j, fault l.b = j := ⟨_, rfl⟩
      rw [hj] at HL ⊢
      clear hg hj
      go_wp2
      go_ret2
      exact ⟨ret_two (kindR_no (by rw [HL.out.1]; exact HL.out.2) _ _) (by rw [HL.out.1, err_ne HL.out.2]; rfl), W3.out⟩
  · rw [err_ne hf]
    have HL := hide (And.intro (lfault_w HNR.out hf) hf)
    obtain ⟨j, hj⟩ : ∃ j, fault l.w = j := ⟨_, rfl⟩
    rw [hj] at HL ⊢
    clear hf hj
    go_wp2
    go_ret2
    exact ⟨ret_two (kindR_no (by rw [HL.out.1]; exact HL.out.2) _ _) (by rw [HL.out.1, err_ne HL.out.2]; rfl), W2.out⟩
set_option maxHeartbeats 400000 in
theorem kindof_none (k : Int) (wr wc br bc : Int) (xa : Option Addr) (xn xk : Nat) (ya : Option Addr) (yn yk : Nat) (w : World) (hk : k < 1 ∨ 4 < k) :
    Calls Try.prog 34 #[.agg #[.int .i64 k, .int .i64 wr, .int .i64 wc, .slice xa xn xk, .int .i64 br, .int .i64 bc, .slice ya yn yk]] w fun e w' => e = .returned (.tuple #[.nilIface, errV 1]) ∧ Below w.heap.size w w' := by
  have HN := hide (fun W => named_none k wr wc br bc xa xn xk ya yn yk W hk)
  clear hk
  go_enter Try.func34, Try.ntmps34
  go_wp2_with fail
  refine (HN.out _).mono ?_
  rintro e w1 ⟨rfl, hb1⟩
  go_wp2
  go_ret2
  exact ⟨rfl, below_box (Below.refl _ _) hb1⟩
/-- What wide says and tells. -/
def w0E (l : Ly) (n : Int) : Int := if n < 0 ∨ 12 < n then 1 else if takesL l n = false then 2 else 0
def w0X (l : Ly) (n : Int) : Int := if w0E l n = 0 then givesL l n else 0
theorem w0X_no {l : Ly} {n : Int} (h : w0E l n ≠ 0) : 0 = w0X l n := by unfold w0X; rw [if_neg h]
theorem w0X_yes {l : Ly} {n x : Int} (h : w0E l n = 0) (hx : x = givesL l n) : x = w0X l n := by unfold w0X; rw [if_pos h]; exact hx
theorem w0E_1 {l : Ly} {n : Int} (h : n < 0 ∨ 12 < n) : w0E l n = 1 := by unfold w0E; rw [if_pos h]
theorem w0E_2 {l : Ly} {n : Int} (h : ¬ (n < 0 ∨ 12 < n)) (ht : takesL l n = false) : w0E l n = 2 := by unfold w0E; rw [if_neg h, if_pos ht]
theorem w0E_0 {l : Ly} {n : Int} (h : ¬ (n < 0 ∨ 12 < n)) (ht : takesL l n = true) : w0E l n = 0 := by unfold w0E; rw [if_neg h, if_neg (by simp [ht])]
theorem goE_l {l : Ly} {x : Mx} (h : lfault l ≠ 0) : goE l x = lfault l := by unfold goE; rw [if_pos h]
theorem goE_x {l : Ly} {x : Mx} (h : lfault l = 0) (hx : fault x ≠ 0) : goE l x = fault x := by unfold goE; rw [if_neg (by simp [h]), if_pos hx]
theorem goE_w {l : Ly} {x : Mx} (h : lfault l = 0) (hx : fault x = 0) : goE l x = w0E l x.cols := by
  obtain ⟨R, C, g⟩ := good_of hx
  have hc := g.c
  have hC := g.hC
  unfold goE w0E; rw [if_neg (by simp [h]), if_neg (by simp [hx]), if_neg (show ¬ (x.cols < 0 ∨ 12 < x.cols) by omega)]
/-- How many columns come, where nothing is wrong. -/
def goW (l : Ly) (x : Mx) : Int := if goE l x = 0 then givesL l x.cols else 0
theorem goW_no {l : Ly} {x : Mx} (h : goE l x ≠ 0) : 0 = goW l x := by unfold goW; rw [if_neg h]
theorem goW_w {l : Ly} {x : Mx} (h : lfault l = 0) (hx : fault x = 0) : w0X l x.cols = goW l x := by unfold w0X goW; rw [goE_w h hx]
end Go.Proofs.Ytjmmplpecmnlnae
