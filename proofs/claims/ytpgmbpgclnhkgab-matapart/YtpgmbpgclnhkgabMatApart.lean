/- The law MatApart of the landed program returns true for every two matrices and every int: what is multiplied row by row, and stacked, is what is multiplied whole; rows taken apart and stacked are the same. No condition. -/
import Derived.Test.YtpgmbpgclnhkgabRows
import Derived.WalkKit
import Derived.ProofKit
import Derived.OpenShut
import Derived.Test.YtpgmbpgclnhkgabMFact
import Derived.Test.YtpgmbpgclnhkgabOpenMx
import Derived.Test.YtpgmbpgclnhkgabApart
import Derived.Test.YtpgmbpgclnhkgabPick
import Derived.Test.YtpgmbpgclnhkgabThree
namespace Go.Proofs.Ytpgmbpgclnhkgab.matApart
open Go.ChangeShapes Go.WideShapes Go.ChangeAt Go.WideMaps Go.WideElems Go.RowKit
open Go.ChangeMaps (open_string shut_string)
set_option linter.unusedVariables false

theorem own : ownKnob Try.prog.godebug = none := by kernel_rfl
theorem walk (v0 : Value) (m0 : Mx) (v1 : Value) (m1 : Mx) (a2 : Int) (w : World) (w0 : IsMx w v0 m0) (x0 : (Lit.int .i64 m0.rows).wf = true) (y0 : (Lit.int .i64 m0.cols).wf = true) (w1 : IsMx w v1 m1) (x1 : (Lit.int .i64 m1.rows).wf = true) (y1 : (Lit.int .i64 m1.cols).wf = true) (w2 : (Lit.int .i64 a2).wf = true) :
    Calls Try.prog 4 #[v0, v1, .int .i64 a2] w fun e w' => e = .returned (.bool true) ∧ Below w.heap.size w w' := by
  obtain ⟨s0, rfl, hs0⟩ := w0
  obtain ⟨s1, rfl, hs1⟩ := w1
  obtain ⟨xa, xn, xk, rfl⟩ := hs0.shape
  obtain ⟨ya, yn, yk, rfl⟩ := hs1.shape
  have hp := bounds_i64 w2
  have hp0 := hp.1
  have hp1 := hp.2
  have HF := hide factm_any
  obtain ⟨r, er⟩ : ∃ r, m0.rows = r := ⟨_, rfl⟩
  obtain ⟨c, ec⟩ : ∃ c, m0.cols = c := ⟨_, rfl⟩
  obtain ⟨r', er'⟩ : ∃ r, m1.rows = r := ⟨_, rfl⟩
  obtain ⟨c', ec'⟩ : ∃ c, m1.cols = c := ⟨_, rfl⟩
  have HM0 := hide (show IsMx w (.agg #[.int .i64 r, .int .i64 c, .slice xa xn xk]) m0 from ⟨_, by rw [er, ec], hs0⟩)
  have HM1 := hide (show IsMx w (.agg #[.int .i64 r', .int .i64 c', .slice ya yn yk]) m1 from ⟨_, by rw [er', ec'], hs1⟩)
  have HEQ := hide (And.intro er (And.intro ec (And.intro er' ec')))
  rw [er, ec, er', ec']
  have HA := hide ((three_new w r c (.slice xa xn xk) 24).below (below_one _ (.cells #[.int .i64 r', .int .i64 c', .slice ya yn yk] 24)))
  have hB := three_new (w.alloc (.cells #[.int .i64 r, .int .i64 c, .slice xa xn xk] 24)) r' c' (.slice ya yn yk) 24
  rw [World.size_alloc] at hB
  have HB := hide hB
  have HW : Hid (Below w.heap.size w ((w.alloc (.cells #[.int .i64 r, .int .i64 c, .slice xa xn xk] 24)).alloc (.cells #[.int .i64 r', .int .i64 c', .slice ya yn yk] 24))) := below_next (below_one _ _) (below_one _ _)
  clear x0 y0 x1 y1 hs0 hs1 er ec er' ec' hB w2 hp
  go_enter Try.func4, Try.ntmps4
  go_wp2_with fail
  refine (HF.out _).mono ?_
  rintro e w1 ⟨rfl, hb1⟩
  have HA1 := hide (HA.out.below hb1)
  have HB1 := hide (HB.out.below hb1)
  have W1 := hide (below_next HW.out hb1)
  clear hb1 HA HB HW
  obtain ⟨d0, d1, d2⟩ := HA1.out
  obtain ⟨e0, e1, e2⟩ := HB1.out
  have HC := hide (mmul_any _ _ m0 m1 w1 (HM0.out.below W1.out) (HM1.out.below W1.out))
  go_wp2_with fail
  refine HC.out.mono ?_
  intro e w2 h
  by_cases hE : mulE m0 m1 = 0
  · obtain ⟨Ra, Ca, Cb, ga, gb⟩ := mulE_zero hE
    obtain ⟨pa, pn, pc, rfl, hpm, hb2⟩ := h.good hE
    obtain ⟨p, hp⟩ : ∃ p, mulX m0 m1 = p := ⟨_, rfl⟩
    have gp := ga.mul gb
    rw [hp] at gp hpm ⊢
    have hr : r = (Ra : Int) := by rw [← HEQ.out.1]; exact ga.r
    have hr24 := ga.hR
    have HG := hide (And.intro ga (And.intro gb (And.intro gp (And.intro hp hr))))
    have hbp := below_next hb2 (below_one w2 (.cells #[.int .i64 p.rows, .int .i64 p.cols, .slice pa pn pc] 24))
    have HP := hide (three_new w2 p.rows p.cols (.slice pa pn pc) 24)
    have HPM := hide (hpm.below (below_one w2 (.cells #[.int .i64 p.rows, .int .i64 p.cols, .slice pa pn pc] 24)))
    have HP0 := HP
    have CW := hide (below_next W1.out hbp).size
    have HPM0 := HPM
    have HA2 := hide (HA1.out.below hbp)
    have HB2 := hide (HB1.out.below hbp)
    have W2 := hide (below_next W1.out hbp)
    have hr0 : 0 ≤ r := by omega
    have hr1 : r ≤ 24 := by omega
    have HK := hide (fun W => pick_any a2 (r + 1) W hp0 hp1 (by omega) (by omega))
    clear h HC hb2 hbp hpm hp hE ga gb gp hr hr24 d0 d1 d2 e0 e1 e2 HA1 HB1 W1
    obtain ⟨d0, d1, d2⟩ := HA2.out
    go_wp2_with fail
    refine (HK.out _).mono ?_
    rintro e w3 ⟨k, rfl, hk, rfl⟩
    have hkR : k ≤ Ra := by have := HG.out.2.2.2.2; omega
    have HKR := hide hkR
    have HX := hide (mrows_any _ m0 0 (k : Int) _ (HM0.out.below W2.out))
    clear hkR
    go_wp2_with fail
    refine HX.out.mono ?_
    intro e w4 h
    have hx0 : rowsE m0 0 (k : Int) = 0 := HG.out.1.rows0 (f := 0) (Nat.zero_le k) HKR.out
    obtain ⟨ua, un, uc, rfl, hxm, hb4⟩ := h.good hx0
    have gx := HG.out.1.rows (f := 0) (Nat.zero_le k) HKR.out
    obtain ⟨x, hx⟩ : ∃ x, rowsX m0 0 (k : Int) = x := ⟨_, rfl⟩
    have gx' : Good x (k - 0) Ca := by rw [← hx]; exact gx
    rw [hx] at hxm ⊢
    have hb4' := below_next hb4 (below_one w4 (.cells #[.int .i64 x.rows, .int .i64 x.cols, .slice ua un uc] 24))
    have HXM := hide (hxm.below (below_one w4 (.cells #[.int .i64 x.rows, .int .i64 x.cols, .slice ua un uc] 24)))
    have HXT := hide (three_new w4 x.rows x.cols (.slice ua un uc) 24)
    have HXE := hide (And.intro hx gx')
    have C4 := hide hb4'
    have W4 := hide (below_next W2.out hb4')
    have HA4 := hide (HA2.out.below hb4')
    have HB4 := hide (HB2.out.below hb4')
    have HP4 := hide (HP.out.below hb4')
    have HPM4 := hide (HPM.out.below hb4')
    clear h hx0 gx gx' hx hxm hb4 hb4' HX d0 d1 d2 HA2 HB2 HP HPM W2
    obtain ⟨d0, d1, d2⟩ := HA4.out
    have HY := hide (mrows_any _ m0 (k : Int) r _ (HM0.out.below W4.out))
    go_wp2_with fail
    refine HY.out.mono ?_
    intro e w5 h
    have hra := HG.out.2.2.2.2
    have hy0 : rowsE m0 (k : Int) r = 0 := by rw [hra]; exact HG.out.1.rows0 HKR.out (Nat.le_refl Ra)
    obtain ⟨va, vn, vc, rfl, hym, hb5⟩ := h.good hy0
    have gy := HG.out.1.rows HKR.out (Nat.le_refl Ra)
    obtain ⟨y, hy⟩ : ∃ y, rowsX m0 (k : Int) r = y := ⟨_, rfl⟩
    have gy' : Good y (Ra - k) Ca := by rw [← hy, hra]; exact gy
    rw [hy] at hym ⊢
    have hb5' := below_next hb5 (below_one w5 (.cells #[.int .i64 y.rows, .int .i64 y.cols, .slice va vn vc] 24))
    have HYM := hide (hym.below (below_one w5 (.cells #[.int .i64 y.rows, .int .i64 y.cols, .slice va vn vc] 24)))
    have HYT := hide (three_new w5 y.rows y.cols (.slice va vn vc) 24)
    have HYE := hide (And.intro hy gy')
    have C5 := hide (below_next C4.out hb5')
    have W5 := hide (below_next W4.out hb5')
    have HA5 := hide (HA4.out.below hb5')
    have HB5 := hide (HB4.out.below hb5')
    have HP5 := hide (HP4.out.below hb5')
    have HPM5 := hide (HPM4.out.below hb5')
    have HXM5 := hide (HXM.out.below hb5')
    have HXT5 := hide (HXT.out.below hb5')
    clear h hy0 gy gy' hy hym hb5 hb5' HY d0 d1 d2 HA4 HB4 HP4 HPM4 HXM HXT W4 hra
    obtain ⟨d0, d1, d2⟩ := HXT5.out
    obtain ⟨e0, e1, e2⟩ := HYT.out
    go_wp2_with fail
    have hxy : stackE [x, y] = 0 ∧ stackX [x, y] = m0 := by rw [← HXE.out.1, ← HYE.out.1, HG.out.2.2.2.2]; exact stack_rows HG.out.1 HKR.out
    have hmx := mxs_two HXM5.out.ints HYM.out.ints 24
    rw [World.size_alloc] at hmx
    have HST := hide (mstack_any _ _ _ hmx (by simp))
    have hv6 := below_one (w5.alloc (.cells #[.int .i64 y.rows, .int .i64 y.cols, .slice va vn vc] 24)) (.cells #[.int .i64 x.rows, .int .i64 x.cols, .slice ua un uc, .int .i64 y.rows, .int .i64 y.cols, .slice va vn vc] 24)
    refine HST.out.mono ?_
    intro e w6 h
    obtain ⟨za, zn, zc, rfl, hzm, hb6⟩ := h.good hxy.1
    rw [hxy.2] at hzm ⊢
    rw [HEQ.out.1, HEQ.out.2.1] at hzm ⊢
    have hb6' := below_next (below_next hv6 hb6) (below_one w6 (.cells #[.int .i64 r, .int .i64 c, .slice za zn zc] 24))
    have HZM := hide (hzm.below (below_one w6 (.cells #[.int .i64 r, .int .i64 c, .slice za zn zc] 24)))
    have HZT := hide (three_new w6 r c (.slice za zn zc) 24)
    have C6 := hide (below_next C5.out hb6')
    have L6 := hide (below_next C5.out (below_next hv6 hb6)).size
    have W6 := hide (below_next W5.out hb6')
    have HA6 := hide (HA5.out.below hb6')
    have HB6 := hide (HB5.out.below hb6')
    have HP6 := hide (HP5.out.below hb6')
    have HPM6 := hide (HPM5.out.below hb6')
    have HXM6 := hide (HXM5.out.below hb6')
    have HXT6 := hide (HXT5.out.below hb6')
    have HYM6 := hide (HYM.out.below hb6')
    have HYT6 := hide (HYT.out.below hb6')
    clear h hxy hmx hv6 hb6 hb6' hzm HST d0 d1 d2 e0 e1 e2 HA5 HB5 HP5 HPM5 HXM5 HXT5 HYM HYT W5
    obtain ⟨d0, d1, d2⟩ := HA6.out
    obtain ⟨e0, e1, e2⟩ := HZT.out
    have HS := hide (matrices_any _ _ m0 m0 _ HZM.out (HM0.out.below W6.out))
    go_wp2_with fail
    refine HS.out.mono ?_
    rintro e w7 ⟨rfl, hb7⟩
    rw [sameM_refl]
    have C7 := hide (below_next C6.out hb7)
    have W7 := hide (below_next W6.out hb7)
    have HB7 := hide (HB6.out.below hb7)
    have HP7 := hide (HP6.out.below hb7)
    have HPM7 := hide (HPM6.out.below hb7)
    have HXM7 := hide (HXM6.out.below hb7)
    have HXT7 := hide (HXT6.out.below hb7)
    have HYM7 := hide (HYM6.out.below hb7)
    have HYT7 := hide (HYT6.out.below hb7)
    have HZT7 := hide (HZT.out.below hb7)
    have HZF7 := hide (fun j => (hb7.frozen (p := ⟨w6.heap.size, j, none⟩) HZT.out.lt).trans (box_free w6 #[.int .i64 r, .int .i64 c, .slice za zn zc] 24 rfl j))
    clear hb7 HS d0 d1 d2 e0 e1 e2 HA6 HB6 HP6 HPM6 HXM6 HXT6 HYM6 HYT6 HZM HZT W6
    obtain ⟨d0, d1, d2⟩ := HXT7.out
    obtain ⟨e0, e1, e2⟩ := HB7.out
    have HU := hide (mmul_any _ _ x m1 _ HXM7.out (HM1.out.below W7.out))
    go_wp2_with fail
    refine HU.out.mono ?_
    intro e w8 h
    obtain ⟨fa, fn, fc, rfl, hum, hb8⟩ := h.good (HXE.out.2.mul0 HG.out.2.1)
    obtain ⟨u, hu⟩ : ∃ u, mulX x m1 = u := ⟨_, rfl⟩
    have gu : Good u (k - 0) Cb := by rw [← hu]; exact HXE.out.2.mul HG.out.2.1
    have hu' : rowsX p 0 (k : Int) = u := by rw [← hu, ← HXE.out.1, ← HG.out.2.2.2.1]; exact (rows_mul HG.out.1 HG.out.2.1 (f := 0) (Nat.zero_le k) HKR.out).symm
    rw [hu] at hum ⊢
    have hb8' := below_next hb8 (below_one w8 (.cells #[.int .i64 u.rows, .int .i64 u.cols, .slice fa fn fc] 24))
    have HUM := hide (hum.below (below_one w8 (.cells #[.int .i64 u.rows, .int .i64 u.cols, .slice fa fn fc] 24)))
    have HUT := hide (three_new w8 u.rows u.cols (.slice fa fn fc) 24)
    have HUE := hide (And.intro hu' gu)
    have C8 := hide (below_next C7.out hb8')
    have W8 := hide (below_next W7.out hb8')
    have HB8 := hide (HB7.out.below hb8')
    have HP8 := hide (HP7.out.below hb8')
    have HPM8 := hide (HPM7.out.below hb8')
    have HYM8 := hide (HYM7.out.below hb8')
    have HYT8 := hide (HYT7.out.below hb8')
    have HZT8 := hide (HZT7.out.below hb8')
    have HZF8 := hide (fun j => (hb8'.frozen (p := ⟨w6.heap.size, j, none⟩) HZT7.out.lt).trans (HZF7.out j))
    clear h hu hu' gu hum hb8 hb8' HU d0 d1 d2 e0 e1 e2 HB7 HP7 HPM7 HYM7 HYT7 HZT7 HZF7 W7 HXM7 HXT7
    obtain ⟨d0, d1, d2⟩ := HYT8.out
    obtain ⟨e0, e1, e2⟩ := HB8.out
    have HV := hide (mmul_any _ _ y m1 _ HYM8.out (HM1.out.below W8.out))
    go_wp2_with fail
    refine HV.out.mono ?_
    intro e w9 h
    obtain ⟨ga', gn', gc', rfl, hvm, hb9⟩ := h.good (HYE.out.2.mul0 HG.out.2.1)
    obtain ⟨v, hv⟩ : ∃ v, mulX y m1 = v := ⟨_, rfl⟩
    have gv : Good v (Ra - k) Cb := by rw [← hv]; exact HYE.out.2.mul HG.out.2.1
    have hv' : rowsX p (k : Int) (Ra : Int) = v := by rw [← hv, ← HYE.out.1, ← HG.out.2.2.2.1, HG.out.2.2.2.2]; exact (rows_mul HG.out.1 HG.out.2.1 HKR.out (Nat.le_refl Ra)).symm
    rw [hv] at hvm ⊢
    have hb9' := below_next hb9 (below_one w9 (.cells #[.int .i64 v.rows, .int .i64 v.cols, .slice ga' gn' gc'] 24))
    have HVM := hide (hvm.below (below_one w9 (.cells #[.int .i64 v.rows, .int .i64 v.cols, .slice ga' gn' gc'] 24)))
    have HVT := hide (three_new w9 v.rows v.cols (.slice ga' gn' gc') 24)
    have HVE := hide (And.intro hv' gv)
    have C9 := hide (below_next C8.out hb9')
    have W9 := hide (below_next W8.out hb9')
    have HP9 := hide (HP8.out.below hb9')
    have HPM9 := hide (HPM8.out.below hb9')
    have HUM9 := hide (HUM.out.below hb9')
    have HUT9 := hide (HUT.out.below hb9')
    have HZT9 := hide (HZT8.out.below hb9')
    have HZF9 := hide (fun j => (hb9'.frozen (p := ⟨w6.heap.size, j, none⟩) HZT8.out.lt).trans (HZF8.out j))
    clear h hv hv' gv hvm hb9 hb9' HV d0 d1 d2 e0 e1 e2 HB8 HP8 HPM8 HYM8 HYT8 HZT8 HZF8 W8 HUM HUT
    obtain ⟨d0, d1, d2⟩ := HUT9.out
    obtain ⟨e0, e1, e2⟩ := HVT.out
    go_wp2_with fail
    have huv : stackE [u, v] = 0 ∧ stackX [u, v] = p := by rw [← HUE.out.1, ← HVE.out.1]; exact stack_rows HG.out.2.2.1 HKR.out
    have hmx := mxs_two HUM9.out.ints HVM.out.ints 24
    rw [World.size_alloc] at hmx
    have HST := hide (mstack_any _ _ _ hmx (by simp))
    have hv6 := below_one (w9.alloc (.cells #[.int .i64 v.rows, .int .i64 v.cols, .slice ga' gn' gc'] 24)) (.cells #[.int .i64 u.rows, .int .i64 u.cols, .slice fa fn fc, .int .i64 v.rows, .int .i64 v.cols, .slice ga' gn' gc'] 24)
    refine HST.out.mono ?_
    intro e w10 h
    obtain ⟨qa, qn, qc, rfl, hqm, hb10⟩ := h.good huv.1
    have hfr := h.fresh
    rw [huv.2] at hqm hfr ⊢
    have hb10' := below_next hv6 hb10
    have C10 := hide (below_next C9.out hb10')
    have W10 := hide (below_next W9.out hb10')
    have HP10 := hide (HP9.out.below hb10')
    have HPM10 := hide (HPM9.out.below hb10')
    obtain ⟨o0, o1, o2⟩ := HZT9.out.below hb10'
    have hz := fun j => (hb10'.frozen (p := ⟨w6.heap.size, j, none⟩) HZT9.out.lt).trans (HZF9.out j)
    have o3 := hz 0
    have o4 := hz 1
    have o5 := hz 2
    have hlt6 := HZT9.out.lt
    have HQM := hide (((hqm.set hfr (b := w6.heap.size) (by simp only [World.size_alloc] at hlt6 ⊢; omega) 0 (.int .i64 p.rows)).set hfr (b := w6.heap.size) (by simp only [World.size_alloc] at hlt6 ⊢; omega) 1 (.int .i64 p.cols)).set hfr (b := w6.heap.size) (by simp only [World.size_alloc] at hlt6 ⊢; omega) 2 (.slice qa qn qc))
    clear h huv hmx hv6 hb10 hb10' hqm hfr HST d0 d1 d2 e0 e1 e2 HP9 HPM9 HUM9 HUT9 HVM HVT HZT9 HZF9 W9 hz hlt6
    have l6 := L6.out
    have hsets : Below (w2.alloc (.cells #[.int .i64 p.rows, .int .i64 p.cols, .slice pa pn pc] 24)).heap.size (w2.alloc (.cells #[.int .i64 p.rows, .int .i64 p.cols, .slice pa pn pc] 24)) (((w10.setCell ⟨w6.heap.size, 0, none⟩ (.int .i64 p.rows)).setCell ⟨w6.heap.size, 1, none⟩ (.int .i64 p.cols)).setCell ⟨w6.heap.size, 2, none⟩ (.slice qa qn qc)) := ((C10.out.setCell l6 _).setCell l6 _).setCell l6 _
    have hw6 : w.heap.size ≤ w6.heap.size := by have := CW.out; omega
    have hsets0 : Below w.heap.size w (((w10.setCell ⟨w6.heap.size, 0, none⟩ (.int .i64 p.rows)).setCell ⟨w6.heap.size, 1, none⟩ (.int .i64 p.cols)).setCell ⟨w6.heap.size, 2, none⟩ (.slice qa qn qc)) := ((W10.out.setCell hw6 _).setCell hw6 _).setCell hw6 _
    have HW11 := hide hsets0
    obtain ⟨d0, d1, d2⟩ := HP0.out.below hsets
    have HS := hide (matrices_any _ _ p p _ HQM.out (HPM0.out.below hsets))
    clear hsets hsets0 l6 hw6 HP10 HPM10 W10 C10
    go_wp2_with fail
    refine HS.out.mono ?_
    rintro e w11 ⟨rfl, hb11⟩
    rw [sameM_refl]
    have W12 := hide (below_next HW11.out hb11)
    clear hb11 HS
    go_wp2
    go_ret
    exact ⟨rfl, W12.out⟩
  · obtain ⟨pa, pn, pc, rfl, _, hb2⟩ := h.bad hE (mulX_no hE)
    have HB2 := hide hb2
    clear h hb2 HC
    go_wp2
    go_ret
    exact ⟨rfl, below_next (below_next W1.out HB2.out) (below_one _ _)⟩

set_option maxRecDepth 100000 in
theorem lifted (os : Os) (started : os.Started) (H : Type) (enc : TypeId × Value → H) :
    ReturnsInHanded {} Try.checked os 4 .any (Rows.matApartSpec.pre6 enc Try.prog Try.f4 Rows.matApartRow.domain false) (Rows.matApartSpec.post enc Try.prog Try.f4 false true false false) := by
  refine returnsInHanded_of_change (C := Try.checked) own started (by kernel_rfl) Try.func4
    (ChangeSpec.witness6 (enc := enc) (C := Try.checked) false ⟨#[], #[.agg #[.int .i64 0, .int .i64 0, .slice none 0 0], .agg #[.int .i64 0, .int .i64 0, .slice none 0 0], .int .i64 0], []⟩ 8 (by kernel_rfl) (by kernel_rfl) (by kernel_rfl) (by kernel_rfl)) ?_
  intro W base args ds gs before hval0 hW hcnd _
  have hval : ∀ (j : Nat) t v, Try.f4.params[j]? = some t → args[j]? = some v → Value.okWide Try.prog W .any base t v := hval0
  have hW' := hW
  obtain ⟨p, q, hA0, hV, rfl, hfz, hnd⟩ := hW
  have hA : DataW.TrodAll enc Try.prog W 0 (fun _ => true) true Try.f4.params.toList args.toList ds p := hA0
  rw [Try.params4] at hA hval
  obtain ⟨v0, vs0, d0, ds0, p0, q0, hargs, rfl, rfl, h0, r0⟩ := trodAll_cons hA
  obtain ⟨v1, vs1, d1, ds1, p1, q1, rfl, rfl, rfl, h1, r1⟩ := trodAll_cons r0
  obtain ⟨v2, vs2, d2, ds2, p2, q2, rfl, rfl, rfl, h2, r2⟩ := trodAll_cons r1
  obtain ⟨rfl, rfl, rfl⟩ := trodAll_nil r2
  obtain rfl : args = #[v0, v1, v2] := by cases args; simp_all
  obtain ⟨rfl, rfl⟩ := trodVars_none hV
  have k0 := h0
  have lt0 : ∀ x ∈ p0, x.block < W.heap.size := by obtain ⟨m, hm⟩ := k0; exact DataW.trod_lt m _ _ _ hm
  obtain ⟨m0, w0, x0, y0⟩ := mx_open (hval 0 24 v0 rfl rfl) h0
  have k1 := h1
  have lt1 : ∀ x ∈ p1, x.block < W.heap.size := by obtain ⟨m, hm⟩ := k1; exact DataW.trod_lt m _ _ _ hm
  obtain ⟨m1, w1, x1, y1⟩ := mx_open (hval 1 24 v1 rfl rfl) h1
  obtain ⟨a2, rfl, rfl, rfl, w2⟩ := open_int Try.underlying3 (hval 2 3 v2 rfl rfl) h2
  clear hA0 hval0
  refine (walk v0 m0 v1 m1 a2 W w0 x0 y0 w1 x1 y1 w2).mono fun e W' ⟨he, bel⟩ => ?_
  subst he
  exact ⟨_, rfl, _, _, _, [], _, [], hW', trodAll_mk1 (shut_bool Try.underlying4 _), (trodAll_cons_mk (Below.trod laidOut (by kernel_rfl) (of_decide_eq_true (by kernel_rfl)) k0 bel lt0) (trodAll_cons_mk (Below.trod laidOut (by kernel_rfl) (of_decide_eq_true (by kernel_rfl)) k1 bel lt1) (trodAll_cons_mk (shut_int Try.underlying3 w2) trodAll_mk0))), rfl, bel.frame _, fun h => by cases h⟩

theorem row_holds : Rows.MatApartSaid :=
  OpenClaim.holds_of_wide 4 Try.f4 rfl rfl rfl rfl rfl rfl rfl ⟨rfl, rfl, rfl, rfl, rfl⟩ rfl rfl rfl rfl rfl (by kernel_rfl) Try.func4 (by kernel_rfl)
    (of_decide_eq_true (by kernel_rfl)) (by unfold Func.isWrapper; first | (rw [if_pos (by decide +kernel)]; kernel_rfl) | (rw [if_neg (by decide +kernel)]; exact ⟨rfl, rfl⟩))
    (fun os started H enc _ => lifted os started H enc)
end Go.Proofs.Ytpgmbpgclnhkgab.matApart
namespace Go.Proofs.Ytpgmbpgclnhkgab
theorem matApart_holds : Rows.MatApartSaid := matApart.row_holds
end Go.Proofs.Ytpgmbpgclnhkgab
