/- The law MatTurns of the landed program returns true for every two matrices: a product, turned, is the product of the turned ones, the other way round. No condition. -/
import Derived.Test.YtpgmbpgclnhkgabRows
import Derived.WalkKit
import Derived.ProofKit
import Derived.OpenShut
import Derived.Test.YtpgmbpgclnhkgabMFact
import Derived.Test.YtpgmbpgclnhkgabOpenMx
namespace Go.Proofs.Ytpgmbpgclnhkgab.matTurns
open Go.ChangeShapes Go.WideShapes Go.ChangeAt Go.WideMaps Go.WideElems Go.RowKit
open Go.ChangeMaps (open_string shut_string)
set_option linter.unusedVariables false

theorem own : ownKnob Try.prog.godebug = none := by kernel_rfl
theorem walk (v0 : Value) (m0 : Mx) (v1 : Value) (m1 : Mx) (w : World) (w0 : IsMx w v0 m0) (x0 : (Lit.int .i64 m0.rows).wf = true) (y0 : (Lit.int .i64 m0.cols).wf = true) (w1 : IsMx w v1 m1) (x1 : (Lit.int .i64 m1.rows).wf = true) (y1 : (Lit.int .i64 m1.cols).wf = true) :
    Calls Try.prog 3 #[v0, v1] w fun e w' => e = .returned (.bool true) ∧ Below w.heap.size w w' := by
  obtain ⟨s0, rfl, hs0⟩ := w0
  obtain ⟨s1, rfl, hs1⟩ := w1
  have HF := hide factm_any
  have HA : Hid (BoxMx ((w.alloc (.cells #[.int .i64 m0.rows, .int .i64 m0.cols, s0] 24)).alloc (.cells #[.int .i64 m1.rows, .int .i64 m1.cols, s1] 24)) w.heap.size m0) := (box_of hs0 _).below (below_one _ _)
  have HB : Hid (BoxMx ((w.alloc (.cells #[.int .i64 m0.rows, .int .i64 m0.cols, s0] 24)).alloc (.cells #[.int .i64 m1.rows, .int .i64 m1.cols, s1] 24)) (w.heap.size + 1) m1) := by
    have h := box_of (hs1.below (below_one _ (.cells #[.int .i64 m0.rows, .int .i64 m0.cols, s0] 24))) 24
    rw [World.size_alloc] at h; exact h
  have HW : Hid (Below w.heap.size w ((w.alloc (.cells #[.int .i64 m0.rows, .int .i64 m0.cols, s0] 24)).alloc (.cells #[.int .i64 m1.rows, .int .i64 m1.cols, s1] 24))) := below_next (below_one _ _) (below_one _ _)
  clear x0 y0 x1 y1 hs0 hs1
  go_enter Try.func3, Try.ntmps3
  go_wp2_with fail
  refine (HF.out _).mono ?_
  rintro e w1 ⟨rfl, hb1⟩
  have BA := hide (HA.out.below hb1)
  have BB := hide (HB.out.below hb1)
  have W1 := hide (below_next HW.out hb1)
  clear hb1 HA HB HW
  obtain ⟨aa, an, ac, d0, d1, d2, hi0⟩ := BA.out.mx
  obtain ⟨ba, bn, bc, e0, e1, e2, hi1⟩ := BB.out.mx
  have HC := hide (mmul_any _ _ m0 m1 w1 hi0 hi1)
  clear hi0 hi1
  go_wp2_with fail
  by_cases hE : mulE m0 m1 = 0
  · obtain ⟨Ra, Ca, Cb, ga, gb⟩ := mulE_zero hE
    refine HC.out.mono ?_
    intro e w2 h
    obtain ⟨pa, pn, pc, rfl, hpm, hb2⟩ := h.good hE
    clear h HC d0 d1 d2 e0 e1 e2
    have BA2 := hide (BA.out.below hb2)
    have BB2 := hide (BB.out.below hb2)
    have W2 := hide (below_next W1.out hb2)
    obtain ⟨p, hp⟩ : ∃ p, mulX m0 m1 = p := ⟨_, rfl⟩
    have gp := ga.mul gb
    rw [hp] at gp hpm ⊢
    have HPM := hide hpm
    have HPE := hide hp
    have HT := hide (mturn_any _ p _ (hpm.below (below_one w2 (.cells #[.int .i64 p.rows, .int .i64 p.cols, .slice pa pn pc] 24))))
    have HG := hide (And.intro ga (And.intro gb gp))
    clear hb2 BA BB W1 hpm hp hE
    by_cases hR : Ra ≤ 12
    · have HR := hide hR
      clear ga gb gp hR
      go_wp2_with fail
      refine HT.out.mono ?_
      intro e w3 h
      obtain ⟨ta, tn, tc, rfl, htm, hb3⟩ := h.good (HG.out.2.2.turn0 HR.out)
      clear h HT
      obtain ⟨t, ht⟩ : ∃ t, turnX p = t := ⟨_, rfl⟩
      rw [ht] at htm ⊢
      have HTE := hide ht
      have BT := hide (htm.box 24)
      have W3 := hide (below_next (below_box W2.out hb3) (below_one w3 (.cells #[.int .i64 t.rows, .int .i64 t.cols, .slice ta tn tc] 24)))
      have BA3 := hide (((BA2.out.below (below_one _ _)).below hb3).below (below_one w3 (.cells #[.int .i64 t.rows, .int .i64 t.cols, .slice ta tn tc] 24)))
      have BB3 := hide (((BB2.out.below (below_one _ _)).below hb3).below (below_one w3 (.cells #[.int .i64 t.rows, .int .i64 t.cols, .slice ta tn tc] 24)))
      clear ht htm hb3 BA2 BB2 W2 HPM
      obtain ⟨aa, an, ac, d0, d1, d2, hi0⟩ := BA3.out.mx
      have HX := hide (mturn_any _ m0 _ hi0)
      clear hi0
      go_wp2_with fail
      refine HX.out.mono ?_
      intro e w4 h
      obtain ⟨xa, xn, xc, rfl, hxm, hb4⟩ := h.good (HG.out.1.turn0 HR.out)
      clear h HX d0 d1 d2
      obtain ⟨x, hx⟩ : ∃ x, turnX m0 = x := ⟨_, rfl⟩
      rw [hx] at hxm ⊢
      have HXE := hide hx
      have BX := hide (hxm.box 24)
      have hb4' := below_next hb4 (below_one w4 (.cells #[.int .i64 x.rows, .int .i64 x.cols, .slice xa xn xc] 24))
      have W4 := hide (below_next W3.out hb4')
      have BB4 := hide (BB3.out.below hb4')
      have BT4 := hide (BT.out.below hb4')
      clear hx hxm hb4 hb4' BA3 BB3 W3 BT
      obtain ⟨ba, bn, bc, e0, e1, e2, hi1⟩ := BB4.out.mx
      have HY := hide (mturn_any _ m1 _ hi1)
      clear hi1
      go_wp2_with fail
      refine HY.out.mono ?_
      intro e w5 h
      obtain ⟨ya, yn, yc, rfl, hym, hb5⟩ := h.good (HG.out.2.1.turn0 HG.out.1.hC)
      clear h HY e0 e1 e2
      obtain ⟨y, hy⟩ : ∃ y, turnX m1 = y := ⟨_, rfl⟩
      rw [hy] at hym ⊢
      have HYE := hide hy
      have BY := hide (hym.box 24)
      have hb5' := below_next hb5 (below_one w5 (.cells #[.int .i64 y.rows, .int .i64 y.cols, .slice ya yn yc] 24))
      have W5 := hide (below_next W4.out hb5')
      have BX5 := hide (BX.out.below hb5')
      have BT5 := hide (BT4.out.below hb5')
      clear hy hym hb5 hb5' BB4 W4 BT4 BX
      obtain ⟨xa', xn', xc', e0, e1, e2, hi1⟩ := BX5.out.mx
      obtain ⟨ya', yn', yc', f0, f1, f2, hi2⟩ := BY.out.mx
      have HQ := hide (mmul_any _ _ y x _ hi2 hi1)
      clear hi1 hi2
      go_wp2_with fail
      refine HQ.out.mono ?_
      intro e w6 h
      have gx := HG.out.1.turn HR.out
      have gy := HG.out.2.1.turn HG.out.1.hC
      rw [HXE.out] at gx
      rw [HYE.out] at gy
      obtain ⟨qa, qn, qc, rfl, hqm, hb6⟩ := h.good (gy.mul0 gx)
      have hq : mulX y x = t := by rw [← HYE.out, ← HXE.out, ← HTE.out, ← HPE.out, turn_mul HG.out.1 HG.out.2.1 HR.out]
      rw [hq] at hqm ⊢
      clear h HQ e0 e1 e2 f0 f1 f2 gx gy hq
      have hb6' := below_next hb6 (below_one w6 (.cells #[.int .i64 t.rows, .int .i64 t.cols, .slice qa qn qc] 24))
      have W6 := hide (below_next W5.out hb6')
      have BT6 := hide (BT5.out.below hb6')
      have BQ := hide (hqm.box 24)
      clear hqm hb6 hb6' W5 BT5 BX5 BY
      obtain ⟨ta', tn', tc', e0, e1, e2, hi1⟩ := BT6.out.mx
      obtain ⟨qa', qn', qc', f0, f1, f2, hi2⟩ := BQ.out.mx
      have HS := hide (matrices_any _ _ t t _ hi1 hi2)
      clear hi1 hi2
      go_wp2_with fail
      refine HS.out.mono ?_
      rintro e w7 ⟨rfl, hb7⟩
      have hsm : sameM t t = true := by unfold sameM; simp
      rw [hsm]
      have W7 := hide (below_next W6.out hb7)
      clear hsm hb7 HS
      go_wp2
      go_ret
      exact ⟨rfl, W7.out⟩
    · have h12 : 12 < p.rows := by rw [gp.r]; omega
      have HG1 := hide (gp.turn1 (by omega))
      clear ga gb gp hR
      go_wp2_with fail
      refine HT.out.mono ?_
      intro e w3 h
      obtain ⟨ta, tn, tc, rfl, htm, hb3⟩ := h.bad (by rw [HG1.out]; decide) (turnX_no (by rw [HG1.out]; decide))
      rw [HG1.out]
      obtain ⟨_, _, _, c0, _, _, _⟩ := ((HPM.out.box 24).below hb3).mx
      have c1 := fun o => cell_past c0 o
      have HB3 := hide (below_box W2.out hb3)
      clear h HT hb3 htm c0
      go_wp2
      go_ret
      exact ⟨rfl, below_next HB3.out (below_one _ _)⟩
  · refine HC.out.mono ?_
    intro e w2 h
    obtain ⟨pa, pn, pc, rfl, _, hb2⟩ := h.bad hE (mulX_no hE)
    have HB2 := hide hb2
    clear h hb2 HC
    go_wp2
    go_ret
    exact ⟨rfl, below_next (below_next W1.out HB2.out) (below_one _ _)⟩

set_option maxRecDepth 100000 in
theorem lifted (os : Os) (started : os.Started) (H : Type) (enc : TypeId × Value → H) :
    ReturnsInHanded {} Try.checked os 3 .any (Rows.matTurnsSpec.pre6 enc Try.prog Try.f3 Rows.matTurnsRow.domain false) (Rows.matTurnsSpec.post enc Try.prog Try.f3 false true false false) := by
  refine returnsInHanded_of_change (C := Try.checked) own started (by kernel_rfl) Try.func3
    (ChangeSpec.witness6 (enc := enc) (C := Try.checked) false ⟨#[], #[.agg #[.int .i64 0, .int .i64 0, .slice none 0 0], .agg #[.int .i64 0, .int .i64 0, .slice none 0 0]], []⟩ 8 (by kernel_rfl) (by kernel_rfl) (by kernel_rfl) (by kernel_rfl)) ?_
  intro W base args ds gs before hval0 hW hcnd _
  have hval : ∀ (j : Nat) t v, Try.f3.params[j]? = some t → args[j]? = some v → Value.okWide Try.prog W .any base t v := hval0
  have hW' := hW
  obtain ⟨p, q, hA0, hV, rfl, hfz, hnd⟩ := hW
  have hA : DataW.TrodAll enc Try.prog W 0 (fun _ => true) true Try.f3.params.toList args.toList ds p := hA0
  rw [Try.params3] at hA hval
  obtain ⟨v0, vs0, d0, ds0, p0, q0, hargs, rfl, rfl, h0, r0⟩ := trodAll_cons hA
  obtain ⟨v1, vs1, d1, ds1, p1, q1, rfl, rfl, rfl, h1, r1⟩ := trodAll_cons r0
  obtain ⟨rfl, rfl, rfl⟩ := trodAll_nil r1
  obtain rfl : args = #[v0, v1] := by cases args; simp_all
  obtain ⟨rfl, rfl⟩ := trodVars_none hV
  have k0 := h0
  have lt0 : ∀ x ∈ p0, x.block < W.heap.size := by obtain ⟨m, hm⟩ := k0; exact DataW.trod_lt m _ _ _ hm
  obtain ⟨m0, w0, x0, y0⟩ := mx_open (hval 0 24 v0 rfl rfl) h0
  have k1 := h1
  have lt1 : ∀ x ∈ p1, x.block < W.heap.size := by obtain ⟨m, hm⟩ := k1; exact DataW.trod_lt m _ _ _ hm
  obtain ⟨m1, w1, x1, y1⟩ := mx_open (hval 1 24 v1 rfl rfl) h1
  clear hA0 hval0
  refine (walk v0 m0 v1 m1 W w0 x0 y0 w1 x1 y1).mono fun e W' ⟨he, bel⟩ => ?_
  subst he
  exact ⟨_, rfl, _, _, _, [], _, [], hW', trodAll_mk1 (shut_bool Try.underlying4 _), (trodAll_cons_mk (Below.trod laidOut (by kernel_rfl) (of_decide_eq_true (by kernel_rfl)) k0 bel lt0) (trodAll_cons_mk (Below.trod laidOut (by kernel_rfl) (of_decide_eq_true (by kernel_rfl)) k1 bel lt1) trodAll_mk0)), rfl, bel.frame _, fun h => by cases h⟩

theorem row_holds : Rows.MatTurnsSaid :=
  OpenClaim.holds_of_wide 3 Try.f3 rfl rfl rfl rfl rfl rfl rfl ⟨rfl, rfl, rfl, rfl, rfl⟩ rfl rfl rfl rfl rfl (by kernel_rfl) Try.func3 (by kernel_rfl)
    (of_decide_eq_true (by kernel_rfl)) (by unfold Func.isWrapper; first | (rw [if_pos (by decide +kernel)]; kernel_rfl) | (rw [if_neg (by decide +kernel)]; exact ⟨rfl, rfl⟩))
    (fun os started H enc _ => lifted os started H enc)
end Go.Proofs.Ytpgmbpgclnhkgab.matTurns
namespace Go.Proofs.Ytpgmbpgclnhkgab
theorem matTurns_holds : Rows.MatTurnsSaid := matTurns.row_holds
end Go.Proofs.Ytpgmbpgclnhkgab
