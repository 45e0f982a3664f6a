/- The law MatUnit of the landed program returns true for every matrix: the matrix of ones on its diagonal changes nothing. No condition. -/
import Derived.Test.YtpgmbpgclnhkgabRows
import Derived.WalkKit
import Derived.ProofKit
import Derived.OpenShut
import Derived.Test.YtpgmbpgclnhkgabMFact
import Derived.Test.YtpgmbpgclnhkgabOpenMx
import Derived.Test.YtpgmbpgclnhkgabUnit
namespace Go.Proofs.Ytpgmbpgclnhkgab.matUnit
open Go.ChangeShapes Go.WideShapes Go.ChangeAt Go.WideMaps Go.WideElems Go.RowKit
open Go.ChangeMaps (open_string shut_string)
set_option linter.unusedVariables false

/-- The three cells of a matrix's box. -/
def Three (w : World) (B : Nat) (r c : Int) (s : Value) : Prop := w.cell? ⟨B, 0, none⟩ = some (.int .i64 r) ∧ w.cell? ⟨B, 1, none⟩ = some (.int .i64 c) ∧ w.cell? ⟨B, 2, none⟩ = some s
theorem Three.below {w w' : World} {B : Nat} {r c : Int} {s : Value} (h : Three w B r c s) (hb : Below w.heap.size w w') : Three w' B r c s := ⟨cell_below hb h.1, cell_below hb h.2.1, cell_below hb h.2.2⟩
theorem Three.lt {w : World} {B : Nat} {r c : Int} {s : Value} (h : Three w B r c s) : B < w.heap.size := World.block_lt_of_cell? w _ h.1
theorem Three.grown {w w' : World} {B g : Nat} {r c : Int} {s : Value} (h : Three w B r c s) (hg : w.grownBy w' (some g)) (hne : B ≠ g) : Three w' B r c s := ⟨hg.cell h.1 (by simpa using hne), hg.cell h.2.1 (by simpa using hne), hg.cell h.2.2 (by simpa using hne)⟩
theorem three_new (V : World) (r c : Int) (s : Value) (t : TypeId) : Three (V.alloc (.cells #[.int .i64 r, .int .i64 c, s] t)) V.heap.size r c s := ⟨box_new V _ t rfl rfl, box_new V _ t rfl rfl, box_new V _ t rfl rfl⟩
theorem own : ownKnob Try.prog.godebug = none := by kernel_rfl
theorem walk (v0 : Value) (m0 : Mx) (w : World) (w0 : IsMx w v0 m0) (x0 : (Lit.int .i64 m0.rows).wf = true) (y0 : (Lit.int .i64 m0.cols).wf = true) :
    Calls Try.prog 5 #[v0] w fun e w' => e = .returned (.bool true) ∧ Below w.heap.size w w' := by
  obtain ⟨s0, rfl, hs0⟩ := w0
  obtain ⟨xa, xn, xk, rfl⟩ := hs0.shape
  have HF := hide factm_any
  have HI := hide hs0
  obtain ⟨r, er⟩ : ∃ r, m0.rows = r := ⟨_, rfl⟩
  obtain ⟨c, ec⟩ : ∃ c, m0.cols = c := ⟨_, rfl⟩
  have HMX := hide (show IsMx w (.agg #[.int .i64 r, .int .i64 c, .slice xa xn xk]) m0 from ⟨_, by rw [er, ec], hs0⟩)
  have HEQ := hide (And.intro er ec)
  rw [er, ec]
  have HA := hide (three_new w r c (.slice xa xn xk) 24)
  have HW : Hid (Below w.heap.size w (w.alloc (.cells #[.int .i64 r, .int .i64 c, .slice xa xn xk] 24))) := below_one _ _
  clear x0 y0 hs0 er ec
  go_enter Try.func5, Try.ntmps5
  go_wp2_with fail
  refine (HF.out _).mono ?_
  rintro e w1 ⟨rfl, hb1⟩
  have BA := hide (HA.out.below hb1)
  have W1 := hide (below_next HW.out hb1)
  clear hb1 HA HW
  obtain ⟨d0, d1, d2⟩ := BA.out
  have HC := hide (check_any _ m0 w1 (HMX.out.below W1.out))
  go_wp2_with fail
  refine HC.out.mono ?_
  rintro e w2 ⟨rfl, hb2⟩
  have HD := hide (BA.out.below hb2)
  have W2 := hide (below_next W1.out hb2)
  clear BA W1 HC hb2 d0 d1 d2
  by_cases hE : fault m0 = 0
  · rw [err_eq hE]
    obtain ⟨R, C, ga⟩ := good_of hE
    obtain ⟨d0, d1, d2⟩ := HD.out
    have hc : c = (C : Int) := by rw [← HEQ.out.2]; exact ga.c
    have hr : r = (R : Int) := by rw [← HEQ.out.1]; exact ga.r
    have HBk := hide (fun W => blank_any c c (C * C) W (by rw [hc]; simp) (by have := ga.hC; have := Nat.mul_le_mul ga.hC ga.hC; omega))
    have HG := hide (And.intro ga (And.intro hr hc))
    have hc0 : 0 ≤ c := by omega
    have hc1 : c ≤ 12 := by have := ga.hC; omega
    clear hE ga hr hc
    go_wp2_with fail
    refine (HBk.out _).mono ?_
    rintro e w3 ⟨g, rfl, hg, hrow, hb3⟩
    obtain ⟨n, hn⟩ : ∃ n, C * C = n := ⟨_, rfl⟩
    rw [hn] at hrow ⊢
    have hlt := hrow.lt
    obtain ⟨o, ho⟩ : ∃ o, o = Obj.cells #[.int .i64 c, .int .i64 c, .slice (some ⟨g, 0, none⟩) n n] 24 := ⟨_, rfl⟩
    have W3 := hide (below_next (below_next W2.out hb3) (below_one w3 o))
    have HD3 := hide ((HD.out.below hb3).below (below_one w3 o))
    have HLT := hide HD.out.lt
    have HU : Hid (Three (w3.alloc o) w3.heap.size c c (.slice (some ⟨g, 0, none⟩) n n)) := by rw [ho]; exact three_new _ _ _ _ _
    have HRW := hide (hrow.alloc o)
    have HN := hide hn
    have HGL := hide (And.intro hg hlt)
    obtain ⟨W0, hW0⟩ : ∃ W0, W0 = w3.alloc o := ⟨_, rfl⟩
    have HS0 := hide (show W0.heap.size = w3.heap.size + 1 by rw [hW0]; simp)
    rw [← hW0] at HRW HU HD3 W3
    clear d0 d1 d2 HD hrow hg hn hb3 hlt
    go_wp2_with fail
    rw [← ho, ← hW0]
    clear hW0 ho
    go_loopw [6] (fun a wr => ∃ (i : Nat) (xi : Int), i ≤ C ∧ xi = (i : Int) ∧ a = .int .i64 xi ∧ RowAt 3 wr g (tab n (unitF C i)) ∧ W0.grownBy wr (some g)) (fun a _ => C - (intOf a).toNat)
    case atStart => exact ⟨0, 0, Nat.zero_le _, rfl, rfl, by rw [← unitF_zero]; exact HRW.out, World.grownBy.refl _ _⟩
    case round =>
      obtain ⟨i, xi, hi, hxi, rfl, hro, hgr⟩ := hrel
      have hgw := HGL.out.1
      have hgl := HGL.out.2
      have hwl := HLT.out
      obtain ⟨j0, j1, j2⟩ := HD3.out.grown hgr (by omega)
      obtain ⟨p0, p1, p2⟩ := HU.out.grown hgr (by omega)
      clear hgw hgl hwl
      have HRO := hide hro
      have HGR := hide hgr
      have HXI := hide hxi
      have hxi0 : 0 ≤ xi := by omega
      have hxi1 : xi ≤ 24 := by have := HG.out.1.hC; omega
      clear hro hgr hxi
      by_cases hlt : xi < c
      · have hiC : i < C := by have := HXI.out; have := HG.out.2.2; omega
        have hidx := idx_lt hiC hiC
        obtain ⟨y, dx⟩ : ∃ y, wr.cell? ⟨g, (xi * c + xi).toNat, none⟩ = some (.int .i64 y) := ⟨_, by rw [idx_nat HXI.out HXI.out HG.out.2.2]; exact HRO.out.cell (tab_at (by have := HN.out; omega))⟩
        have fx : wr.frozen? ⟨g, (xi * c + xi).toNat, none⟩ = false := HRO.out.frozen _
        have hC12 := HG.out.1.hC
        have t1 := mul_bds HXI.out HG.out.2.2 (by omega) (by omega)
        have t3 : xi * c + xi < (n : Int) := by rw [mul_cast_idx HXI.out HXI.out HG.out.2.2]; have := HN.out; omega
        have u1 := wrap_in (x := xi * c) (by omega) (by omega)
        have u2 := wrap_in (x := xi * c + xi) (by omega) (by omega)
        have g1 : 0 ≤ xi * c + xi := by omega
        have n576 : n ≤ 576 := by have := HN.out; have := Nat.mul_le_mul hC12 hC12; omega
        go_wp2
        go_roundw
        case rel => exact ⟨i + 1, _, by omega, by have := HXI.out; omega, rfl, by
          rw [idx_nat HXI.out HXI.out HG.out.2.2]
          have h := HRO.out.set (i * C + i) 256
          rw [← HN.out, unitF_step C i hiC, HN.out] at h
          exact h, grown_set HGR.out _ _⟩
        case measure => have := HXI.out; simp [intOf]; omega
      · have hiC : i = C := by have := HXI.out; have := HG.out.2.2; omega
        have hrow := HRO.out
        have hC12 := HG.out.1.hC
        have n576 : n ≤ 576 := by have := HN.out; have := Nat.mul_le_mul hC12 hC12; omega
        have hU : IsMx wr (.agg #[.int .i64 c, .int .i64 c, .slice (some ⟨g, 0, none⟩) n n]) (unitM C) := by
          refine ⟨_, by rw [HG.out.2.2]; rfl, ?_⟩
          rw [hiC] at hrow
          show IsInts wr _ (tab (C * C) (unitF C C))
          rw [HN.out]
          exact hrow.isTab (by unfold maxLen; omega)
        have WR := hide (W3.out.grown HGR.out (by have := W3.out.size; omega) (fun k hk => by have := Option.some.inj hk; have := HGL.out.1; have := W2.out.size; omega))
        have HM := hide (mmul_any _ _ m0 (unitM C) wr (HMX.out.below WR.out) hU)
        clear hrow hC12 n576 hU hiC
        go_wp2_with fail
        refine HM.out.mono ?_
        intro e w4 h
        obtain ⟨qa, qn, qc, rfl, hqm, hb4⟩ := h.good (HG.out.1.mul0 (unit_good HG.out.1.hC))
        rw [mul_unit HG.out.1] at hqm ⊢
        rw [HEQ.out.1, HEQ.out.2] at hqm ⊢
        have hb4' := below_next hb4 (below_one w4 (.cells #[.int .i64 r, .int .i64 c, .slice qa qn qc] 24))
        have W4 := hide (below_next WR.out hb4')
        obtain ⟨f0, f1, f2⟩ := (show Three wr w.heap.size r c (.slice xa xn xk) from ⟨j0, j1, j2⟩).below hb4'
        have HS := hide (matrices_any _ _ m0 m0 _ (hqm.below (below_one w4 (.cells #[.int .i64 r, .int .i64 c, .slice qa qn qc] 24))) (HMX.out.below W4.out))
        clear h HM hqm hb4 hb4' j0 j1 j2 p0 p1 p2
        go_wp2_with fail
        refine HS.out.mono ?_
        rintro e w7 ⟨rfl, hb7⟩
        have hsm : sameM m0 m0 = true := by unfold sameM; simp
        rw [hsm]
        have W7 := hide (below_next W4.out hb7)
        clear hsm hb7 HS
        go_wp2
        go_ret
        exact ⟨rfl, W7.out⟩
  · rw [err_ne hE]
    clear hE
    go_wp2
    go_ret
    exact ⟨rfl, W2.out⟩

set_option maxRecDepth 100000 in
theorem lifted (os : Os) (started : os.Started) (H : Type) (enc : TypeId × Value → H) :
    ReturnsInHanded {} Try.checked os 5 .any (Rows.matUnitSpec.pre6 enc Try.prog Try.f5 Rows.matUnitRow.domain false) (Rows.matUnitSpec.post enc Try.prog Try.f5 false true false false) := by
  refine returnsInHanded_of_change (C := Try.checked) own started (by kernel_rfl) Try.func5
    (ChangeSpec.witness6 (enc := enc) (C := Try.checked) false ⟨#[], #[.agg #[.int .i64 0, .int .i64 0, .slice none 0 0]], []⟩ 8 (by kernel_rfl) (by kernel_rfl) (by kernel_rfl) (by kernel_rfl)) ?_
  intro W base args ds gs before hval0 hW hcnd _
  have hval : ∀ (j : Nat) t v, Try.f5.params[j]? = some t → args[j]? = some v → Value.okWide Try.prog W .any base t v := hval0
  have hW' := hW
  obtain ⟨p, q, hA0, hV, rfl, hfz, hnd⟩ := hW
  have hA : DataW.TrodAll enc Try.prog W 0 (fun _ => true) true Try.f5.params.toList args.toList ds p := hA0
  rw [Try.params5] at hA hval
  obtain ⟨v0, vs0, d0, ds0, p0, q0, hargs, rfl, rfl, h0, r0⟩ := trodAll_cons hA
  obtain ⟨rfl, rfl, rfl⟩ := trodAll_nil r0
  obtain rfl : args = #[v0] := by cases args; simp_all
  obtain ⟨rfl, rfl⟩ := trodVars_none hV
  have k0 := h0
  have lt0 : ∀ x ∈ p0, x.block < W.heap.size := by obtain ⟨m, hm⟩ := k0; exact DataW.trod_lt m _ _ _ hm
  obtain ⟨m0, w0, x0, y0⟩ := mx_open (hval 0 24 v0 rfl rfl) h0
  clear hA0 hval0
  refine (walk v0 m0 W w0 x0 y0).mono fun e W' ⟨he, bel⟩ => ?_
  subst he
  exact ⟨_, rfl, _, _, _, [], _, [], hW', trodAll_mk1 (shut_bool Try.underlying4 _), (trodAll_cons_mk (Below.trod laidOut (by kernel_rfl) (of_decide_eq_true (by kernel_rfl)) k0 bel lt0) trodAll_mk0), rfl, bel.frame _, fun h => by cases h⟩

theorem row_holds : Rows.MatUnitSaid :=
  OpenClaim.holds_of_wide 5 Try.f5 rfl rfl rfl rfl rfl rfl rfl ⟨rfl, rfl, rfl, rfl, rfl⟩ rfl rfl rfl rfl rfl (by kernel_rfl) Try.func5 (by kernel_rfl)
    (of_decide_eq_true (by kernel_rfl)) (by unfold Func.isWrapper; first | (rw [if_pos (by decide +kernel)]; kernel_rfl) | (rw [if_neg (by decide +kernel)]; exact ⟨rfl, rfl⟩))
    (fun os started H enc _ => lifted os started H enc)
end Go.Proofs.Ytpgmbpgclnhkgab.matUnit
namespace Go.Proofs.Ytpgmbpgclnhkgab
theorem matUnit_holds : Rows.MatUnitSaid := matUnit.row_holds
end Go.Proofs.Ytpgmbpgclnhkgab
