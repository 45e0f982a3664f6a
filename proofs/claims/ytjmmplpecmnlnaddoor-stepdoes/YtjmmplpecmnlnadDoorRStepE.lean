/- What StepFault of the document's answer comes to: what is wrong with a step. -/
import Derived.Test.YtjmmplpecmnlnadDoorStep
import Derived.Test.YtjmmplpecmnlnadDoorRLFault
import Derived.Test.YtjmmplpecmnlnadDoorReg
namespace Go.Proofs.YtjmmplpecmnlnadDoor
open Go.RowKit
theorem shaped_any (va vb : Value) (a b : Mx) (w : World) (hva : IsMx w va a) (hvb : IsMx w vb b) : Calls Tryd.prog 48 #[va, vb] w fun e w' => e = .returned (.bool (sameSh a b)) ∧ Below w.heap.size w w' := by
  obtain ⟨s, rfl, hs⟩ := hva
  obtain ⟨t, rfl, ht⟩ := hvb
  obtain ⟨sa, sn, sk, rfl⟩ := hs.shape
  obtain ⟨ta, tn, tk, rfl⟩ := ht.shape
  unfold sameSh
  by_cases h1 : a.rows = b.rows
  · by_cases h2 : a.cols = b.cols
    · rw [show decide (a.rows = b.rows ∧ a.cols = b.cols) = true from decide_eq_true ⟨h1, h2⟩]
      have h1' : (a.rows == b.rows) = true := by simpa using h1
      have h2' : (a.cols == b.cols) = true := by simpa using h2
      clear h1 h2 hs ht
      go_enter Tryd.func48, Tryd.ntmps48
      go_wp2
      go_ret
      exact ⟨rfl, bel_alloc (below_one _ _)⟩
    · rw [show decide (a.rows = b.rows ∧ a.cols = b.cols) = false from decide_eq_false (fun h => h2 h.2)]
      have h1' : (a.rows == b.rows) = true := by simpa using h1
      have h2' : (a.cols == b.cols) = false := by simpa using h2
      clear h1 h2 hs ht
      go_enter Tryd.func48, Tryd.ntmps48
      go_wp2
      go_ret
      exact ⟨rfl, bel_alloc (below_one _ _)⟩
  · rw [show decide (a.rows = b.rows ∧ a.cols = b.cols) = false from decide_eq_false (fun h => h1 h.1)]
    have h1' : (a.rows == b.rows) = false := by simpa using h1
    clear h1 hs ht
    go_enter Tryd.func48, Tryd.ntmps48
    go_wp2
    go_ret
    exact ⟨rfl, bel_alloc (below_one _ _)⟩
set_option maxHeartbeats 8000000 in
set_option maxRecDepth 100000 in
theorem rstepfault_any (v v1 v2 : Value) (ls : List Ly) (ps qs : List (Mx × Mx)) (le ke : Int) (w : World) (hv : IsLys w v ls) (hp : IsGds w v1 ps) (hq : IsGds w v2 qs) :
    Calls Tryd.prog 21 #[v, v1, v2, .agg #[.int .i64 le, .int .i64 ke]] w fun e w' => e = .returned (.int .i64 (stE ls ps qs le ke)) ∧ Below w.heap.size w w' := by
  obtain ⟨a, cap, rfl, hlc, hcm⟩ := hv.shape
  obtain ⟨a1, cap1, rfl, hlc1, hcm1⟩ := hp.shape
  obtain ⟨a2, cap2, rfl, hlc2, hcm2⟩ := hq.shape
  have HV := hide hv
  have HP := hide hp
  have HQ := hide hq
  obtain ⟨N, hN⟩ : ∃ N, ls.length = N := ⟨_, rfl⟩
  obtain ⟨N1, hN1⟩ : ∃ N, ps.length = N := ⟨_, rfl⟩
  obtain ⟨N2, hN2⟩ : ∃ N, qs.length = N := ⟨_, rfl⟩
  have HN := hide (And.intro hN (And.intro hN1 hN2))
  obtain ⟨E, hE⟩ : ∃ E, stE ls ps qs le ke = E := ⟨_, rfl⟩
  have HE := hide hE
  rw [hE]
  rw [hN] at HV ⊢
  rw [hN1] at HP ⊢
  rw [hN2] at HQ ⊢
  have hm0 : N ≤ maxLen := by omega
  have hm1 : N1 ≤ maxLen := by omega
  have hm2 : N2 ≤ maxLen := by omega
  unfold maxLen at hm0 hm1 hm2
  clear hv hp hq hN hN1 hN2 hE hlc hcm hlc1 hcm1 hlc2 hcm2
  have HBX := hide (below_one w (.cells #[.int .i64 le, .int .i64 ke] 60))
  by_cases r0 : le < 0
  · obtain rfl : E = 1 := by rw [← HE.out]; unfold stE; rw [if_pos (by unfold badR; simp [r0])]
    go_enter Tryd.func21, Tryd.ntmps21
    go_wp2
    exact bodyPost_ret (v := .int .i64 1) (by simp [results, Tryd.results21, go_sem]) rfl ⟨rfl, HBX.out⟩
  · skip
    by_cases r1 : 256 < le
    · obtain rfl : E = 1 := by rw [← HE.out]; unfold stE; rw [if_pos (by unfold badR; simp [r0, r1])]
      go_enter Tryd.func21, Tryd.ntmps21
      go_wp2
      exact bodyPost_ret (v := .int .i64 1) (by simp [results, Tryd.results21, go_sem]) rfl ⟨rfl, HBX.out⟩
    · skip
      by_cases r2 : ke < 0
      · obtain rfl : E = 1 := by rw [← HE.out]; unfold stE; rw [if_pos (by unfold badR; simp [r0, r1, r2])]
        go_enter Tryd.func21, Tryd.ntmps21
        go_wp2
        exact bodyPost_ret (v := .int .i64 1) (by simp [results, Tryd.results21, go_sem]) rfl ⟨rfl, HBX.out⟩
      · skip
        by_cases r3 : 256 < ke
        · obtain rfl : E = 1 := by rw [← HE.out]; unfold stE; rw [if_pos (by unfold badR; simp [r0, r1, r2, r3])]
          go_enter Tryd.func21, Tryd.ntmps21
          go_wp2
          exact bodyPost_ret (v := .int .i64 1) (by simp [results, Tryd.results21, go_sem]) rfl ⟨rfl, HBX.out⟩
        · skip
          have HE1 := hide (show (if 12 < N then 3 else if N1 ≠ N ∨ N2 ≠ N then 2 else stpE ls ps qs) = E by
            have h := HE.out
            unfold stE at h
            rw [if_neg (by unfold badR; simp; omega), HN.out.1, HN.out.2.1, HN.out.2.2] at h
            exact h)
          by_cases h12 : 12 < N
          · obtain rfl : E = 3 := by rw [← HE1.out, if_pos h12]
            have h12' : (12 : Int) < (N : Int) := by omega
            go_enter Tryd.func21, Tryd.ntmps21
            go_wp2
            exact bodyPost_ret (v := .int .i64 3) (by simp [results, Tryd.results21, go_sem]) rfl ⟨rfl, HBX.out⟩
          · have h12' : ¬ (12 : Int) < (N : Int) := by omega
            by_cases hl1 : N1 = N
            · by_cases hl2 : N2 = N
              · skip
                subst hl1 hl2
                have hnn : ((N2 : Int) != (N2 : Int)) = false := by simp
                have HE2 := hide (show stpE ls ps qs = E by have h := HE1.out; rw [if_neg h12, if_neg (by simp)] at h; exact h)
                clear h12 hm0 hm1 hm2
                go_enter Tryd.func21, Tryd.ntmps21
                go_wp2
                go_loopw [9] (fun a wr => ∃ (i : Nat) (xi : Int), i ≤ N2 ∧ xi = (i : Int) ∧ a = .int .i64 xi ∧ stpE (ls.drop i) (ps.drop i) (qs.drop i) = E ∧ Below w.heap.size w wr) (fun a _ => N2 - (intOf a).toNat)
                case atStart => exact ⟨0, 0, Nat.zero_le _, rfl, rfl, HE2.out, HBX.out⟩
                case round =>
                  obtain ⟨i, xi, hi, hxi, rfl, he, hb⟩ := hrel
                  have HXI := hide hxi
                  have HB := hide hb
                  have HER := hide he
                  have hxi0 : 0 ≤ xi := by omega
                  have hxi1 : xi ≤ 12 := by omega
                  clear hxi he hb
                  by_cases hlt : xi < (N2 : Int)
                  · have hin : i < N2 := by have := HXI.out; omega
                    have hxn : xi.toNat = i := by have := HXI.out; omega
                    obtain ⟨l, hl⟩ : ∃ x, ls[i]? = some x := ⟨ls[i]'(by have := HN.out.1; omega), List.getElem?_eq_getElem _⟩
                    obtain ⟨p, hp⟩ : ∃ x, ps[i]? = some x := ⟨ps[i]'(by have := HN.out.2.1; omega), List.getElem?_eq_getElem _⟩
                    obtain ⟨q, hq⟩ : ∃ x, qs[i]? = some x := ⟨qs[i]'(by have := HN.out.2.2; omega), List.getElem?_eq_getElem _⟩
                    obtain ⟨b, off, cp, sa, sn, sk, ta, tn, tk, ev, k0, k1, k2, k3, k4, k5, k6, hly⟩ := HV.out.at hl
                    injection ev with ev1 ev2 ev3
                    clear ev2 ev3
                    subst ev1
                    obtain ⟨b1, off1, cp1, pa, pn, pk, qa, qn, qk, ev, y0, y1, y2, y3, y4, y5, hpw, hpb⟩ := HP.out.at hp
                    injection ev with ev1 ev2 ev3
                    clear ev2 ev3
                    subst ev1
                    obtain ⟨b2, off2, cp2, xa, xn, xk, ya, yn, yk, ev, z0, z1, z2, z3, z4, z5, hqw, hqb⟩ := HQ.out.at hq
                    injection ev with ev1 ev2 ev3
                    clear ev2 ev3
                    subst ev1
                    rw [← hxn] at k0 k1 k2 k3 k4 k5 k6 y0 y1 y2 y3 y4 y5 z0 z1 z2 z3 z4 z5
                    have HK := hide (fun W (h : Below w.heap.size w W) => And.intro (cell_below h k0) (And.intro (cell_below h k1) (And.intro (cell_below h k2) (And.intro (cell_below h k3) (And.intro (cell_below h k4) (And.intro (cell_below h k5) (And.intro (cell_below h k6) (And.intro (cell_below h y0) (And.intro (cell_below h y1) (And.intro (cell_below h y2) (And.intro (cell_below h y3) (And.intro (cell_below h y4) (And.intro (cell_below h y5) (And.intro (cell_below h z0) (And.intro (cell_below h z1) (And.intro (cell_below h z2) (And.intro (cell_below h z3) (And.intro (cell_below h z4) (cell_below h z5)))))))))))))))))))
                    have HLY := hide hly
                    have HI := hide (And.intro (IsLys.ints hly) (And.intro (And.intro hpw hpb) (And.intro hqw hqb)))
                    have HER2 := hide (show (if stp1E l p q ≠ 0 then stp1E l p q else stpE (ls.drop (i + 1)) (ps.drop (i + 1)) (qs.drop (i + 1))) = E by
                      have h := HER.out
                      rw [drop_at hl, drop_at hp, drop_at hq] at h
                      exact h)
                    obtain ⟨g0, hg0⟩ : ∃ x, lfault l = x := ⟨_, rfl⟩
                    obtain ⟨g1, hg1⟩ : ∃ x, fault p.1 = x := ⟨_, rfl⟩
                    obtain ⟨g2, hg2⟩ : ∃ x, fault p.2 = x := ⟨_, rfl⟩
                    obtain ⟨g3, hg3⟩ : ∃ x, fault q.1 = x := ⟨_, rfl⟩
                    obtain ⟨g4, hg4⟩ : ∃ x, fault q.2 = x := ⟨_, rfl⟩
                    have HG := hide (show stp1E l p q = if g0 ≠ 0 then g0 else if g1 ≠ 0 then g1 else if g2 ≠ 0 then g2 else if g3 ≠ 0 then g3 else if g4 ≠ 0 then g4 else if sameSh p.1 l.w = false ∨ sameSh p.2 l.b = false ∨ sameSh q.1 l.w = false ∨ sameSh q.2 l.b = false then 2 else 0 by unfold stp1E; rw [hg0, hg1, hg2, hg3, hg4])
                    have HF0 := hide (fun W (h : Below w.heap.size w W) => rlfault_any _ l W (HLY.out.below h))
                    rw [hg0] at HF0
                    have HF1 := hide (fun W (h : Below w.heap.size w W) => fault_any (.agg #[.int .i64 p.1.rows, .int .i64 p.1.cols, .slice pa pn pk]) p.1 W ⟨_, rfl, HI.out.2.1.1.below h⟩)
                    rw [hg1] at HF1
                    have HF2 := hide (fun W (h : Below w.heap.size w W) => fault_any (.agg #[.int .i64 p.2.rows, .int .i64 p.2.cols, .slice qa qn qk]) p.2 W ⟨_, rfl, HI.out.2.1.2.below h⟩)
                    rw [hg2] at HF2
                    have HF3 := hide (fun W (h : Below w.heap.size w W) => fault_any (.agg #[.int .i64 q.1.rows, .int .i64 q.1.cols, .slice xa xn xk]) q.1 W ⟨_, rfl, HI.out.2.2.1.below h⟩)
                    rw [hg3] at HF3
                    have HF4 := hide (fun W (h : Below w.heap.size w W) => fault_any (.agg #[.int .i64 q.2.rows, .int .i64 q.2.cols, .slice ya yn yk]) q.2 W ⟨_, rfl, HI.out.2.2.2.below h⟩)
                    rw [hg4] at HF4
                    clear k0 k1 k2 k3 k4 k5 k6 y0 y1 y2 y3 y4 y5 z0 z1 z2 z3 z4 z5 hly hpw hpb hqw hqb hl hp hq hxn hg0 hg1 hg2 hg3 hg4 HER
                    obtain ⟨k0, k1, k2, k3, k4, k5, k6, y0, y1, y2, y3, y4, y5, z0, z1, z2, z3, z4, z5⟩ := HK.out wr HB.out
                    go_wp2_with fail
                    refine (HF0.out _ HB.out).mono ?_
                    rintro e w0 ⟨rfl, hb⟩
                    have HB0 := hide (below_next HB.out hb)
                    clear hb k0 k1 k2 k3 k4 k5 k6 y0 y1 y2 y3 y4 y5 z0 z1 z2 z3 z4 z5
                    by_cases c0 : g0 = 0
                    · subst c0
                      obtain ⟨k0, k1, k2, k3, k4, k5, k6, y0, y1, y2, y3, y4, y5, z0, z1, z2, z3, z4, z5⟩ := HK.out w0 HB0.out
                      go_wp2_with fail
                      refine (HF1.out _ HB0.out).mono ?_
                      rintro e w1 ⟨rfl, hb⟩
                      have HB1 := hide (below_next HB0.out hb)
                      clear hb k0 k1 k2 k3 k4 k5 k6 y0 y1 y2 y3 y4 y5 z0 z1 z2 z3 z4 z5
                      by_cases c1 : g1 = 0
                      · subst c1
                        obtain ⟨k0, k1, k2, k3, k4, k5, k6, y0, y1, y2, y3, y4, y5, z0, z1, z2, z3, z4, z5⟩ := HK.out w1 HB1.out
                        go_wp2_with fail
                        refine (HF2.out _ HB1.out).mono ?_
                        rintro e w2 ⟨rfl, hb⟩
                        have HB2 := hide (below_next HB1.out hb)
                        clear hb k0 k1 k2 k3 k4 k5 k6 y0 y1 y2 y3 y4 y5 z0 z1 z2 z3 z4 z5
                        by_cases c2 : g2 = 0
                        · subst c2
                          obtain ⟨k0, k1, k2, k3, k4, k5, k6, y0, y1, y2, y3, y4, y5, z0, z1, z2, z3, z4, z5⟩ := HK.out w2 HB2.out
                          go_wp2_with fail
                          refine (HF3.out _ HB2.out).mono ?_
                          rintro e w3 ⟨rfl, hb⟩
                          have HB3 := hide (below_next HB2.out hb)
                          clear hb k0 k1 k2 k3 k4 k5 k6 y0 y1 y2 y3 y4 y5 z0 z1 z2 z3 z4 z5
                          by_cases c3 : g3 = 0
                          · subst c3
                            obtain ⟨k0, k1, k2, k3, k4, k5, k6, y0, y1, y2, y3, y4, y5, z0, z1, z2, z3, z4, z5⟩ := HK.out w3 HB3.out
                            go_wp2_with fail
                            refine (HF4.out _ HB3.out).mono ?_
                            rintro e w4 ⟨rfl, hb⟩
                            have HB4 := hide (below_next HB3.out hb)
                            clear hb k0 k1 k2 k3 k4 k5 k6 y0 y1 y2 y3 y4 y5 z0 z1 z2 z3 z4 z5
                            by_cases c4 : g4 = 0
                            · subst c4
                              have HS0 := hide (shaped_any (.agg #[.int .i64 p.1.rows, .int .i64 p.1.cols, .slice pa pn pk]) (.agg #[.int .i64 l.w.rows, .int .i64 l.w.cols, .slice sa sn sk]) p.1 l.w w4.drew ⟨_, rfl, HI.out.2.1.1.below (bel_drew HB4.out)⟩ ⟨_, rfl, HI.out.1.1.below (bel_drew HB4.out)⟩)
                              obtain ⟨b0v, eb0⟩ : ∃ x, sameSh p.1 l.w = x := ⟨_, rfl⟩
                              rw [eb0] at HS0
                              have HEB0 := hide eb0
                              obtain ⟨k0, k1, k2, k3, k4, k5, k6, y0, y1, y2, y3, y4, y5, z0, z1, z2, z3, z4, z5⟩ := HK.out w4 HB4.out
                              clear eb0
                              go_wp2
                              refine region_tail 10 (by kernel_rfl) (by kernel_rfl) ?_
                              simp only [List.take_succ_cons, List.take_zero, List.drop_succ_cons, List.drop_zero]
                              repeat still_step
                              refine wpStill_nil ?_
                              go_wp2_with fail
                              refine HS0.out.mono ?_
                              rintro e u0 ⟨rfl, hb⟩
                              have HU0 := hide (below_next (bel_drew HB4.out) hb)
                              clear hb HS0 k0 k1 k2 k3 k4 k5 k6 y0 y1 y2 y3 y4 y5 z0 z1 z2 z3 z4 z5
                              have HS1 := hide (shaped_any (.agg #[.int .i64 p.2.rows, .int .i64 p.2.cols, .slice qa qn qk]) (.agg #[.int .i64 l.b.rows, .int .i64 l.b.cols, .slice ta tn tk]) p.2 l.b u0.drew ⟨_, rfl, HI.out.2.1.2.below (bel_drew HU0.out)⟩ ⟨_, rfl, HI.out.1.2.below (bel_drew HU0.out)⟩)
                              obtain ⟨b1v, eb1⟩ : ∃ x, sameSh p.2 l.b = x := ⟨_, rfl⟩
                              rw [eb1] at HS1
                              have HEB1 := hide eb1
                              obtain ⟨k0, k1, k2, k3, k4, k5, k6, y0, y1, y2, y3, y4, y5, z0, z1, z2, z3, z4, z5⟩ := HK.out u0 HU0.out
                              clear eb1
                              go_wp2
                              refine region_tail 10 (by kernel_rfl) (by kernel_rfl) ?_
                              simp only [List.take_succ_cons, List.take_zero, List.drop_succ_cons, List.drop_zero]
                              repeat still_step
                              refine wpStill_nil ?_
                              go_wp2_with fail
                              refine HS1.out.mono ?_
                              rintro e u1 ⟨rfl, hb⟩
                              have HU1 := hide (below_next (bel_drew HU0.out) hb)
                              clear hb HS1 k0 k1 k2 k3 k4 k5 k6 y0 y1 y2 y3 y4 y5 z0 z1 z2 z3 z4 z5
                              have HS2 := hide (shaped_any (.agg #[.int .i64 q.1.rows, .int .i64 q.1.cols, .slice xa xn xk]) (.agg #[.int .i64 l.w.rows, .int .i64 l.w.cols, .slice sa sn sk]) q.1 l.w u1.drew ⟨_, rfl, HI.out.2.2.1.below (bel_drew HU1.out)⟩ ⟨_, rfl, HI.out.1.1.below (bel_drew HU1.out)⟩)
                              obtain ⟨b2v, eb2⟩ : ∃ x, sameSh q.1 l.w = x := ⟨_, rfl⟩
                              rw [eb2] at HS2
                              have HEB2 := hide eb2
                              obtain ⟨k0, k1, k2, k3, k4, k5, k6, y0, y1, y2, y3, y4, y5, z0, z1, z2, z3, z4, z5⟩ := HK.out u1 HU1.out
                              clear eb2
                              go_wp2
                              refine region_tail 10 (by kernel_rfl) (by kernel_rfl) ?_
                              simp only [List.take_succ_cons, List.take_zero, List.drop_succ_cons, List.drop_zero]
                              repeat still_step
                              refine wpStill_nil ?_
                              go_wp2_with fail
                              refine HS2.out.mono ?_
                              rintro e u2 ⟨rfl, hb⟩
                              have HU2 := hide (below_next (bel_drew HU1.out) hb)
                              clear hb HS2 k0 k1 k2 k3 k4 k5 k6 y0 y1 y2 y3 y4 y5 z0 z1 z2 z3 z4 z5
                              have HS3 := hide (shaped_any (.agg #[.int .i64 q.2.rows, .int .i64 q.2.cols, .slice ya yn yk]) (.agg #[.int .i64 l.b.rows, .int .i64 l.b.cols, .slice ta tn tk]) q.2 l.b u2.drew ⟨_, rfl, HI.out.2.2.2.below (bel_drew HU2.out)⟩ ⟨_, rfl, HI.out.1.2.below (bel_drew HU2.out)⟩)
                              obtain ⟨b3v, eb3⟩ : ∃ x, sameSh q.2 l.b = x := ⟨_, rfl⟩
                              rw [eb3] at HS3
                              have HEB3 := hide eb3
                              obtain ⟨k0, k1, k2, k3, k4, k5, k6, y0, y1, y2, y3, y4, y5, z0, z1, z2, z3, z4, z5⟩ := HK.out u2 HU2.out
                              clear eb3
                              go_wp2
                              refine region_tail 10 (by kernel_rfl) (by kernel_rfl) ?_
                              simp only [List.take_succ_cons, List.take_zero, List.drop_succ_cons, List.drop_zero]
                              repeat still_step
                              refine wpStill_nil ?_
                              go_wp2_with fail
                              refine HS3.out.mono ?_
                              rintro e u3 ⟨rfl, hb⟩
                              have HU3 := hide (below_next (bel_drew HU2.out) hb)
                              clear hb HS3 k0 k1 k2 k3 k4 k5 k6 y0 y1 y2 y3 y4 y5 z0 z1 z2 z3 z4 z5
                              by_cases call : b0v = true ∧ b1v = true ∧ b2v = true ∧ b3v = true
                              · obtain ⟨rfl, rfl, rfl, rfl⟩ := call
                                have HEN := hide (show stpE (ls.drop (i + 1)) (ps.drop (i + 1)) (qs.drop (i + 1)) = E by
                                  have h := HER2.out
                                  rw [HG.out, HEB0.out, HEB1.out, HEB2.out, HEB3.out] at h
                                  simpa using h)
                                go_wp2
                                go_roundw
                                case rel => exact ⟨i + 1, _, by omega, by have := HXI.out; omega, rfl, HEN.out, HU3.out⟩
                                case measure => have := HXI.out; simp [intOf]; omega
                              · obtain rfl : E = 2 := by
                                  have hs : stp1E l p q = 2 := by
                                    rw [HG.out, HEB0.out, HEB1.out, HEB2.out, HEB3.out, if_neg (by simp), if_neg (by simp), if_neg (by simp), if_neg (by simp), if_neg (by simp)]
                                    revert call
                                    cases b0v <;> cases b1v <;> cases b2v <;> cases b3v <;> simp
                                  have h := HER2.out
                                  rw [hs, if_pos (by decide)] at h
                                  exact h.symm
                                cases b0v <;> cases b1v <;> cases b2v <;> cases b3v
                                all_goals first
                                  | exact absurd ⟨rfl, rfl, rfl, rfl⟩ call
                                  | (go_wp2; exact bodyPost_ret (v := .int .i64 2) (by simp [results, Tryd.results21, go_sem]) rfl ⟨rfl, HU3.out⟩)
                            · obtain rfl : g4 = E := by
                                have hs : stp1E l p q = g4 := by rw [HG.out, if_neg (by simp), if_neg (by simp), if_neg (by simp), if_neg (by simp), if_pos c4]
                                have h := HER2.out
                                rw [hs, if_pos c4] at h
                                exact h
                              have n4 : (g4 == 0) = false := by simpa using c4
                              have m4 : (g4 != 0) = true := by simpa using c4
                              clear c4
                              go_wp2
                              exact bodyPost_ret (v := .int .i64 g4) (by simp [results, Tryd.results21, go_sem]) rfl ⟨rfl, HB4.out⟩
                          · obtain rfl : g3 = E := by
                              have hs : stp1E l p q = g3 := by rw [HG.out, if_neg (by simp), if_neg (by simp), if_neg (by simp), if_pos c3]
                              have h := HER2.out
                              rw [hs, if_pos c3] at h
                              exact h
                            have n3 : (g3 == 0) = false := by simpa using c3
                            have m3 : (g3 != 0) = true := by simpa using c3
                            clear c3
                            go_wp2
                            exact bodyPost_ret (v := .int .i64 g3) (by simp [results, Tryd.results21, go_sem]) rfl ⟨rfl, HB3.out⟩
                        · obtain rfl : g2 = E := by
                            have hs : stp1E l p q = g2 := by rw [HG.out, if_neg (by simp), if_neg (by simp), if_pos c2]
                            have h := HER2.out
                            rw [hs, if_pos c2] at h
                            exact h
                          have n2 : (g2 == 0) = false := by simpa using c2
                          have m2 : (g2 != 0) = true := by simpa using c2
                          clear c2
                          go_wp2
                          exact bodyPost_ret (v := .int .i64 g2) (by simp [results, Tryd.results21, go_sem]) rfl ⟨rfl, HB2.out⟩
                      · obtain rfl : g1 = E := by
                          have hs : stp1E l p q = g1 := by rw [HG.out, if_neg (by simp), if_pos c1]
                          have h := HER2.out
                          rw [hs, if_pos c1] at h
                          exact h
                        have n1 : (g1 == 0) = false := by simpa using c1
                        have m1 : (g1 != 0) = true := by simpa using c1
                        clear c1
                        go_wp2
                        exact bodyPost_ret (v := .int .i64 g1) (by simp [results, Tryd.results21, go_sem]) rfl ⟨rfl, HB1.out⟩
                    · obtain rfl : g0 = E := by
                        have hs : stp1E l p q = g0 := by rw [HG.out, if_pos c0]
                        have h := HER2.out
                        rw [hs, if_pos c0] at h
                        exact h
                      have n0 : (g0 == 0) = false := by simpa using c0
                      have m0 : (g0 != 0) = true := by simpa using c0
                      clear c0
                      go_wp2
                      exact bodyPost_ret (v := .int .i64 g0) (by simp [results, Tryd.results21, go_sem]) rfl ⟨rfl, HB0.out⟩
                  · have hin : i = N2 := by have := HXI.out; omega
                    have he := HER.out
                    rw [hin, ← HN.out.1, List.drop_length] at he
                    replace he : 0 = E := he
                    subst he
                    clear hin
                    go_wp2
                    exact bodyPost_ret (v := .int .i64 0) (by simp [results, Tryd.results21, go_sem]) rfl ⟨rfl, HB.out⟩
              · obtain rfl : E = 2 := by rw [← HE1.out, if_neg h12, if_pos (.inr hl2)]
                have hn1 : ((N1 : Int) != (N : Int)) = false := by simp [hl1]
                have hn2 : ((N2 : Int) != (N : Int)) = true := by simp; omega
                go_enter Tryd.func21, Tryd.ntmps21
                go_wp2
                exact bodyPost_ret (v := .int .i64 2) (by simp [results, Tryd.results21, go_sem]) rfl ⟨rfl, HBX.out⟩
            · obtain rfl : E = 2 := by rw [← HE1.out, if_neg h12, if_pos (.inl hl1)]
              have hn1 : ((N1 : Int) != (N : Int)) = true := by simp; omega
              go_enter Tryd.func21, Tryd.ntmps21
              go_wp2
              exact bodyPost_ret (v := .int .i64 2) (by simp [results, Tryd.results21, go_sem]) rfl ⟨rfl, HBX.out⟩
end Go.Proofs.YtjmmplpecmnlnadDoor
