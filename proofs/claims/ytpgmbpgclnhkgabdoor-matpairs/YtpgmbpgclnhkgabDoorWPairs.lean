/- The walk of the law MatPairs: Check, Add and Mul of package mat answer what the document's answer does. Condition: the library's variable errors.errorType is as its text lays it. -/
import Derived.Test.YtpgmbpgclnhkgabDoorErr
import Derived.Test.YtpgmbpgclnhkgabDoorThree
import Derived.Test.YtpgmbpgclnhkgabDoorRX
namespace Go.Proofs.YtpgmbpgclnhkgabDoor
open Go.RowKit
theorem faults_first {a b : Mx} {k : Int} (h : fault a = k) (hk : ¬ k = 0) : faults [a, b] = k := by unfold faults; rw [if_neg (by rw [h]; exact hk)]; exact h
theorem faults_second {a b : Mx} {k : Int} (h : fault a = 0) (hb : fault b = k) : faults [a, b] = k := by unfold faults; rw [if_pos h, faults_one]; exact hb
theorem addE_k {a b : Mx} {k : Int} (h : faults [a, b] = k) (hk : ¬ k = 0) : addE a b = k := by unfold addE; rw [if_pos (by rw [h]; exact hk)]; exact h
theorem mulE_k {a b : Mx} {k : Int} (h : faults [a, b] = k) (hk : ¬ k = 0) : mulE a b = k := by unfold mulE; rw [if_pos (by rw [h]; exact hk)]; exact h
theorem addE_0 {a b : Mx} (h : faults [a, b] = 0) (h1 : a.rows = b.rows) (h2 : a.cols = b.cols) : addE a b = 0 := by unfold addE; rw [if_neg (by simp [h]), if_neg (by simp [h1, h2])]
theorem addE_2 {a b : Mx} (h : faults [a, b] = 0) (h1 : ¬ a.rows = b.rows ∨ ¬ a.cols = b.cols) : addE a b = 2 := by unfold addE; rw [if_neg (by simp [h]), if_pos h1]
theorem mulE_0 {a b : Mx} (h : faults [a, b] = 0) (h1 : a.cols = b.rows) : mulE a b = 0 := by unfold mulE; rw [if_neg (by simp [h]), if_neg (by simp [h1])]
theorem mulE_2 {a b : Mx} (h : faults [a, b] = 0) (h1 : ¬ a.cols = b.rows) : mulE a b = 2 := by unfold mulE; rw [if_neg (by simp [h]), if_pos h1]
set_option maxHeartbeats 40000000 in
theorem pairs_walk (v0 v1 : Value) (m0 m1 : Mx) (w : World) (h0 : IsMx w v0 m0) (h1 : IsMx w v1 m1) (hH : Handle w) : Calls Tryd.prog 3 #[v0, v1] w fun e w' => e = .returned (.bool true) ∧ Below w.heap.size w w' := by
  obtain ⟨s0, rfl, hs0⟩ := h0
  obtain ⟨s1, rfl, hs1⟩ := h1
  obtain ⟨xa, xn, xk, rfl⟩ := hs0.shape
  obtain ⟨ya, yn, yk, rfl⟩ := hs1.shape
  obtain ⟨r, er⟩ : ∃ r, m0.rows = r := ⟨_, rfl⟩
  obtain ⟨c, ec⟩ : ∃ c, m0.cols = c := ⟨_, rfl⟩
  obtain ⟨r', er'⟩ : ∃ r, m1.rows = r := ⟨_, rfl⟩
  obtain ⟨c', ec'⟩ : ∃ c, m1.cols = c := ⟨_, rfl⟩
  have Ma := hide (show IsMx w (.agg #[.int .i64 r, .int .i64 c, .slice xa xn xk]) m0 from ⟨_, by rw [er, ec], hs0⟩)
  have Mb := hide (show IsMx w (.agg #[.int .i64 r', .int .i64 c', .slice ya yn yk]) m1 from ⟨_, by rw [er', ec'], hs1⟩)
  have HQ := hide (And.intro er (And.intro ec (And.intro er' ec')))
  rw [er, ec, er', ec']
  have HH := hide hH
  have WW := hide (Below.refl w.heap.size w)
  have C := hide (Below.refl w.heap.size w)
  clear hs0 hs1 er ec er' ec' hH
  have D := below_next C.out (below_one w (.cells #[.int .i64 r, .int .i64 c, .slice xa xn xk] 24))
  replace Ma := hide (Ma.out.below D)
  replace Mb := hide (Mb.out.below D)
  replace HH := hide (HH.out.below D)
  replace WW := hide (below_next WW.out D)
  replace C := hide (Below.refl (w.alloc (.cells #[.int .i64 r, .int .i64 c, .slice xa xn xk] 24)).heap.size (w.alloc (.cells #[.int .i64 r, .int .i64 c, .slice xa xn xk] 24)))
  clear D
  have Ta := hide (three_new w r c (.slice xa xn xk) 24)
  have D := below_next C.out (below_one (w.alloc (.cells #[.int .i64 r, .int .i64 c, .slice xa xn xk] 24)) (.cells #[.int .i64 r', .int .i64 c', .slice ya yn yk] 24))
  replace Ta := hide (Ta.out.below D)
  replace Ma := hide (Ma.out.below D)
  replace Mb := hide (Mb.out.below D)
  replace HH := hide (HH.out.below D)
  replace WW := hide (below_next WW.out D)
  replace C := hide (Below.refl ((w.alloc (.cells #[.int .i64 r, .int .i64 c, .slice xa xn xk] 24)).alloc (.cells #[.int .i64 r', .int .i64 c', .slice ya yn yk] 24)).heap.size ((w.alloc (.cells #[.int .i64 r, .int .i64 c, .slice xa xn xk] 24)).alloc (.cells #[.int .i64 r', .int .i64 c', .slice ya yn yk] 24)))
  clear D
  have Tb := hide (three_new (w.alloc (.cells #[.int .i64 r, .int .i64 c, .slice xa xn xk] 24)) r' c' (.slice ya yn yk) 24)
  rw [World.size_alloc] at Tb
  go_enter Tryd.func3, Tryd.ntmps3
  have HX := hide (fault_any _ m0 _ (Ma.out.below C.out))
  obtain ⟨za0, za1, za2⟩ := Ta.out.below C.out
  obtain ⟨zb0, zb1, zb2⟩ := Tb.out.below C.out
  go_wp2_with fail
  refine HX.out.mono ?_
  rintro e u1 ⟨rfl, hb⟩
  replace C := hide (below_next C.out hb)
  clear HX hb za0 za1 za2 zb0 zb1 zb2
  have HX := hide (check_any _ m0 _ (Ma.out.below C.out))
  obtain ⟨za0, za1, za2⟩ := Ta.out.below C.out
  obtain ⟨zb0, zb1, zb2⟩ := Tb.out.below C.out
  go_wp2_with fail
  refine HX.out.mono ?_
  rintro e u2 ⟨rfl, hb⟩
  replace C := hide (below_next C.out hb)
  clear HX hb za0 za1 za2 zb0 zb1 zb2
  have HX := hide (error_same (k := fault m0) (n := fault m0) rfl _ (HH.out.below C.out))
  obtain ⟨za0, za1, za2⟩ := Ta.out.below C.out
  obtain ⟨zb0, zb1, zb2⟩ := Tb.out.below C.out
  go_wp2_with fail
  refine HX.out.mono ?_
  rintro e u3 ⟨rfl, hb⟩
  replace C := hide (below_next C.out hb)
  clear HX hb za0 za1 za2 zb0 zb1 zb2
  obtain ⟨S, hS⟩ : ∃ S, addX m0 m1 = S := ⟨_, rfl⟩
  obtain ⟨P, hP⟩ : ∃ P, mulX m0 m1 = P := ⟨_, rfl⟩
  have HS := hide hS
  have HP := hide hP
  clear hS hP
  by_cases hA : fault m0 = 0
  · have HA := hide hA
    rw [hA]
    clear hA
    have HX := hide (fault_any _ m1 _ (Mb.out.below C.out))
    obtain ⟨za0, za1, za2⟩ := Ta.out.below C.out
    obtain ⟨zb0, zb1, zb2⟩ := Tb.out.below C.out
    go_wp2_with fail
    refine HX.out.mono ?_
    rintro e u4 ⟨rfl, hb⟩
    replace C := hide (below_next C.out hb)
    clear HX hb za0 za1 za2 zb0 zb1 zb2
    by_cases hB : fault m1 = 0
    · have HF := hide (faults_second HA.out hB)
      rw [hB]
      clear hB
      have HX := hide (madd_any _ _ m0 m1 _ (Ma.out.below C.out) (Mb.out.below C.out))
      obtain ⟨za0, za1, za2⟩ := Ta.out.below C.out
      obtain ⟨zb0, zb1, zb2⟩ := Tb.out.below C.out
      go_wp2_with fail
      refine HX.out.mono ?_
      intro e u5 h
      obtain ⟨sa, sn, sk, rfl, hm, hb⟩ := h.any
      clear h
      rw [HS.out] at hm ⊢
      replace C := hide (below_next C.out hb)
      clear HX hb za0 za1 za2 zb0 zb1 zb2
      have MM := hide (hm.below (below_one u5 (.cells #[.int .i64 S.rows, .int .i64 S.cols, .slice sa sn sk] 24)))
      have D := below_next C.out (below_one u5 (.cells #[.int .i64 S.rows, .int .i64 S.cols, .slice sa sn sk] 24))
      replace Ta := hide (Ta.out.below D)
      replace Tb := hide (Tb.out.below D)
      replace Ma := hide (Ma.out.below D)
      replace Mb := hide (Mb.out.below D)
      replace HH := hide (HH.out.below D)
      replace WW := hide (below_next WW.out D)
      replace C := hide (Below.refl (u5.alloc (.cells #[.int .i64 S.rows, .int .i64 S.cols, .slice sa sn sk] 24)).heap.size (u5.alloc (.cells #[.int .i64 S.rows, .int .i64 S.cols, .slice sa sn sk] 24)))
      clear D
      have Ts := hide (three_new u5 S.rows S.cols (.slice sa sn sk) 24)
      have Ms := MM
      clear MM hm
      have HX := hide (mmul_any _ _ m0 m1 _ (Ma.out.below C.out) (Mb.out.below C.out))
      obtain ⟨za0, za1, za2⟩ := Ta.out.below C.out
      obtain ⟨zb0, zb1, zb2⟩ := Tb.out.below C.out
      obtain ⟨zs0, zs1, zs2⟩ := Ts.out.below C.out
      go_wp2_with fail
      refine HX.out.mono ?_
      intro e u6 h
      obtain ⟨pa, pn, pk, rfl, hm, hb⟩ := h.any
      clear h
      rw [HP.out] at hm ⊢
      replace C := hide (below_next C.out hb)
      clear HX hb za0 za1 za2 zb0 zb1 zb2 zs0 zs1 zs2
      have MM := hide (hm.below (below_one u6 (.cells #[.int .i64 P.rows, .int .i64 P.cols, .slice pa pn pk] 24)))
      have D := below_next C.out (below_one u6 (.cells #[.int .i64 P.rows, .int .i64 P.cols, .slice pa pn pk] 24))
      replace Ta := hide (Ta.out.below D)
      replace Tb := hide (Tb.out.below D)
      replace Ts := hide (Ts.out.below D)
      replace Ma := hide (Ma.out.below D)
      replace Mb := hide (Mb.out.below D)
      replace Ms := hide (Ms.out.below D)
      replace HH := hide (HH.out.below D)
      replace WW := hide (below_next WW.out D)
      replace C := hide (Below.refl (u6.alloc (.cells #[.int .i64 P.rows, .int .i64 P.cols, .slice pa pn pk] 24)).heap.size (u6.alloc (.cells #[.int .i64 P.rows, .int .i64 P.cols, .slice pa pn pk] 24)))
      clear D
      have Tp := hide (three_new u6 P.rows P.cols (.slice pa pn pk) 24)
      have Mp := MM
      clear MM hm
      by_cases hc1 : r = r'
      · have hd1 := eqF hc1
        by_cases hc2 : c = c'
        · have hd2 := eqF hc2
          have HEA := hide (addE_0 HF.out (by rw [HQ.out.1, HQ.out.2.2.1]; exact hc1) (by rw [HQ.out.2.1, HQ.out.2.2.2]; exact hc2))
          clear hc1 hc2
          by_cases hc3 : c = r'
          · have hd3 := eqF hc3
            have HFM := hide (mulE_0 HF.out (by rw [HQ.out.2.1, HQ.out.2.2.1]; exact hc3))
            clear hc3
            have HX := hide (error_same (k := addE m0 m1) (n := 0) HEA.out _ (HH.out.below C.out))
            obtain ⟨za0, za1, za2⟩ := Ta.out.below C.out
            obtain ⟨zb0, zb1, zb2⟩ := Tb.out.below C.out
            obtain ⟨zs0, zs1, zs2⟩ := Ts.out.below C.out
            obtain ⟨zp0, zp1, zp2⟩ := Tp.out.below C.out
            go_wp2_with fail
            refine HX.out.mono ?_
            rintro e u7 ⟨rfl, hb⟩
            replace C := hide (below_next C.out hb)
            clear HX hb za0 za1 za2 zb0 zb1 zb2 zs0 zs1 zs2 zp0 zp1 zp2
            have HX := hide (error_same (k := mulE m0 m1) (n := 0) HFM.out _ (HH.out.below C.out))
            obtain ⟨za0, za1, za2⟩ := Ta.out.below C.out
            obtain ⟨zb0, zb1, zb2⟩ := Tb.out.below C.out
            obtain ⟨zs0, zs1, zs2⟩ := Ts.out.below C.out
            obtain ⟨zp0, zp1, zp2⟩ := Tp.out.below C.out
            go_wp2_with fail
            refine HX.out.mono ?_
            rintro e u8 ⟨rfl, hb⟩
            replace C := hide (below_next C.out hb)
            clear HX hb za0 za1 za2 zb0 zb1 zb2 zs0 zs1 zs2 zp0 zp1 zp2
            have LB : Hid (_ ≤ u8.heap.size) := hide C.out.size
            have Uw := hide (Mut.new u8 0 0 (.slice none 0 0) 24)
            replace C := hide (below_next C.out (below_one u8 (.cells #[.int .i64 0, .int .i64 0, .slice none 0 0] 24)))
            have HX := hide (ref_add _ (Ma.out.below C.out) (Mb.out.below C.out) HEA.out)
            obtain ⟨za0, za1, za2⟩ := Ta.out.below C.out
            obtain ⟨zb0, zb1, zb2⟩ := Tb.out.below C.out
            obtain ⟨zs0, zs1, zs2⟩ := Ts.out.below C.out
            obtain ⟨zp0, zp1, zp2⟩ := Tp.out.below C.out
            obtain ⟨zw0, zw1, zw2⟩ := Uw.out.t
            have zw3 := Uw.out.f 0
            have zw4 := Uw.out.f 1
            have zw5 := Uw.out.f 2
            go_wp2_with fail
            refine HX.out.mono ?_
            rintro e u9 ⟨qa, qn, qk, rfl, hm, hb, hf⟩
            rw [HS.out] at hm hf ⊢
            have LW := Uw.out.t.lt
            replace C := hide (below_next C.out hb)
            replace Uw := hide (Uw.out.below hb)
            clear HX hb za0 za1 za2 zb0 zb1 zb2 zs0 zs1 zs2 zp0 zp1 zp2 zw0 zw1 zw2 zw3 zw4 zw5
            have MW := hide (hm.set3 hf LW (.int .i64 S.rows) (.int .i64 S.cols) (.slice qa qn qk))
            clear hm hf LW
            obtain ⟨y00, y01, y02⟩ := Uw.out.t
            have y03 := Uw.out.f 0
            have y04 := Uw.out.f 1
            have y05 := Uw.out.f 2
            replace C := hide (below_set3 C.out LB.out (.int .i64 S.rows) (.int .i64 S.cols) (.slice qa qn qk))
            replace Uw := hide (Uw.out.set S.rows S.cols (.slice qa qn qk))
            have HX := hide (matrices_any _ _ S S _ (Ms.out.below C.out) MW.out)
            obtain ⟨za0, za1, za2⟩ := Ta.out.below C.out
            obtain ⟨zb0, zb1, zb2⟩ := Tb.out.below C.out
            obtain ⟨zs0, zs1, zs2⟩ := Ts.out.below C.out
            obtain ⟨zp0, zp1, zp2⟩ := Tp.out.below C.out
            obtain ⟨zw0, zw1, zw2⟩ := Uw.out.t
            have zw3 := Uw.out.f 0
            have zw4 := Uw.out.f 1
            have zw5 := Uw.out.f 2
            go_wp2_with fail
            refine HX.out.mono ?_
            rintro e u10 ⟨rfl, hb⟩
            rw [sameM_refl]
            clear MW
            replace C := hide (below_next C.out hb)
            replace Uw := hide (Uw.out.below hb)
            clear HX hb za0 za1 za2 zb0 zb1 zb2 zs0 zs1 zs2 zp0 zp1 zp2 zw0 zw1 zw2 zw3 zw4 zw5 y00 y01 y02 y03 y04 y05
            obtain ⟨y00, y01, y02⟩ := Uw.out.t
            have y03 := Uw.out.f 0
            have y04 := Uw.out.f 1
            have y05 := Uw.out.f 2
            replace C := hide (below_set3 C.out LB.out (.int .i64 0) (.int .i64 0) (.slice none 0 0))
            replace Uw := hide (Uw.out.set 0 0 (.slice none 0 0))
            have HX := hide (ref_mul _ (Ma.out.below C.out) (Mb.out.below C.out) HFM.out)
            obtain ⟨za0, za1, za2⟩ := Ta.out.below C.out
            obtain ⟨zb0, zb1, zb2⟩ := Tb.out.below C.out
            obtain ⟨zs0, zs1, zs2⟩ := Ts.out.below C.out
            obtain ⟨zp0, zp1, zp2⟩ := Tp.out.below C.out
            obtain ⟨zw0, zw1, zw2⟩ := Uw.out.t
            have zw3 := Uw.out.f 0
            have zw4 := Uw.out.f 1
            have zw5 := Uw.out.f 2
            go_wp2_with fail
            refine HX.out.mono ?_
            rintro e u11 ⟨qa, qn, qk, rfl, hm, hb, hf⟩
            rw [HP.out] at hm hf ⊢
            have LW := Uw.out.t.lt
            replace C := hide (below_next C.out hb)
            replace Uw := hide (Uw.out.below hb)
            clear HX hb za0 za1 za2 zb0 zb1 zb2 zs0 zs1 zs2 zp0 zp1 zp2 zw0 zw1 zw2 zw3 zw4 zw5 y00 y01 y02 y03 y04 y05
            have MW := hide (hm.set3 hf LW (.int .i64 P.rows) (.int .i64 P.cols) (.slice qa qn qk))
            clear hm hf LW
            obtain ⟨y00, y01, y02⟩ := Uw.out.t
            have y03 := Uw.out.f 0
            have y04 := Uw.out.f 1
            have y05 := Uw.out.f 2
            replace C := hide (below_set3 C.out LB.out (.int .i64 P.rows) (.int .i64 P.cols) (.slice qa qn qk))
            replace Uw := hide (Uw.out.set P.rows P.cols (.slice qa qn qk))
            have HX := hide (matrices_any _ _ P P _ (Mp.out.below C.out) MW.out)
            obtain ⟨za0, za1, za2⟩ := Ta.out.below C.out
            obtain ⟨zb0, zb1, zb2⟩ := Tb.out.below C.out
            obtain ⟨zs0, zs1, zs2⟩ := Ts.out.below C.out
            obtain ⟨zp0, zp1, zp2⟩ := Tp.out.below C.out
            obtain ⟨zw0, zw1, zw2⟩ := Uw.out.t
            have zw3 := Uw.out.f 0
            have zw4 := Uw.out.f 1
            have zw5 := Uw.out.f 2
            go_wp2_with fail
            refine HX.out.mono ?_
            rintro e u12 ⟨rfl, hb⟩
            rw [sameM_refl]
            clear MW
            replace C := hide (below_next C.out hb)
            replace Uw := hide (Uw.out.below hb)
            clear HX hb za0 za1 za2 zb0 zb1 zb2 zs0 zs1 zs2 zp0 zp1 zp2 zw0 zw1 zw2 zw3 zw4 zw5 y00 y01 y02 y03 y04 y05
            obtain ⟨za0, za1, za2⟩ := Ta.out.below C.out
            obtain ⟨zb0, zb1, zb2⟩ := Tb.out.below C.out
            obtain ⟨zs0, zs1, zs2⟩ := Ts.out.below C.out
            obtain ⟨zp0, zp1, zp2⟩ := Tp.out.below C.out
            obtain ⟨zw0, zw1, zw2⟩ := Uw.out.t
            have zw3 := Uw.out.f 0
            have zw4 := Uw.out.f 1
            have zw5 := Uw.out.f 2
            go_wp2
            go_ret
            exact ⟨rfl, below_next WW.out C.out⟩
          · have hd3 := eqT hc3
            have HFM := hide (mulE_2 HF.out (by rw [HQ.out.2.1, HQ.out.2.2.1]; exact hc3))
            clear hc3
            have HNM := hide (show P = noMx by rw [← HP.out]; exact mulX_no (by rw [HFM.out]; decide))
            have HX := hide (error_same (k := addE m0 m1) (n := 0) HEA.out _ (HH.out.below C.out))
            obtain ⟨za0, za1, za2⟩ := Ta.out.below C.out
            obtain ⟨zb0, zb1, zb2⟩ := Tb.out.below C.out
            obtain ⟨zs0, zs1, zs2⟩ := Ts.out.below C.out
            obtain ⟨zp0, zp1, zp2⟩ := Tp.out.below C.out
            go_wp2_with fail
            refine HX.out.mono ?_
            rintro e u7 ⟨rfl, hb⟩
            replace C := hide (below_next C.out hb)
            clear HX hb za0 za1 za2 zb0 zb1 zb2 zs0 zs1 zs2 zp0 zp1 zp2
            have HX := hide (error_same (k := mulE m0 m1) (n := 2) HFM.out _ (HH.out.below C.out))
            obtain ⟨za0, za1, za2⟩ := Ta.out.below C.out
            obtain ⟨zb0, zb1, zb2⟩ := Tb.out.below C.out
            obtain ⟨zs0, zs1, zs2⟩ := Ts.out.below C.out
            obtain ⟨zp0, zp1, zp2⟩ := Tp.out.below C.out
            go_wp2_with fail
            refine HX.out.mono ?_
            rintro e u8 ⟨rfl, hb⟩
            replace C := hide (below_next C.out hb)
            clear HX hb za0 za1 za2 zb0 zb1 zb2 zs0 zs1 zs2 zp0 zp1 zp2
            have LB : Hid (_ ≤ u8.heap.size) := hide C.out.size
            have Uw := hide (Mut.new u8 0 0 (.slice none 0 0) 24)
            replace C := hide (below_next C.out (below_one u8 (.cells #[.int .i64 0, .int .i64 0, .slice none 0 0] 24)))
            have HX := hide (ref_add _ (Ma.out.below C.out) (Mb.out.below C.out) HEA.out)
            obtain ⟨za0, za1, za2⟩ := Ta.out.below C.out
            obtain ⟨zb0, zb1, zb2⟩ := Tb.out.below C.out
            obtain ⟨zs0, zs1, zs2⟩ := Ts.out.below C.out
            obtain ⟨zp0, zp1, zp2⟩ := Tp.out.below C.out
            obtain ⟨zw0, zw1, zw2⟩ := Uw.out.t
            have zw3 := Uw.out.f 0
            have zw4 := Uw.out.f 1
            have zw5 := Uw.out.f 2
            go_wp2_with fail
            refine HX.out.mono ?_
            rintro e u9 ⟨qa, qn, qk, rfl, hm, hb, hf⟩
            rw [HS.out] at hm hf ⊢
            have LW := Uw.out.t.lt
            replace C := hide (below_next C.out hb)
            replace Uw := hide (Uw.out.below hb)
            clear HX hb za0 za1 za2 zb0 zb1 zb2 zs0 zs1 zs2 zp0 zp1 zp2 zw0 zw1 zw2 zw3 zw4 zw5
            have MW := hide (hm.set3 hf LW (.int .i64 S.rows) (.int .i64 S.cols) (.slice qa qn qk))
            clear hm hf LW
            obtain ⟨y00, y01, y02⟩ := Uw.out.t
            have y03 := Uw.out.f 0
            have y04 := Uw.out.f 1
            have y05 := Uw.out.f 2
            replace C := hide (below_set3 C.out LB.out (.int .i64 S.rows) (.int .i64 S.cols) (.slice qa qn qk))
            replace Uw := hide (Uw.out.set S.rows S.cols (.slice qa qn qk))
            have HX := hide (matrices_any _ _ S S _ (Ms.out.below C.out) MW.out)
            obtain ⟨za0, za1, za2⟩ := Ta.out.below C.out
            obtain ⟨zb0, zb1, zb2⟩ := Tb.out.below C.out
            obtain ⟨zs0, zs1, zs2⟩ := Ts.out.below C.out
            obtain ⟨zp0, zp1, zp2⟩ := Tp.out.below C.out
            obtain ⟨zw0, zw1, zw2⟩ := Uw.out.t
            have zw3 := Uw.out.f 0
            have zw4 := Uw.out.f 1
            have zw5 := Uw.out.f 2
            go_wp2_with fail
            refine HX.out.mono ?_
            rintro e u10 ⟨rfl, hb⟩
            rw [sameM_refl]
            clear MW
            replace C := hide (below_next C.out hb)
            replace Uw := hide (Uw.out.below hb)
            clear HX hb za0 za1 za2 zb0 zb1 zb2 zs0 zs1 zs2 zp0 zp1 zp2 zw0 zw1 zw2 zw3 zw4 zw5 y00 y01 y02 y03 y04 y05
            obtain ⟨y00, y01, y02⟩ := Uw.out.t
            have y03 := Uw.out.f 0
            have y04 := Uw.out.f 1
            have y05 := Uw.out.f 2
            replace C := hide (below_set3 C.out LB.out (.int .i64 0) (.int .i64 0) (.slice none 0 0))
            replace Uw := hide (Uw.out.set 0 0 (.slice none 0 0))
            have HX := hide (matrices_any _ _ P noMx _ (Mp.out.below C.out) (isMx_no _))
            obtain ⟨za0, za1, za2⟩ := Ta.out.below C.out
            obtain ⟨zb0, zb1, zb2⟩ := Tb.out.below C.out
            obtain ⟨zs0, zs1, zs2⟩ := Ts.out.below C.out
            obtain ⟨zp0, zp1, zp2⟩ := Tp.out.below C.out
            obtain ⟨zw0, zw1, zw2⟩ := Uw.out.t
            have zw3 := Uw.out.f 0
            have zw4 := Uw.out.f 1
            have zw5 := Uw.out.f 2
            go_wp2_with fail
            refine HX.out.mono ?_
            rintro e u11 ⟨rfl, hb⟩
            rw [show sameM P noMx = true by rw [HNM.out]; exact sameM_refl _]
            replace C := hide (below_next C.out hb)
            replace Uw := hide (Uw.out.below hb)
            clear HX hb za0 za1 za2 zb0 zb1 zb2 zs0 zs1 zs2 zp0 zp1 zp2 zw0 zw1 zw2 zw3 zw4 zw5 y00 y01 y02 y03 y04 y05
            obtain ⟨za0, za1, za2⟩ := Ta.out.below C.out
            obtain ⟨zb0, zb1, zb2⟩ := Tb.out.below C.out
            obtain ⟨zs0, zs1, zs2⟩ := Ts.out.below C.out
            obtain ⟨zp0, zp1, zp2⟩ := Tp.out.below C.out
            obtain ⟨zw0, zw1, zw2⟩ := Uw.out.t
            have zw3 := Uw.out.f 0
            have zw4 := Uw.out.f 1
            have zw5 := Uw.out.f 2
            go_wp2
            go_ret
            exact ⟨rfl, below_next WW.out C.out⟩
        · have hd2 := eqT hc2
          have HEA := hide (addE_2 HF.out (.inr (by rw [HQ.out.2.1, HQ.out.2.2.2]; exact hc2)))
          clear hc1 hc2
          have HNA := hide (show S = noMx by rw [← HS.out]; exact addX_no (by rw [HEA.out]; decide))
          by_cases hc3 : c = r'
          · have hd3 := eqF hc3
            have HFM := hide (mulE_0 HF.out (by rw [HQ.out.2.1, HQ.out.2.2.1]; exact hc3))
            clear hc3
            have HX := hide (error_same (k := addE m0 m1) (n := 2) HEA.out _ (HH.out.below C.out))
            obtain ⟨za0, za1, za2⟩ := Ta.out.below C.out
            obtain ⟨zb0, zb1, zb2⟩ := Tb.out.below C.out
            obtain ⟨zs0, zs1, zs2⟩ := Ts.out.below C.out
            obtain ⟨zp0, zp1, zp2⟩ := Tp.out.below C.out
            go_wp2_with fail
            refine HX.out.mono ?_
            rintro e u7 ⟨rfl, hb⟩
            replace C := hide (below_next C.out hb)
            clear HX hb za0 za1 za2 zb0 zb1 zb2 zs0 zs1 zs2 zp0 zp1 zp2
            have HX := hide (error_same (k := mulE m0 m1) (n := 0) HFM.out _ (HH.out.below C.out))
            obtain ⟨za0, za1, za2⟩ := Ta.out.below C.out
            obtain ⟨zb0, zb1, zb2⟩ := Tb.out.below C.out
            obtain ⟨zs0, zs1, zs2⟩ := Ts.out.below C.out
            obtain ⟨zp0, zp1, zp2⟩ := Tp.out.below C.out
            go_wp2_with fail
            refine HX.out.mono ?_
            rintro e u8 ⟨rfl, hb⟩
            replace C := hide (below_next C.out hb)
            clear HX hb za0 za1 za2 zb0 zb1 zb2 zs0 zs1 zs2 zp0 zp1 zp2
            have LB : Hid (_ ≤ u8.heap.size) := hide C.out.size
            have Uw := hide (Mut.new u8 0 0 (.slice none 0 0) 24)
            replace C := hide (below_next C.out (below_one u8 (.cells #[.int .i64 0, .int .i64 0, .slice none 0 0] 24)))
            have HX := hide (matrices_any _ _ S noMx _ (Ms.out.below C.out) (isMx_no _))
            obtain ⟨za0, za1, za2⟩ := Ta.out.below C.out
            obtain ⟨zb0, zb1, zb2⟩ := Tb.out.below C.out
            obtain ⟨zs0, zs1, zs2⟩ := Ts.out.below C.out
            obtain ⟨zp0, zp1, zp2⟩ := Tp.out.below C.out
            obtain ⟨zw0, zw1, zw2⟩ := Uw.out.t
            have zw3 := Uw.out.f 0
            have zw4 := Uw.out.f 1
            have zw5 := Uw.out.f 2
            go_wp2_with fail
            refine HX.out.mono ?_
            rintro e u9 ⟨rfl, hb⟩
            rw [show sameM S noMx = true by rw [HNA.out]; exact sameM_refl _]
            replace C := hide (below_next C.out hb)
            replace Uw := hide (Uw.out.below hb)
            clear HX hb za0 za1 za2 zb0 zb1 zb2 zs0 zs1 zs2 zp0 zp1 zp2 zw0 zw1 zw2 zw3 zw4 zw5
            obtain ⟨y00, y01, y02⟩ := Uw.out.t
            have y03 := Uw.out.f 0
            have y04 := Uw.out.f 1
            have y05 := Uw.out.f 2
            replace C := hide (below_set3 C.out LB.out (.int .i64 0) (.int .i64 0) (.slice none 0 0))
            replace Uw := hide (Uw.out.set 0 0 (.slice none 0 0))
            have HX := hide (ref_mul _ (Ma.out.below C.out) (Mb.out.below C.out) HFM.out)
            obtain ⟨za0, za1, za2⟩ := Ta.out.below C.out
            obtain ⟨zb0, zb1, zb2⟩ := Tb.out.below C.out
            obtain ⟨zs0, zs1, zs2⟩ := Ts.out.below C.out
            obtain ⟨zp0, zp1, zp2⟩ := Tp.out.below C.out
            obtain ⟨zw0, zw1, zw2⟩ := Uw.out.t
            have zw3 := Uw.out.f 0
            have zw4 := Uw.out.f 1
            have zw5 := Uw.out.f 2
            go_wp2_with fail
            refine HX.out.mono ?_
            rintro e u10 ⟨qa, qn, qk, rfl, hm, hb, hf⟩
            rw [HP.out] at hm hf ⊢
            have LW := Uw.out.t.lt
            replace C := hide (below_next C.out hb)
            replace Uw := hide (Uw.out.below hb)
            clear HX hb za0 za1 za2 zb0 zb1 zb2 zs0 zs1 zs2 zp0 zp1 zp2 zw0 zw1 zw2 zw3 zw4 zw5 y00 y01 y02 y03 y04 y05
            have MW := hide (hm.set3 hf LW (.int .i64 P.rows) (.int .i64 P.cols) (.slice qa qn qk))
            clear hm hf LW
            obtain ⟨y00, y01, y02⟩ := Uw.out.t
            have y03 := Uw.out.f 0
            have y04 := Uw.out.f 1
            have y05 := Uw.out.f 2
            replace C := hide (below_set3 C.out LB.out (.int .i64 P.rows) (.int .i64 P.cols) (.slice qa qn qk))
            replace Uw := hide (Uw.out.set P.rows P.cols (.slice qa qn qk))
            have HX := hide (matrices_any _ _ P P _ (Mp.out.below C.out) MW.out)
            obtain ⟨za0, za1, za2⟩ := Ta.out.below C.out
            obtain ⟨zb0, zb1, zb2⟩ := Tb.out.below C.out
            obtain ⟨zs0, zs1, zs2⟩ := Ts.out.below C.out
            obtain ⟨zp0, zp1, zp2⟩ := Tp.out.below C.out
            obtain ⟨zw0, zw1, zw2⟩ := Uw.out.t
            have zw3 := Uw.out.f 0
            have zw4 := Uw.out.f 1
            have zw5 := Uw.out.f 2
            go_wp2_with fail
            refine HX.out.mono ?_
            rintro e u11 ⟨rfl, hb⟩
            rw [sameM_refl]
            clear MW
            replace C := hide (below_next C.out hb)
            replace Uw := hide (Uw.out.below hb)
            clear HX hb za0 za1 za2 zb0 zb1 zb2 zs0 zs1 zs2 zp0 zp1 zp2 zw0 zw1 zw2 zw3 zw4 zw5 y00 y01 y02 y03 y04 y05
            obtain ⟨za0, za1, za2⟩ := Ta.out.below C.out
            obtain ⟨zb0, zb1, zb2⟩ := Tb.out.below C.out
            obtain ⟨zs0, zs1, zs2⟩ := Ts.out.below C.out
            obtain ⟨zp0, zp1, zp2⟩ := Tp.out.below C.out
            obtain ⟨zw0, zw1, zw2⟩ := Uw.out.t
            have zw3 := Uw.out.f 0
            have zw4 := Uw.out.f 1
            have zw5 := Uw.out.f 2
            go_wp2
            go_ret
            exact ⟨rfl, below_next WW.out C.out⟩
          · have hd3 := eqT hc3
            have HFM := hide (mulE_2 HF.out (by rw [HQ.out.2.1, HQ.out.2.2.1]; exact hc3))
            clear hc3
            have HNM := hide (show P = noMx by rw [← HP.out]; exact mulX_no (by rw [HFM.out]; decide))
            have HX := hide (error_same (k := addE m0 m1) (n := 2) HEA.out _ (HH.out.below C.out))
            obtain ⟨za0, za1, za2⟩ := Ta.out.below C.out
            obtain ⟨zb0, zb1, zb2⟩ := Tb.out.below C.out
            obtain ⟨zs0, zs1, zs2⟩ := Ts.out.below C.out
            obtain ⟨zp0, zp1, zp2⟩ := Tp.out.below C.out
            go_wp2_with fail
            refine HX.out.mono ?_
            rintro e u7 ⟨rfl, hb⟩
            replace C := hide (below_next C.out hb)
            clear HX hb za0 za1 za2 zb0 zb1 zb2 zs0 zs1 zs2 zp0 zp1 zp2
            have HX := hide (error_same (k := mulE m0 m1) (n := 2) HFM.out _ (HH.out.below C.out))
            obtain ⟨za0, za1, za2⟩ := Ta.out.below C.out
            obtain ⟨zb0, zb1, zb2⟩ := Tb.out.below C.out
            obtain ⟨zs0, zs1, zs2⟩ := Ts.out.below C.out
            obtain ⟨zp0, zp1, zp2⟩ := Tp.out.below C.out
            go_wp2_with fail
            refine HX.out.mono ?_
            rintro e u8 ⟨rfl, hb⟩
            replace C := hide (below_next C.out hb)
            clear HX hb za0 za1 za2 zb0 zb1 zb2 zs0 zs1 zs2 zp0 zp1 zp2
            have LB : Hid (_ ≤ u8.heap.size) := hide C.out.size
            have Uw := hide (Mut.new u8 0 0 (.slice none 0 0) 24)
            replace C := hide (below_next C.out (below_one u8 (.cells #[.int .i64 0, .int .i64 0, .slice none 0 0] 24)))
            have HX := hide (matrices_any _ _ S noMx _ (Ms.out.below C.out) (isMx_no _))
            obtain ⟨za0, za1, za2⟩ := Ta.out.below C.out
            obtain ⟨zb0, zb1, zb2⟩ := Tb.out.below C.out
            obtain ⟨zs0, zs1, zs2⟩ := Ts.out.below C.out
            obtain ⟨zp0, zp1, zp2⟩ := Tp.out.below C.out
            obtain ⟨zw0, zw1, zw2⟩ := Uw.out.t
            have zw3 := Uw.out.f 0
            have zw4 := Uw.out.f 1
            have zw5 := Uw.out.f 2
            go_wp2_with fail
            refine HX.out.mono ?_
            rintro e u9 ⟨rfl, hb⟩
            rw [show sameM S noMx = true by rw [HNA.out]; exact sameM_refl _]
            replace C := hide (below_next C.out hb)
            replace Uw := hide (Uw.out.below hb)
            clear HX hb za0 za1 za2 zb0 zb1 zb2 zs0 zs1 zs2 zp0 zp1 zp2 zw0 zw1 zw2 zw3 zw4 zw5
            obtain ⟨y00, y01, y02⟩ := Uw.out.t
            have y03 := Uw.out.f 0
            have y04 := Uw.out.f 1
            have y05 := Uw.out.f 2
            replace C := hide (below_set3 C.out LB.out (.int .i64 0) (.int .i64 0) (.slice none 0 0))
            replace Uw := hide (Uw.out.set 0 0 (.slice none 0 0))
            have HX := hide (matrices_any _ _ P noMx _ (Mp.out.below C.out) (isMx_no _))
            obtain ⟨za0, za1, za2⟩ := Ta.out.below C.out
            obtain ⟨zb0, zb1, zb2⟩ := Tb.out.below C.out
            obtain ⟨zs0, zs1, zs2⟩ := Ts.out.below C.out
            obtain ⟨zp0, zp1, zp2⟩ := Tp.out.below C.out
            obtain ⟨zw0, zw1, zw2⟩ := Uw.out.t
            have zw3 := Uw.out.f 0
            have zw4 := Uw.out.f 1
            have zw5 := Uw.out.f 2
            go_wp2_with fail
            refine HX.out.mono ?_
            rintro e u10 ⟨rfl, hb⟩
            rw [show sameM P noMx = true by rw [HNM.out]; exact sameM_refl _]
            replace C := hide (below_next C.out hb)
            replace Uw := hide (Uw.out.below hb)
            clear HX hb za0 za1 za2 zb0 zb1 zb2 zs0 zs1 zs2 zp0 zp1 zp2 zw0 zw1 zw2 zw3 zw4 zw5 y00 y01 y02 y03 y04 y05
            obtain ⟨za0, za1, za2⟩ := Ta.out.below C.out
            obtain ⟨zb0, zb1, zb2⟩ := Tb.out.below C.out
            obtain ⟨zs0, zs1, zs2⟩ := Ts.out.below C.out
            obtain ⟨zp0, zp1, zp2⟩ := Tp.out.below C.out
            obtain ⟨zw0, zw1, zw2⟩ := Uw.out.t
            have zw3 := Uw.out.f 0
            have zw4 := Uw.out.f 1
            have zw5 := Uw.out.f 2
            go_wp2
            go_ret
            exact ⟨rfl, below_next WW.out C.out⟩
      · have hd1 := eqT hc1
        have HEA := hide (addE_2 HF.out (.inl (by rw [HQ.out.1, HQ.out.2.2.1]; exact hc1)))
        clear hc1
        have HNA := hide (show S = noMx by rw [← HS.out]; exact addX_no (by rw [HEA.out]; decide))
        by_cases hc3 : c = r'
        · have hd3 := eqF hc3
          have HFM := hide (mulE_0 HF.out (by rw [HQ.out.2.1, HQ.out.2.2.1]; exact hc3))
          clear hc3
          have HX := hide (error_same (k := addE m0 m1) (n := 2) HEA.out _ (HH.out.below C.out))
          obtain ⟨za0, za1, za2⟩ := Ta.out.below C.out
          obtain ⟨zb0, zb1, zb2⟩ := Tb.out.below C.out
          obtain ⟨zs0, zs1, zs2⟩ := Ts.out.below C.out
          obtain ⟨zp0, zp1, zp2⟩ := Tp.out.below C.out
          go_wp2_with fail
          refine HX.out.mono ?_
          rintro e u7 ⟨rfl, hb⟩
          replace C := hide (below_next C.out hb)
          clear HX hb za0 za1 za2 zb0 zb1 zb2 zs0 zs1 zs2 zp0 zp1 zp2
          have HX := hide (error_same (k := mulE m0 m1) (n := 0) HFM.out _ (HH.out.below C.out))
          obtain ⟨za0, za1, za2⟩ := Ta.out.below C.out
          obtain ⟨zb0, zb1, zb2⟩ := Tb.out.below C.out
          obtain ⟨zs0, zs1, zs2⟩ := Ts.out.below C.out
          obtain ⟨zp0, zp1, zp2⟩ := Tp.out.below C.out
          go_wp2_with fail
          refine HX.out.mono ?_
          rintro e u8 ⟨rfl, hb⟩
          replace C := hide (below_next C.out hb)
          clear HX hb za0 za1 za2 zb0 zb1 zb2 zs0 zs1 zs2 zp0 zp1 zp2
          have LB : Hid (_ ≤ u8.heap.size) := hide C.out.size
          have Uw := hide (Mut.new u8 0 0 (.slice none 0 0) 24)
          replace C := hide (below_next C.out (below_one u8 (.cells #[.int .i64 0, .int .i64 0, .slice none 0 0] 24)))
          have HX := hide (matrices_any _ _ S noMx _ (Ms.out.below C.out) (isMx_no _))
          obtain ⟨za0, za1, za2⟩ := Ta.out.below C.out
          obtain ⟨zb0, zb1, zb2⟩ := Tb.out.below C.out
          obtain ⟨zs0, zs1, zs2⟩ := Ts.out.below C.out
          obtain ⟨zp0, zp1, zp2⟩ := Tp.out.below C.out
          obtain ⟨zw0, zw1, zw2⟩ := Uw.out.t
          have zw3 := Uw.out.f 0
          have zw4 := Uw.out.f 1
          have zw5 := Uw.out.f 2
          go_wp2_with fail
          refine HX.out.mono ?_
          rintro e u9 ⟨rfl, hb⟩
          rw [show sameM S noMx = true by rw [HNA.out]; exact sameM_refl _]
          replace C := hide (below_next C.out hb)
          replace Uw := hide (Uw.out.below hb)
          clear HX hb za0 za1 za2 zb0 zb1 zb2 zs0 zs1 zs2 zp0 zp1 zp2 zw0 zw1 zw2 zw3 zw4 zw5
          obtain ⟨y00, y01, y02⟩ := Uw.out.t
          have y03 := Uw.out.f 0
          have y04 := Uw.out.f 1
          have y05 := Uw.out.f 2
          replace C := hide (below_set3 C.out LB.out (.int .i64 0) (.int .i64 0) (.slice none 0 0))
          replace Uw := hide (Uw.out.set 0 0 (.slice none 0 0))
          have HX := hide (ref_mul _ (Ma.out.below C.out) (Mb.out.below C.out) HFM.out)
          obtain ⟨za0, za1, za2⟩ := Ta.out.below C.out
          obtain ⟨zb0, zb1, zb2⟩ := Tb.out.below C.out
          obtain ⟨zs0, zs1, zs2⟩ := Ts.out.below C.out
          obtain ⟨zp0, zp1, zp2⟩ := Tp.out.below C.out
          obtain ⟨zw0, zw1, zw2⟩ := Uw.out.t
          have zw3 := Uw.out.f 0
          have zw4 := Uw.out.f 1
          have zw5 := Uw.out.f 2
          go_wp2_with fail
          refine HX.out.mono ?_
          rintro e u10 ⟨qa, qn, qk, rfl, hm, hb, hf⟩
          rw [HP.out] at hm hf ⊢
          have LW := Uw.out.t.lt
          replace C := hide (below_next C.out hb)
          replace Uw := hide (Uw.out.below hb)
          clear HX hb za0 za1 za2 zb0 zb1 zb2 zs0 zs1 zs2 zp0 zp1 zp2 zw0 zw1 zw2 zw3 zw4 zw5 y00 y01 y02 y03 y04 y05
          have MW := hide (hm.set3 hf LW (.int .i64 P.rows) (.int .i64 P.cols) (.slice qa qn qk))
          clear hm hf LW
          obtain ⟨y00, y01, y02⟩ := Uw.out.t
          have y03 := Uw.out.f 0
          have y04 := Uw.out.f 1
          have y05 := Uw.out.f 2
          replace C := hide (below_set3 C.out LB.out (.int .i64 P.rows) (.int .i64 P.cols) (.slice qa qn qk))
          replace Uw := hide (Uw.out.set P.rows P.cols (.slice qa qn qk))
          have HX := hide (matrices_any _ _ P P _ (Mp.out.below C.out) MW.out)
          obtain ⟨za0, za1, za2⟩ := Ta.out.below C.out
          obtain ⟨zb0, zb1, zb2⟩ := Tb.out.below C.out
          obtain ⟨zs0, zs1, zs2⟩ := Ts.out.below C.out
          obtain ⟨zp0, zp1, zp2⟩ := Tp.out.below C.out
          obtain ⟨zw0, zw1, zw2⟩ := Uw.out.t
          have zw3 := Uw.out.f 0
          have zw4 := Uw.out.f 1
          have zw5 := Uw.out.f 2
          go_wp2_with fail
          refine HX.out.mono ?_
          rintro e u11 ⟨rfl, hb⟩
          rw [sameM_refl]
          clear MW
          replace C := hide (below_next C.out hb)
          replace Uw := hide (Uw.out.below hb)
          clear HX hb za0 za1 za2 zb0 zb1 zb2 zs0 zs1 zs2 zp0 zp1 zp2 zw0 zw1 zw2 zw3 zw4 zw5 y00 y01 y02 y03 y04 y05
          obtain ⟨za0, za1, za2⟩ := Ta.out.below C.out
          obtain ⟨zb0, zb1, zb2⟩ := Tb.out.below C.out
          obtain ⟨zs0, zs1, zs2⟩ := Ts.out.below C.out
          obtain ⟨zp0, zp1, zp2⟩ := Tp.out.below C.out
          obtain ⟨zw0, zw1, zw2⟩ := Uw.out.t
          have zw3 := Uw.out.f 0
          have zw4 := Uw.out.f 1
          have zw5 := Uw.out.f 2
          go_wp2
          go_ret
          exact ⟨rfl, below_next WW.out C.out⟩
        · have hd3 := eqT hc3
          have HFM := hide (mulE_2 HF.out (by rw [HQ.out.2.1, HQ.out.2.2.1]; exact hc3))
          clear hc3
          have HNM := hide (show P = noMx by rw [← HP.out]; exact mulX_no (by rw [HFM.out]; decide))
          have HX := hide (error_same (k := addE m0 m1) (n := 2) HEA.out _ (HH.out.below C.out))
          obtain ⟨za0, za1, za2⟩ := Ta.out.below C.out
          obtain ⟨zb0, zb1, zb2⟩ := Tb.out.below C.out
          obtain ⟨zs0, zs1, zs2⟩ := Ts.out.below C.out
          obtain ⟨zp0, zp1, zp2⟩ := Tp.out.below C.out
          go_wp2_with fail
          refine HX.out.mono ?_
          rintro e u7 ⟨rfl, hb⟩
          replace C := hide (below_next C.out hb)
          clear HX hb za0 za1 za2 zb0 zb1 zb2 zs0 zs1 zs2 zp0 zp1 zp2
          have HX := hide (error_same (k := mulE m0 m1) (n := 2) HFM.out _ (HH.out.below C.out))
          obtain ⟨za0, za1, za2⟩ := Ta.out.below C.out
          obtain ⟨zb0, zb1, zb2⟩ := Tb.out.below C.out
          obtain ⟨zs0, zs1, zs2⟩ := Ts.out.below C.out
          obtain ⟨zp0, zp1, zp2⟩ := Tp.out.below C.out
          go_wp2_with fail
          refine HX.out.mono ?_
          rintro e u8 ⟨rfl, hb⟩
          replace C := hide (below_next C.out hb)
          clear HX hb za0 za1 za2 zb0 zb1 zb2 zs0 zs1 zs2 zp0 zp1 zp2
          have LB : Hid (_ ≤ u8.heap.size) := hide C.out.size
          have Uw := hide (Mut.new u8 0 0 (.slice none 0 0) 24)
          replace C := hide (below_next C.out (below_one u8 (.cells #[.int .i64 0, .int .i64 0, .slice none 0 0] 24)))
          have HX := hide (matrices_any _ _ S noMx _ (Ms.out.below C.out) (isMx_no _))
          obtain ⟨za0, za1, za2⟩ := Ta.out.below C.out
          obtain ⟨zb0, zb1, zb2⟩ := Tb.out.below C.out
          obtain ⟨zs0, zs1, zs2⟩ := Ts.out.below C.out
          obtain ⟨zp0, zp1, zp2⟩ := Tp.out.below C.out
          obtain ⟨zw0, zw1, zw2⟩ := Uw.out.t
          have zw3 := Uw.out.f 0
          have zw4 := Uw.out.f 1
          have zw5 := Uw.out.f 2
          go_wp2_with fail
          refine HX.out.mono ?_
          rintro e u9 ⟨rfl, hb⟩
          rw [show sameM S noMx = true by rw [HNA.out]; exact sameM_refl _]
          replace C := hide (below_next C.out hb)
          replace Uw := hide (Uw.out.below hb)
          clear HX hb za0 za1 za2 zb0 zb1 zb2 zs0 zs1 zs2 zp0 zp1 zp2 zw0 zw1 zw2 zw3 zw4 zw5
          obtain ⟨y00, y01, y02⟩ := Uw.out.t
          have y03 := Uw.out.f 0
          have y04 := Uw.out.f 1
          have y05 := Uw.out.f 2
          replace C := hide (below_set3 C.out LB.out (.int .i64 0) (.int .i64 0) (.slice none 0 0))
          replace Uw := hide (Uw.out.set 0 0 (.slice none 0 0))
          have HX := hide (matrices_any _ _ P noMx _ (Mp.out.below C.out) (isMx_no _))
          obtain ⟨za0, za1, za2⟩ := Ta.out.below C.out
          obtain ⟨zb0, zb1, zb2⟩ := Tb.out.below C.out
          obtain ⟨zs0, zs1, zs2⟩ := Ts.out.below C.out
          obtain ⟨zp0, zp1, zp2⟩ := Tp.out.below C.out
          obtain ⟨zw0, zw1, zw2⟩ := Uw.out.t
          have zw3 := Uw.out.f 0
          have zw4 := Uw.out.f 1
          have zw5 := Uw.out.f 2
          go_wp2_with fail
          refine HX.out.mono ?_
          rintro e u10 ⟨rfl, hb⟩
          rw [show sameM P noMx = true by rw [HNM.out]; exact sameM_refl _]
          replace C := hide (below_next C.out hb)
          replace Uw := hide (Uw.out.below hb)
          clear HX hb za0 za1 za2 zb0 zb1 zb2 zs0 zs1 zs2 zp0 zp1 zp2 zw0 zw1 zw2 zw3 zw4 zw5 y00 y01 y02 y03 y04 y05
          obtain ⟨za0, za1, za2⟩ := Ta.out.below C.out
          obtain ⟨zb0, zb1, zb2⟩ := Tb.out.below C.out
          obtain ⟨zs0, zs1, zs2⟩ := Ts.out.below C.out
          obtain ⟨zp0, zp1, zp2⟩ := Tp.out.below C.out
          obtain ⟨zw0, zw1, zw2⟩ := Uw.out.t
          have zw3 := Uw.out.f 0
          have zw4 := Uw.out.f 1
          have zw5 := Uw.out.f 2
          go_wp2
          go_ret
          exact ⟨rfl, below_next WW.out C.out⟩
    · obtain ⟨k, hk⟩ : ∃ k, fault m1 = k := ⟨_, rfl⟩
      have hk0 : ¬ k = 0 := by rw [← hk]; exact hB
      have HF := hide ((faults_second (b := m1) HA.out rfl).trans hk)
      rw [hk]
      clear hB hk
      have HEA := hide (addE_k HF.out hk0)
      have HFM := hide (mulE_k HF.out hk0)
      have HK := hide hk0
      have HNA := hide (show S = noMx by rw [← HS.out]; exact addX_no (by rw [HEA.out]; exact HK.out))
      have HNM := hide (show P = noMx by rw [← HP.out]; exact mulX_no (by rw [HFM.out]; exact HK.out))
      clear HK
      have HX := hide (madd_any _ _ m0 m1 _ (Ma.out.below C.out) (Mb.out.below C.out))
      obtain ⟨za0, za1, za2⟩ := Ta.out.below C.out
      obtain ⟨zb0, zb1, zb2⟩ := Tb.out.below C.out
      go_wp2_with fail
      refine HX.out.mono ?_
      intro e u5 h
      obtain ⟨sa, sn, sk, rfl, hm, hb⟩ := h.any
      clear h
      rw [HS.out] at hm ⊢
      replace C := hide (below_next C.out hb)
      clear HX hb za0 za1 za2 zb0 zb1 zb2
      have MM := hide (hm.below (below_one u5 (.cells #[.int .i64 S.rows, .int .i64 S.cols, .slice sa sn sk] 24)))
      have D := below_next C.out (below_one u5 (.cells #[.int .i64 S.rows, .int .i64 S.cols, .slice sa sn sk] 24))
      replace Ta := hide (Ta.out.below D)
      replace Tb := hide (Tb.out.below D)
      replace Ma := hide (Ma.out.below D)
      replace Mb := hide (Mb.out.below D)
      replace HH := hide (HH.out.below D)
      replace WW := hide (below_next WW.out D)
      replace C := hide (Below.refl (u5.alloc (.cells #[.int .i64 S.rows, .int .i64 S.cols, .slice sa sn sk] 24)).heap.size (u5.alloc (.cells #[.int .i64 S.rows, .int .i64 S.cols, .slice sa sn sk] 24)))
      clear D
      have Ts := hide (three_new u5 S.rows S.cols (.slice sa sn sk) 24)
      have Ms := MM
      clear MM hm
      have HX := hide (mmul_any _ _ m0 m1 _ (Ma.out.below C.out) (Mb.out.below C.out))
      obtain ⟨za0, za1, za2⟩ := Ta.out.below C.out
      obtain ⟨zb0, zb1, zb2⟩ := Tb.out.below C.out
      obtain ⟨zs0, zs1, zs2⟩ := Ts.out.below C.out
      go_wp2_with fail
      refine HX.out.mono ?_
      intro e u6 h
      obtain ⟨pa, pn, pk, rfl, hm, hb⟩ := h.any
      clear h
      rw [HP.out] at hm ⊢
      replace C := hide (below_next C.out hb)
      clear HX hb za0 za1 za2 zb0 zb1 zb2 zs0 zs1 zs2
      have MM := hide (hm.below (below_one u6 (.cells #[.int .i64 P.rows, .int .i64 P.cols, .slice pa pn pk] 24)))
      have D := below_next C.out (below_one u6 (.cells #[.int .i64 P.rows, .int .i64 P.cols, .slice pa pn pk] 24))
      replace Ta := hide (Ta.out.below D)
      replace Tb := hide (Tb.out.below D)
      replace Ts := hide (Ts.out.below D)
      replace Ma := hide (Ma.out.below D)
      replace Mb := hide (Mb.out.below D)
      replace Ms := hide (Ms.out.below D)
      replace HH := hide (HH.out.below D)
      replace WW := hide (below_next WW.out D)
      replace C := hide (Below.refl (u6.alloc (.cells #[.int .i64 P.rows, .int .i64 P.cols, .slice pa pn pk] 24)).heap.size (u6.alloc (.cells #[.int .i64 P.rows, .int .i64 P.cols, .slice pa pn pk] 24)))
      clear D
      have Tp := hide (three_new u6 P.rows P.cols (.slice pa pn pk) 24)
      have Mp := MM
      clear MM hm
      have HX := hide (error_same (k := addE m0 m1) (n := k) HEA.out _ (HH.out.below C.out))
      obtain ⟨za0, za1, za2⟩ := Ta.out.below C.out
      obtain ⟨zb0, zb1, zb2⟩ := Tb.out.below C.out
      obtain ⟨zs0, zs1, zs2⟩ := Ts.out.below C.out
      obtain ⟨zp0, zp1, zp2⟩ := Tp.out.below C.out
      go_wp2_with fail
      refine HX.out.mono ?_
      rintro e u7 ⟨rfl, hb⟩
      replace C := hide (below_next C.out hb)
      clear HX hb za0 za1 za2 zb0 zb1 zb2 zs0 zs1 zs2 zp0 zp1 zp2
      have HX := hide (error_same (k := mulE m0 m1) (n := k) HFM.out _ (HH.out.below C.out))
      obtain ⟨za0, za1, za2⟩ := Ta.out.below C.out
      obtain ⟨zb0, zb1, zb2⟩ := Tb.out.below C.out
      obtain ⟨zs0, zs1, zs2⟩ := Ts.out.below C.out
      obtain ⟨zp0, zp1, zp2⟩ := Tp.out.below C.out
      go_wp2_with fail
      refine HX.out.mono ?_
      rintro e u8 ⟨rfl, hb⟩
      replace C := hide (below_next C.out hb)
      clear HX hb za0 za1 za2 zb0 zb1 zb2 zs0 zs1 zs2 zp0 zp1 zp2
      have LB : Hid (_ ≤ u8.heap.size) := hide C.out.size
      have Uw := hide (Mut.new u8 0 0 (.slice none 0 0) 24)
      replace C := hide (below_next C.out (below_one u8 (.cells #[.int .i64 0, .int .i64 0, .slice none 0 0] 24)))
      have HX := hide (matrices_any _ _ S noMx _ (Ms.out.below C.out) (isMx_no _))
      obtain ⟨za0, za1, za2⟩ := Ta.out.below C.out
      obtain ⟨zb0, zb1, zb2⟩ := Tb.out.below C.out
      obtain ⟨zs0, zs1, zs2⟩ := Ts.out.below C.out
      obtain ⟨zp0, zp1, zp2⟩ := Tp.out.below C.out
      obtain ⟨zw0, zw1, zw2⟩ := Uw.out.t
      have zw3 := Uw.out.f 0
      have zw4 := Uw.out.f 1
      have zw5 := Uw.out.f 2
      go_wp2_with fail
      refine HX.out.mono ?_
      rintro e u9 ⟨rfl, hb⟩
      rw [show sameM S noMx = true by rw [HNA.out]; exact sameM_refl _]
      replace C := hide (below_next C.out hb)
      replace Uw := hide (Uw.out.below hb)
      clear HX hb za0 za1 za2 zb0 zb1 zb2 zs0 zs1 zs2 zp0 zp1 zp2 zw0 zw1 zw2 zw3 zw4 zw5
      obtain ⟨y00, y01, y02⟩ := Uw.out.t
      have y03 := Uw.out.f 0
      have y04 := Uw.out.f 1
      have y05 := Uw.out.f 2
      replace C := hide (below_set3 C.out LB.out (.int .i64 0) (.int .i64 0) (.slice none 0 0))
      replace Uw := hide (Uw.out.set 0 0 (.slice none 0 0))
      have HX := hide (matrices_any _ _ P noMx _ (Mp.out.below C.out) (isMx_no _))
      obtain ⟨za0, za1, za2⟩ := Ta.out.below C.out
      obtain ⟨zb0, zb1, zb2⟩ := Tb.out.below C.out
      obtain ⟨zs0, zs1, zs2⟩ := Ts.out.below C.out
      obtain ⟨zp0, zp1, zp2⟩ := Tp.out.below C.out
      obtain ⟨zw0, zw1, zw2⟩ := Uw.out.t
      have zw3 := Uw.out.f 0
      have zw4 := Uw.out.f 1
      have zw5 := Uw.out.f 2
      go_wp2_with fail
      refine HX.out.mono ?_
      rintro e u10 ⟨rfl, hb⟩
      rw [show sameM P noMx = true by rw [HNM.out]; exact sameM_refl _]
      replace C := hide (below_next C.out hb)
      replace Uw := hide (Uw.out.below hb)
      clear HX hb za0 za1 za2 zb0 zb1 zb2 zs0 zs1 zs2 zp0 zp1 zp2 zw0 zw1 zw2 zw3 zw4 zw5 y00 y01 y02 y03 y04 y05
      obtain ⟨za0, za1, za2⟩ := Ta.out.below C.out
      obtain ⟨zb0, zb1, zb2⟩ := Tb.out.below C.out
      obtain ⟨zs0, zs1, zs2⟩ := Ts.out.below C.out
      obtain ⟨zp0, zp1, zp2⟩ := Tp.out.below C.out
      obtain ⟨zw0, zw1, zw2⟩ := Uw.out.t
      have zw3 := Uw.out.f 0
      have zw4 := Uw.out.f 1
      have zw5 := Uw.out.f 2
      go_wp2
      go_ret
      exact ⟨rfl, below_next WW.out C.out⟩
  · obtain ⟨k, hk⟩ : ∃ k, fault m0 = k := ⟨_, rfl⟩
    have hk0 : ¬ k = 0 := by rw [← hk]; exact hA
    have HF := hide (faults_first (b := m1) hk hk0)
    rw [hk]
    clear hA hk
    have HEA := hide (addE_k HF.out hk0)
    have HFM := hide (mulE_k HF.out hk0)
    have HK := hide hk0
    have HNA := hide (show S = noMx by rw [← HS.out]; exact addX_no (by rw [HEA.out]; exact HK.out))
    have HNM := hide (show P = noMx by rw [← HP.out]; exact mulX_no (by rw [HFM.out]; exact HK.out))
    clear HK
    have HX := hide (madd_any _ _ m0 m1 _ (Ma.out.below C.out) (Mb.out.below C.out))
    obtain ⟨za0, za1, za2⟩ := Ta.out.below C.out
    obtain ⟨zb0, zb1, zb2⟩ := Tb.out.below C.out
    go_wp2_with fail
    refine HX.out.mono ?_
    intro e u4 h
    obtain ⟨sa, sn, sk, rfl, hm, hb⟩ := h.any
    clear h
    rw [HS.out] at hm ⊢
    replace C := hide (below_next C.out hb)
    clear HX hb za0 za1 za2 zb0 zb1 zb2
    have MM := hide (hm.below (below_one u4 (.cells #[.int .i64 S.rows, .int .i64 S.cols, .slice sa sn sk] 24)))
    have D := below_next C.out (below_one u4 (.cells #[.int .i64 S.rows, .int .i64 S.cols, .slice sa sn sk] 24))
    replace Ta := hide (Ta.out.below D)
    replace Tb := hide (Tb.out.below D)
    replace Ma := hide (Ma.out.below D)
    replace Mb := hide (Mb.out.below D)
    replace HH := hide (HH.out.below D)
    replace WW := hide (below_next WW.out D)
    replace C := hide (Below.refl (u4.alloc (.cells #[.int .i64 S.rows, .int .i64 S.cols, .slice sa sn sk] 24)).heap.size (u4.alloc (.cells #[.int .i64 S.rows, .int .i64 S.cols, .slice sa sn sk] 24)))
    clear D
    have Ts := hide (three_new u4 S.rows S.cols (.slice sa sn sk) 24)
    have Ms := MM
    clear MM hm
    have HX := hide (mmul_any _ _ m0 m1 _ (Ma.out.below C.out) (Mb.out.below C.out))
    obtain ⟨za0, za1, za2⟩ := Ta.out.below C.out
    obtain ⟨zb0, zb1, zb2⟩ := Tb.out.below C.out
    obtain ⟨zs0, zs1, zs2⟩ := Ts.out.below C.out
    go_wp2_with fail
    refine HX.out.mono ?_
    intro e u5 h
    obtain ⟨pa, pn, pk, rfl, hm, hb⟩ := h.any
    clear h
    rw [HP.out] at hm ⊢
    replace C := hide (below_next C.out hb)
    clear HX hb za0 za1 za2 zb0 zb1 zb2 zs0 zs1 zs2
    have MM := hide (hm.below (below_one u5 (.cells #[.int .i64 P.rows, .int .i64 P.cols, .slice pa pn pk] 24)))
    have D := below_next C.out (below_one u5 (.cells #[.int .i64 P.rows, .int .i64 P.cols, .slice pa pn pk] 24))
    replace Ta := hide (Ta.out.below D)
    replace Tb := hide (Tb.out.below D)
    replace Ts := hide (Ts.out.below D)
    replace Ma := hide (Ma.out.below D)
    replace Mb := hide (Mb.out.below D)
    replace Ms := hide (Ms.out.below D)
    replace HH := hide (HH.out.below D)
    replace WW := hide (below_next WW.out D)
    replace C := hide (Below.refl (u5.alloc (.cells #[.int .i64 P.rows, .int .i64 P.cols, .slice pa pn pk] 24)).heap.size (u5.alloc (.cells #[.int .i64 P.rows, .int .i64 P.cols, .slice pa pn pk] 24)))
    clear D
    have Tp := hide (three_new u5 P.rows P.cols (.slice pa pn pk) 24)
    have Mp := MM
    clear MM hm
    have HX := hide (error_same (k := addE m0 m1) (n := k) HEA.out _ (HH.out.below C.out))
    obtain ⟨za0, za1, za2⟩ := Ta.out.below C.out
    obtain ⟨zb0, zb1, zb2⟩ := Tb.out.below C.out
    obtain ⟨zs0, zs1, zs2⟩ := Ts.out.below C.out
    obtain ⟨zp0, zp1, zp2⟩ := Tp.out.below C.out
    go_wp2_with fail
    refine HX.out.mono ?_
    rintro e u6 ⟨rfl, hb⟩
    replace C := hide (below_next C.out hb)
    clear HX hb za0 za1 za2 zb0 zb1 zb2 zs0 zs1 zs2 zp0 zp1 zp2
    have HX := hide (error_same (k := mulE m0 m1) (n := k) HFM.out _ (HH.out.below C.out))
    obtain ⟨za0, za1, za2⟩ := Ta.out.below C.out
    obtain ⟨zb0, zb1, zb2⟩ := Tb.out.below C.out
    obtain ⟨zs0, zs1, zs2⟩ := Ts.out.below C.out
    obtain ⟨zp0, zp1, zp2⟩ := Tp.out.below C.out
    go_wp2_with fail
    refine HX.out.mono ?_
    rintro e u7 ⟨rfl, hb⟩
    replace C := hide (below_next C.out hb)
    clear HX hb za0 za1 za2 zb0 zb1 zb2 zs0 zs1 zs2 zp0 zp1 zp2
    have LB : Hid (_ ≤ u7.heap.size) := hide C.out.size
    have Uw := hide (Mut.new u7 0 0 (.slice none 0 0) 24)
    replace C := hide (below_next C.out (below_one u7 (.cells #[.int .i64 0, .int .i64 0, .slice none 0 0] 24)))
    have HX := hide (matrices_any _ _ S noMx _ (Ms.out.below C.out) (isMx_no _))
    obtain ⟨za0, za1, za2⟩ := Ta.out.below C.out
    obtain ⟨zb0, zb1, zb2⟩ := Tb.out.below C.out
    obtain ⟨zs0, zs1, zs2⟩ := Ts.out.below C.out
    obtain ⟨zp0, zp1, zp2⟩ := Tp.out.below C.out
    obtain ⟨zw0, zw1, zw2⟩ := Uw.out.t
    have zw3 := Uw.out.f 0
    have zw4 := Uw.out.f 1
    have zw5 := Uw.out.f 2
    go_wp2_with fail
    refine HX.out.mono ?_
    rintro e u8 ⟨rfl, hb⟩
    rw [show sameM S noMx = true by rw [HNA.out]; exact sameM_refl _]
    replace C := hide (below_next C.out hb)
    replace Uw := hide (Uw.out.below hb)
    clear HX hb za0 za1 za2 zb0 zb1 zb2 zs0 zs1 zs2 zp0 zp1 zp2 zw0 zw1 zw2 zw3 zw4 zw5
    obtain ⟨y00, y01, y02⟩ := Uw.out.t
    have y03 := Uw.out.f 0
    have y04 := Uw.out.f 1
    have y05 := Uw.out.f 2
    replace C := hide (below_set3 C.out LB.out (.int .i64 0) (.int .i64 0) (.slice none 0 0))
    replace Uw := hide (Uw.out.set 0 0 (.slice none 0 0))
    have HX := hide (matrices_any _ _ P noMx _ (Mp.out.below C.out) (isMx_no _))
    obtain ⟨za0, za1, za2⟩ := Ta.out.below C.out
    obtain ⟨zb0, zb1, zb2⟩ := Tb.out.below C.out
    obtain ⟨zs0, zs1, zs2⟩ := Ts.out.below C.out
    obtain ⟨zp0, zp1, zp2⟩ := Tp.out.below C.out
    obtain ⟨zw0, zw1, zw2⟩ := Uw.out.t
    have zw3 := Uw.out.f 0
    have zw4 := Uw.out.f 1
    have zw5 := Uw.out.f 2
    go_wp2_with fail
    refine HX.out.mono ?_
    rintro e u9 ⟨rfl, hb⟩
    rw [show sameM P noMx = true by rw [HNM.out]; exact sameM_refl _]
    replace C := hide (below_next C.out hb)
    replace Uw := hide (Uw.out.below hb)
    clear HX hb za0 za1 za2 zb0 zb1 zb2 zs0 zs1 zs2 zp0 zp1 zp2 zw0 zw1 zw2 zw3 zw4 zw5 y00 y01 y02 y03 y04 y05
    obtain ⟨za0, za1, za2⟩ := Ta.out.below C.out
    obtain ⟨zb0, zb1, zb2⟩ := Tb.out.below C.out
    obtain ⟨zs0, zs1, zs2⟩ := Ts.out.below C.out
    obtain ⟨zp0, zp1, zp2⟩ := Tp.out.below C.out
    obtain ⟨zw0, zw1, zw2⟩ := Uw.out.t
    have zw3 := Uw.out.f 0
    have zw4 := Uw.out.f 1
    have zw5 := Uw.out.f 2
    go_wp2
    go_ret
    exact ⟨rfl, below_next WW.out C.out⟩
end Go.Proofs.YtpgmbpgclnhkgabDoor
