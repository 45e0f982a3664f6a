/- The walk of the law MatParts: Turn, Times, Sums and Rows of package mat answer what the document's answer does. Condition: the library's variable errors.errorType is as its text lays it. -/
import Derived.Test.YtpgmbpgclnhkgabDoorErr
import Derived.Test.YtpgmbpgclnhkgabDoorThree
import Derived.Test.YtpgmbpgclnhkgabDoorRX
namespace Go.Proofs.YtpgmbpgclnhkgabDoor
open Go.RowKit
set_option maxHeartbeats 40000000 in
set_option maxRecDepth 100000 in
theorem parts_walk (v0 : Value) (m0 : Mx) (x f t : Int) (w : World) (h0 : IsMx w v0 m0) (hH : Handle w) : Calls Tryd.prog 4 #[v0, .int .i64 x, .int .i64 f, .int .i64 t] w fun e w' => e = .returned (.bool true) ∧ Below w.heap.size w w' := by
  obtain ⟨s0, rfl, hs0⟩ := h0
  obtain ⟨xa, xn, xk, rfl⟩ := hs0.shape
  obtain ⟨r, er⟩ : ∃ r, m0.rows = r := ⟨_, rfl⟩
  obtain ⟨c, ec⟩ : ∃ c, m0.cols = c := ⟨_, rfl⟩
  have Ma := hide (show IsMx w (.agg #[.int .i64 r, .int .i64 c, .slice xa xn xk]) m0 from ⟨_, by rw [er, ec], hs0⟩)
  have HQ := hide (And.intro er ec)
  rw [er, ec]
  have HH := hide hH
  have WW := hide (Below.refl w.heap.size w)
  have C := hide (Below.refl w.heap.size w)
  obtain ⟨PT, hPT⟩ : ∃ P, turnX m0 = P := ⟨_, rfl⟩
  obtain ⟨PU, hPU⟩ : ∃ P, timesX m0 x = P := ⟨_, rfl⟩
  obtain ⟨PV, hPV⟩ : ∃ P, sumsX m0 = P := ⟨_, rfl⟩
  obtain ⟨PR, hPR⟩ : ∃ P, rowsX m0 f t = P := ⟨_, rfl⟩
  have HPT := hide hPT
  have HPU := hide hPU
  have HPV := hide hPV
  have HPR := hide hPR
  clear hs0 er ec hH hPT hPU hPV hPR
  have D := below_next C.out (below_one w (.cells #[.int .i64 r, .int .i64 c, .slice xa xn xk] 24))
  replace Ma := hide (Ma.out.below D)
  replace HH := hide (HH.out.below D)
  replace WW := hide (below_next WW.out D)
  replace C := hide (Below.refl (w.alloc (.cells #[.int .i64 r, .int .i64 c, .slice xa xn xk] 24)).heap.size (w.alloc (.cells #[.int .i64 r, .int .i64 c, .slice xa xn xk] 24)))
  clear D
  have Ta := hide (three_newB w r c (.slice xa xn xk) 24 (B := w.heap.size) (by simp))
  go_enter Tryd.func4, Tryd.ntmps4
  have HX := hide (fault_any _ m0 _ (Ma.out.below C.out))
  obtain ⟨za0, za1, za2⟩ := Ta.out.below C.out
  go_wp2_with fail
  refine HX.out.mono ?_
  rintro e u1 ⟨rfl, hb⟩
  replace C := hide (below_next C.out hb)
  clear HX hb za0 za1 za2
  by_cases hA : fault m0 = 0
  · have HA := hide hA
    rw [hA]
    clear hA
    have HX := hide (mturn_any _ m0 _ (Ma.out.below C.out))
    obtain ⟨za0, za1, za2⟩ := Ta.out.below C.out
    go_wp2_with fail
    refine HX.out.mono ?_
    intro e u2 h
    obtain ⟨ta, tn, tk, rfl, hm, hb⟩ := h.any
    clear h
    rw [HPT.out] at hm ⊢
    replace C := hide (below_next C.out hb)
    clear HX hb za0 za1 za2
    have MM := hide (hm.below (below_one u2 (.cells #[.int .i64 PT.rows, .int .i64 PT.cols, .slice ta tn tk] 24)))
    have D := below_next C.out (below_one u2 (.cells #[.int .i64 PT.rows, .int .i64 PT.cols, .slice ta tn tk] 24))
    replace Ta := hide (Ta.out.below D)
    replace Ma := hide (Ma.out.below D)
    replace HH := hide (HH.out.below D)
    replace WW := hide (below_next WW.out D)
    replace C := hide (Below.refl (u2.alloc (.cells #[.int .i64 PT.rows, .int .i64 PT.cols, .slice ta tn tk] 24)).heap.size (u2.alloc (.cells #[.int .i64 PT.rows, .int .i64 PT.cols, .slice ta tn tk] 24)))
    clear D
    have Tt := hide (three_newB u2 PT.rows PT.cols (.slice ta tn tk) 24 (B := u2.heap.size) (by simp))
    have Mt := MM
    clear MM hm
    have HX := hide (mtimes_any _ m0 x _ (Ma.out.below C.out))
    obtain ⟨za0, za1, za2⟩ := Ta.out.below C.out
    obtain ⟨zt0, zt1, zt2⟩ := Tt.out.below C.out
    go_wp2_with fail
    refine HX.out.mono ?_
    intro e u3 h
    obtain ⟨ua, un, uk, rfl, hm, hb⟩ := h.good (timesE_zero HA.out)
    clear h
    rw [HPU.out] at hm ⊢
    replace C := hide (below_next C.out hb)
    clear HX hb za0 za1 za2 zt0 zt1 zt2
    have MM := hide (hm.below (below_one u3 (.cells #[.int .i64 PU.rows, .int .i64 PU.cols, .slice ua un uk] 24)))
    have D := below_next C.out (below_one u3 (.cells #[.int .i64 PU.rows, .int .i64 PU.cols, .slice ua un uk] 24))
    replace Ta := hide (Ta.out.below D)
    replace Tt := hide (Tt.out.below D)
    replace Ma := hide (Ma.out.below D)
    replace Mt := hide (Mt.out.below D)
    replace HH := hide (HH.out.below D)
    replace WW := hide (below_next WW.out D)
    replace C := hide (Below.refl (u3.alloc (.cells #[.int .i64 PU.rows, .int .i64 PU.cols, .slice ua un uk] 24)).heap.size (u3.alloc (.cells #[.int .i64 PU.rows, .int .i64 PU.cols, .slice ua un uk] 24)))
    clear D
    have Tu := hide (three_newB u3 PU.rows PU.cols (.slice ua un uk) 24 (B := u3.heap.size) (by simp))
    have Mu := MM
    clear MM hm
    have HX := hide (msums_any _ m0 _ (Ma.out.below C.out))
    obtain ⟨za0, za1, za2⟩ := Ta.out.below C.out
    obtain ⟨zt0, zt1, zt2⟩ := Tt.out.below C.out
    obtain ⟨zu0, zu1, zu2⟩ := Tu.out.below C.out
    go_wp2_with fail
    refine HX.out.mono ?_
    intro e u4 h
    obtain ⟨va, vn, vk, rfl, hm, hb⟩ := h.good (timesE_zero HA.out)
    clear h
    rw [HPV.out] at hm ⊢
    replace C := hide (below_next C.out hb)
    clear HX hb za0 za1 za2 zt0 zt1 zt2 zu0 zu1 zu2
    have MM := hide (hm.below (below_one u4 (.cells #[.int .i64 PV.rows, .int .i64 PV.cols, .slice va vn vk] 24)))
    have D := below_next C.out (below_one u4 (.cells #[.int .i64 PV.rows, .int .i64 PV.cols, .slice va vn vk] 24))
    replace Ta := hide (Ta.out.below D)
    replace Tt := hide (Tt.out.below D)
    replace Tu := hide (Tu.out.below D)
    replace Ma := hide (Ma.out.below D)
    replace Mt := hide (Mt.out.below D)
    replace Mu := hide (Mu.out.below D)
    replace HH := hide (HH.out.below D)
    replace WW := hide (below_next WW.out D)
    replace C := hide (Below.refl (u4.alloc (.cells #[.int .i64 PV.rows, .int .i64 PV.cols, .slice va vn vk] 24)).heap.size (u4.alloc (.cells #[.int .i64 PV.rows, .int .i64 PV.cols, .slice va vn vk] 24)))
    clear D
    have Tv := hide (three_newB u4 PV.rows PV.cols (.slice va vn vk) 24 (B := u4.heap.size) (by simp))
    have Mv := MM
    clear MM hm
    by_cases hB : 0 ≤ f ∧ f ≤ t ∧ t ≤ r
    · have HB := hide hB
      obtain ⟨hb1, hb2, hb3⟩ := hB
      have HRE := hide (show rowsE m0 f t = 0 by unfold rowsE; rw [if_neg (by simp [HA.out]), if_neg (by rw [HQ.out.1]; omega)])
      have HX := hide (mrows_any _ m0 f t _ (Ma.out.below C.out))
      obtain ⟨za0, za1, za2⟩ := Ta.out.below C.out
      obtain ⟨zt0, zt1, zt2⟩ := Tt.out.below C.out
      obtain ⟨zu0, zu1, zu2⟩ := Tu.out.below C.out
      obtain ⟨zv0, zv1, zv2⟩ := Tv.out.below C.out
      go_wp2_with fail
      refine HX.out.mono ?_
      intro e u5 h
      obtain ⟨ra, rn, rk, rfl, hm, hb⟩ := h.good HRE.out
      clear h
      rw [HPR.out] at hm ⊢
      replace C := hide (below_next C.out hb)
      clear HX hb za0 za1 za2 zt0 zt1 zt2 zu0 zu1 zu2 zv0 zv1 zv2
      have MM := hide (hm.below (below_one u5 (.cells #[.int .i64 PR.rows, .int .i64 PR.cols, .slice ra rn rk] 24)))
      have D := below_next C.out (below_one u5 (.cells #[.int .i64 PR.rows, .int .i64 PR.cols, .slice ra rn rk] 24))
      replace Ta := hide (Ta.out.below D)
      replace Tt := hide (Tt.out.below D)
      replace Tu := hide (Tu.out.below D)
      replace Tv := hide (Tv.out.below D)
      replace Ma := hide (Ma.out.below D)
      replace Mt := hide (Mt.out.below D)
      replace Mu := hide (Mu.out.below D)
      replace Mv := hide (Mv.out.below D)
      replace HH := hide (HH.out.below D)
      replace WW := hide (below_next WW.out D)
      replace C := hide (Below.refl (u5.alloc (.cells #[.int .i64 PR.rows, .int .i64 PR.cols, .slice ra rn rk] 24)).heap.size (u5.alloc (.cells #[.int .i64 PR.rows, .int .i64 PR.cols, .slice ra rn rk] 24)))
      clear D
      have Tr := hide (three_newB u5 PR.rows PR.cols (.slice ra rn rk) 24 (B := u5.heap.size) (by simp))
      have Mr := MM
      clear MM hm
      have D := below_next C.out (below_one (u5.alloc (.cells #[.int .i64 PR.rows, .int .i64 PR.cols, .slice ra rn rk] 24)) (.cells #[.int .i64 0, .int .i64 0, .slice none 0 0] 24))
      replace Ta := hide (Ta.out.below D)
      replace Tt := hide (Tt.out.below D)
      replace Tu := hide (Tu.out.below D)
      replace Tv := hide (Tv.out.below D)
      replace Tr := hide (Tr.out.below D)
      replace Ma := hide (Ma.out.below D)
      replace Mt := hide (Mt.out.below D)
      replace Mu := hide (Mu.out.below D)
      replace Mv := hide (Mv.out.below D)
      replace Mr := hide (Mr.out.below D)
      replace HH := hide (HH.out.below D)
      replace WW := hide (below_next WW.out D)
      replace C := hide (Below.refl ((u5.alloc (.cells #[.int .i64 PR.rows, .int .i64 PR.cols, .slice ra rn rk] 24)).alloc (.cells #[.int .i64 0, .int .i64 0, .slice none 0 0] 24)).heap.size ((u5.alloc (.cells #[.int .i64 PR.rows, .int .i64 PR.cols, .slice ra rn rk] 24)).alloc (.cells #[.int .i64 0, .int .i64 0, .slice none 0 0] 24)))
      clear D
      have To := hide (three_newB (u5.alloc (.cells #[.int .i64 PR.rows, .int .i64 PR.cols, .slice ra rn rk] 24)) 0 0 (.slice none 0 0) 24 (B := u5.heap.size + 1) (by simp))
      have LB : Hid (_ ≤ u5.heap.size + 1 + 1) := hide (Nat.le_trans C.out.size (Nat.le_of_eq (by simp)))
      have Uw := hide (Mut.newB ((u5.alloc (.cells #[.int .i64 PR.rows, .int .i64 PR.cols, .slice ra rn rk] 24)).alloc (.cells #[.int .i64 0, .int .i64 0, .slice none 0 0] 24)) 0 0 (.slice none 0 0) 24 (B := u5.heap.size + 1 + 1) (by simp))
      replace C := hide (below_next C.out (below_one ((u5.alloc (.cells #[.int .i64 PR.rows, .int .i64 PR.cols, .slice ra rn rk] 24)).alloc (.cells #[.int .i64 0, .int .i64 0, .slice none 0 0] 24)) (.cells #[.int .i64 0, .int .i64 0, .slice none 0 0] 24)))
      by_cases hr : 12 < r
      · have HTE := hide (show turnE m0 = 1 by unfold turnE; rw [if_neg (by simp [HA.out]), if_pos (by rw [HQ.out.1]; exact hr)])
        have HNT := hide (show PT = noMx by rw [← HPT.out]; exact turnX_no (by rw [HTE.out]; decide))
        have HX := hide (error_same (k := turnE m0) (n := 1) HTE.out _ (HH.out.below C.out))
        obtain ⟨za0, za1, za2⟩ := Ta.out.below C.out
        obtain ⟨zt0, zt1, zt2⟩ := Tt.out.below C.out
        obtain ⟨zu0, zu1, zu2⟩ := Tu.out.below C.out
        obtain ⟨zv0, zv1, zv2⟩ := Tv.out.below C.out
        obtain ⟨zr0, zr1, zr2⟩ := Tr.out.below C.out
        obtain ⟨zo0, zo1, zo2⟩ := To.out.below C.out
        obtain ⟨zw0, zw1, zw2⟩ := Uw.out.t
        have zw3 := Uw.out.f 0
        have zw4 := Uw.out.f 1
        have zw5 := Uw.out.f 2
        go_wp2_with fail
        refine HX.out.mono ?_
        rintro e u6 ⟨rfl, hb⟩
        replace C := hide (below_next C.out hb)
        replace Uw := hide (Uw.out.below hb)
        clear HX hb za0 za1 za2 zt0 zt1 zt2 zu0 zu1 zu2 zv0 zv1 zv2 zr0 zr1 zr2 zo0 zo1 zo2 zw0 zw1 zw2 zw3 zw4 zw5
        have HX := hide (matrices_any _ _ PT noMx _ (Mt.out.below C.out) (isMx_no _))
        obtain ⟨za0, za1, za2⟩ := Ta.out.below C.out
        obtain ⟨zt0, zt1, zt2⟩ := Tt.out.below C.out
        obtain ⟨zu0, zu1, zu2⟩ := Tu.out.below C.out
        obtain ⟨zv0, zv1, zv2⟩ := Tv.out.below C.out
        obtain ⟨zr0, zr1, zr2⟩ := Tr.out.below C.out
        obtain ⟨zo0, zo1, zo2⟩ := To.out.below C.out
        obtain ⟨zw0, zw1, zw2⟩ := Uw.out.t
        have zw3 := Uw.out.f 0
        have zw4 := Uw.out.f 1
        have zw5 := Uw.out.f 2
        go_wp2_with fail
        refine HX.out.mono ?_
        rintro e u7 ⟨rfl, hb⟩
        rw [show sameM PT noMx = true by rw [HNT.out]; exact sameM_refl _]
        replace C := hide (below_next C.out hb)
        replace Uw := hide (Uw.out.below hb)
        clear HX hb za0 za1 za2 zt0 zt1 zt2 zu0 zu1 zu2 zv0 zv1 zv2 zr0 zr1 zr2 zo0 zo1 zo2 zw0 zw1 zw2 zw3 zw4 zw5
        have HX := hide (ref_times x _ (Ma.out.below C.out) HA.out)
        obtain ⟨za0, za1, za2⟩ := Ta.out.below C.out
        obtain ⟨zt0, zt1, zt2⟩ := Tt.out.below C.out
        obtain ⟨zu0, zu1, zu2⟩ := Tu.out.below C.out
        obtain ⟨zv0, zv1, zv2⟩ := Tv.out.below C.out
        obtain ⟨zr0, zr1, zr2⟩ := Tr.out.below C.out
        obtain ⟨zo0, zo1, zo2⟩ := To.out.below C.out
        obtain ⟨zw0, zw1, zw2⟩ := Uw.out.t
        have zw3 := Uw.out.f 0
        have zw4 := Uw.out.f 1
        have zw5 := Uw.out.f 2
        go_wp2_with fail
        refine HX.out.mono ?_
        rintro e u8 ⟨qa, qn, qk, rfl, hm, hb, hf⟩
        rw [HPU.out] at hm hf ⊢
        have LW := Uw.out.t.lt
        replace C := hide (below_next C.out hb)
        replace Uw := hide (Uw.out.below hb)
        clear HX hb za0 za1 za2 zt0 zt1 zt2 zu0 zu1 zu2 zv0 zv1 zv2 zr0 zr1 zr2 zo0 zo1 zo2 zw0 zw1 zw2 zw3 zw4 zw5
        have MW := hide (hm.set3 hf LW (.int .i64 PU.rows) (.int .i64 PU.cols) (.slice qa qn qk))
        clear hm hf LW
        obtain ⟨y00, y01, y02⟩ := Uw.out.t
        have y03 := Uw.out.f 0
        have y04 := Uw.out.f 1
        have y05 := Uw.out.f 2
        replace C := hide (below_set3 C.out LB.out (.int .i64 PU.rows) (.int .i64 PU.cols) (.slice qa qn qk))
        replace Uw := hide (Uw.out.set PU.rows PU.cols (.slice qa qn qk))
        have HX := hide (matrices_any _ _ PU PU _ (Mu.out.below C.out) MW.out)
        obtain ⟨za0, za1, za2⟩ := Ta.out.below C.out
        obtain ⟨zt0, zt1, zt2⟩ := Tt.out.below C.out
        obtain ⟨zu0, zu1, zu2⟩ := Tu.out.below C.out
        obtain ⟨zv0, zv1, zv2⟩ := Tv.out.below C.out
        obtain ⟨zr0, zr1, zr2⟩ := Tr.out.below C.out
        obtain ⟨zo0, zo1, zo2⟩ := To.out.below C.out
        obtain ⟨zw0, zw1, zw2⟩ := Uw.out.t
        have zw3 := Uw.out.f 0
        have zw4 := Uw.out.f 1
        have zw5 := Uw.out.f 2
        go_wp2_with fail
        refine HX.out.mono ?_
        rintro e u9 ⟨rfl, hb⟩
        rw [sameM_refl]
        clear MW
        replace C := hide (below_next C.out hb)
        replace Uw := hide (Uw.out.below hb)
        clear HX hb za0 za1 za2 zt0 zt1 zt2 zu0 zu1 zu2 zv0 zv1 zv2 zr0 zr1 zr2 zo0 zo1 zo2 zw0 zw1 zw2 zw3 zw4 zw5 y00 y01 y02 y03 y04 y05
        have HX := hide (ref_sums _ (Ma.out.below C.out) HA.out)
        obtain ⟨za0, za1, za2⟩ := Ta.out.below C.out
        obtain ⟨zt0, zt1, zt2⟩ := Tt.out.below C.out
        obtain ⟨zu0, zu1, zu2⟩ := Tu.out.below C.out
        obtain ⟨zv0, zv1, zv2⟩ := Tv.out.below C.out
        obtain ⟨zr0, zr1, zr2⟩ := Tr.out.below C.out
        obtain ⟨zo0, zo1, zo2⟩ := To.out.below C.out
        obtain ⟨zw0, zw1, zw2⟩ := Uw.out.t
        have zw3 := Uw.out.f 0
        have zw4 := Uw.out.f 1
        have zw5 := Uw.out.f 2
        go_wp2_with fail
        refine HX.out.mono ?_
        rintro e u10 ⟨qa, qn, qk, rfl, hm, hb, hf⟩
        rw [HPV.out] at hm hf ⊢
        have LW := Uw.out.t.lt
        replace C := hide (below_next C.out hb)
        replace Uw := hide (Uw.out.below hb)
        clear HX hb za0 za1 za2 zt0 zt1 zt2 zu0 zu1 zu2 zv0 zv1 zv2 zr0 zr1 zr2 zo0 zo1 zo2 zw0 zw1 zw2 zw3 zw4 zw5
        have MW := hide (hm.set3 hf LW (.int .i64 PV.rows) (.int .i64 PV.cols) (.slice qa qn qk))
        clear hm hf LW
        obtain ⟨y00, y01, y02⟩ := Uw.out.t
        have y03 := Uw.out.f 0
        have y04 := Uw.out.f 1
        have y05 := Uw.out.f 2
        replace C := hide (below_set3 C.out LB.out (.int .i64 PV.rows) (.int .i64 PV.cols) (.slice qa qn qk))
        replace Uw := hide (Uw.out.set PV.rows PV.cols (.slice qa qn qk))
        have HX := hide (matrices_any _ _ PV PV _ (Mv.out.below C.out) MW.out)
        obtain ⟨za0, za1, za2⟩ := Ta.out.below C.out
        obtain ⟨zt0, zt1, zt2⟩ := Tt.out.below C.out
        obtain ⟨zu0, zu1, zu2⟩ := Tu.out.below C.out
        obtain ⟨zv0, zv1, zv2⟩ := Tv.out.below C.out
        obtain ⟨zr0, zr1, zr2⟩ := Tr.out.below C.out
        obtain ⟨zo0, zo1, zo2⟩ := To.out.below C.out
        obtain ⟨zw0, zw1, zw2⟩ := Uw.out.t
        have zw3 := Uw.out.f 0
        have zw4 := Uw.out.f 1
        have zw5 := Uw.out.f 2
        go_wp2_with fail
        refine HX.out.mono ?_
        rintro e u11 ⟨rfl, hb⟩
        rw [sameM_refl]
        clear MW
        replace C := hide (below_next C.out hb)
        replace Uw := hide (Uw.out.below hb)
        clear HX hb za0 za1 za2 zt0 zt1 zt2 zu0 zu1 zu2 zv0 zv1 zv2 zr0 zr1 zr2 zo0 zo1 zo2 zw0 zw1 zw2 zw3 zw4 zw5 y00 y01 y02 y03 y04 y05
        have HX := hide (ref_rows f t _ (Ma.out.below C.out) HRE.out HA.out HB.out.1 HB.out.2.1 (by rw [HQ.out.1]; exact HB.out.2.2))
        obtain ⟨za0, za1, za2⟩ := Ta.out.below C.out
        obtain ⟨zt0, zt1, zt2⟩ := Tt.out.below C.out
        obtain ⟨zu0, zu1, zu2⟩ := Tu.out.below C.out
        obtain ⟨zv0, zv1, zv2⟩ := Tv.out.below C.out
        obtain ⟨zr0, zr1, zr2⟩ := Tr.out.below C.out
        obtain ⟨zo0, zo1, zo2⟩ := To.out.below C.out
        obtain ⟨zw0, zw1, zw2⟩ := Uw.out.t
        have zw3 := Uw.out.f 0
        have zw4 := Uw.out.f 1
        have zw5 := Uw.out.f 2
        go_wp2_with fail
        refine HX.out.mono ?_
        rintro e u12 ⟨qa, qn, qk, rfl, hm, hb, hf⟩
        rw [HPR.out] at hm hf ⊢
        have LW := Uw.out.t.lt
        replace C := hide (below_next C.out hb)
        replace Uw := hide (Uw.out.below hb)
        clear HX hb za0 za1 za2 zt0 zt1 zt2 zu0 zu1 zu2 zv0 zv1 zv2 zr0 zr1 zr2 zo0 zo1 zo2 zw0 zw1 zw2 zw3 zw4 zw5
        have MW := hide (hm.set3 hf LW (.int .i64 PR.rows) (.int .i64 PR.cols) (.slice qa qn qk))
        clear hm hf LW
        obtain ⟨y00, y01, y02⟩ := Uw.out.t
        have y03 := Uw.out.f 0
        have y04 := Uw.out.f 1
        have y05 := Uw.out.f 2
        replace C := hide (below_set3 C.out LB.out (.int .i64 PR.rows) (.int .i64 PR.cols) (.slice qa qn qk))
        replace Uw := hide (Uw.out.set PR.rows PR.cols (.slice qa qn qk))
        have HX := hide (matrices_any _ _ PR PR _ (Mr.out.below C.out) MW.out)
        obtain ⟨za0, za1, za2⟩ := Ta.out.below C.out
        obtain ⟨zt0, zt1, zt2⟩ := Tt.out.below C.out
        obtain ⟨zu0, zu1, zu2⟩ := Tu.out.below C.out
        obtain ⟨zv0, zv1, zv2⟩ := Tv.out.below C.out
        obtain ⟨zr0, zr1, zr2⟩ := Tr.out.below C.out
        obtain ⟨zo0, zo1, zo2⟩ := To.out.below C.out
        obtain ⟨zw0, zw1, zw2⟩ := Uw.out.t
        have zw3 := Uw.out.f 0
        have zw4 := Uw.out.f 1
        have zw5 := Uw.out.f 2
        go_wp2_with fail
        refine HX.out.mono ?_
        rintro e u13 ⟨rfl, hb⟩
        rw [sameM_refl]
        clear MW
        replace C := hide (below_next C.out hb)
        replace Uw := hide (Uw.out.below hb)
        clear HX hb za0 za1 za2 zt0 zt1 zt2 zu0 zu1 zu2 zv0 zv1 zv2 zr0 zr1 zr2 zo0 zo1 zo2 zw0 zw1 zw2 zw3 zw4 zw5 y00 y01 y02 y03 y04 y05
        obtain ⟨za0, za1, za2⟩ := Ta.out.below C.out
        obtain ⟨zt0, zt1, zt2⟩ := Tt.out.below C.out
        obtain ⟨zu0, zu1, zu2⟩ := Tu.out.below C.out
        obtain ⟨zv0, zv1, zv2⟩ := Tv.out.below C.out
        obtain ⟨zr0, zr1, zr2⟩ := Tr.out.below C.out
        obtain ⟨zo0, zo1, zo2⟩ := To.out.below C.out
        obtain ⟨zw0, zw1, zw2⟩ := Uw.out.t
        have zw3 := Uw.out.f 0
        have zw4 := Uw.out.f 1
        have zw5 := Uw.out.f 2
        go_wp2
        go_ret
        exact ⟨rfl, below_next WW.out C.out⟩
      · have HTE := hide (show turnE m0 = 0 by unfold turnE; rw [if_neg (by simp [HA.out]), if_neg (by rw [HQ.out.1]; exact hr)])
        have HX := hide (ref_turn _ (Ma.out.below C.out) HTE.out HA.out)
        obtain ⟨za0, za1, za2⟩ := Ta.out.below C.out
        obtain ⟨zt0, zt1, zt2⟩ := Tt.out.below C.out
        obtain ⟨zu0, zu1, zu2⟩ := Tu.out.below C.out
        obtain ⟨zv0, zv1, zv2⟩ := Tv.out.below C.out
        obtain ⟨zr0, zr1, zr2⟩ := Tr.out.below C.out
        obtain ⟨zo0, zo1, zo2⟩ := To.out.below C.out
        obtain ⟨zw0, zw1, zw2⟩ := Uw.out.t
        have zw3 := Uw.out.f 0
        have zw4 := Uw.out.f 1
        have zw5 := Uw.out.f 2
        go_wp2_with fail
        refine HX.out.mono ?_
        rintro e u6 ⟨qa, qn, qk, rfl, hm, hb, hf⟩
        rw [HPT.out] at hm hf ⊢
        have LW := Uw.out.t.lt
        replace C := hide (below_next C.out hb)
        replace Uw := hide (Uw.out.below hb)
        clear HX hb za0 za1 za2 zt0 zt1 zt2 zu0 zu1 zu2 zv0 zv1 zv2 zr0 zr1 zr2 zo0 zo1 zo2 zw0 zw1 zw2 zw3 zw4 zw5
        have MW := hide (hm.set3 hf LW (.int .i64 PT.rows) (.int .i64 PT.cols) (.slice qa qn qk))
        clear hm hf LW
        obtain ⟨y00, y01, y02⟩ := Uw.out.t
        have y03 := Uw.out.f 0
        have y04 := Uw.out.f 1
        have y05 := Uw.out.f 2
        replace C := hide (below_set3 C.out LB.out (.int .i64 PT.rows) (.int .i64 PT.cols) (.slice qa qn qk))
        replace Uw := hide (Uw.out.set PT.rows PT.cols (.slice qa qn qk))
        have HX := hide (error_same (k := turnE m0) (n := 0) HTE.out _ (HH.out.below C.out))
        obtain ⟨za0, za1, za2⟩ := Ta.out.below C.out
        obtain ⟨zt0, zt1, zt2⟩ := Tt.out.below C.out
        obtain ⟨zu0, zu1, zu2⟩ := Tu.out.below C.out
        obtain ⟨zv0, zv1, zv2⟩ := Tv.out.below C.out
        obtain ⟨zr0, zr1, zr2⟩ := Tr.out.below C.out
        obtain ⟨zo0, zo1, zo2⟩ := To.out.below C.out
        obtain ⟨zw0, zw1, zw2⟩ := Uw.out.t
        have zw3 := Uw.out.f 0
        have zw4 := Uw.out.f 1
        have zw5 := Uw.out.f 2
        go_wp2_with fail
        refine HX.out.mono ?_
        rintro e u7 ⟨rfl, hb⟩
        replace MW := hide (MW.out.below hb)
        replace C := hide (below_next C.out hb)
        replace Uw := hide (Uw.out.below hb)
        clear HX hb za0 za1 za2 zt0 zt1 zt2 zu0 zu1 zu2 zv0 zv1 zv2 zr0 zr1 zr2 zo0 zo1 zo2 zw0 zw1 zw2 zw3 zw4 zw5 y00 y01 y02 y03 y04 y05
        have HX := hide (matrices_any _ _ PT PT _ (Mt.out.below C.out) MW.out)
        obtain ⟨za0, za1, za2⟩ := Ta.out.below C.out
        obtain ⟨zt0, zt1, zt2⟩ := Tt.out.below C.out
        obtain ⟨zu0, zu1, zu2⟩ := Tu.out.below C.out
        obtain ⟨zv0, zv1, zv2⟩ := Tv.out.below C.out
        obtain ⟨zr0, zr1, zr2⟩ := Tr.out.below C.out
        obtain ⟨zo0, zo1, zo2⟩ := To.out.below C.out
        obtain ⟨zw0, zw1, zw2⟩ := Uw.out.t
        have zw3 := Uw.out.f 0
        have zw4 := Uw.out.f 1
        have zw5 := Uw.out.f 2
        go_wp2_with fail
        refine HX.out.mono ?_
        rintro e u8 ⟨rfl, hb⟩
        rw [sameM_refl]
        clear MW
        replace C := hide (below_next C.out hb)
        replace Uw := hide (Uw.out.below hb)
        clear HX hb za0 za1 za2 zt0 zt1 zt2 zu0 zu1 zu2 zv0 zv1 zv2 zr0 zr1 zr2 zo0 zo1 zo2 zw0 zw1 zw2 zw3 zw4 zw5
        have HX := hide (ref_times x _ (Ma.out.below C.out) HA.out)
        obtain ⟨za0, za1, za2⟩ := Ta.out.below C.out
        obtain ⟨zt0, zt1, zt2⟩ := Tt.out.below C.out
        obtain ⟨zu0, zu1, zu2⟩ := Tu.out.below C.out
        obtain ⟨zv0, zv1, zv2⟩ := Tv.out.below C.out
        obtain ⟨zr0, zr1, zr2⟩ := Tr.out.below C.out
        obtain ⟨zo0, zo1, zo2⟩ := To.out.below C.out
        obtain ⟨zw0, zw1, zw2⟩ := Uw.out.t
        have zw3 := Uw.out.f 0
        have zw4 := Uw.out.f 1
        have zw5 := Uw.out.f 2
        go_wp2_with fail
        refine HX.out.mono ?_
        rintro e u9 ⟨qa, qn, qk, rfl, hm, hb, hf⟩
        rw [HPU.out] at hm hf ⊢
        have LW := Uw.out.t.lt
        replace C := hide (below_next C.out hb)
        replace Uw := hide (Uw.out.below hb)
        clear HX hb za0 za1 za2 zt0 zt1 zt2 zu0 zu1 zu2 zv0 zv1 zv2 zr0 zr1 zr2 zo0 zo1 zo2 zw0 zw1 zw2 zw3 zw4 zw5
        have MW := hide (hm.set3 hf LW (.int .i64 PU.rows) (.int .i64 PU.cols) (.slice qa qn qk))
        clear hm hf LW
        obtain ⟨y00, y01, y02⟩ := Uw.out.t
        have y03 := Uw.out.f 0
        have y04 := Uw.out.f 1
        have y05 := Uw.out.f 2
        replace C := hide (below_set3 C.out LB.out (.int .i64 PU.rows) (.int .i64 PU.cols) (.slice qa qn qk))
        replace Uw := hide (Uw.out.set PU.rows PU.cols (.slice qa qn qk))
        have HX := hide (matrices_any _ _ PU PU _ (Mu.out.below C.out) MW.out)
        obtain ⟨za0, za1, za2⟩ := Ta.out.below C.out
        obtain ⟨zt0, zt1, zt2⟩ := Tt.out.below C.out
        obtain ⟨zu0, zu1, zu2⟩ := Tu.out.below C.out
        obtain ⟨zv0, zv1, zv2⟩ := Tv.out.below C.out
        obtain ⟨zr0, zr1, zr2⟩ := Tr.out.below C.out
        obtain ⟨zo0, zo1, zo2⟩ := To.out.below C.out
        obtain ⟨zw0, zw1, zw2⟩ := Uw.out.t
        have zw3 := Uw.out.f 0
        have zw4 := Uw.out.f 1
        have zw5 := Uw.out.f 2
        go_wp2_with fail
        refine HX.out.mono ?_
        rintro e u10 ⟨rfl, hb⟩
        rw [sameM_refl]
        clear MW
        replace C := hide (below_next C.out hb)
        replace Uw := hide (Uw.out.below hb)
        clear HX hb za0 za1 za2 zt0 zt1 zt2 zu0 zu1 zu2 zv0 zv1 zv2 zr0 zr1 zr2 zo0 zo1 zo2 zw0 zw1 zw2 zw3 zw4 zw5 y00 y01 y02 y03 y04 y05
        have HX := hide (ref_sums _ (Ma.out.below C.out) HA.out)
        obtain ⟨za0, za1, za2⟩ := Ta.out.below C.out
        obtain ⟨zt0, zt1, zt2⟩ := Tt.out.below C.out
        obtain ⟨zu0, zu1, zu2⟩ := Tu.out.below C.out
        obtain ⟨zv0, zv1, zv2⟩ := Tv.out.below C.out
        obtain ⟨zr0, zr1, zr2⟩ := Tr.out.below C.out
        obtain ⟨zo0, zo1, zo2⟩ := To.out.below C.out
        obtain ⟨zw0, zw1, zw2⟩ := Uw.out.t
        have zw3 := Uw.out.f 0
        have zw4 := Uw.out.f 1
        have zw5 := Uw.out.f 2
        go_wp2_with fail
        refine HX.out.mono ?_
        rintro e u11 ⟨qa, qn, qk, rfl, hm, hb, hf⟩
        rw [HPV.out] at hm hf ⊢
        have LW := Uw.out.t.lt
        replace C := hide (below_next C.out hb)
        replace Uw := hide (Uw.out.below hb)
        clear HX hb za0 za1 za2 zt0 zt1 zt2 zu0 zu1 zu2 zv0 zv1 zv2 zr0 zr1 zr2 zo0 zo1 zo2 zw0 zw1 zw2 zw3 zw4 zw5
        have MW := hide (hm.set3 hf LW (.int .i64 PV.rows) (.int .i64 PV.cols) (.slice qa qn qk))
        clear hm hf LW
        obtain ⟨y00, y01, y02⟩ := Uw.out.t
        have y03 := Uw.out.f 0
        have y04 := Uw.out.f 1
        have y05 := Uw.out.f 2
        replace C := hide (below_set3 C.out LB.out (.int .i64 PV.rows) (.int .i64 PV.cols) (.slice qa qn qk))
        replace Uw := hide (Uw.out.set PV.rows PV.cols (.slice qa qn qk))
        have HX := hide (matrices_any _ _ PV PV _ (Mv.out.below C.out) MW.out)
        obtain ⟨za0, za1, za2⟩ := Ta.out.below C.out
        obtain ⟨zt0, zt1, zt2⟩ := Tt.out.below C.out
        obtain ⟨zu0, zu1, zu2⟩ := Tu.out.below C.out
        obtain ⟨zv0, zv1, zv2⟩ := Tv.out.below C.out
        obtain ⟨zr0, zr1, zr2⟩ := Tr.out.below C.out
        obtain ⟨zo0, zo1, zo2⟩ := To.out.below C.out
        obtain ⟨zw0, zw1, zw2⟩ := Uw.out.t
        have zw3 := Uw.out.f 0
        have zw4 := Uw.out.f 1
        have zw5 := Uw.out.f 2
        go_wp2_with fail
        refine HX.out.mono ?_
        rintro e u12 ⟨rfl, hb⟩
        rw [sameM_refl]
        clear MW
        replace C := hide (below_next C.out hb)
        replace Uw := hide (Uw.out.below hb)
        clear HX hb za0 za1 za2 zt0 zt1 zt2 zu0 zu1 zu2 zv0 zv1 zv2 zr0 zr1 zr2 zo0 zo1 zo2 zw0 zw1 zw2 zw3 zw4 zw5 y00 y01 y02 y03 y04 y05
        have HX := hide (ref_rows f t _ (Ma.out.below C.out) HRE.out HA.out HB.out.1 HB.out.2.1 (by rw [HQ.out.1]; exact HB.out.2.2))
        obtain ⟨za0, za1, za2⟩ := Ta.out.below C.out
        obtain ⟨zt0, zt1, zt2⟩ := Tt.out.below C.out
        obtain ⟨zu0, zu1, zu2⟩ := Tu.out.below C.out
        obtain ⟨zv0, zv1, zv2⟩ := Tv.out.below C.out
        obtain ⟨zr0, zr1, zr2⟩ := Tr.out.below C.out
        obtain ⟨zo0, zo1, zo2⟩ := To.out.below C.out
        obtain ⟨zw0, zw1, zw2⟩ := Uw.out.t
        have zw3 := Uw.out.f 0
        have zw4 := Uw.out.f 1
        have zw5 := Uw.out.f 2
        go_wp2_with fail
        refine HX.out.mono ?_
        rintro e u13 ⟨qa, qn, qk, rfl, hm, hb, hf⟩
        rw [HPR.out] at hm hf ⊢
        have LW := Uw.out.t.lt
        replace C := hide (below_next C.out hb)
        replace Uw := hide (Uw.out.below hb)
        clear HX hb za0 za1 za2 zt0 zt1 zt2 zu0 zu1 zu2 zv0 zv1 zv2 zr0 zr1 zr2 zo0 zo1 zo2 zw0 zw1 zw2 zw3 zw4 zw5
        have MW := hide (hm.set3 hf LW (.int .i64 PR.rows) (.int .i64 PR.cols) (.slice qa qn qk))
        clear hm hf LW
        obtain ⟨y00, y01, y02⟩ := Uw.out.t
        have y03 := Uw.out.f 0
        have y04 := Uw.out.f 1
        have y05 := Uw.out.f 2
        replace C := hide (below_set3 C.out LB.out (.int .i64 PR.rows) (.int .i64 PR.cols) (.slice qa qn qk))
        replace Uw := hide (Uw.out.set PR.rows PR.cols (.slice qa qn qk))
        have HX := hide (matrices_any _ _ PR PR _ (Mr.out.below C.out) MW.out)
        obtain ⟨za0, za1, za2⟩ := Ta.out.below C.out
        obtain ⟨zt0, zt1, zt2⟩ := Tt.out.below C.out
        obtain ⟨zu0, zu1, zu2⟩ := Tu.out.below C.out
        obtain ⟨zv0, zv1, zv2⟩ := Tv.out.below C.out
        obtain ⟨zr0, zr1, zr2⟩ := Tr.out.below C.out
        obtain ⟨zo0, zo1, zo2⟩ := To.out.below C.out
        obtain ⟨zw0, zw1, zw2⟩ := Uw.out.t
        have zw3 := Uw.out.f 0
        have zw4 := Uw.out.f 1
        have zw5 := Uw.out.f 2
        go_wp2_with fail
        refine HX.out.mono ?_
        rintro e u14 ⟨rfl, hb⟩
        rw [sameM_refl]
        clear MW
        replace C := hide (below_next C.out hb)
        replace Uw := hide (Uw.out.below hb)
        clear HX hb za0 za1 za2 zt0 zt1 zt2 zu0 zu1 zu2 zv0 zv1 zv2 zr0 zr1 zr2 zo0 zo1 zo2 zw0 zw1 zw2 zw3 zw4 zw5 y00 y01 y02 y03 y04 y05
        obtain ⟨za0, za1, za2⟩ := Ta.out.below C.out
        obtain ⟨zt0, zt1, zt2⟩ := Tt.out.below C.out
        obtain ⟨zu0, zu1, zu2⟩ := Tu.out.below C.out
        obtain ⟨zv0, zv1, zv2⟩ := Tv.out.below C.out
        obtain ⟨zr0, zr1, zr2⟩ := Tr.out.below C.out
        obtain ⟨zo0, zo1, zo2⟩ := To.out.below C.out
        obtain ⟨zw0, zw1, zw2⟩ := Uw.out.t
        have zw3 := Uw.out.f 0
        have zw4 := Uw.out.f 1
        have zw5 := Uw.out.f 2
        go_wp2
        go_ret
        exact ⟨rfl, below_next WW.out C.out⟩
    · have HB := hide (show f < 0 ∨ t < f ∨ r < t by omega)
      have HRE := hide (show rowsE m0 f t = 1 by unfold rowsE; rw [if_neg (by simp [HA.out]), if_pos (by rw [HQ.out.1]; exact HB.out)])
      have HNR := hide (show PR = noMx by rw [← HPR.out]; exact rowsX_no (by rw [HRE.out]; decide))
      clear hB
      have HX := hide (mrows_any _ m0 f t _ (Ma.out.below C.out))
      obtain ⟨za0, za1, za2⟩ := Ta.out.below C.out
      obtain ⟨zt0, zt1, zt2⟩ := Tt.out.below C.out
      obtain ⟨zu0, zu1, zu2⟩ := Tu.out.below C.out
      obtain ⟨zv0, zv1, zv2⟩ := Tv.out.below C.out
      go_wp2_with fail
      refine HX.out.mono ?_
      intro e u5 h
      obtain ⟨ra, rn, rk, rfl, hm, hb⟩ := h.any
      clear h
      rw [HPR.out] at hm ⊢
      replace C := hide (below_next C.out hb)
      clear HX hb za0 za1 za2 zt0 zt1 zt2 zu0 zu1 zu2 zv0 zv1 zv2
      have MM := hide (hm.below (below_one u5 (.cells #[.int .i64 PR.rows, .int .i64 PR.cols, .slice ra rn rk] 24)))
      have D := below_next C.out (below_one u5 (.cells #[.int .i64 PR.rows, .int .i64 PR.cols, .slice ra rn rk] 24))
      replace Ta := hide (Ta.out.below D)
      replace Tt := hide (Tt.out.below D)
      replace Tu := hide (Tu.out.below D)
      replace Tv := hide (Tv.out.below D)
      replace Ma := hide (Ma.out.below D)
      replace Mt := hide (Mt.out.below D)
      replace Mu := hide (Mu.out.below D)
      replace Mv := hide (Mv.out.below D)
      replace HH := hide (HH.out.below D)
      replace WW := hide (below_next WW.out D)
      replace C := hide (Below.refl (u5.alloc (.cells #[.int .i64 PR.rows, .int .i64 PR.cols, .slice ra rn rk] 24)).heap.size (u5.alloc (.cells #[.int .i64 PR.rows, .int .i64 PR.cols, .slice ra rn rk] 24)))
      clear D
      have Tr := hide (three_newB u5 PR.rows PR.cols (.slice ra rn rk) 24 (B := u5.heap.size) (by simp))
      have Mr := MM
      clear MM hm
      have D := below_next C.out (below_one (u5.alloc (.cells #[.int .i64 PR.rows, .int .i64 PR.cols, .slice ra rn rk] 24)) (.cells #[.int .i64 0, .int .i64 0, .slice none 0 0] 24))
      replace Ta := hide (Ta.out.below D)
      replace Tt := hide (Tt.out.below D)
      replace Tu := hide (Tu.out.below D)
      replace Tv := hide (Tv.out.below D)
      replace Tr := hide (Tr.out.below D)
      replace Ma := hide (Ma.out.below D)
      replace Mt := hide (Mt.out.below D)
      replace Mu := hide (Mu.out.below D)
      replace Mv := hide (Mv.out.below D)
      replace Mr := hide (Mr.out.below D)
      replace HH := hide (HH.out.below D)
      replace WW := hide (below_next WW.out D)
      replace C := hide (Below.refl ((u5.alloc (.cells #[.int .i64 PR.rows, .int .i64 PR.cols, .slice ra rn rk] 24)).alloc (.cells #[.int .i64 0, .int .i64 0, .slice none 0 0] 24)).heap.size ((u5.alloc (.cells #[.int .i64 PR.rows, .int .i64 PR.cols, .slice ra rn rk] 24)).alloc (.cells #[.int .i64 0, .int .i64 0, .slice none 0 0] 24)))
      clear D
      have To := hide (three_newB (u5.alloc (.cells #[.int .i64 PR.rows, .int .i64 PR.cols, .slice ra rn rk] 24)) 0 0 (.slice none 0 0) 24 (B := u5.heap.size + 1) (by simp))
      have LB : Hid (_ ≤ u5.heap.size + 1 + 1) := hide (Nat.le_trans C.out.size (Nat.le_of_eq (by simp)))
      have Uw := hide (Mut.newB ((u5.alloc (.cells #[.int .i64 PR.rows, .int .i64 PR.cols, .slice ra rn rk] 24)).alloc (.cells #[.int .i64 0, .int .i64 0, .slice none 0 0] 24)) 0 0 (.slice none 0 0) 24 (B := u5.heap.size + 1 + 1) (by simp))
      replace C := hide (below_next C.out (below_one ((u5.alloc (.cells #[.int .i64 PR.rows, .int .i64 PR.cols, .slice ra rn rk] 24)).alloc (.cells #[.int .i64 0, .int .i64 0, .slice none 0 0] 24)) (.cells #[.int .i64 0, .int .i64 0, .slice none 0 0] 24)))
      by_cases hr : 12 < r
      · have HTE := hide (show turnE m0 = 1 by unfold turnE; rw [if_neg (by simp [HA.out]), if_pos (by rw [HQ.out.1]; exact hr)])
        have HNT := hide (show PT = noMx by rw [← HPT.out]; exact turnX_no (by rw [HTE.out]; decide))
        have HX := hide (error_same (k := turnE m0) (n := 1) HTE.out _ (HH.out.below C.out))
        obtain ⟨za0, za1, za2⟩ := Ta.out.below C.out
        obtain ⟨zt0, zt1, zt2⟩ := Tt.out.below C.out
        obtain ⟨zu0, zu1, zu2⟩ := Tu.out.below C.out
        obtain ⟨zv0, zv1, zv2⟩ := Tv.out.below C.out
        obtain ⟨zr0, zr1, zr2⟩ := Tr.out.below C.out
        obtain ⟨zo0, zo1, zo2⟩ := To.out.below C.out
        obtain ⟨zw0, zw1, zw2⟩ := Uw.out.t
        have zw3 := Uw.out.f 0
        have zw4 := Uw.out.f 1
        have zw5 := Uw.out.f 2
        go_wp2_with fail
        refine HX.out.mono ?_
        rintro e u6 ⟨rfl, hb⟩
        replace C := hide (below_next C.out hb)
        replace Uw := hide (Uw.out.below hb)
        clear HX hb za0 za1 za2 zt0 zt1 zt2 zu0 zu1 zu2 zv0 zv1 zv2 zr0 zr1 zr2 zo0 zo1 zo2 zw0 zw1 zw2 zw3 zw4 zw5
        have HX := hide (matrices_any _ _ PT noMx _ (Mt.out.below C.out) (isMx_no _))
        obtain ⟨za0, za1, za2⟩ := Ta.out.below C.out
        obtain ⟨zt0, zt1, zt2⟩ := Tt.out.below C.out
        obtain ⟨zu0, zu1, zu2⟩ := Tu.out.below C.out
        obtain ⟨zv0, zv1, zv2⟩ := Tv.out.below C.out
        obtain ⟨zr0, zr1, zr2⟩ := Tr.out.below C.out
        obtain ⟨zo0, zo1, zo2⟩ := To.out.below C.out
        obtain ⟨zw0, zw1, zw2⟩ := Uw.out.t
        have zw3 := Uw.out.f 0
        have zw4 := Uw.out.f 1
        have zw5 := Uw.out.f 2
        go_wp2_with fail
        refine HX.out.mono ?_
        rintro e u7 ⟨rfl, hb⟩
        rw [show sameM PT noMx = true by rw [HNT.out]; exact sameM_refl _]
        replace C := hide (below_next C.out hb)
        replace Uw := hide (Uw.out.below hb)
        clear HX hb za0 za1 za2 zt0 zt1 zt2 zu0 zu1 zu2 zv0 zv1 zv2 zr0 zr1 zr2 zo0 zo1 zo2 zw0 zw1 zw2 zw3 zw4 zw5
        have HX := hide (ref_times x _ (Ma.out.below C.out) HA.out)
        obtain ⟨za0, za1, za2⟩ := Ta.out.below C.out
        obtain ⟨zt0, zt1, zt2⟩ := Tt.out.below C.out
        obtain ⟨zu0, zu1, zu2⟩ := Tu.out.below C.out
        obtain ⟨zv0, zv1, zv2⟩ := Tv.out.below C.out
        obtain ⟨zr0, zr1, zr2⟩ := Tr.out.below C.out
        obtain ⟨zo0, zo1, zo2⟩ := To.out.below C.out
        obtain ⟨zw0, zw1, zw2⟩ := Uw.out.t
        have zw3 := Uw.out.f 0
        have zw4 := Uw.out.f 1
        have zw5 := Uw.out.f 2
        go_wp2_with fail
        refine HX.out.mono ?_
        rintro e u8 ⟨qa, qn, qk, rfl, hm, hb, hf⟩
        rw [HPU.out] at hm hf ⊢
        have LW := Uw.out.t.lt
        replace C := hide (below_next C.out hb)
        replace Uw := hide (Uw.out.below hb)
        clear HX hb za0 za1 za2 zt0 zt1 zt2 zu0 zu1 zu2 zv0 zv1 zv2 zr0 zr1 zr2 zo0 zo1 zo2 zw0 zw1 zw2 zw3 zw4 zw5
        have MW := hide (hm.set3 hf LW (.int .i64 PU.rows) (.int .i64 PU.cols) (.slice qa qn qk))
        clear hm hf LW
        obtain ⟨y00, y01, y02⟩ := Uw.out.t
        have y03 := Uw.out.f 0
        have y04 := Uw.out.f 1
        have y05 := Uw.out.f 2
        replace C := hide (below_set3 C.out LB.out (.int .i64 PU.rows) (.int .i64 PU.cols) (.slice qa qn qk))
        replace Uw := hide (Uw.out.set PU.rows PU.cols (.slice qa qn qk))
        have HX := hide (matrices_any _ _ PU PU _ (Mu.out.below C.out) MW.out)
        obtain ⟨za0, za1, za2⟩ := Ta.out.below C.out
        obtain ⟨zt0, zt1, zt2⟩ := Tt.out.below C.out
        obtain ⟨zu0, zu1, zu2⟩ := Tu.out.below C.out
        obtain ⟨zv0, zv1, zv2⟩ := Tv.out.below C.out
        obtain ⟨zr0, zr1, zr2⟩ := Tr.out.below C.out
        obtain ⟨zo0, zo1, zo2⟩ := To.out.below C.out
        obtain ⟨zw0, zw1, zw2⟩ := Uw.out.t
        have zw3 := Uw.out.f 0
        have zw4 := Uw.out.f 1
        have zw5 := Uw.out.f 2
        go_wp2_with fail
        refine HX.out.mono ?_
        rintro e u9 ⟨rfl, hb⟩
        rw [sameM_refl]
        clear MW
        replace C := hide (below_next C.out hb)
        replace Uw := hide (Uw.out.below hb)
        clear HX hb za0 za1 za2 zt0 zt1 zt2 zu0 zu1 zu2 zv0 zv1 zv2 zr0 zr1 zr2 zo0 zo1 zo2 zw0 zw1 zw2 zw3 zw4 zw5 y00 y01 y02 y03 y04 y05
        have HX := hide (ref_sums _ (Ma.out.below C.out) HA.out)
        obtain ⟨za0, za1, za2⟩ := Ta.out.below C.out
        obtain ⟨zt0, zt1, zt2⟩ := Tt.out.below C.out
        obtain ⟨zu0, zu1, zu2⟩ := Tu.out.below C.out
        obtain ⟨zv0, zv1, zv2⟩ := Tv.out.below C.out
        obtain ⟨zr0, zr1, zr2⟩ := Tr.out.below C.out
        obtain ⟨zo0, zo1, zo2⟩ := To.out.below C.out
        obtain ⟨zw0, zw1, zw2⟩ := Uw.out.t
        have zw3 := Uw.out.f 0
        have zw4 := Uw.out.f 1
        have zw5 := Uw.out.f 2
        go_wp2_with fail
        refine HX.out.mono ?_
        rintro e u10 ⟨qa, qn, qk, rfl, hm, hb, hf⟩
        rw [HPV.out] at hm hf ⊢
        have LW := Uw.out.t.lt
        replace C := hide (below_next C.out hb)
        replace Uw := hide (Uw.out.below hb)
        clear HX hb za0 za1 za2 zt0 zt1 zt2 zu0 zu1 zu2 zv0 zv1 zv2 zr0 zr1 zr2 zo0 zo1 zo2 zw0 zw1 zw2 zw3 zw4 zw5
        have MW := hide (hm.set3 hf LW (.int .i64 PV.rows) (.int .i64 PV.cols) (.slice qa qn qk))
        clear hm hf LW
        obtain ⟨y00, y01, y02⟩ := Uw.out.t
        have y03 := Uw.out.f 0
        have y04 := Uw.out.f 1
        have y05 := Uw.out.f 2
        replace C := hide (below_set3 C.out LB.out (.int .i64 PV.rows) (.int .i64 PV.cols) (.slice qa qn qk))
        replace Uw := hide (Uw.out.set PV.rows PV.cols (.slice qa qn qk))
        have HX := hide (matrices_any _ _ PV PV _ (Mv.out.below C.out) MW.out)
        obtain ⟨za0, za1, za2⟩ := Ta.out.below C.out
        obtain ⟨zt0, zt1, zt2⟩ := Tt.out.below C.out
        obtain ⟨zu0, zu1, zu2⟩ := Tu.out.below C.out
        obtain ⟨zv0, zv1, zv2⟩ := Tv.out.below C.out
        obtain ⟨zr0, zr1, zr2⟩ := Tr.out.below C.out
        obtain ⟨zo0, zo1, zo2⟩ := To.out.below C.out
        obtain ⟨zw0, zw1, zw2⟩ := Uw.out.t
        have zw3 := Uw.out.f 0
        have zw4 := Uw.out.f 1
        have zw5 := Uw.out.f 2
        go_wp2_with fail
        refine HX.out.mono ?_
        rintro e u11 ⟨rfl, hb⟩
        rw [sameM_refl]
        clear MW
        replace C := hide (below_next C.out hb)
        replace Uw := hide (Uw.out.below hb)
        clear HX hb za0 za1 za2 zt0 zt1 zt2 zu0 zu1 zu2 zv0 zv1 zv2 zr0 zr1 zr2 zo0 zo1 zo2 zw0 zw1 zw2 zw3 zw4 zw5 y00 y01 y02 y03 y04 y05
        by_cases hb1 : f < 0
        · skip
          have HX := hide (error_same (k := rowsE m0 f t) (n := 1) HRE.out _ (HH.out.below C.out))
          obtain ⟨za0, za1, za2⟩ := Ta.out.below C.out
          obtain ⟨zt0, zt1, zt2⟩ := Tt.out.below C.out
          obtain ⟨zu0, zu1, zu2⟩ := Tu.out.below C.out
          obtain ⟨zv0, zv1, zv2⟩ := Tv.out.below C.out
          obtain ⟨zr0, zr1, zr2⟩ := Tr.out.below C.out
          obtain ⟨zo0, zo1, zo2⟩ := To.out.below C.out
          obtain ⟨zw0, zw1, zw2⟩ := Uw.out.t
          have zw3 := Uw.out.f 0
          have zw4 := Uw.out.f 1
          have zw5 := Uw.out.f 2
          go_wp2_with fail
          refine HX.out.mono ?_
          rintro e u12 ⟨rfl, hb⟩
          replace C := hide (below_next C.out hb)
          replace Uw := hide (Uw.out.below hb)
          clear HX hb za0 za1 za2 zt0 zt1 zt2 zu0 zu1 zu2 zv0 zv1 zv2 zr0 zr1 zr2 zo0 zo1 zo2 zw0 zw1 zw2 zw3 zw4 zw5
          have HX := hide (matrices_any _ _ PR noMx _ (Mr.out.below C.out) (isMx_no _))
          obtain ⟨za0, za1, za2⟩ := Ta.out.below C.out
          obtain ⟨zt0, zt1, zt2⟩ := Tt.out.below C.out
          obtain ⟨zu0, zu1, zu2⟩ := Tu.out.below C.out
          obtain ⟨zv0, zv1, zv2⟩ := Tv.out.below C.out
          obtain ⟨zr0, zr1, zr2⟩ := Tr.out.below C.out
          obtain ⟨zo0, zo1, zo2⟩ := To.out.below C.out
          obtain ⟨zw0, zw1, zw2⟩ := Uw.out.t
          have zw3 := Uw.out.f 0
          have zw4 := Uw.out.f 1
          have zw5 := Uw.out.f 2
          go_wp2_with fail
          refine HX.out.mono ?_
          rintro e u13 ⟨rfl, hb⟩
          rw [show sameM PR noMx = true by rw [HNR.out]; exact sameM_refl _]
          replace C := hide (below_next C.out hb)
          replace Uw := hide (Uw.out.below hb)
          clear HX hb za0 za1 za2 zt0 zt1 zt2 zu0 zu1 zu2 zv0 zv1 zv2 zr0 zr1 zr2 zo0 zo1 zo2 zw0 zw1 zw2 zw3 zw4 zw5
          obtain ⟨za0, za1, za2⟩ := Ta.out.below C.out
          obtain ⟨zt0, zt1, zt2⟩ := Tt.out.below C.out
          obtain ⟨zu0, zu1, zu2⟩ := Tu.out.below C.out
          obtain ⟨zv0, zv1, zv2⟩ := Tv.out.below C.out
          obtain ⟨zr0, zr1, zr2⟩ := Tr.out.below C.out
          obtain ⟨zo0, zo1, zo2⟩ := To.out.below C.out
          obtain ⟨zw0, zw1, zw2⟩ := Uw.out.t
          have zw3 := Uw.out.f 0
          have zw4 := Uw.out.f 1
          have zw5 := Uw.out.f 2
          go_wp2
          go_ret
          exact ⟨rfl, below_next WW.out C.out⟩
        · by_cases hb2 : t < f
          · skip
            have HX := hide (error_same (k := rowsE m0 f t) (n := 1) HRE.out _ (HH.out.below C.out))
            obtain ⟨za0, za1, za2⟩ := Ta.out.below C.out
            obtain ⟨zt0, zt1, zt2⟩ := Tt.out.below C.out
            obtain ⟨zu0, zu1, zu2⟩ := Tu.out.below C.out
            obtain ⟨zv0, zv1, zv2⟩ := Tv.out.below C.out
            obtain ⟨zr0, zr1, zr2⟩ := Tr.out.below C.out
            obtain ⟨zo0, zo1, zo2⟩ := To.out.below C.out
            obtain ⟨zw0, zw1, zw2⟩ := Uw.out.t
            have zw3 := Uw.out.f 0
            have zw4 := Uw.out.f 1
            have zw5 := Uw.out.f 2
            go_wp2_with fail
            refine HX.out.mono ?_
            rintro e u12 ⟨rfl, hb⟩
            replace C := hide (below_next C.out hb)
            replace Uw := hide (Uw.out.below hb)
            clear HX hb za0 za1 za2 zt0 zt1 zt2 zu0 zu1 zu2 zv0 zv1 zv2 zr0 zr1 zr2 zo0 zo1 zo2 zw0 zw1 zw2 zw3 zw4 zw5
            have HX := hide (matrices_any _ _ PR noMx _ (Mr.out.below C.out) (isMx_no _))
            obtain ⟨za0, za1, za2⟩ := Ta.out.below C.out
            obtain ⟨zt0, zt1, zt2⟩ := Tt.out.below C.out
            obtain ⟨zu0, zu1, zu2⟩ := Tu.out.below C.out
            obtain ⟨zv0, zv1, zv2⟩ := Tv.out.below C.out
            obtain ⟨zr0, zr1, zr2⟩ := Tr.out.below C.out
            obtain ⟨zo0, zo1, zo2⟩ := To.out.below C.out
            obtain ⟨zw0, zw1, zw2⟩ := Uw.out.t
            have zw3 := Uw.out.f 0
            have zw4 := Uw.out.f 1
            have zw5 := Uw.out.f 2
            go_wp2_with fail
            refine HX.out.mono ?_
            rintro e u13 ⟨rfl, hb⟩
            rw [show sameM PR noMx = true by rw [HNR.out]; exact sameM_refl _]
            replace C := hide (below_next C.out hb)
            replace Uw := hide (Uw.out.below hb)
            clear HX hb za0 za1 za2 zt0 zt1 zt2 zu0 zu1 zu2 zv0 zv1 zv2 zr0 zr1 zr2 zo0 zo1 zo2 zw0 zw1 zw2 zw3 zw4 zw5
            obtain ⟨za0, za1, za2⟩ := Ta.out.below C.out
            obtain ⟨zt0, zt1, zt2⟩ := Tt.out.below C.out
            obtain ⟨zu0, zu1, zu2⟩ := Tu.out.below C.out
            obtain ⟨zv0, zv1, zv2⟩ := Tv.out.below C.out
            obtain ⟨zr0, zr1, zr2⟩ := Tr.out.below C.out
            obtain ⟨zo0, zo1, zo2⟩ := To.out.below C.out
            obtain ⟨zw0, zw1, zw2⟩ := Uw.out.t
            have zw3 := Uw.out.f 0
            have zw4 := Uw.out.f 1
            have zw5 := Uw.out.f 2
            go_wp2
            go_ret
            exact ⟨rfl, below_next WW.out C.out⟩
          · have hb3 : r < t := by have := HB.out; omega
            have HX := hide (error_same (k := rowsE m0 f t) (n := 1) HRE.out _ (HH.out.below C.out))
            obtain ⟨za0, za1, za2⟩ := Ta.out.below C.out
            obtain ⟨zt0, zt1, zt2⟩ := Tt.out.below C.out
            obtain ⟨zu0, zu1, zu2⟩ := Tu.out.below C.out
            obtain ⟨zv0, zv1, zv2⟩ := Tv.out.below C.out
            obtain ⟨zr0, zr1, zr2⟩ := Tr.out.below C.out
            obtain ⟨zo0, zo1, zo2⟩ := To.out.below C.out
            obtain ⟨zw0, zw1, zw2⟩ := Uw.out.t
            have zw3 := Uw.out.f 0
            have zw4 := Uw.out.f 1
            have zw5 := Uw.out.f 2
            go_wp2_with fail
            refine HX.out.mono ?_
            rintro e u12 ⟨rfl, hb⟩
            replace C := hide (below_next C.out hb)
            replace Uw := hide (Uw.out.below hb)
            clear HX hb za0 za1 za2 zt0 zt1 zt2 zu0 zu1 zu2 zv0 zv1 zv2 zr0 zr1 zr2 zo0 zo1 zo2 zw0 zw1 zw2 zw3 zw4 zw5
            have HX := hide (matrices_any _ _ PR noMx _ (Mr.out.below C.out) (isMx_no _))
            obtain ⟨za0, za1, za2⟩ := Ta.out.below C.out
            obtain ⟨zt0, zt1, zt2⟩ := Tt.out.below C.out
            obtain ⟨zu0, zu1, zu2⟩ := Tu.out.below C.out
            obtain ⟨zv0, zv1, zv2⟩ := Tv.out.below C.out
            obtain ⟨zr0, zr1, zr2⟩ := Tr.out.below C.out
            obtain ⟨zo0, zo1, zo2⟩ := To.out.below C.out
            obtain ⟨zw0, zw1, zw2⟩ := Uw.out.t
            have zw3 := Uw.out.f 0
            have zw4 := Uw.out.f 1
            have zw5 := Uw.out.f 2
            go_wp2_with fail
            refine HX.out.mono ?_
            rintro e u13 ⟨rfl, hb⟩
            rw [show sameM PR noMx = true by rw [HNR.out]; exact sameM_refl _]
            replace C := hide (below_next C.out hb)
            replace Uw := hide (Uw.out.below hb)
            clear HX hb za0 za1 za2 zt0 zt1 zt2 zu0 zu1 zu2 zv0 zv1 zv2 zr0 zr1 zr2 zo0 zo1 zo2 zw0 zw1 zw2 zw3 zw4 zw5
            obtain ⟨za0, za1, za2⟩ := Ta.out.below C.out
            obtain ⟨zt0, zt1, zt2⟩ := Tt.out.below C.out
            obtain ⟨zu0, zu1, zu2⟩ := Tu.out.below C.out
            obtain ⟨zv0, zv1, zv2⟩ := Tv.out.below C.out
            obtain ⟨zr0, zr1, zr2⟩ := Tr.out.below C.out
            obtain ⟨zo0, zo1, zo2⟩ := To.out.below C.out
            obtain ⟨zw0, zw1, zw2⟩ := Uw.out.t
            have zw3 := Uw.out.f 0
            have zw4 := Uw.out.f 1
            have zw5 := Uw.out.f 2
            go_wp2
            go_ret
            exact ⟨rfl, below_next WW.out C.out⟩
      · have HTE := hide (show turnE m0 = 0 by unfold turnE; rw [if_neg (by simp [HA.out]), if_neg (by rw [HQ.out.1]; exact hr)])
        have HX := hide (ref_turn _ (Ma.out.below C.out) HTE.out HA.out)
        obtain ⟨za0, za1, za2⟩ := Ta.out.below C.out
        obtain ⟨zt0, zt1, zt2⟩ := Tt.out.below C.out
        obtain ⟨zu0, zu1, zu2⟩ := Tu.out.below C.out
        obtain ⟨zv0, zv1, zv2⟩ := Tv.out.below C.out
        obtain ⟨zr0, zr1, zr2⟩ := Tr.out.below C.out
        obtain ⟨zo0, zo1, zo2⟩ := To.out.below C.out
        obtain ⟨zw0, zw1, zw2⟩ := Uw.out.t
        have zw3 := Uw.out.f 0
        have zw4 := Uw.out.f 1
        have zw5 := Uw.out.f 2
        go_wp2_with fail
        refine HX.out.mono ?_
        rintro e u6 ⟨qa, qn, qk, rfl, hm, hb, hf⟩
        rw [HPT.out] at hm hf ⊢
        have LW := Uw.out.t.lt
        replace C := hide (below_next C.out hb)
        replace Uw := hide (Uw.out.below hb)
        clear HX hb za0 za1 za2 zt0 zt1 zt2 zu0 zu1 zu2 zv0 zv1 zv2 zr0 zr1 zr2 zo0 zo1 zo2 zw0 zw1 zw2 zw3 zw4 zw5
        have MW := hide (hm.set3 hf LW (.int .i64 PT.rows) (.int .i64 PT.cols) (.slice qa qn qk))
        clear hm hf LW
        obtain ⟨y00, y01, y02⟩ := Uw.out.t
        have y03 := Uw.out.f 0
        have y04 := Uw.out.f 1
        have y05 := Uw.out.f 2
        replace C := hide (below_set3 C.out LB.out (.int .i64 PT.rows) (.int .i64 PT.cols) (.slice qa qn qk))
        replace Uw := hide (Uw.out.set PT.rows PT.cols (.slice qa qn qk))
        have HX := hide (error_same (k := turnE m0) (n := 0) HTE.out _ (HH.out.below C.out))
        obtain ⟨za0, za1, za2⟩ := Ta.out.below C.out
        obtain ⟨zt0, zt1, zt2⟩ := Tt.out.below C.out
        obtain ⟨zu0, zu1, zu2⟩ := Tu.out.below C.out
        obtain ⟨zv0, zv1, zv2⟩ := Tv.out.below C.out
        obtain ⟨zr0, zr1, zr2⟩ := Tr.out.below C.out
        obtain ⟨zo0, zo1, zo2⟩ := To.out.below C.out
        obtain ⟨zw0, zw1, zw2⟩ := Uw.out.t
        have zw3 := Uw.out.f 0
        have zw4 := Uw.out.f 1
        have zw5 := Uw.out.f 2
        go_wp2_with fail
        refine HX.out.mono ?_
        rintro e u7 ⟨rfl, hb⟩
        replace MW := hide (MW.out.below hb)
        replace C := hide (below_next C.out hb)
        replace Uw := hide (Uw.out.below hb)
        clear HX hb za0 za1 za2 zt0 zt1 zt2 zu0 zu1 zu2 zv0 zv1 zv2 zr0 zr1 zr2 zo0 zo1 zo2 zw0 zw1 zw2 zw3 zw4 zw5 y00 y01 y02 y03 y04 y05
        have HX := hide (matrices_any _ _ PT PT _ (Mt.out.below C.out) MW.out)
        obtain ⟨za0, za1, za2⟩ := Ta.out.below C.out
        obtain ⟨zt0, zt1, zt2⟩ := Tt.out.below C.out
        obtain ⟨zu0, zu1, zu2⟩ := Tu.out.below C.out
        obtain ⟨zv0, zv1, zv2⟩ := Tv.out.below C.out
        obtain ⟨zr0, zr1, zr2⟩ := Tr.out.below C.out
        obtain ⟨zo0, zo1, zo2⟩ := To.out.below C.out
        obtain ⟨zw0, zw1, zw2⟩ := Uw.out.t
        have zw3 := Uw.out.f 0
        have zw4 := Uw.out.f 1
        have zw5 := Uw.out.f 2
        go_wp2_with fail
        refine HX.out.mono ?_
        rintro e u8 ⟨rfl, hb⟩
        rw [sameM_refl]
        clear MW
        replace C := hide (below_next C.out hb)
        replace Uw := hide (Uw.out.below hb)
        clear HX hb za0 za1 za2 zt0 zt1 zt2 zu0 zu1 zu2 zv0 zv1 zv2 zr0 zr1 zr2 zo0 zo1 zo2 zw0 zw1 zw2 zw3 zw4 zw5
        have HX := hide (ref_times x _ (Ma.out.below C.out) HA.out)
        obtain ⟨za0, za1, za2⟩ := Ta.out.below C.out
        obtain ⟨zt0, zt1, zt2⟩ := Tt.out.below C.out
        obtain ⟨zu0, zu1, zu2⟩ := Tu.out.below C.out
        obtain ⟨zv0, zv1, zv2⟩ := Tv.out.below C.out
        obtain ⟨zr0, zr1, zr2⟩ := Tr.out.below C.out
        obtain ⟨zo0, zo1, zo2⟩ := To.out.below C.out
        obtain ⟨zw0, zw1, zw2⟩ := Uw.out.t
        have zw3 := Uw.out.f 0
        have zw4 := Uw.out.f 1
        have zw5 := Uw.out.f 2
        go_wp2_with fail
        refine HX.out.mono ?_
        rintro e u9 ⟨qa, qn, qk, rfl, hm, hb, hf⟩
        rw [HPU.out] at hm hf ⊢
        have LW := Uw.out.t.lt
        replace C := hide (below_next C.out hb)
        replace Uw := hide (Uw.out.below hb)
        clear HX hb za0 za1 za2 zt0 zt1 zt2 zu0 zu1 zu2 zv0 zv1 zv2 zr0 zr1 zr2 zo0 zo1 zo2 zw0 zw1 zw2 zw3 zw4 zw5
        have MW := hide (hm.set3 hf LW (.int .i64 PU.rows) (.int .i64 PU.cols) (.slice qa qn qk))
        clear hm hf LW
        obtain ⟨y00, y01, y02⟩ := Uw.out.t
        have y03 := Uw.out.f 0
        have y04 := Uw.out.f 1
        have y05 := Uw.out.f 2
        replace C := hide (below_set3 C.out LB.out (.int .i64 PU.rows) (.int .i64 PU.cols) (.slice qa qn qk))
        replace Uw := hide (Uw.out.set PU.rows PU.cols (.slice qa qn qk))
        have HX := hide (matrices_any _ _ PU PU _ (Mu.out.below C.out) MW.out)
        obtain ⟨za0, za1, za2⟩ := Ta.out.below C.out
        obtain ⟨zt0, zt1, zt2⟩ := Tt.out.below C.out
        obtain ⟨zu0, zu1, zu2⟩ := Tu.out.below C.out
        obtain ⟨zv0, zv1, zv2⟩ := Tv.out.below C.out
        obtain ⟨zr0, zr1, zr2⟩ := Tr.out.below C.out
        obtain ⟨zo0, zo1, zo2⟩ := To.out.below C.out
        obtain ⟨zw0, zw1, zw2⟩ := Uw.out.t
        have zw3 := Uw.out.f 0
        have zw4 := Uw.out.f 1
        have zw5 := Uw.out.f 2
        go_wp2_with fail
        refine HX.out.mono ?_
        rintro e u10 ⟨rfl, hb⟩
        rw [sameM_refl]
        clear MW
        replace C := hide (below_next C.out hb)
        replace Uw := hide (Uw.out.below hb)
        clear HX hb za0 za1 za2 zt0 zt1 zt2 zu0 zu1 zu2 zv0 zv1 zv2 zr0 zr1 zr2 zo0 zo1 zo2 zw0 zw1 zw2 zw3 zw4 zw5 y00 y01 y02 y03 y04 y05
        have HX := hide (ref_sums _ (Ma.out.below C.out) HA.out)
        obtain ⟨za0, za1, za2⟩ := Ta.out.below C.out
        obtain ⟨zt0, zt1, zt2⟩ := Tt.out.below C.out
        obtain ⟨zu0, zu1, zu2⟩ := Tu.out.below C.out
        obtain ⟨zv0, zv1, zv2⟩ := Tv.out.below C.out
        obtain ⟨zr0, zr1, zr2⟩ := Tr.out.below C.out
        obtain ⟨zo0, zo1, zo2⟩ := To.out.below C.out
        obtain ⟨zw0, zw1, zw2⟩ := Uw.out.t
        have zw3 := Uw.out.f 0
        have zw4 := Uw.out.f 1
        have zw5 := Uw.out.f 2
        go_wp2_with fail
        refine HX.out.mono ?_
        rintro e u11 ⟨qa, qn, qk, rfl, hm, hb, hf⟩
        rw [HPV.out] at hm hf ⊢
        have LW := Uw.out.t.lt
        replace C := hide (below_next C.out hb)
        replace Uw := hide (Uw.out.below hb)
        clear HX hb za0 za1 za2 zt0 zt1 zt2 zu0 zu1 zu2 zv0 zv1 zv2 zr0 zr1 zr2 zo0 zo1 zo2 zw0 zw1 zw2 zw3 zw4 zw5
        have MW := hide (hm.set3 hf LW (.int .i64 PV.rows) (.int .i64 PV.cols) (.slice qa qn qk))
        clear hm hf LW
        obtain ⟨y00, y01, y02⟩ := Uw.out.t
        have y03 := Uw.out.f 0
        have y04 := Uw.out.f 1
        have y05 := Uw.out.f 2
        replace C := hide (below_set3 C.out LB.out (.int .i64 PV.rows) (.int .i64 PV.cols) (.slice qa qn qk))
        replace Uw := hide (Uw.out.set PV.rows PV.cols (.slice qa qn qk))
        have HX := hide (matrices_any _ _ PV PV _ (Mv.out.below C.out) MW.out)
        obtain ⟨za0, za1, za2⟩ := Ta.out.below C.out
        obtain ⟨zt0, zt1, zt2⟩ := Tt.out.below C.out
        obtain ⟨zu0, zu1, zu2⟩ := Tu.out.below C.out
        obtain ⟨zv0, zv1, zv2⟩ := Tv.out.below C.out
        obtain ⟨zr0, zr1, zr2⟩ := Tr.out.below C.out
        obtain ⟨zo0, zo1, zo2⟩ := To.out.below C.out
        obtain ⟨zw0, zw1, zw2⟩ := Uw.out.t
        have zw3 := Uw.out.f 0
        have zw4 := Uw.out.f 1
        have zw5 := Uw.out.f 2
        go_wp2_with fail
        refine HX.out.mono ?_
        rintro e u12 ⟨rfl, hb⟩
        rw [sameM_refl]
        clear MW
        replace C := hide (below_next C.out hb)
        replace Uw := hide (Uw.out.below hb)
        clear HX hb za0 za1 za2 zt0 zt1 zt2 zu0 zu1 zu2 zv0 zv1 zv2 zr0 zr1 zr2 zo0 zo1 zo2 zw0 zw1 zw2 zw3 zw4 zw5 y00 y01 y02 y03 y04 y05
        by_cases hb1 : f < 0
        · skip
          have HX := hide (error_same (k := rowsE m0 f t) (n := 1) HRE.out _ (HH.out.below C.out))
          obtain ⟨za0, za1, za2⟩ := Ta.out.below C.out
          obtain ⟨zt0, zt1, zt2⟩ := Tt.out.below C.out
          obtain ⟨zu0, zu1, zu2⟩ := Tu.out.below C.out
          obtain ⟨zv0, zv1, zv2⟩ := Tv.out.below C.out
          obtain ⟨zr0, zr1, zr2⟩ := Tr.out.below C.out
          obtain ⟨zo0, zo1, zo2⟩ := To.out.below C.out
          obtain ⟨zw0, zw1, zw2⟩ := Uw.out.t
          have zw3 := Uw.out.f 0
          have zw4 := Uw.out.f 1
          have zw5 := Uw.out.f 2
          go_wp2_with fail
          refine HX.out.mono ?_
          rintro e u13 ⟨rfl, hb⟩
          replace C := hide (below_next C.out hb)
          replace Uw := hide (Uw.out.below hb)
          clear HX hb za0 za1 za2 zt0 zt1 zt2 zu0 zu1 zu2 zv0 zv1 zv2 zr0 zr1 zr2 zo0 zo1 zo2 zw0 zw1 zw2 zw3 zw4 zw5
          have HX := hide (matrices_any _ _ PR noMx _ (Mr.out.below C.out) (isMx_no _))
          obtain ⟨za0, za1, za2⟩ := Ta.out.below C.out
          obtain ⟨zt0, zt1, zt2⟩ := Tt.out.below C.out
          obtain ⟨zu0, zu1, zu2⟩ := Tu.out.below C.out
          obtain ⟨zv0, zv1, zv2⟩ := Tv.out.below C.out
          obtain ⟨zr0, zr1, zr2⟩ := Tr.out.below C.out
          obtain ⟨zo0, zo1, zo2⟩ := To.out.below C.out
          obtain ⟨zw0, zw1, zw2⟩ := Uw.out.t
          have zw3 := Uw.out.f 0
          have zw4 := Uw.out.f 1
          have zw5 := Uw.out.f 2
          go_wp2_with fail
          refine HX.out.mono ?_
          rintro e u14 ⟨rfl, hb⟩
          rw [show sameM PR noMx = true by rw [HNR.out]; exact sameM_refl _]
          replace C := hide (below_next C.out hb)
          replace Uw := hide (Uw.out.below hb)
          clear HX hb za0 za1 za2 zt0 zt1 zt2 zu0 zu1 zu2 zv0 zv1 zv2 zr0 zr1 zr2 zo0 zo1 zo2 zw0 zw1 zw2 zw3 zw4 zw5
          obtain ⟨za0, za1, za2⟩ := Ta.out.below C.out
          obtain ⟨zt0, zt1, zt2⟩ := Tt.out.below C.out
          obtain ⟨zu0, zu1, zu2⟩ := Tu.out.below C.out
          obtain ⟨zv0, zv1, zv2⟩ := Tv.out.below C.out
          obtain ⟨zr0, zr1, zr2⟩ := Tr.out.below C.out
          obtain ⟨zo0, zo1, zo2⟩ := To.out.below C.out
          obtain ⟨zw0, zw1, zw2⟩ := Uw.out.t
          have zw3 := Uw.out.f 0
          have zw4 := Uw.out.f 1
          have zw5 := Uw.out.f 2
          go_wp2
          go_ret
          exact ⟨rfl, below_next WW.out C.out⟩
        · by_cases hb2 : t < f
          · skip
            have HX := hide (error_same (k := rowsE m0 f t) (n := 1) HRE.out _ (HH.out.below C.out))
            obtain ⟨za0, za1, za2⟩ := Ta.out.below C.out
            obtain ⟨zt0, zt1, zt2⟩ := Tt.out.below C.out
            obtain ⟨zu0, zu1, zu2⟩ := Tu.out.below C.out
            obtain ⟨zv0, zv1, zv2⟩ := Tv.out.below C.out
            obtain ⟨zr0, zr1, zr2⟩ := Tr.out.below C.out
            obtain ⟨zo0, zo1, zo2⟩ := To.out.below C.out
            obtain ⟨zw0, zw1, zw2⟩ := Uw.out.t
            have zw3 := Uw.out.f 0
            have zw4 := Uw.out.f 1
            have zw5 := Uw.out.f 2
            go_wp2_with fail
            refine HX.out.mono ?_
            rintro e u13 ⟨rfl, hb⟩
            replace C := hide (below_next C.out hb)
            replace Uw := hide (Uw.out.below hb)
            clear HX hb za0 za1 za2 zt0 zt1 zt2 zu0 zu1 zu2 zv0 zv1 zv2 zr0 zr1 zr2 zo0 zo1 zo2 zw0 zw1 zw2 zw3 zw4 zw5
            have HX := hide (matrices_any _ _ PR noMx _ (Mr.out.below C.out) (isMx_no _))
            obtain ⟨za0, za1, za2⟩ := Ta.out.below C.out
            obtain ⟨zt0, zt1, zt2⟩ := Tt.out.below C.out
            obtain ⟨zu0, zu1, zu2⟩ := Tu.out.below C.out
            obtain ⟨zv0, zv1, zv2⟩ := Tv.out.below C.out
            obtain ⟨zr0, zr1, zr2⟩ := Tr.out.below C.out
            obtain ⟨zo0, zo1, zo2⟩ := To.out.below C.out
            obtain ⟨zw0, zw1, zw2⟩ := Uw.out.t
            have zw3 := Uw.out.f 0
            have zw4 := Uw.out.f 1
            have zw5 := Uw.out.f 2
            go_wp2_with fail
            refine HX.out.mono ?_
            rintro e u14 ⟨rfl, hb⟩
            rw [show sameM PR noMx = true by rw [HNR.out]; exact sameM_refl _]
            replace C := hide (below_next C.out hb)
            replace Uw := hide (Uw.out.below hb)
            clear HX hb za0 za1 za2 zt0 zt1 zt2 zu0 zu1 zu2 zv0 zv1 zv2 zr0 zr1 zr2 zo0 zo1 zo2 zw0 zw1 zw2 zw3 zw4 zw5
            obtain ⟨za0, za1, za2⟩ := Ta.out.below C.out
            obtain ⟨zt0, zt1, zt2⟩ := Tt.out.below C.out
            obtain ⟨zu0, zu1, zu2⟩ := Tu.out.below C.out
            obtain ⟨zv0, zv1, zv2⟩ := Tv.out.below C.out
            obtain ⟨zr0, zr1, zr2⟩ := Tr.out.below C.out
            obtain ⟨zo0, zo1, zo2⟩ := To.out.below C.out
            obtain ⟨zw0, zw1, zw2⟩ := Uw.out.t
            have zw3 := Uw.out.f 0
            have zw4 := Uw.out.f 1
            have zw5 := Uw.out.f 2
            go_wp2
            go_ret
            exact ⟨rfl, below_next WW.out C.out⟩
          · have hb3 : r < t := by have := HB.out; omega
            have HX := hide (error_same (k := rowsE m0 f t) (n := 1) HRE.out _ (HH.out.below C.out))
            obtain ⟨za0, za1, za2⟩ := Ta.out.below C.out
            obtain ⟨zt0, zt1, zt2⟩ := Tt.out.below C.out
            obtain ⟨zu0, zu1, zu2⟩ := Tu.out.below C.out
            obtain ⟨zv0, zv1, zv2⟩ := Tv.out.below C.out
            obtain ⟨zr0, zr1, zr2⟩ := Tr.out.below C.out
            obtain ⟨zo0, zo1, zo2⟩ := To.out.below C.out
            obtain ⟨zw0, zw1, zw2⟩ := Uw.out.t
            have zw3 := Uw.out.f 0
            have zw4 := Uw.out.f 1
            have zw5 := Uw.out.f 2
            go_wp2_with fail
            refine HX.out.mono ?_
            rintro e u13 ⟨rfl, hb⟩
            replace C := hide (below_next C.out hb)
            replace Uw := hide (Uw.out.below hb)
            clear HX hb za0 za1 za2 zt0 zt1 zt2 zu0 zu1 zu2 zv0 zv1 zv2 zr0 zr1 zr2 zo0 zo1 zo2 zw0 zw1 zw2 zw3 zw4 zw5
            have HX := hide (matrices_any _ _ PR noMx _ (Mr.out.below C.out) (isMx_no _))
            obtain ⟨za0, za1, za2⟩ := Ta.out.below C.out
            obtain ⟨zt0, zt1, zt2⟩ := Tt.out.below C.out
            obtain ⟨zu0, zu1, zu2⟩ := Tu.out.below C.out
            obtain ⟨zv0, zv1, zv2⟩ := Tv.out.below C.out
            obtain ⟨zr0, zr1, zr2⟩ := Tr.out.below C.out
            obtain ⟨zo0, zo1, zo2⟩ := To.out.below C.out
            obtain ⟨zw0, zw1, zw2⟩ := Uw.out.t
            have zw3 := Uw.out.f 0
            have zw4 := Uw.out.f 1
            have zw5 := Uw.out.f 2
            go_wp2_with fail
            refine HX.out.mono ?_
            rintro e u14 ⟨rfl, hb⟩
            rw [show sameM PR noMx = true by rw [HNR.out]; exact sameM_refl _]
            replace C := hide (below_next C.out hb)
            replace Uw := hide (Uw.out.below hb)
            clear HX hb za0 za1 za2 zt0 zt1 zt2 zu0 zu1 zu2 zv0 zv1 zv2 zr0 zr1 zr2 zo0 zo1 zo2 zw0 zw1 zw2 zw3 zw4 zw5
            obtain ⟨za0, za1, za2⟩ := Ta.out.below C.out
            obtain ⟨zt0, zt1, zt2⟩ := Tt.out.below C.out
            obtain ⟨zu0, zu1, zu2⟩ := Tu.out.below C.out
            obtain ⟨zv0, zv1, zv2⟩ := Tv.out.below C.out
            obtain ⟨zr0, zr1, zr2⟩ := Tr.out.below C.out
            obtain ⟨zo0, zo1, zo2⟩ := To.out.below C.out
            obtain ⟨zw0, zw1, zw2⟩ := Uw.out.t
            have zw3 := Uw.out.f 0
            have zw4 := Uw.out.f 1
            have zw5 := Uw.out.f 2
            go_wp2
            go_ret
            exact ⟨rfl, below_next WW.out C.out⟩
  · obtain ⟨k, hk⟩ : ∃ k, fault m0 = k := ⟨_, rfl⟩
    have hk0 : ¬ k = 0 := by rw [← hk]; exact hA
    have HE := hide (show turnE m0 = k ∧ timesE m0 = k ∧ rowsE m0 f t = k ∧ ¬ k = 0 from ⟨by unfold turnE; rw [if_pos hA]; exact hk, by unfold timesE; rw [if_pos hA]; exact hk, by unfold rowsE; rw [if_pos hA]; exact hk, hk0⟩)
    have HNT := hide (show PT = noMx by rw [← HPT.out]; exact turnX_no (by rw [HE.out.1]; exact HE.out.2.2.2))
    have HNU := hide (show PU = noMx by rw [← HPU.out]; exact timesX_no (by rw [HE.out.2.1]; exact HE.out.2.2.2))
    have HNV := hide (show PV = noMx by rw [← HPV.out]; exact sumsX_no (by rw [HE.out.2.1]; exact HE.out.2.2.2))
    have HNR := hide (show PR = noMx by rw [← HPR.out]; exact rowsX_no (by rw [HE.out.2.2.1]; exact HE.out.2.2.2))
    rw [hk]
    clear hk hA
    have HX := hide (mturn_any _ m0 _ (Ma.out.below C.out))
    obtain ⟨za0, za1, za2⟩ := Ta.out.below C.out
    go_wp2_with fail
    refine HX.out.mono ?_
    intro e u2 h
    obtain ⟨ta, tn, tk, rfl, hm, hb⟩ := h.any
    clear h
    rw [HPT.out] at hm ⊢
    replace C := hide (below_next C.out hb)
    clear HX hb za0 za1 za2
    have MM := hide (hm.below (below_one u2 (.cells #[.int .i64 PT.rows, .int .i64 PT.cols, .slice ta tn tk] 24)))
    have D := below_next C.out (below_one u2 (.cells #[.int .i64 PT.rows, .int .i64 PT.cols, .slice ta tn tk] 24))
    replace Ta := hide (Ta.out.below D)
    replace Ma := hide (Ma.out.below D)
    replace HH := hide (HH.out.below D)
    replace WW := hide (below_next WW.out D)
    replace C := hide (Below.refl (u2.alloc (.cells #[.int .i64 PT.rows, .int .i64 PT.cols, .slice ta tn tk] 24)).heap.size (u2.alloc (.cells #[.int .i64 PT.rows, .int .i64 PT.cols, .slice ta tn tk] 24)))
    clear D
    have Tt := hide (three_newB u2 PT.rows PT.cols (.slice ta tn tk) 24 (B := u2.heap.size) (by simp))
    have Mt := MM
    clear MM hm
    have HX := hide (mtimes_any _ m0 x _ (Ma.out.below C.out))
    obtain ⟨za0, za1, za2⟩ := Ta.out.below C.out
    obtain ⟨zt0, zt1, zt2⟩ := Tt.out.below C.out
    go_wp2_with fail
    refine HX.out.mono ?_
    intro e u3 h
    obtain ⟨ua, un, uk, rfl, hm, hb⟩ := h.any
    clear h
    rw [HPU.out] at hm ⊢
    replace C := hide (below_next C.out hb)
    clear HX hb za0 za1 za2 zt0 zt1 zt2
    have MM := hide (hm.below (below_one u3 (.cells #[.int .i64 PU.rows, .int .i64 PU.cols, .slice ua un uk] 24)))
    have D := below_next C.out (below_one u3 (.cells #[.int .i64 PU.rows, .int .i64 PU.cols, .slice ua un uk] 24))
    replace Ta := hide (Ta.out.below D)
    replace Tt := hide (Tt.out.below D)
    replace Ma := hide (Ma.out.below D)
    replace Mt := hide (Mt.out.below D)
    replace HH := hide (HH.out.below D)
    replace WW := hide (below_next WW.out D)
    replace C := hide (Below.refl (u3.alloc (.cells #[.int .i64 PU.rows, .int .i64 PU.cols, .slice ua un uk] 24)).heap.size (u3.alloc (.cells #[.int .i64 PU.rows, .int .i64 PU.cols, .slice ua un uk] 24)))
    clear D
    have Tu := hide (three_newB u3 PU.rows PU.cols (.slice ua un uk) 24 (B := u3.heap.size) (by simp))
    have Mu := MM
    clear MM hm
    have HX := hide (msums_any _ m0 _ (Ma.out.below C.out))
    obtain ⟨za0, za1, za2⟩ := Ta.out.below C.out
    obtain ⟨zt0, zt1, zt2⟩ := Tt.out.below C.out
    obtain ⟨zu0, zu1, zu2⟩ := Tu.out.below C.out
    go_wp2_with fail
    refine HX.out.mono ?_
    intro e u4 h
    obtain ⟨va, vn, vk, rfl, hm, hb⟩ := h.any
    clear h
    rw [HPV.out] at hm ⊢
    replace C := hide (below_next C.out hb)
    clear HX hb za0 za1 za2 zt0 zt1 zt2 zu0 zu1 zu2
    have MM := hide (hm.below (below_one u4 (.cells #[.int .i64 PV.rows, .int .i64 PV.cols, .slice va vn vk] 24)))
    have D := below_next C.out (below_one u4 (.cells #[.int .i64 PV.rows, .int .i64 PV.cols, .slice va vn vk] 24))
    replace Ta := hide (Ta.out.below D)
    replace Tt := hide (Tt.out.below D)
    replace Tu := hide (Tu.out.below D)
    replace Ma := hide (Ma.out.below D)
    replace Mt := hide (Mt.out.below D)
    replace Mu := hide (Mu.out.below D)
    replace HH := hide (HH.out.below D)
    replace WW := hide (below_next WW.out D)
    replace C := hide (Below.refl (u4.alloc (.cells #[.int .i64 PV.rows, .int .i64 PV.cols, .slice va vn vk] 24)).heap.size (u4.alloc (.cells #[.int .i64 PV.rows, .int .i64 PV.cols, .slice va vn vk] 24)))
    clear D
    have Tv := hide (three_newB u4 PV.rows PV.cols (.slice va vn vk) 24 (B := u4.heap.size) (by simp))
    have Mv := MM
    clear MM hm
    have HX := hide (mrows_any _ m0 f t _ (Ma.out.below C.out))
    obtain ⟨za0, za1, za2⟩ := Ta.out.below C.out
    obtain ⟨zt0, zt1, zt2⟩ := Tt.out.below C.out
    obtain ⟨zu0, zu1, zu2⟩ := Tu.out.below C.out
    obtain ⟨zv0, zv1, zv2⟩ := Tv.out.below C.out
    go_wp2_with fail
    refine HX.out.mono ?_
    intro e u5 h
    obtain ⟨ra, rn, rk, rfl, hm, hb⟩ := h.any
    clear h
    rw [HPR.out] at hm ⊢
    replace C := hide (below_next C.out hb)
    clear HX hb za0 za1 za2 zt0 zt1 zt2 zu0 zu1 zu2 zv0 zv1 zv2
    have MM := hide (hm.below (below_one u5 (.cells #[.int .i64 PR.rows, .int .i64 PR.cols, .slice ra rn rk] 24)))
    have D := below_next C.out (below_one u5 (.cells #[.int .i64 PR.rows, .int .i64 PR.cols, .slice ra rn rk] 24))
    replace Ta := hide (Ta.out.below D)
    replace Tt := hide (Tt.out.below D)
    replace Tu := hide (Tu.out.below D)
    replace Tv := hide (Tv.out.below D)
    replace Ma := hide (Ma.out.below D)
    replace Mt := hide (Mt.out.below D)
    replace Mu := hide (Mu.out.below D)
    replace Mv := hide (Mv.out.below D)
    replace HH := hide (HH.out.below D)
    replace WW := hide (below_next WW.out D)
    replace C := hide (Below.refl (u5.alloc (.cells #[.int .i64 PR.rows, .int .i64 PR.cols, .slice ra rn rk] 24)).heap.size (u5.alloc (.cells #[.int .i64 PR.rows, .int .i64 PR.cols, .slice ra rn rk] 24)))
    clear D
    have Tr := hide (three_newB u5 PR.rows PR.cols (.slice ra rn rk) 24 (B := u5.heap.size) (by simp))
    have Mr := MM
    clear MM hm
    have D := below_next C.out (below_one (u5.alloc (.cells #[.int .i64 PR.rows, .int .i64 PR.cols, .slice ra rn rk] 24)) (.cells #[.int .i64 0, .int .i64 0, .slice none 0 0] 24))
    replace Ta := hide (Ta.out.below D)
    replace Tt := hide (Tt.out.below D)
    replace Tu := hide (Tu.out.below D)
    replace Tv := hide (Tv.out.below D)
    replace Tr := hide (Tr.out.below D)
    replace Ma := hide (Ma.out.below D)
    replace Mt := hide (Mt.out.below D)
    replace Mu := hide (Mu.out.below D)
    replace Mv := hide (Mv.out.below D)
    replace Mr := hide (Mr.out.below D)
    replace HH := hide (HH.out.below D)
    replace WW := hide (below_next WW.out D)
    replace C := hide (Below.refl ((u5.alloc (.cells #[.int .i64 PR.rows, .int .i64 PR.cols, .slice ra rn rk] 24)).alloc (.cells #[.int .i64 0, .int .i64 0, .slice none 0 0] 24)).heap.size ((u5.alloc (.cells #[.int .i64 PR.rows, .int .i64 PR.cols, .slice ra rn rk] 24)).alloc (.cells #[.int .i64 0, .int .i64 0, .slice none 0 0] 24)))
    clear D
    have To := hide (three_newB (u5.alloc (.cells #[.int .i64 PR.rows, .int .i64 PR.cols, .slice ra rn rk] 24)) 0 0 (.slice none 0 0) 24 (B := u5.heap.size + 1) (by simp))
    have HX := hide (error_same (k := turnE m0) (n := k) HE.out.1 _ (HH.out.below C.out))
    obtain ⟨za0, za1, za2⟩ := Ta.out.below C.out
    obtain ⟨zt0, zt1, zt2⟩ := Tt.out.below C.out
    obtain ⟨zu0, zu1, zu2⟩ := Tu.out.below C.out
    obtain ⟨zv0, zv1, zv2⟩ := Tv.out.below C.out
    obtain ⟨zr0, zr1, zr2⟩ := Tr.out.below C.out
    obtain ⟨zo0, zo1, zo2⟩ := To.out.below C.out
    go_wp2_with fail
    refine HX.out.mono ?_
    rintro e u6 ⟨rfl, hb⟩
    replace C := hide (below_next C.out hb)
    clear HX hb za0 za1 za2 zt0 zt1 zt2 zu0 zu1 zu2 zv0 zv1 zv2 zr0 zr1 zr2 zo0 zo1 zo2
    have HX := hide (error_same (k := timesE m0) (n := k) HE.out.2.1 _ (HH.out.below C.out))
    obtain ⟨za0, za1, za2⟩ := Ta.out.below C.out
    obtain ⟨zt0, zt1, zt2⟩ := Tt.out.below C.out
    obtain ⟨zu0, zu1, zu2⟩ := Tu.out.below C.out
    obtain ⟨zv0, zv1, zv2⟩ := Tv.out.below C.out
    obtain ⟨zr0, zr1, zr2⟩ := Tr.out.below C.out
    obtain ⟨zo0, zo1, zo2⟩ := To.out.below C.out
    go_wp2_with fail
    refine HX.out.mono ?_
    rintro e u7 ⟨rfl, hb⟩
    replace C := hide (below_next C.out hb)
    clear HX hb za0 za1 za2 zt0 zt1 zt2 zu0 zu1 zu2 zv0 zv1 zv2 zr0 zr1 zr2 zo0 zo1 zo2
    have HX := hide (error_same (k := timesE m0) (n := k) HE.out.2.1 _ (HH.out.below C.out))
    obtain ⟨za0, za1, za2⟩ := Ta.out.below C.out
    obtain ⟨zt0, zt1, zt2⟩ := Tt.out.below C.out
    obtain ⟨zu0, zu1, zu2⟩ := Tu.out.below C.out
    obtain ⟨zv0, zv1, zv2⟩ := Tv.out.below C.out
    obtain ⟨zr0, zr1, zr2⟩ := Tr.out.below C.out
    obtain ⟨zo0, zo1, zo2⟩ := To.out.below C.out
    go_wp2_with fail
    refine HX.out.mono ?_
    rintro e u8 ⟨rfl, hb⟩
    replace C := hide (below_next C.out hb)
    clear HX hb za0 za1 za2 zt0 zt1 zt2 zu0 zu1 zu2 zv0 zv1 zv2 zr0 zr1 zr2 zo0 zo1 zo2
    have HX := hide (error_same (k := rowsE m0 f t) (n := k) HE.out.2.2.1 _ (HH.out.below C.out))
    obtain ⟨za0, za1, za2⟩ := Ta.out.below C.out
    obtain ⟨zt0, zt1, zt2⟩ := Tt.out.below C.out
    obtain ⟨zu0, zu1, zu2⟩ := Tu.out.below C.out
    obtain ⟨zv0, zv1, zv2⟩ := Tv.out.below C.out
    obtain ⟨zr0, zr1, zr2⟩ := Tr.out.below C.out
    obtain ⟨zo0, zo1, zo2⟩ := To.out.below C.out
    go_wp2_with fail
    refine HX.out.mono ?_
    rintro e u9 ⟨rfl, hb⟩
    replace C := hide (below_next C.out hb)
    clear HX hb za0 za1 za2 zt0 zt1 zt2 zu0 zu1 zu2 zv0 zv1 zv2 zr0 zr1 zr2 zo0 zo1 zo2
    have HX := hide (matrices_any _ _ PT noMx _ (Mt.out.below C.out) (isMx_no _))
    obtain ⟨za0, za1, za2⟩ := Ta.out.below C.out
    obtain ⟨zt0, zt1, zt2⟩ := Tt.out.below C.out
    obtain ⟨zu0, zu1, zu2⟩ := Tu.out.below C.out
    obtain ⟨zv0, zv1, zv2⟩ := Tv.out.below C.out
    obtain ⟨zr0, zr1, zr2⟩ := Tr.out.below C.out
    obtain ⟨zo0, zo1, zo2⟩ := To.out.below C.out
    go_wp2_with fail
    refine HX.out.mono ?_
    rintro e u10 ⟨rfl, hb⟩
    rw [show sameM PT noMx = true by rw [HNT.out]; exact sameM_refl _]
    replace C := hide (below_next C.out hb)
    clear HX hb za0 za1 za2 zt0 zt1 zt2 zu0 zu1 zu2 zv0 zv1 zv2 zr0 zr1 zr2 zo0 zo1 zo2
    have HX := hide (matrices_any _ _ PU noMx _ (Mu.out.below C.out) (isMx_no _))
    obtain ⟨za0, za1, za2⟩ := Ta.out.below C.out
    obtain ⟨zt0, zt1, zt2⟩ := Tt.out.below C.out
    obtain ⟨zu0, zu1, zu2⟩ := Tu.out.below C.out
    obtain ⟨zv0, zv1, zv2⟩ := Tv.out.below C.out
    obtain ⟨zr0, zr1, zr2⟩ := Tr.out.below C.out
    obtain ⟨zo0, zo1, zo2⟩ := To.out.below C.out
    go_wp2_with fail
    refine HX.out.mono ?_
    rintro e u11 ⟨rfl, hb⟩
    rw [show sameM PU noMx = true by rw [HNU.out]; exact sameM_refl _]
    replace C := hide (below_next C.out hb)
    clear HX hb za0 za1 za2 zt0 zt1 zt2 zu0 zu1 zu2 zv0 zv1 zv2 zr0 zr1 zr2 zo0 zo1 zo2
    have HX := hide (matrices_any _ _ PV noMx _ (Mv.out.below C.out) (isMx_no _))
    obtain ⟨za0, za1, za2⟩ := Ta.out.below C.out
    obtain ⟨zt0, zt1, zt2⟩ := Tt.out.below C.out
    obtain ⟨zu0, zu1, zu2⟩ := Tu.out.below C.out
    obtain ⟨zv0, zv1, zv2⟩ := Tv.out.below C.out
    obtain ⟨zr0, zr1, zr2⟩ := Tr.out.below C.out
    obtain ⟨zo0, zo1, zo2⟩ := To.out.below C.out
    go_wp2_with fail
    refine HX.out.mono ?_
    rintro e u12 ⟨rfl, hb⟩
    rw [show sameM PV noMx = true by rw [HNV.out]; exact sameM_refl _]
    replace C := hide (below_next C.out hb)
    clear HX hb za0 za1 za2 zt0 zt1 zt2 zu0 zu1 zu2 zv0 zv1 zv2 zr0 zr1 zr2 zo0 zo1 zo2
    have HX := hide (matrices_any _ _ PR noMx _ (Mr.out.below C.out) (isMx_no _))
    obtain ⟨za0, za1, za2⟩ := Ta.out.below C.out
    obtain ⟨zt0, zt1, zt2⟩ := Tt.out.below C.out
    obtain ⟨zu0, zu1, zu2⟩ := Tu.out.below C.out
    obtain ⟨zv0, zv1, zv2⟩ := Tv.out.below C.out
    obtain ⟨zr0, zr1, zr2⟩ := Tr.out.below C.out
    obtain ⟨zo0, zo1, zo2⟩ := To.out.below C.out
    go_wp2_with fail
    refine HX.out.mono ?_
    rintro e u13 ⟨rfl, hb⟩
    rw [show sameM PR noMx = true by rw [HNR.out]; exact sameM_refl _]
    replace C := hide (below_next C.out hb)
    clear HX hb za0 za1 za2 zt0 zt1 zt2 zu0 zu1 zu2 zv0 zv1 zv2 zr0 zr1 zr2 zo0 zo1 zo2
    obtain ⟨za0, za1, za2⟩ := Ta.out.below C.out
    obtain ⟨zt0, zt1, zt2⟩ := Tt.out.below C.out
    obtain ⟨zu0, zu1, zu2⟩ := Tu.out.below C.out
    obtain ⟨zv0, zv1, zv2⟩ := Tv.out.below C.out
    obtain ⟨zr0, zr1, zr2⟩ := Tr.out.below C.out
    obtain ⟨zo0, zo1, zo2⟩ := To.out.below C.out
    go_wp2
    go_ret
    exact ⟨rfl, below_next WW.out C.out⟩
end Go.Proofs.YtpgmbpgclnhkgabDoor
