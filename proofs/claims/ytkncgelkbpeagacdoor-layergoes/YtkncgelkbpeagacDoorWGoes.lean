/- The walk of the law LayerGoes: Check, Wide and Go of package layer answer what the document's answer does. Condition: the library's variable errors.errorType is as its text lays it. -/
import Derived.Test.YtkncgelkbpeagacDoorErr
import Derived.Test.YtkncgelkbpeagacDoorRLWide
import Derived.Test.YtkncgelkbpeagacDoorRLGoA
import Derived.Test.YtkncgelkbpeagacDoorLWide
import Derived.Test.YtkncgelkbpeagacDoorLGo
namespace Go.Proofs.YtkncgelkbpeagacDoor
open Go.RowKit
theorem Box.above' {n B : Nat} {w u : World} {cs : List Value} (h : Box w B cs) (hB : n ≤ B) (ha : Above n w u) : Box u B cs := fun j x hx => ha _ _ hB (h j x hx)
theorem IsMx.above' {n : Nat} {w u : World} {v : Value} {m : Mx} (h : IsMx w v m) (hf : Fresh n v) (ha : Above n w u) : IsMx u v m := h.above hf ha
set_option maxHeartbeats 40000000 in
set_option maxRecDepth 100000 in
theorem goes_walk (v0 : Value) (l : Ly) (v1 : Value) (m1 : Mx) (n : Int) (w : World) (w0 : IsLy w v0 l) (w1 : IsMx w v1 m1) (hH : Handle w) : Calls Tryd.prog 3 #[v0, v1, .int .i64 n] w fun e w' => e = .returned (.bool true) ∧ Below w.heap.size w w' := by
  obtain ⟨sl, tl, rfl, hsl, htl⟩ := w0
  obtain ⟨la, ln, lm, rfl⟩ := hsl.shape
  obtain ⟨ba, bn, bm, rfl⟩ := htl.shape
  obtain ⟨lk, e0⟩ : ∃ r, l.k = r := ⟨_, rfl⟩
  obtain ⟨lr, e1⟩ : ∃ r, l.w.rows = r := ⟨_, rfl⟩
  obtain ⟨lc, e2⟩ : ∃ r, l.w.cols = r := ⟨_, rfl⟩
  obtain ⟨br, e3⟩ : ∃ r, l.b.rows = r := ⟨_, rfl⟩
  obtain ⟨bc, e4⟩ : ∃ r, l.b.cols = r := ⟨_, rfl⟩
  have ML := hide (show IsLy w (.agg #[.int .i64 lk, .int .i64 lr, .int .i64 lc, .slice la ln lm, .int .i64 br, .int .i64 bc, .slice ba bn bm]) l from ⟨_, _, by rw [e0, e1, e2, e3, e4], hsl, htl⟩)
  obtain ⟨sm1, rfl, hm1⟩ := w1
  obtain ⟨xa, xn, xk, rfl⟩ := hm1.shape
  obtain ⟨r, er⟩ : ∃ r, m1.rows = r := ⟨_, rfl⟩
  obtain ⟨c, ec⟩ : ∃ r, m1.cols = r := ⟨_, rfl⟩
  have Mm1 := hide (show IsMx w (.agg #[.int .i64 r, .int .i64 c, .slice xa xn xk]) m1 from ⟨_, by rw [er, ec], hm1⟩)
  rw [e0, e1, e2, e3, e4, er, ec]
  have HH := hide hH
  clear hsl htl hm1 e0 e1 e2 e3 e4 er ec hH
  have WW := hide (Below.refl w.heap.size w)
  have C := hide (Below.refl w.heap.size w)
  have D := below_next C.out (below_one w (.cells #[.int .i64 lk, .int .i64 lr, .int .i64 lc, .slice la ln lm, .int .i64 br, .int .i64 bc, .slice ba bn bm] 26))
  replace ML := hide (ML.out.below D)
  replace Mm1 := hide (Mm1.out.below D)
  replace HH := hide (HH.out.below D)
  replace WW := hide (below_next WW.out D)
  replace C := hide (Below.refl (w.alloc (.cells #[.int .i64 lk, .int .i64 lr, .int .i64 lc, .slice la ln lm, .int .i64 br, .int .i64 bc, .slice ba bn bm] 26)).heap.size (w.alloc (.cells #[.int .i64 lk, .int .i64 lr, .int .i64 lc, .slice la ln lm, .int .i64 br, .int .i64 bc, .slice ba bn bm] 26)))
  clear D
  have Bl := hide (Box.new w [.int .i64 lk, .int .i64 lr, .int .i64 lc, .slice la ln lm, .int .i64 br, .int .i64 bc, .slice ba bn bm] 26 (B := w.heap.size) (by simp))
  have D := below_next C.out (below_one (w.alloc (.cells #[.int .i64 lk, .int .i64 lr, .int .i64 lc, .slice la ln lm, .int .i64 br, .int .i64 bc, .slice ba bn bm] 26)) (.cells #[.int .i64 r, .int .i64 c, .slice xa xn xk] 24))
  replace ML := hide (ML.out.below D)
  replace Mm1 := hide (Mm1.out.below D)
  replace HH := hide (HH.out.below D)
  replace Bl := hide (Bl.out.below D)
  replace WW := hide (below_next WW.out D)
  replace C := hide (Below.refl ((w.alloc (.cells #[.int .i64 lk, .int .i64 lr, .int .i64 lc, .slice la ln lm, .int .i64 br, .int .i64 bc, .slice ba bn bm] 26)).alloc (.cells #[.int .i64 r, .int .i64 c, .slice xa xn xk] 24)).heap.size ((w.alloc (.cells #[.int .i64 lk, .int .i64 lr, .int .i64 lc, .slice la ln lm, .int .i64 br, .int .i64 bc, .slice ba bn bm] 26)).alloc (.cells #[.int .i64 r, .int .i64 c, .slice xa xn xk] 24)))
  clear D
  have Bx := hide (Box.new (w.alloc (.cells #[.int .i64 lk, .int .i64 lr, .int .i64 lc, .slice la ln lm, .int .i64 br, .int .i64 bc, .slice ba bn bm] 26)) [.int .i64 r, .int .i64 c, .slice xa xn xk] 24 (B := w.heap.size + 1) (by simp))
  go_enter Tryd.func3, Tryd.ntmps3
  obtain ⟨j, hj⟩ : ∃ j, lfault l = j := ⟨_, rfl⟩
  have HJ := hide hj
  clear hj
  have HX := hide (rlfault_any _ l _ (ML.out.below C.out))
  have zl0 := (Bl.out.below C.out) 0 _ rfl
  have zl1 := (Bl.out.below C.out) 1 _ rfl
  have zl2 := (Bl.out.below C.out) 2 _ rfl
  have zl3 := (Bl.out.below C.out) 3 _ rfl
  have zl4 := (Bl.out.below C.out) 4 _ rfl
  have zl5 := (Bl.out.below C.out) 5 _ rfl
  have zl6 := (Bl.out.below C.out) 6 _ rfl
  go_wp2_with fail
  refine HX.out.mono ?_
  rintro e u1 ⟨rfl, hb⟩
  rw [HJ.out]
  replace C := hide (below_next C.out hb)
  clear HX hb zl0 zl1 zl2 zl3 zl4 zl5 zl6
  have HX := hide (lcheck_any _ l _ (ML.out.below C.out))
  have zl0 := (Bl.out.below C.out) 0 _ rfl
  have zl1 := (Bl.out.below C.out) 1 _ rfl
  have zl2 := (Bl.out.below C.out) 2 _ rfl
  have zl3 := (Bl.out.below C.out) 3 _ rfl
  have zl4 := (Bl.out.below C.out) 4 _ rfl
  have zl5 := (Bl.out.below C.out) 5 _ rfl
  have zl6 := (Bl.out.below C.out) 6 _ rfl
  go_wp2_with fail
  refine HX.out.mono ?_
  rintro e u2 ⟨rfl, hb⟩
  rw [HJ.out]
  replace C := hide (below_next C.out hb)
  clear HX hb zl0 zl1 zl2 zl3 zl4 zl5 zl6
  have HX := hide (error_same (k := j) (n := j) rfl _ (HH.out.below C.out))
  go_wp2_with fail
  refine HX.out.mono ?_
  rintro e u3 ⟨rfl, hb⟩
  replace C := hide (below_next C.out hb)
  clear HX hb 
  obtain ⟨wx, hwx⟩ : ∃ j, wideX l n = j := ⟨_, rfl⟩
  obtain ⟨we, hwe⟩ : ∃ j, wideE l n = j := ⟨_, rfl⟩
  have HWE := hide (And.intro hwx hwe)
  clear hwx hwe
  have HX := hide (lwide_any _ l n _ (ML.out.below C.out))
  have zl0 := (Bl.out.below C.out) 0 _ rfl
  have zl1 := (Bl.out.below C.out) 1 _ rfl
  have zl2 := (Bl.out.below C.out) 2 _ rfl
  have zl3 := (Bl.out.below C.out) 3 _ rfl
  have zl4 := (Bl.out.below C.out) 4 _ rfl
  have zl5 := (Bl.out.below C.out) 5 _ rfl
  have zl6 := (Bl.out.below C.out) 6 _ rfl
  go_wp2_with fail
  refine HX.out.mono ?_
  rintro e u4 ⟨rfl, hb⟩
  rw [HWE.out.1, HWE.out.2]
  replace C := hide (below_next C.out hb)
  clear HX hb zl0 zl1 zl2 zl3 zl4 zl5 zl6
  by_cases hj : j = 0
  · subst hj
    by_cases hin : n < 0 ∨ 12 < n
    · obtain rfl : we = 1 := by rw [← HWE.out.2, wideE_eq l n HJ.out]; exact w0E_1 hin
      obtain rfl : wx = 0 := by rw [← HWE.out.1, wideX_eq l n HJ.out]; exact (w0X_no (by rw [w0E_1 hin]; decide)).symm
      by_cases hn0 : n < 0
      · clear hin
        have HX := hide (error_same (k := 1) (n := 1) rfl _ (HH.out.below C.out))
        go_wp2_with fail
        refine HX.out.mono ?_
        rintro e u5 ⟨rfl, hb⟩
        replace C := hide (below_next C.out hb)
        clear HX hb 
        obtain ⟨E, hE⟩ : ∃ E, goE l m1 = E := ⟨_, rfl⟩
        obtain ⟨y, hy⟩ : ∃ y, goX l m1 = y := ⟨_, rfl⟩
        have HY := hide (And.intro hE hy)
        clear hE hy
        have HX := hide (lgo_any _ l m1 _ _ (ML.out.below C.out) (Mm1.out.below C.out))
        have zl0 := (Bl.out.below C.out) 0 _ rfl
        have zl1 := (Bl.out.below C.out) 1 _ rfl
        have zl2 := (Bl.out.below C.out) 2 _ rfl
        have zl3 := (Bl.out.below C.out) 3 _ rfl
        have zl4 := (Bl.out.below C.out) 4 _ rfl
        have zl5 := (Bl.out.below C.out) 5 _ rfl
        have zl6 := (Bl.out.below C.out) 6 _ rfl
        have zx0 := (Bx.out.below C.out) 0 _ rfl
        have zx1 := (Bx.out.below C.out) 1 _ rfl
        have zx2 := (Bx.out.below C.out) 2 _ rfl
        go_wp2_with fail
        refine HX.out.mono ?_
        intro e u6 h
        rw [HY.out.1, HY.out.2] at h
        obtain ⟨ya, yn, yk, rfl, hm, hb⟩ := h.any
        clear h
        replace C := hide (below_next C.out hb)
        clear HX hb zl0 zl1 zl2 zl3 zl4 zl5 zl6 zx0 zx1 zx2
        have My := hide (hm.below (below_one u6 (.cells #[.int .i64 y.rows, .int .i64 y.cols, .slice ya yn yk] 24)))
        have D := below_next C.out (below_one u6 (.cells #[.int .i64 y.rows, .int .i64 y.cols, .slice ya yn yk] 24))
        replace ML := hide (ML.out.below D)
        replace Mm1 := hide (Mm1.out.below D)
        replace HH := hide (HH.out.below D)
        replace Bl := hide (Bl.out.below D)
        replace Bx := hide (Bx.out.below D)
        replace WW := hide (below_next WW.out D)
        replace C := hide (Below.refl (u6.alloc (.cells #[.int .i64 y.rows, .int .i64 y.cols, .slice ya yn yk] 24)).heap.size (u6.alloc (.cells #[.int .i64 y.rows, .int .i64 y.cols, .slice ya yn yk] 24)))
        clear D
        have By := hide (Box.new u6 [.int .i64 y.rows, .int .i64 y.cols, .slice ya yn yk] 24 (B := u6.heap.size) (by simp))
        clear hm
        have HX := hide (rgofault_any _ _ l m1 _ (ML.out.below C.out) (Mm1.out.below C.out))
        have zl0 := (Bl.out.below C.out) 0 _ rfl
        have zl1 := (Bl.out.below C.out) 1 _ rfl
        have zl2 := (Bl.out.below C.out) 2 _ rfl
        have zl3 := (Bl.out.below C.out) 3 _ rfl
        have zl4 := (Bl.out.below C.out) 4 _ rfl
        have zl5 := (Bl.out.below C.out) 5 _ rfl
        have zl6 := (Bl.out.below C.out) 6 _ rfl
        have zx0 := (Bx.out.below C.out) 0 _ rfl
        have zx1 := (Bx.out.below C.out) 1 _ rfl
        have zx2 := (Bx.out.below C.out) 2 _ rfl
        go_wp2_with fail
        refine HX.out.mono ?_
        rintro e u7 ⟨rfl, hb⟩
        rw [HY.out.1]
        replace C := hide (below_next C.out hb)
        clear HX hb zl0 zl1 zl2 zl3 zl4 zl5 zl6 zx0 zx1 zx2
        by_cases hE : E = 0
        · subst hE
          rw [err_eq rfl]
          have Ay := By
          have AMy := My
          have AHH := HH
          have CA := C
          have WA0 := hide WW.out.size
          have LU := hide CA.out.size
          have D := below_next C.out (below_one u7 (.cells #[.int .i64 0, .int .i64 0, .slice none 0 0] 24))
          replace ML := hide (ML.out.below D)
          replace Mm1 := hide (Mm1.out.below D)
          replace HH := hide (HH.out.below D)
          replace Bl := hide (Bl.out.below D)
          replace Bx := hide (Bx.out.below D)
          replace By := hide (By.out.below D)
          replace My := hide (My.out.below D)
          replace CA := hide (below_next CA.out (below_one u7 (.cells #[.int .i64 0, .int .i64 0, .slice none 0 0] 24)))
          replace WW := hide (below_next WW.out D)
          replace C := hide (Below.refl (u7.alloc (.cells #[.int .i64 0, .int .i64 0, .slice none 0 0] 24)).heap.size (u7.alloc (.cells #[.int .i64 0, .int .i64 0, .slice none 0 0] 24)))
          clear D
          have Bw := hide (Box.new u7 [.int .i64 0, .int .i64 0, .slice none 0 0] 24 (B := u7.heap.size) (by simp))
          have Uw := hide (Mut.newB u7 0 0 (.slice none 0 0) 24 (B := u7.heap.size) (by simp))
          have HWW := hide (show u7.heap.size < (u7.alloc (.cells #[.int .i64 0, .int .i64 0, .slice none 0 0] 24)).heap.size by simp)
          have CS := hide (Nat.le_refl (u7.alloc (.cells #[.int .i64 0, .int .i64 0, .slice none 0 0] 24)).heap.size)
          have HX := hide (rgo_any _ _ l m1 _ (ML.out.below C.out) (Mm1.out.below C.out) HY.out.1)
          have zl0 := (Bl.out.below C.out) 0 _ rfl
          have zl1 := (Bl.out.below C.out) 1 _ rfl
          have zl2 := (Bl.out.below C.out) 2 _ rfl
          have zl3 := (Bl.out.below C.out) 3 _ rfl
          have zl4 := (Bl.out.below C.out) 4 _ rfl
          have zl5 := (Bl.out.below C.out) 5 _ rfl
          have zl6 := (Bl.out.below C.out) 6 _ rfl
          have zx0 := (Bx.out.below C.out) 0 _ rfl
          have zx1 := (Bx.out.below C.out) 1 _ rfl
          have zx2 := (Bx.out.below C.out) 2 _ rfl
          go_wp2_with fail
          refine HX.out.mono ?_
          intro e u8 h
          rw [HY.out.2] at h
          obtain ⟨qa, qn, qk, rfl, hm, hb, hf⟩ := h
          have FW := hide (fresh_mono hf CS.out)
          clear hf CS
          replace C := hide (below_next C.out hb)
          replace CA := hide (below_next CA.out hb)
          replace Uw := hide (Uw.out.below hb)
          clear HX hb zl0 zl1 zl2 zl3 zl4 zl5 zl6 zx0 zx1 zx2
          have WU := hide (Nat.le_trans WA0.out LU.out)
          obtain ⟨y00, y01, y02⟩ := Uw.out.t
          have y03 := Uw.out.f 0
          have y04 := Uw.out.f 1
          have y05 := Uw.out.f 2
          have HAB := above3 (B := u7.heap.size) HWW.out u8 (.int .i64 y.rows) (.int .i64 y.cols) (.slice qa qn qk)
          have MW := hide (hm.above' FW.out HAB)
          replace CA := hide (below_set3 CA.out LU.out (.int .i64 y.rows) (.int .i64 y.cols) (.slice qa qn qk))
          replace WW := hide (below_set3 (below_next WW.out C.out) WU.out (.int .i64 y.rows) (.int .i64 y.cols) (.slice qa qn qk))
          replace Uw := hide (Uw.out.set (y.rows) (y.cols) (.slice qa qn qk))
          replace C := hide (Below.refl (((u8.setCell ⟨u7.heap.size, 0, none⟩ (.int .i64 y.rows)).setCell ⟨u7.heap.size, 1, none⟩ (.int .i64 y.cols)).setCell ⟨u7.heap.size, 2, none⟩ (.slice qa qn qk)).heap.size (((u8.setCell ⟨u7.heap.size, 0, none⟩ (.int .i64 y.rows)).setCell ⟨u7.heap.size, 1, none⟩ (.int .i64 y.cols)).setCell ⟨u7.heap.size, 2, none⟩ (.slice qa qn qk)))
          clear HAB
          clear hm
          have HX := hide (error_same (k := 0) (n := 0) rfl _ (AHH.out.below CA.out))
          obtain ⟨zw0, zw1, zw2⟩ := Uw.out.t
          go_wp2_with fail
          refine HX.out.mono ?_
          rintro e u9 ⟨rfl, hb⟩
          replace C := hide (below_next C.out hb)
          replace CA := hide (below_next CA.out hb)
          replace Uw := hide (Uw.out.below hb)
          clear HX hb zw0 zw1 zw2 y00 y01 y02 y03 y04 y05
          have HX := hide (matrices_any _ _ y y _ (AMy.out.below CA.out) (MW.out.below C.out))
          have zy0 := (Ay.out.below CA.out) 0 _ rfl
          have zy1 := (Ay.out.below CA.out) 1 _ rfl
          have zy2 := (Ay.out.below CA.out) 2 _ rfl
          obtain ⟨zw0, zw1, zw2⟩ := Uw.out.t
          go_wp2_with fail
          refine HX.out.mono ?_
          rintro e u10 ⟨rfl, hb⟩
          rw [sameM_refl]
          replace C := hide (below_next C.out hb)
          replace CA := hide (below_next CA.out hb)
          replace Uw := hide (Uw.out.below hb)
          clear HX hb zy0 zy1 zy2 zw0 zw1 zw2
          go_wp2
          go_ret
          exact ⟨rfl, below_next WW.out C.out⟩
        · have hE0 : (E == 0) = false := by simp [hE]
          obtain rfl : y = noMx := by rw [← HY.out.2]; exact goX_no (by rw [HY.out.1]; exact hE)
          clear hE
          have D := below_next C.out (below_one u7 (.cells #[.int .i64 0, .int .i64 0, .slice none 0 0] 24))
          replace ML := hide (ML.out.below D)
          replace Mm1 := hide (Mm1.out.below D)
          replace HH := hide (HH.out.below D)
          replace Bl := hide (Bl.out.below D)
          replace Bx := hide (Bx.out.below D)
          replace By := hide (By.out.below D)
          replace My := hide (My.out.below D)
          replace WW := hide (below_next WW.out D)
          replace C := hide (Below.refl (u7.alloc (.cells #[.int .i64 0, .int .i64 0, .slice none 0 0] 24)).heap.size (u7.alloc (.cells #[.int .i64 0, .int .i64 0, .slice none 0 0] 24)))
          clear D
          have Bw := hide (Box.new u7 [.int .i64 0, .int .i64 0, .slice none 0 0] 24 (B := u7.heap.size) (by simp))
          have HX := hide (error_same (k := E) (n := E) rfl _ (HH.out.below C.out))
          go_wp2_with fail
          refine HX.out.mono ?_
          rintro e u11 ⟨rfl, hb⟩
          replace C := hide (below_next C.out hb)
          clear HX hb 
          have HX := hide (matrices_any _ _ noMx noMx _ (My.out.below C.out) (isMx_no _))
          have zy0 := (By.out.below C.out) 0 _ rfl
          have zy1 := (By.out.below C.out) 1 _ rfl
          have zy2 := (By.out.below C.out) 2 _ rfl
          have zw0 := (Bw.out.below C.out) 0 _ rfl
          have zw1 := (Bw.out.below C.out) 1 _ rfl
          have zw2 := (Bw.out.below C.out) 2 _ rfl
          go_wp2_with fail
          refine HX.out.mono ?_
          rintro e u12 ⟨rfl, hb⟩
          rw [sameM_refl]
          replace C := hide (below_next C.out hb)
          clear HX hb zy0 zy1 zy2 zw0 zw1 zw2
          go_wp2
          go_ret
          exact ⟨rfl, below_next WW.out C.out⟩
      · have hn1 : 12 < n := by omega
        clear hin
        have HX := hide (error_same (k := 1) (n := 1) rfl _ (HH.out.below C.out))
        go_wp2_with fail
        refine HX.out.mono ?_
        rintro e u13 ⟨rfl, hb⟩
        replace C := hide (below_next C.out hb)
        clear HX hb 
        obtain ⟨E, hE⟩ : ∃ E, goE l m1 = E := ⟨_, rfl⟩
        obtain ⟨y, hy⟩ : ∃ y, goX l m1 = y := ⟨_, rfl⟩
        have HY := hide (And.intro hE hy)
        clear hE hy
        have HX := hide (lgo_any _ l m1 _ _ (ML.out.below C.out) (Mm1.out.below C.out))
        have zl0 := (Bl.out.below C.out) 0 _ rfl
        have zl1 := (Bl.out.below C.out) 1 _ rfl
        have zl2 := (Bl.out.below C.out) 2 _ rfl
        have zl3 := (Bl.out.below C.out) 3 _ rfl
        have zl4 := (Bl.out.below C.out) 4 _ rfl
        have zl5 := (Bl.out.below C.out) 5 _ rfl
        have zl6 := (Bl.out.below C.out) 6 _ rfl
        have zx0 := (Bx.out.below C.out) 0 _ rfl
        have zx1 := (Bx.out.below C.out) 1 _ rfl
        have zx2 := (Bx.out.below C.out) 2 _ rfl
        go_wp2_with fail
        refine HX.out.mono ?_
        intro e u14 h
        rw [HY.out.1, HY.out.2] at h
        obtain ⟨ya, yn, yk, rfl, hm, hb⟩ := h.any
        clear h
        replace C := hide (below_next C.out hb)
        clear HX hb zl0 zl1 zl2 zl3 zl4 zl5 zl6 zx0 zx1 zx2
        have My := hide (hm.below (below_one u14 (.cells #[.int .i64 y.rows, .int .i64 y.cols, .slice ya yn yk] 24)))
        have D := below_next C.out (below_one u14 (.cells #[.int .i64 y.rows, .int .i64 y.cols, .slice ya yn yk] 24))
        replace ML := hide (ML.out.below D)
        replace Mm1 := hide (Mm1.out.below D)
        replace HH := hide (HH.out.below D)
        replace Bl := hide (Bl.out.below D)
        replace Bx := hide (Bx.out.below D)
        replace WW := hide (below_next WW.out D)
        replace C := hide (Below.refl (u14.alloc (.cells #[.int .i64 y.rows, .int .i64 y.cols, .slice ya yn yk] 24)).heap.size (u14.alloc (.cells #[.int .i64 y.rows, .int .i64 y.cols, .slice ya yn yk] 24)))
        clear D
        have By := hide (Box.new u14 [.int .i64 y.rows, .int .i64 y.cols, .slice ya yn yk] 24 (B := u14.heap.size) (by simp))
        clear hm
        have HX := hide (rgofault_any _ _ l m1 _ (ML.out.below C.out) (Mm1.out.below C.out))
        have zl0 := (Bl.out.below C.out) 0 _ rfl
        have zl1 := (Bl.out.below C.out) 1 _ rfl
        have zl2 := (Bl.out.below C.out) 2 _ rfl
        have zl3 := (Bl.out.below C.out) 3 _ rfl
        have zl4 := (Bl.out.below C.out) 4 _ rfl
        have zl5 := (Bl.out.below C.out) 5 _ rfl
        have zl6 := (Bl.out.below C.out) 6 _ rfl
        have zx0 := (Bx.out.below C.out) 0 _ rfl
        have zx1 := (Bx.out.below C.out) 1 _ rfl
        have zx2 := (Bx.out.below C.out) 2 _ rfl
        go_wp2_with fail
        refine HX.out.mono ?_
        rintro e u15 ⟨rfl, hb⟩
        rw [HY.out.1]
        replace C := hide (below_next C.out hb)
        clear HX hb zl0 zl1 zl2 zl3 zl4 zl5 zl6 zx0 zx1 zx2
        by_cases hE : E = 0
        · subst hE
          rw [err_eq rfl]
          have Ay := By
          have AMy := My
          have AHH := HH
          have CA := C
          have WA0 := hide WW.out.size
          have LU := hide CA.out.size
          have D := below_next C.out (below_one u15 (.cells #[.int .i64 0, .int .i64 0, .slice none 0 0] 24))
          replace ML := hide (ML.out.below D)
          replace Mm1 := hide (Mm1.out.below D)
          replace HH := hide (HH.out.below D)
          replace Bl := hide (Bl.out.below D)
          replace Bx := hide (Bx.out.below D)
          replace By := hide (By.out.below D)
          replace My := hide (My.out.below D)
          replace CA := hide (below_next CA.out (below_one u15 (.cells #[.int .i64 0, .int .i64 0, .slice none 0 0] 24)))
          replace WW := hide (below_next WW.out D)
          replace C := hide (Below.refl (u15.alloc (.cells #[.int .i64 0, .int .i64 0, .slice none 0 0] 24)).heap.size (u15.alloc (.cells #[.int .i64 0, .int .i64 0, .slice none 0 0] 24)))
          clear D
          have Bw := hide (Box.new u15 [.int .i64 0, .int .i64 0, .slice none 0 0] 24 (B := u15.heap.size) (by simp))
          have Uw := hide (Mut.newB u15 0 0 (.slice none 0 0) 24 (B := u15.heap.size) (by simp))
          have HWW := hide (show u15.heap.size < (u15.alloc (.cells #[.int .i64 0, .int .i64 0, .slice none 0 0] 24)).heap.size by simp)
          have CS := hide (Nat.le_refl (u15.alloc (.cells #[.int .i64 0, .int .i64 0, .slice none 0 0] 24)).heap.size)
          have HX := hide (rgo_any _ _ l m1 _ (ML.out.below C.out) (Mm1.out.below C.out) HY.out.1)
          have zl0 := (Bl.out.below C.out) 0 _ rfl
          have zl1 := (Bl.out.below C.out) 1 _ rfl
          have zl2 := (Bl.out.below C.out) 2 _ rfl
          have zl3 := (Bl.out.below C.out) 3 _ rfl
          have zl4 := (Bl.out.below C.out) 4 _ rfl
          have zl5 := (Bl.out.below C.out) 5 _ rfl
          have zl6 := (Bl.out.below C.out) 6 _ rfl
          have zx0 := (Bx.out.below C.out) 0 _ rfl
          have zx1 := (Bx.out.below C.out) 1 _ rfl
          have zx2 := (Bx.out.below C.out) 2 _ rfl
          go_wp2_with fail
          refine HX.out.mono ?_
          intro e u16 h
          rw [HY.out.2] at h
          obtain ⟨qa, qn, qk, rfl, hm, hb, hf⟩ := h
          have FW := hide (fresh_mono hf CS.out)
          clear hf CS
          replace C := hide (below_next C.out hb)
          replace CA := hide (below_next CA.out hb)
          replace Uw := hide (Uw.out.below hb)
          clear HX hb zl0 zl1 zl2 zl3 zl4 zl5 zl6 zx0 zx1 zx2
          have WU := hide (Nat.le_trans WA0.out LU.out)
          obtain ⟨y00, y01, y02⟩ := Uw.out.t
          have y03 := Uw.out.f 0
          have y04 := Uw.out.f 1
          have y05 := Uw.out.f 2
          have HAB := above3 (B := u15.heap.size) HWW.out u16 (.int .i64 y.rows) (.int .i64 y.cols) (.slice qa qn qk)
          have MW := hide (hm.above' FW.out HAB)
          replace CA := hide (below_set3 CA.out LU.out (.int .i64 y.rows) (.int .i64 y.cols) (.slice qa qn qk))
          replace WW := hide (below_set3 (below_next WW.out C.out) WU.out (.int .i64 y.rows) (.int .i64 y.cols) (.slice qa qn qk))
          replace Uw := hide (Uw.out.set (y.rows) (y.cols) (.slice qa qn qk))
          replace C := hide (Below.refl (((u16.setCell ⟨u15.heap.size, 0, none⟩ (.int .i64 y.rows)).setCell ⟨u15.heap.size, 1, none⟩ (.int .i64 y.cols)).setCell ⟨u15.heap.size, 2, none⟩ (.slice qa qn qk)).heap.size (((u16.setCell ⟨u15.heap.size, 0, none⟩ (.int .i64 y.rows)).setCell ⟨u15.heap.size, 1, none⟩ (.int .i64 y.cols)).setCell ⟨u15.heap.size, 2, none⟩ (.slice qa qn qk)))
          clear HAB
          clear hm
          have HX := hide (error_same (k := 0) (n := 0) rfl _ (AHH.out.below CA.out))
          obtain ⟨zw0, zw1, zw2⟩ := Uw.out.t
          go_wp2_with fail
          refine HX.out.mono ?_
          rintro e u17 ⟨rfl, hb⟩
          replace C := hide (below_next C.out hb)
          replace CA := hide (below_next CA.out hb)
          replace Uw := hide (Uw.out.below hb)
          clear HX hb zw0 zw1 zw2 y00 y01 y02 y03 y04 y05
          have HX := hide (matrices_any _ _ y y _ (AMy.out.below CA.out) (MW.out.below C.out))
          have zy0 := (Ay.out.below CA.out) 0 _ rfl
          have zy1 := (Ay.out.below CA.out) 1 _ rfl
          have zy2 := (Ay.out.below CA.out) 2 _ rfl
          obtain ⟨zw0, zw1, zw2⟩ := Uw.out.t
          go_wp2_with fail
          refine HX.out.mono ?_
          rintro e u18 ⟨rfl, hb⟩
          rw [sameM_refl]
          replace C := hide (below_next C.out hb)
          replace CA := hide (below_next CA.out hb)
          replace Uw := hide (Uw.out.below hb)
          clear HX hb zy0 zy1 zy2 zw0 zw1 zw2
          go_wp2
          go_ret
          exact ⟨rfl, below_next WW.out C.out⟩
        · have hE0 : (E == 0) = false := by simp [hE]
          obtain rfl : y = noMx := by rw [← HY.out.2]; exact goX_no (by rw [HY.out.1]; exact hE)
          clear hE
          have D := below_next C.out (below_one u15 (.cells #[.int .i64 0, .int .i64 0, .slice none 0 0] 24))
          replace ML := hide (ML.out.below D)
          replace Mm1 := hide (Mm1.out.below D)
          replace HH := hide (HH.out.below D)
          replace Bl := hide (Bl.out.below D)
          replace Bx := hide (Bx.out.below D)
          replace By := hide (By.out.below D)
          replace My := hide (My.out.below D)
          replace WW := hide (below_next WW.out D)
          replace C := hide (Below.refl (u15.alloc (.cells #[.int .i64 0, .int .i64 0, .slice none 0 0] 24)).heap.size (u15.alloc (.cells #[.int .i64 0, .int .i64 0, .slice none 0 0] 24)))
          clear D
          have Bw := hide (Box.new u15 [.int .i64 0, .int .i64 0, .slice none 0 0] 24 (B := u15.heap.size) (by simp))
          have HX := hide (error_same (k := E) (n := E) rfl _ (HH.out.below C.out))
          go_wp2_with fail
          refine HX.out.mono ?_
          rintro e u19 ⟨rfl, hb⟩
          replace C := hide (below_next C.out hb)
          clear HX hb 
          have HX := hide (matrices_any _ _ noMx noMx _ (My.out.below C.out) (isMx_no _))
          have zy0 := (By.out.below C.out) 0 _ rfl
          have zy1 := (By.out.below C.out) 1 _ rfl
          have zy2 := (By.out.below C.out) 2 _ rfl
          have zw0 := (Bw.out.below C.out) 0 _ rfl
          have zw1 := (Bw.out.below C.out) 1 _ rfl
          have zw2 := (Bw.out.below C.out) 2 _ rfl
          go_wp2_with fail
          refine HX.out.mono ?_
          rintro e u20 ⟨rfl, hb⟩
          rw [sameM_refl]
          replace C := hide (below_next C.out hb)
          clear HX hb zy0 zy1 zy2 zw0 zw1 zw2
          go_wp2
          go_ret
          exact ⟨rfl, below_next WW.out C.out⟩
    · have hn0 : ¬ n < 0 := by omega
      have hn1 : ¬ 12 < n := by omega
      have HIN := hide hin
      clear hin
      have HX := hide (rwide_any _ l n _ (ML.out.below C.out))
      have zl0 := (Bl.out.below C.out) 0 _ rfl
      have zl1 := (Bl.out.below C.out) 1 _ rfl
      have zl2 := (Bl.out.below C.out) 2 _ rfl
      have zl3 := (Bl.out.below C.out) 3 _ rfl
      have zl4 := (Bl.out.below C.out) 4 _ rfl
      have zl5 := (Bl.out.below C.out) 5 _ rfl
      have zl6 := (Bl.out.below C.out) 6 _ rfl
      go_wp2_with fail
      refine HX.out.mono ?_
      rintro e u21 ⟨rfl, hb⟩
      replace C := hide (below_next C.out hb)
      clear HX hb zl0 zl1 zl2 zl3 zl4 zl5 zl6
      cases htk : takesL l n with
      | true =>
        obtain rfl : we = 0 := by rw [← HWE.out.2, wideE_eq l n HJ.out]; exact w0E_0 HIN.out htk
        have hwg : wx = givesL l n := by rw [← HWE.out.1, wideX_eq l n HJ.out]; exact (w0X_yes (w0E_0 HIN.out htk) rfl).symm
        rw [wideR_yes htk, ← hwg]
        have hw0 : 0 ≤ wx := by
          rw [hwg]
          obtain ⟨_, _, fw, _, _⟩ := lgood_of HJ.out
          obtain ⟨_, Cw, gw⟩ := good_of fw
          have := gw.c
          unfold givesL; split <;> omega
        clear htk hwg
        have HX := hide (error_same (k := 0) (n := 0) rfl _ (HH.out.below C.out))
        go_wp2_with fail
        refine HX.out.mono ?_
        rintro e u22 ⟨rfl, hb⟩
        replace C := hide (below_next C.out hb)
        clear HX hb 
        have hnw : (wx != wx) = false := by simp
        obtain ⟨E, hE⟩ : ∃ E, goE l m1 = E := ⟨_, rfl⟩
        obtain ⟨y, hy⟩ : ∃ y, goX l m1 = y := ⟨_, rfl⟩
        have HY := hide (And.intro hE hy)
        clear hE hy
        have HX := hide (lgo_any _ l m1 _ _ (ML.out.below C.out) (Mm1.out.below C.out))
        have zl0 := (Bl.out.below C.out) 0 _ rfl
        have zl1 := (Bl.out.below C.out) 1 _ rfl
        have zl2 := (Bl.out.below C.out) 2 _ rfl
        have zl3 := (Bl.out.below C.out) 3 _ rfl
        have zl4 := (Bl.out.below C.out) 4 _ rfl
        have zl5 := (Bl.out.below C.out) 5 _ rfl
        have zl6 := (Bl.out.below C.out) 6 _ rfl
        have zx0 := (Bx.out.below C.out) 0 _ rfl
        have zx1 := (Bx.out.below C.out) 1 _ rfl
        have zx2 := (Bx.out.below C.out) 2 _ rfl
        go_wp2_with fail
        refine HX.out.mono ?_
        intro e u23 h
        rw [HY.out.1, HY.out.2] at h
        obtain ⟨ya, yn, yk, rfl, hm, hb⟩ := h.any
        clear h
        replace C := hide (below_next C.out hb)
        clear HX hb zl0 zl1 zl2 zl3 zl4 zl5 zl6 zx0 zx1 zx2
        have My := hide (hm.below (below_one u23 (.cells #[.int .i64 y.rows, .int .i64 y.cols, .slice ya yn yk] 24)))
        have D := below_next C.out (below_one u23 (.cells #[.int .i64 y.rows, .int .i64 y.cols, .slice ya yn yk] 24))
        replace ML := hide (ML.out.below D)
        replace Mm1 := hide (Mm1.out.below D)
        replace HH := hide (HH.out.below D)
        replace Bl := hide (Bl.out.below D)
        replace Bx := hide (Bx.out.below D)
        replace WW := hide (below_next WW.out D)
        replace C := hide (Below.refl (u23.alloc (.cells #[.int .i64 y.rows, .int .i64 y.cols, .slice ya yn yk] 24)).heap.size (u23.alloc (.cells #[.int .i64 y.rows, .int .i64 y.cols, .slice ya yn yk] 24)))
        clear D
        have By := hide (Box.new u23 [.int .i64 y.rows, .int .i64 y.cols, .slice ya yn yk] 24 (B := u23.heap.size) (by simp))
        clear hm
        have HX := hide (rgofault_any _ _ l m1 _ (ML.out.below C.out) (Mm1.out.below C.out))
        have zl0 := (Bl.out.below C.out) 0 _ rfl
        have zl1 := (Bl.out.below C.out) 1 _ rfl
        have zl2 := (Bl.out.below C.out) 2 _ rfl
        have zl3 := (Bl.out.below C.out) 3 _ rfl
        have zl4 := (Bl.out.below C.out) 4 _ rfl
        have zl5 := (Bl.out.below C.out) 5 _ rfl
        have zl6 := (Bl.out.below C.out) 6 _ rfl
        have zx0 := (Bx.out.below C.out) 0 _ rfl
        have zx1 := (Bx.out.below C.out) 1 _ rfl
        have zx2 := (Bx.out.below C.out) 2 _ rfl
        go_wp2_with fail
        refine HX.out.mono ?_
        rintro e u24 ⟨rfl, hb⟩
        rw [HY.out.1]
        replace C := hide (below_next C.out hb)
        clear HX hb zl0 zl1 zl2 zl3 zl4 zl5 zl6 zx0 zx1 zx2
        by_cases hE : E = 0
        · subst hE
          rw [err_eq rfl]
          have Ay := By
          have AMy := My
          have AHH := HH
          have CA := C
          have WA0 := hide WW.out.size
          have LU := hide CA.out.size
          have D := below_next C.out (below_one u24 (.cells #[.int .i64 0, .int .i64 0, .slice none 0 0] 24))
          replace ML := hide (ML.out.below D)
          replace Mm1 := hide (Mm1.out.below D)
          replace HH := hide (HH.out.below D)
          replace Bl := hide (Bl.out.below D)
          replace Bx := hide (Bx.out.below D)
          replace By := hide (By.out.below D)
          replace My := hide (My.out.below D)
          replace CA := hide (below_next CA.out (below_one u24 (.cells #[.int .i64 0, .int .i64 0, .slice none 0 0] 24)))
          replace WW := hide (below_next WW.out D)
          replace C := hide (Below.refl (u24.alloc (.cells #[.int .i64 0, .int .i64 0, .slice none 0 0] 24)).heap.size (u24.alloc (.cells #[.int .i64 0, .int .i64 0, .slice none 0 0] 24)))
          clear D
          have Bw := hide (Box.new u24 [.int .i64 0, .int .i64 0, .slice none 0 0] 24 (B := u24.heap.size) (by simp))
          have Uw := hide (Mut.newB u24 0 0 (.slice none 0 0) 24 (B := u24.heap.size) (by simp))
          have HWW := hide (show u24.heap.size < (u24.alloc (.cells #[.int .i64 0, .int .i64 0, .slice none 0 0] 24)).heap.size by simp)
          have CS := hide (Nat.le_refl (u24.alloc (.cells #[.int .i64 0, .int .i64 0, .slice none 0 0] 24)).heap.size)
          have HX := hide (rgo_any _ _ l m1 _ (ML.out.below C.out) (Mm1.out.below C.out) HY.out.1)
          have zl0 := (Bl.out.below C.out) 0 _ rfl
          have zl1 := (Bl.out.below C.out) 1 _ rfl
          have zl2 := (Bl.out.below C.out) 2 _ rfl
          have zl3 := (Bl.out.below C.out) 3 _ rfl
          have zl4 := (Bl.out.below C.out) 4 _ rfl
          have zl5 := (Bl.out.below C.out) 5 _ rfl
          have zl6 := (Bl.out.below C.out) 6 _ rfl
          have zx0 := (Bx.out.below C.out) 0 _ rfl
          have zx1 := (Bx.out.below C.out) 1 _ rfl
          have zx2 := (Bx.out.below C.out) 2 _ rfl
          go_wp2_with fail
          refine HX.out.mono ?_
          intro e u25 h
          rw [HY.out.2] at h
          obtain ⟨qa, qn, qk, rfl, hm, hb, hf⟩ := h
          have FW := hide (fresh_mono hf CS.out)
          clear hf CS
          replace C := hide (below_next C.out hb)
          replace CA := hide (below_next CA.out hb)
          replace Uw := hide (Uw.out.below hb)
          clear HX hb zl0 zl1 zl2 zl3 zl4 zl5 zl6 zx0 zx1 zx2
          have WU := hide (Nat.le_trans WA0.out LU.out)
          obtain ⟨y00, y01, y02⟩ := Uw.out.t
          have y03 := Uw.out.f 0
          have y04 := Uw.out.f 1
          have y05 := Uw.out.f 2
          have HAB := above3 (B := u24.heap.size) HWW.out u25 (.int .i64 y.rows) (.int .i64 y.cols) (.slice qa qn qk)
          have MW := hide (hm.above' FW.out HAB)
          replace CA := hide (below_set3 CA.out LU.out (.int .i64 y.rows) (.int .i64 y.cols) (.slice qa qn qk))
          replace WW := hide (below_set3 (below_next WW.out C.out) WU.out (.int .i64 y.rows) (.int .i64 y.cols) (.slice qa qn qk))
          replace Uw := hide (Uw.out.set (y.rows) (y.cols) (.slice qa qn qk))
          replace C := hide (Below.refl (((u25.setCell ⟨u24.heap.size, 0, none⟩ (.int .i64 y.rows)).setCell ⟨u24.heap.size, 1, none⟩ (.int .i64 y.cols)).setCell ⟨u24.heap.size, 2, none⟩ (.slice qa qn qk)).heap.size (((u25.setCell ⟨u24.heap.size, 0, none⟩ (.int .i64 y.rows)).setCell ⟨u24.heap.size, 1, none⟩ (.int .i64 y.cols)).setCell ⟨u24.heap.size, 2, none⟩ (.slice qa qn qk)))
          clear HAB
          clear hm
          have HX := hide (error_same (k := 0) (n := 0) rfl _ (AHH.out.below CA.out))
          obtain ⟨zw0, zw1, zw2⟩ := Uw.out.t
          go_wp2_with fail
          refine HX.out.mono ?_
          rintro e u26 ⟨rfl, hb⟩
          replace C := hide (below_next C.out hb)
          replace CA := hide (below_next CA.out hb)
          replace Uw := hide (Uw.out.below hb)
          clear HX hb zw0 zw1 zw2 y00 y01 y02 y03 y04 y05
          have HX := hide (matrices_any _ _ y y _ (AMy.out.below CA.out) (MW.out.below C.out))
          have zy0 := (Ay.out.below CA.out) 0 _ rfl
          have zy1 := (Ay.out.below CA.out) 1 _ rfl
          have zy2 := (Ay.out.below CA.out) 2 _ rfl
          obtain ⟨zw0, zw1, zw2⟩ := Uw.out.t
          go_wp2_with fail
          refine HX.out.mono ?_
          rintro e u27 ⟨rfl, hb⟩
          rw [sameM_refl]
          replace C := hide (below_next C.out hb)
          replace CA := hide (below_next CA.out hb)
          replace Uw := hide (Uw.out.below hb)
          clear HX hb zy0 zy1 zy2 zw0 zw1 zw2
          go_wp2
          go_ret
          exact ⟨rfl, below_next WW.out C.out⟩
        · have hE0 : (E == 0) = false := by simp [hE]
          obtain rfl : y = noMx := by rw [← HY.out.2]; exact goX_no (by rw [HY.out.1]; exact hE)
          clear hE
          have D := below_next C.out (below_one u24 (.cells #[.int .i64 0, .int .i64 0, .slice none 0 0] 24))
          replace ML := hide (ML.out.below D)
          replace Mm1 := hide (Mm1.out.below D)
          replace HH := hide (HH.out.below D)
          replace Bl := hide (Bl.out.below D)
          replace Bx := hide (Bx.out.below D)
          replace By := hide (By.out.below D)
          replace My := hide (My.out.below D)
          replace WW := hide (below_next WW.out D)
          replace C := hide (Below.refl (u24.alloc (.cells #[.int .i64 0, .int .i64 0, .slice none 0 0] 24)).heap.size (u24.alloc (.cells #[.int .i64 0, .int .i64 0, .slice none 0 0] 24)))
          clear D
          have Bw := hide (Box.new u24 [.int .i64 0, .int .i64 0, .slice none 0 0] 24 (B := u24.heap.size) (by simp))
          have HX := hide (error_same (k := E) (n := E) rfl _ (HH.out.below C.out))
          go_wp2_with fail
          refine HX.out.mono ?_
          rintro e u28 ⟨rfl, hb⟩
          replace C := hide (below_next C.out hb)
          clear HX hb 
          have HX := hide (matrices_any _ _ noMx noMx _ (My.out.below C.out) (isMx_no _))
          have zy0 := (By.out.below C.out) 0 _ rfl
          have zy1 := (By.out.below C.out) 1 _ rfl
          have zy2 := (By.out.below C.out) 2 _ rfl
          have zw0 := (Bw.out.below C.out) 0 _ rfl
          have zw1 := (Bw.out.below C.out) 1 _ rfl
          have zw2 := (Bw.out.below C.out) 2 _ rfl
          go_wp2_with fail
          refine HX.out.mono ?_
          rintro e u29 ⟨rfl, hb⟩
          rw [sameM_refl]
          replace C := hide (below_next C.out hb)
          clear HX hb zy0 zy1 zy2 zw0 zw1 zw2
          go_wp2
          go_ret
          exact ⟨rfl, below_next WW.out C.out⟩
      | false =>
        obtain rfl : we = 2 := by rw [← HWE.out.2, wideE_eq l n HJ.out]; exact w0E_2 HIN.out htk
        obtain rfl : wx = 0 := by rw [← HWE.out.1, wideX_eq l n HJ.out]; exact (w0X_no (by rw [w0E_2 HIN.out htk]; decide)).symm
        rw [wideR_no htk]
        clear htk
        have HX := hide (error_same (k := 2) (n := 2) rfl _ (HH.out.below C.out))
        go_wp2_with fail
        refine HX.out.mono ?_
        rintro e u30 ⟨rfl, hb⟩
        replace C := hide (below_next C.out hb)
        clear HX hb 
        obtain ⟨E, hE⟩ : ∃ E, goE l m1 = E := ⟨_, rfl⟩
        obtain ⟨y, hy⟩ : ∃ y, goX l m1 = y := ⟨_, rfl⟩
        have HY := hide (And.intro hE hy)
        clear hE hy
        have HX := hide (lgo_any _ l m1 _ _ (ML.out.below C.out) (Mm1.out.below C.out))
        have zl0 := (Bl.out.below C.out) 0 _ rfl
        have zl1 := (Bl.out.below C.out) 1 _ rfl
        have zl2 := (Bl.out.below C.out) 2 _ rfl
        have zl3 := (Bl.out.below C.out) 3 _ rfl
        have zl4 := (Bl.out.below C.out) 4 _ rfl
        have zl5 := (Bl.out.below C.out) 5 _ rfl
        have zl6 := (Bl.out.below C.out) 6 _ rfl
        have zx0 := (Bx.out.below C.out) 0 _ rfl
        have zx1 := (Bx.out.below C.out) 1 _ rfl
        have zx2 := (Bx.out.below C.out) 2 _ rfl
        go_wp2_with fail
        refine HX.out.mono ?_
        intro e u31 h
        rw [HY.out.1, HY.out.2] at h
        obtain ⟨ya, yn, yk, rfl, hm, hb⟩ := h.any
        clear h
        replace C := hide (below_next C.out hb)
        clear HX hb zl0 zl1 zl2 zl3 zl4 zl5 zl6 zx0 zx1 zx2
        have My := hide (hm.below (below_one u31 (.cells #[.int .i64 y.rows, .int .i64 y.cols, .slice ya yn yk] 24)))
        have D := below_next C.out (below_one u31 (.cells #[.int .i64 y.rows, .int .i64 y.cols, .slice ya yn yk] 24))
        replace ML := hide (ML.out.below D)
        replace Mm1 := hide (Mm1.out.below D)
        replace HH := hide (HH.out.below D)
        replace Bl := hide (Bl.out.below D)
        replace Bx := hide (Bx.out.below D)
        replace WW := hide (below_next WW.out D)
        replace C := hide (Below.refl (u31.alloc (.cells #[.int .i64 y.rows, .int .i64 y.cols, .slice ya yn yk] 24)).heap.size (u31.alloc (.cells #[.int .i64 y.rows, .int .i64 y.cols, .slice ya yn yk] 24)))
        clear D
        have By := hide (Box.new u31 [.int .i64 y.rows, .int .i64 y.cols, .slice ya yn yk] 24 (B := u31.heap.size) (by simp))
        clear hm
        have HX := hide (rgofault_any _ _ l m1 _ (ML.out.below C.out) (Mm1.out.below C.out))
        have zl0 := (Bl.out.below C.out) 0 _ rfl
        have zl1 := (Bl.out.below C.out) 1 _ rfl
        have zl2 := (Bl.out.below C.out) 2 _ rfl
        have zl3 := (Bl.out.below C.out) 3 _ rfl
        have zl4 := (Bl.out.below C.out) 4 _ rfl
        have zl5 := (Bl.out.below C.out) 5 _ rfl
        have zl6 := (Bl.out.below C.out) 6 _ rfl
        have zx0 := (Bx.out.below C.out) 0 _ rfl
        have zx1 := (Bx.out.below C.out) 1 _ rfl
        have zx2 := (Bx.out.below C.out) 2 _ rfl
        go_wp2_with fail
        refine HX.out.mono ?_
        rintro e u32 ⟨rfl, hb⟩
        rw [HY.out.1]
        replace C := hide (below_next C.out hb)
        clear HX hb zl0 zl1 zl2 zl3 zl4 zl5 zl6 zx0 zx1 zx2
        by_cases hE : E = 0
        · subst hE
          rw [err_eq rfl]
          have Ay := By
          have AMy := My
          have AHH := HH
          have CA := C
          have WA0 := hide WW.out.size
          have LU := hide CA.out.size
          have D := below_next C.out (below_one u32 (.cells #[.int .i64 0, .int .i64 0, .slice none 0 0] 24))
          replace ML := hide (ML.out.below D)
          replace Mm1 := hide (Mm1.out.below D)
          replace HH := hide (HH.out.below D)
          replace Bl := hide (Bl.out.below D)
          replace Bx := hide (Bx.out.below D)
          replace By := hide (By.out.below D)
          replace My := hide (My.out.below D)
          replace CA := hide (below_next CA.out (below_one u32 (.cells #[.int .i64 0, .int .i64 0, .slice none 0 0] 24)))
          replace WW := hide (below_next WW.out D)
          replace C := hide (Below.refl (u32.alloc (.cells #[.int .i64 0, .int .i64 0, .slice none 0 0] 24)).heap.size (u32.alloc (.cells #[.int .i64 0, .int .i64 0, .slice none 0 0] 24)))
          clear D
          have Bw := hide (Box.new u32 [.int .i64 0, .int .i64 0, .slice none 0 0] 24 (B := u32.heap.size) (by simp))
          have Uw := hide (Mut.newB u32 0 0 (.slice none 0 0) 24 (B := u32.heap.size) (by simp))
          have HWW := hide (show u32.heap.size < (u32.alloc (.cells #[.int .i64 0, .int .i64 0, .slice none 0 0] 24)).heap.size by simp)
          have CS := hide (Nat.le_refl (u32.alloc (.cells #[.int .i64 0, .int .i64 0, .slice none 0 0] 24)).heap.size)
          have HX := hide (rgo_any _ _ l m1 _ (ML.out.below C.out) (Mm1.out.below C.out) HY.out.1)
          have zl0 := (Bl.out.below C.out) 0 _ rfl
          have zl1 := (Bl.out.below C.out) 1 _ rfl
          have zl2 := (Bl.out.below C.out) 2 _ rfl
          have zl3 := (Bl.out.below C.out) 3 _ rfl
          have zl4 := (Bl.out.below C.out) 4 _ rfl
          have zl5 := (Bl.out.below C.out) 5 _ rfl
          have zl6 := (Bl.out.below C.out) 6 _ rfl
          have zx0 := (Bx.out.below C.out) 0 _ rfl
          have zx1 := (Bx.out.below C.out) 1 _ rfl
          have zx2 := (Bx.out.below C.out) 2 _ rfl
          go_wp2_with fail
          refine HX.out.mono ?_
          intro e u33 h
          rw [HY.out.2] at h
          obtain ⟨qa, qn, qk, rfl, hm, hb, hf⟩ := h
          have FW := hide (fresh_mono hf CS.out)
          clear hf CS
          replace C := hide (below_next C.out hb)
          replace CA := hide (below_next CA.out hb)
          replace Uw := hide (Uw.out.below hb)
          clear HX hb zl0 zl1 zl2 zl3 zl4 zl5 zl6 zx0 zx1 zx2
          have WU := hide (Nat.le_trans WA0.out LU.out)
          obtain ⟨y00, y01, y02⟩ := Uw.out.t
          have y03 := Uw.out.f 0
          have y04 := Uw.out.f 1
          have y05 := Uw.out.f 2
          have HAB := above3 (B := u32.heap.size) HWW.out u33 (.int .i64 y.rows) (.int .i64 y.cols) (.slice qa qn qk)
          have MW := hide (hm.above' FW.out HAB)
          replace CA := hide (below_set3 CA.out LU.out (.int .i64 y.rows) (.int .i64 y.cols) (.slice qa qn qk))
          replace WW := hide (below_set3 (below_next WW.out C.out) WU.out (.int .i64 y.rows) (.int .i64 y.cols) (.slice qa qn qk))
          replace Uw := hide (Uw.out.set (y.rows) (y.cols) (.slice qa qn qk))
          replace C := hide (Below.refl (((u33.setCell ⟨u32.heap.size, 0, none⟩ (.int .i64 y.rows)).setCell ⟨u32.heap.size, 1, none⟩ (.int .i64 y.cols)).setCell ⟨u32.heap.size, 2, none⟩ (.slice qa qn qk)).heap.size (((u33.setCell ⟨u32.heap.size, 0, none⟩ (.int .i64 y.rows)).setCell ⟨u32.heap.size, 1, none⟩ (.int .i64 y.cols)).setCell ⟨u32.heap.size, 2, none⟩ (.slice qa qn qk)))
          clear HAB
          clear hm
          have HX := hide (error_same (k := 0) (n := 0) rfl _ (AHH.out.below CA.out))
          obtain ⟨zw0, zw1, zw2⟩ := Uw.out.t
          go_wp2_with fail
          refine HX.out.mono ?_
          rintro e u34 ⟨rfl, hb⟩
          replace C := hide (below_next C.out hb)
          replace CA := hide (below_next CA.out hb)
          replace Uw := hide (Uw.out.below hb)
          clear HX hb zw0 zw1 zw2 y00 y01 y02 y03 y04 y05
          have HX := hide (matrices_any _ _ y y _ (AMy.out.below CA.out) (MW.out.below C.out))
          have zy0 := (Ay.out.below CA.out) 0 _ rfl
          have zy1 := (Ay.out.below CA.out) 1 _ rfl
          have zy2 := (Ay.out.below CA.out) 2 _ rfl
          obtain ⟨zw0, zw1, zw2⟩ := Uw.out.t
          go_wp2_with fail
          refine HX.out.mono ?_
          rintro e u35 ⟨rfl, hb⟩
          rw [sameM_refl]
          replace C := hide (below_next C.out hb)
          replace CA := hide (below_next CA.out hb)
          replace Uw := hide (Uw.out.below hb)
          clear HX hb zy0 zy1 zy2 zw0 zw1 zw2
          go_wp2
          go_ret
          exact ⟨rfl, below_next WW.out C.out⟩
        · have hE0 : (E == 0) = false := by simp [hE]
          obtain rfl : y = noMx := by rw [← HY.out.2]; exact goX_no (by rw [HY.out.1]; exact hE)
          clear hE
          have D := below_next C.out (below_one u32 (.cells #[.int .i64 0, .int .i64 0, .slice none 0 0] 24))
          replace ML := hide (ML.out.below D)
          replace Mm1 := hide (Mm1.out.below D)
          replace HH := hide (HH.out.below D)
          replace Bl := hide (Bl.out.below D)
          replace Bx := hide (Bx.out.below D)
          replace By := hide (By.out.below D)
          replace My := hide (My.out.below D)
          replace WW := hide (below_next WW.out D)
          replace C := hide (Below.refl (u32.alloc (.cells #[.int .i64 0, .int .i64 0, .slice none 0 0] 24)).heap.size (u32.alloc (.cells #[.int .i64 0, .int .i64 0, .slice none 0 0] 24)))
          clear D
          have Bw := hide (Box.new u32 [.int .i64 0, .int .i64 0, .slice none 0 0] 24 (B := u32.heap.size) (by simp))
          have HX := hide (error_same (k := E) (n := E) rfl _ (HH.out.below C.out))
          go_wp2_with fail
          refine HX.out.mono ?_
          rintro e u36 ⟨rfl, hb⟩
          replace C := hide (below_next C.out hb)
          clear HX hb 
          have HX := hide (matrices_any _ _ noMx noMx _ (My.out.below C.out) (isMx_no _))
          have zy0 := (By.out.below C.out) 0 _ rfl
          have zy1 := (By.out.below C.out) 1 _ rfl
          have zy2 := (By.out.below C.out) 2 _ rfl
          have zw0 := (Bw.out.below C.out) 0 _ rfl
          have zw1 := (Bw.out.below C.out) 1 _ rfl
          have zw2 := (Bw.out.below C.out) 2 _ rfl
          go_wp2_with fail
          refine HX.out.mono ?_
          rintro e u37 ⟨rfl, hb⟩
          rw [sameM_refl]
          replace C := hide (below_next C.out hb)
          clear HX hb zy0 zy1 zy2 zw0 zw1 zw2
          go_wp2
          go_ret
          exact ⟨rfl, below_next WW.out C.out⟩
  · have hj0 : (j == 0) = false := by simp [hj]
    obtain rfl : we = j := by rw [← HWE.out.2, wideE_l n (by rw [HJ.out]; exact hj)]; exact HJ.out
    obtain rfl : wx = 0 := by rw [← HWE.out.1]; exact (wideX_l n (by rw [HJ.out]; exact hj)).symm
    clear hj
    have HX := hide (error_same (k := we) (n := we) rfl _ (HH.out.below C.out))
    go_wp2_with fail
    refine HX.out.mono ?_
    rintro e u38 ⟨rfl, hb⟩
    replace C := hide (below_next C.out hb)
    clear HX hb 
    obtain ⟨E, hE⟩ : ∃ E, goE l m1 = E := ⟨_, rfl⟩
    obtain ⟨y, hy⟩ : ∃ y, goX l m1 = y := ⟨_, rfl⟩
    have HY := hide (And.intro hE hy)
    clear hE hy
    have HX := hide (lgo_any _ l m1 _ _ (ML.out.below C.out) (Mm1.out.below C.out))
    have zl0 := (Bl.out.below C.out) 0 _ rfl
    have zl1 := (Bl.out.below C.out) 1 _ rfl
    have zl2 := (Bl.out.below C.out) 2 _ rfl
    have zl3 := (Bl.out.below C.out) 3 _ rfl
    have zl4 := (Bl.out.below C.out) 4 _ rfl
    have zl5 := (Bl.out.below C.out) 5 _ rfl
    have zl6 := (Bl.out.below C.out) 6 _ rfl
    have zx0 := (Bx.out.below C.out) 0 _ rfl
    have zx1 := (Bx.out.below C.out) 1 _ rfl
    have zx2 := (Bx.out.below C.out) 2 _ rfl
    go_wp2_with fail
    refine HX.out.mono ?_
    intro e u39 h
    rw [HY.out.1, HY.out.2] at h
    obtain ⟨ya, yn, yk, rfl, hm, hb⟩ := h.any
    clear h
    replace C := hide (below_next C.out hb)
    clear HX hb zl0 zl1 zl2 zl3 zl4 zl5 zl6 zx0 zx1 zx2
    have My := hide (hm.below (below_one u39 (.cells #[.int .i64 y.rows, .int .i64 y.cols, .slice ya yn yk] 24)))
    have D := below_next C.out (below_one u39 (.cells #[.int .i64 y.rows, .int .i64 y.cols, .slice ya yn yk] 24))
    replace ML := hide (ML.out.below D)
    replace Mm1 := hide (Mm1.out.below D)
    replace HH := hide (HH.out.below D)
    replace Bl := hide (Bl.out.below D)
    replace Bx := hide (Bx.out.below D)
    replace WW := hide (below_next WW.out D)
    replace C := hide (Below.refl (u39.alloc (.cells #[.int .i64 y.rows, .int .i64 y.cols, .slice ya yn yk] 24)).heap.size (u39.alloc (.cells #[.int .i64 y.rows, .int .i64 y.cols, .slice ya yn yk] 24)))
    clear D
    have By := hide (Box.new u39 [.int .i64 y.rows, .int .i64 y.cols, .slice ya yn yk] 24 (B := u39.heap.size) (by simp))
    clear hm
    have HX := hide (rgofault_any _ _ l m1 _ (ML.out.below C.out) (Mm1.out.below C.out))
    have zl0 := (Bl.out.below C.out) 0 _ rfl
    have zl1 := (Bl.out.below C.out) 1 _ rfl
    have zl2 := (Bl.out.below C.out) 2 _ rfl
    have zl3 := (Bl.out.below C.out) 3 _ rfl
    have zl4 := (Bl.out.below C.out) 4 _ rfl
    have zl5 := (Bl.out.below C.out) 5 _ rfl
    have zl6 := (Bl.out.below C.out) 6 _ rfl
    have zx0 := (Bx.out.below C.out) 0 _ rfl
    have zx1 := (Bx.out.below C.out) 1 _ rfl
    have zx2 := (Bx.out.below C.out) 2 _ rfl
    go_wp2_with fail
    refine HX.out.mono ?_
    rintro e u40 ⟨rfl, hb⟩
    rw [HY.out.1]
    replace C := hide (below_next C.out hb)
    clear HX hb zl0 zl1 zl2 zl3 zl4 zl5 zl6 zx0 zx1 zx2
    by_cases hE : E = 0
    · subst hE
      rw [err_eq rfl]
      have Ay := By
      have AMy := My
      have AHH := HH
      have CA := C
      have WA0 := hide WW.out.size
      have LU := hide CA.out.size
      have D := below_next C.out (below_one u40 (.cells #[.int .i64 0, .int .i64 0, .slice none 0 0] 24))
      replace ML := hide (ML.out.below D)
      replace Mm1 := hide (Mm1.out.below D)
      replace HH := hide (HH.out.below D)
      replace Bl := hide (Bl.out.below D)
      replace Bx := hide (Bx.out.below D)
      replace By := hide (By.out.below D)
      replace My := hide (My.out.below D)
      replace CA := hide (below_next CA.out (below_one u40 (.cells #[.int .i64 0, .int .i64 0, .slice none 0 0] 24)))
      replace WW := hide (below_next WW.out D)
      replace C := hide (Below.refl (u40.alloc (.cells #[.int .i64 0, .int .i64 0, .slice none 0 0] 24)).heap.size (u40.alloc (.cells #[.int .i64 0, .int .i64 0, .slice none 0 0] 24)))
      clear D
      have Bw := hide (Box.new u40 [.int .i64 0, .int .i64 0, .slice none 0 0] 24 (B := u40.heap.size) (by simp))
      have Uw := hide (Mut.newB u40 0 0 (.slice none 0 0) 24 (B := u40.heap.size) (by simp))
      have HWW := hide (show u40.heap.size < (u40.alloc (.cells #[.int .i64 0, .int .i64 0, .slice none 0 0] 24)).heap.size by simp)
      have CS := hide (Nat.le_refl (u40.alloc (.cells #[.int .i64 0, .int .i64 0, .slice none 0 0] 24)).heap.size)
      have HX := hide (rgo_any _ _ l m1 _ (ML.out.below C.out) (Mm1.out.below C.out) HY.out.1)
      have zl0 := (Bl.out.below C.out) 0 _ rfl
      have zl1 := (Bl.out.below C.out) 1 _ rfl
      have zl2 := (Bl.out.below C.out) 2 _ rfl
      have zl3 := (Bl.out.below C.out) 3 _ rfl
      have zl4 := (Bl.out.below C.out) 4 _ rfl
      have zl5 := (Bl.out.below C.out) 5 _ rfl
      have zl6 := (Bl.out.below C.out) 6 _ rfl
      have zx0 := (Bx.out.below C.out) 0 _ rfl
      have zx1 := (Bx.out.below C.out) 1 _ rfl
      have zx2 := (Bx.out.below C.out) 2 _ rfl
      go_wp2_with fail
      refine HX.out.mono ?_
      intro e u41 h
      rw [HY.out.2] at h
      obtain ⟨qa, qn, qk, rfl, hm, hb, hf⟩ := h
      have FW := hide (fresh_mono hf CS.out)
      clear hf CS
      replace C := hide (below_next C.out hb)
      replace CA := hide (below_next CA.out hb)
      replace Uw := hide (Uw.out.below hb)
      clear HX hb zl0 zl1 zl2 zl3 zl4 zl5 zl6 zx0 zx1 zx2
      have WU := hide (Nat.le_trans WA0.out LU.out)
      obtain ⟨y00, y01, y02⟩ := Uw.out.t
      have y03 := Uw.out.f 0
      have y04 := Uw.out.f 1
      have y05 := Uw.out.f 2
      have HAB := above3 (B := u40.heap.size) HWW.out u41 (.int .i64 y.rows) (.int .i64 y.cols) (.slice qa qn qk)
      have MW := hide (hm.above' FW.out HAB)
      replace CA := hide (below_set3 CA.out LU.out (.int .i64 y.rows) (.int .i64 y.cols) (.slice qa qn qk))
      replace WW := hide (below_set3 (below_next WW.out C.out) WU.out (.int .i64 y.rows) (.int .i64 y.cols) (.slice qa qn qk))
      replace Uw := hide (Uw.out.set (y.rows) (y.cols) (.slice qa qn qk))
      replace C := hide (Below.refl (((u41.setCell ⟨u40.heap.size, 0, none⟩ (.int .i64 y.rows)).setCell ⟨u40.heap.size, 1, none⟩ (.int .i64 y.cols)).setCell ⟨u40.heap.size, 2, none⟩ (.slice qa qn qk)).heap.size (((u41.setCell ⟨u40.heap.size, 0, none⟩ (.int .i64 y.rows)).setCell ⟨u40.heap.size, 1, none⟩ (.int .i64 y.cols)).setCell ⟨u40.heap.size, 2, none⟩ (.slice qa qn qk)))
      clear HAB
      clear hm
      have HX := hide (error_same (k := 0) (n := 0) rfl _ (AHH.out.below CA.out))
      obtain ⟨zw0, zw1, zw2⟩ := Uw.out.t
      go_wp2_with fail
      refine HX.out.mono ?_
      rintro e u42 ⟨rfl, hb⟩
      replace C := hide (below_next C.out hb)
      replace CA := hide (below_next CA.out hb)
      replace Uw := hide (Uw.out.below hb)
      clear HX hb zw0 zw1 zw2 y00 y01 y02 y03 y04 y05
      have HX := hide (matrices_any _ _ y y _ (AMy.out.below CA.out) (MW.out.below C.out))
      have zy0 := (Ay.out.below CA.out) 0 _ rfl
      have zy1 := (Ay.out.below CA.out) 1 _ rfl
      have zy2 := (Ay.out.below CA.out) 2 _ rfl
      obtain ⟨zw0, zw1, zw2⟩ := Uw.out.t
      go_wp2_with fail
      refine HX.out.mono ?_
      rintro e u43 ⟨rfl, hb⟩
      rw [sameM_refl]
      replace C := hide (below_next C.out hb)
      replace CA := hide (below_next CA.out hb)
      replace Uw := hide (Uw.out.below hb)
      clear HX hb zy0 zy1 zy2 zw0 zw1 zw2
      go_wp2
      go_ret
      exact ⟨rfl, below_next WW.out C.out⟩
    · have hE0 : (E == 0) = false := by simp [hE]
      obtain rfl : y = noMx := by rw [← HY.out.2]; exact goX_no (by rw [HY.out.1]; exact hE)
      clear hE
      have D := below_next C.out (below_one u40 (.cells #[.int .i64 0, .int .i64 0, .slice none 0 0] 24))
      replace ML := hide (ML.out.below D)
      replace Mm1 := hide (Mm1.out.below D)
      replace HH := hide (HH.out.below D)
      replace Bl := hide (Bl.out.below D)
      replace Bx := hide (Bx.out.below D)
      replace By := hide (By.out.below D)
      replace My := hide (My.out.below D)
      replace WW := hide (below_next WW.out D)
      replace C := hide (Below.refl (u40.alloc (.cells #[.int .i64 0, .int .i64 0, .slice none 0 0] 24)).heap.size (u40.alloc (.cells #[.int .i64 0, .int .i64 0, .slice none 0 0] 24)))
      clear D
      have Bw := hide (Box.new u40 [.int .i64 0, .int .i64 0, .slice none 0 0] 24 (B := u40.heap.size) (by simp))
      have HX := hide (error_same (k := E) (n := E) rfl _ (HH.out.below C.out))
      go_wp2_with fail
      refine HX.out.mono ?_
      rintro e u44 ⟨rfl, hb⟩
      replace C := hide (below_next C.out hb)
      clear HX hb 
      have HX := hide (matrices_any _ _ noMx noMx _ (My.out.below C.out) (isMx_no _))
      have zy0 := (By.out.below C.out) 0 _ rfl
      have zy1 := (By.out.below C.out) 1 _ rfl
      have zy2 := (By.out.below C.out) 2 _ rfl
      have zw0 := (Bw.out.below C.out) 0 _ rfl
      have zw1 := (Bw.out.below C.out) 1 _ rfl
      have zw2 := (Bw.out.below C.out) 2 _ rfl
      go_wp2_with fail
      refine HX.out.mono ?_
      rintro e u45 ⟨rfl, hb⟩
      rw [sameM_refl]
      replace C := hide (below_next C.out hb)
      clear HX hb zy0 zy1 zy2 zw0 zw1 zw2
      go_wp2
      go_ret
      exact ⟨rfl, below_next WW.out C.out⟩
end Go.Proofs.YtkncgelkbpeagacDoor
