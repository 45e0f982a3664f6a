/- The walk of the law LossTells: Of and Back of package loss answer what the document's answer does. Condition: the library's variable errors.errorType is as its text lays it. -/
import Derived.Test.YtogmbihigjpmfacDoorErr
import Derived.Test.YtogmbihigjpmfacDoorRLoss
import Derived.Test.YtogmbihigjpmfacDoorLsOf
import Derived.Test.YtogmbihigjpmfacDoorLsBack
namespace Go.Proofs.YtogmbihigjpmfacDoor
open Go.RowKit
set_option maxHeartbeats 40000000 in
set_option maxRecDepth 100000 in
theorem tells_walk (v0 : Value) (m0 : Mx) (v1 : Value) (m1 : Mx) (w : World) (w0 : IsMx w v0 m0) (w1 : IsMx w v1 m1) (hH : Handle w) : Calls Tryd.prog 5 #[v0, v1] w fun e w' => e = .returned (.bool true) ∧ Below w.heap.size w w' := by
  obtain ⟨sm0, rfl, hm0⟩ := w0
  obtain ⟨xa, xn, xk, rfl⟩ := hm0.shape
  obtain ⟨r, er⟩ : ∃ r, m0.rows = r := ⟨_, rfl⟩
  obtain ⟨c, ec⟩ : ∃ r, m0.cols = r := ⟨_, rfl⟩
  have Mm0 := hide (show IsMx w (.agg #[.int .i64 r, .int .i64 c, .slice xa xn xk]) m0 from ⟨_, by rw [er, ec], hm0⟩)
  obtain ⟨sm1, rfl, hm1⟩ := w1
  obtain ⟨ha, hn, hk, rfl⟩ := hm1.shape
  obtain ⟨r', er'⟩ : ∃ r, m1.rows = r := ⟨_, rfl⟩
  obtain ⟨c', ec'⟩ : ∃ r, m1.cols = r := ⟨_, rfl⟩
  have Mm1 := hide (show IsMx w (.agg #[.int .i64 r', .int .i64 c', .slice ha hn hk]) m1 from ⟨_, by rw [er', ec'], hm1⟩)
  rw [er, ec, er', ec']
  have HH := hide hH
  clear hm0 hm1 er ec er' ec' hH
  have WW := hide (Below.refl w.heap.size w)
  have C := hide (Below.refl w.heap.size w)
  have D := below_next C.out (below_one w (.cells #[.int .i64 r, .int .i64 c, .slice xa xn xk] 24))
  replace Mm0 := hide (Mm0.out.below D)
  replace Mm1 := hide (Mm1.out.below D)
  replace HH := hide (HH.out.below D)
  replace WW := hide (below_next WW.out D)
  replace C := hide (Below.refl (w.alloc (.cells #[.int .i64 r, .int .i64 c, .slice xa xn xk] 24)).heap.size (w.alloc (.cells #[.int .i64 r, .int .i64 c, .slice xa xn xk] 24)))
  clear D
  have Ba := hide (Box.new w [.int .i64 r, .int .i64 c, .slice xa xn xk] 24 (B := w.heap.size) (by simp))
  have D := below_next C.out (below_one (w.alloc (.cells #[.int .i64 r, .int .i64 c, .slice xa xn xk] 24)) (.cells #[.int .i64 r', .int .i64 c', .slice ha hn hk] 24))
  replace Mm0 := hide (Mm0.out.below D)
  replace Mm1 := hide (Mm1.out.below D)
  replace HH := hide (HH.out.below D)
  replace Ba := hide (Ba.out.below D)
  replace WW := hide (below_next WW.out D)
  replace C := hide (Below.refl ((w.alloc (.cells #[.int .i64 r, .int .i64 c, .slice xa xn xk] 24)).alloc (.cells #[.int .i64 r', .int .i64 c', .slice ha hn hk] 24)).heap.size ((w.alloc (.cells #[.int .i64 r, .int .i64 c, .slice xa xn xk] 24)).alloc (.cells #[.int .i64 r', .int .i64 c', .slice ha hn hk] 24)))
  clear D
  have Bb := hide (Box.new (w.alloc (.cells #[.int .i64 r, .int .i64 c, .slice xa xn xk] 24)) [.int .i64 r', .int .i64 c', .slice ha hn hk] 24 (B := w.heap.size + 1) (by simp))
  go_enter Tryd.func5, Tryd.ntmps5
  obtain ⟨E, hE⟩ : ∃ E, addE m0 m1 = E := ⟨_, rfl⟩
  obtain ⟨k, hk⟩ : ∃ k, lossX m0 m1 = k := ⟨_, rfl⟩
  obtain ⟨y, hy⟩ : ∃ y, offX m0 m1 = y := ⟨_, rfl⟩
  have HY := hide (And.intro hE (And.intro hk hy))
  clear hE hk hy
  have HX := hide (lof_any _ _ m0 m1 _ (Mm0.out.below C.out) (Mm1.out.below C.out))
  have za0 := (Ba.out.below C.out) 0 _ rfl
  have za1 := (Ba.out.below C.out) 1 _ rfl
  have za2 := (Ba.out.below C.out) 2 _ rfl
  have zb0 := (Bb.out.below C.out) 0 _ rfl
  have zb1 := (Bb.out.below C.out) 1 _ rfl
  have zb2 := (Bb.out.below C.out) 2 _ rfl
  go_wp2_with fail
  refine HX.out.mono ?_
  rintro e u1 ⟨rfl, hb⟩
  rw [HY.out.1, HY.out.2.1]
  replace C := hide (below_next C.out hb)
  clear HX hb za0 za1 za2 zb0 zb1 zb2
  have HX := hide (lsback_any _ _ m0 m1 _ (Mm0.out.below C.out) (Mm1.out.below C.out))
  have za0 := (Ba.out.below C.out) 0 _ rfl
  have za1 := (Ba.out.below C.out) 1 _ rfl
  have za2 := (Ba.out.below C.out) 2 _ rfl
  have zb0 := (Bb.out.below C.out) 0 _ rfl
  have zb1 := (Bb.out.below C.out) 1 _ rfl
  have zb2 := (Bb.out.below C.out) 2 _ rfl
  go_wp2_with fail
  refine HX.out.mono ?_
  intro e u2 h
  rw [HY.out.1, HY.out.2.2] at h
  obtain ⟨ya, yn, yk, rfl, hm, hb⟩ := h.any
  clear h
  replace C := hide (below_next C.out hb)
  clear HX hb za0 za1 za2 zb0 zb1 zb2
  have My := hide (hm.below (below_one u2 (.cells #[.int .i64 y.rows, .int .i64 y.cols, .slice ya yn yk] 24)))
  have D := below_next C.out (below_one u2 (.cells #[.int .i64 y.rows, .int .i64 y.cols, .slice ya yn yk] 24))
  replace Mm0 := hide (Mm0.out.below D)
  replace Mm1 := hide (Mm1.out.below D)
  replace HH := hide (HH.out.below D)
  replace Ba := hide (Ba.out.below D)
  replace Bb := hide (Bb.out.below D)
  replace WW := hide (below_next WW.out D)
  replace C := hide (Below.refl (u2.alloc (.cells #[.int .i64 y.rows, .int .i64 y.cols, .slice ya yn yk] 24)).heap.size (u2.alloc (.cells #[.int .i64 y.rows, .int .i64 y.cols, .slice ya yn yk] 24)))
  clear D
  have By := hide (Box.new u2 [.int .i64 y.rows, .int .i64 y.cols, .slice ya yn yk] 24 (B := u2.heap.size) (by simp))
  clear hm
  have HX := hide (rlossfault_any _ _ m0 m1 _ (Mm0.out.below C.out) (Mm1.out.below C.out))
  have za0 := (Ba.out.below C.out) 0 _ rfl
  have za1 := (Ba.out.below C.out) 1 _ rfl
  have za2 := (Ba.out.below C.out) 2 _ rfl
  have zb0 := (Bb.out.below C.out) 0 _ rfl
  have zb1 := (Bb.out.below C.out) 1 _ rfl
  have zb2 := (Bb.out.below C.out) 2 _ rfl
  go_wp2_with fail
  refine HX.out.mono ?_
  rintro e u3 ⟨rfl, hb⟩
  rw [HY.out.1]
  replace C := hide (below_next C.out hb)
  clear HX hb za0 za1 za2 zb0 zb1 zb2
  have HX := hide (error_same (k := E) (n := E) rfl _ (HH.out.below C.out))
  go_wp2_with fail
  refine HX.out.mono ?_
  rintro e u4 ⟨rfl, hb⟩
  replace C := hide (below_next C.out hb)
  clear HX hb 
  have HX := hide (error_same (k := E) (n := E) rfl _ (HH.out.below C.out))
  go_wp2_with fail
  refine HX.out.mono ?_
  rintro e u5 ⟨rfl, hb⟩
  replace C := hide (below_next C.out hb)
  clear HX hb 
  by_cases hE : E = 0
  · subst hE
    obtain ⟨R, CC, ga, gb⟩ := addE_good HY.out.1
    have HGA := hide (And.intro ga gb)
    clear ga gb
    have HX := hide (rloss_any _ _ m0 m1 R CC _ HGA.out.1 HGA.out.2 (Mm0.out.below C.out) (Mm1.out.below C.out))
    have za0 := (Ba.out.below C.out) 0 _ rfl
    have za1 := (Ba.out.below C.out) 1 _ rfl
    have za2 := (Ba.out.below C.out) 2 _ rfl
    have zb0 := (Bb.out.below C.out) 0 _ rfl
    have zb1 := (Bb.out.below C.out) 1 _ rfl
    have zb2 := (Bb.out.below C.out) 2 _ rfl
    go_wp2_with fail
    refine HX.out.mono ?_
    rintro e u6 ⟨v', rfl, hm, hb, _⟩
    rw [HY.out.2.2] at hm
    rw [HY.out.2.1]
    obtain ⟨qs, rfl, hqs⟩ := hm
    obtain ⟨qa, qn, qk, rfl⟩ := hqs.shape
    replace C := hide (below_next C.out hb)
    clear HX hb za0 za1 za2 zb0 zb1 zb2
    have hm : IsMx u6 (.agg #[.int .i64 y.rows, .int .i64 y.cols, .slice qa qn qk]) y := ⟨_, rfl, hqs⟩
    clear hqs
    have MW := hide (hm.below (below_one u6 (.cells #[.int .i64 y.rows, .int .i64 y.cols, .slice qa qn qk] 24)))
    have D := below_next C.out (below_one u6 (.cells #[.int .i64 y.rows, .int .i64 y.cols, .slice qa qn qk] 24))
    replace Mm0 := hide (Mm0.out.below D)
    replace Mm1 := hide (Mm1.out.below D)
    replace HH := hide (HH.out.below D)
    replace Ba := hide (Ba.out.below D)
    replace Bb := hide (Bb.out.below D)
    replace By := hide (By.out.below D)
    replace My := hide (My.out.below D)
    replace WW := hide (below_next WW.out D)
    replace C := hide (Below.refl (u6.alloc (.cells #[.int .i64 y.rows, .int .i64 y.cols, .slice qa qn qk] 24)).heap.size (u6.alloc (.cells #[.int .i64 y.rows, .int .i64 y.cols, .slice qa qn qk] 24)))
    clear D
    have Bw := hide (Box.new u6 [.int .i64 y.rows, .int .i64 y.cols, .slice qa qn qk] 24 (B := u6.heap.size) (by simp))
    clear hm
    have HX := hide (matrices_any _ _ y y _ (My.out.below C.out) (MW.out.below C.out))
    have zy0 := (By.out.below C.out) 0 _ rfl
    have zy1 := (By.out.below C.out) 1 _ rfl
    have zy2 := (By.out.below C.out) 2 _ rfl
    have zw0 := (Bw.out.below C.out) 0 _ rfl
    have zw1 := (Bw.out.below C.out) 1 _ rfl
    have zw2 := (Bw.out.below C.out) 2 _ rfl
    go_wp2_with fail
    refine HX.out.mono ?_
    rintro e u7 ⟨rfl, hb⟩
    rw [sameM_refl]
    replace C := hide (below_next C.out hb)
    clear HX hb zy0 zy1 zy2 zw0 zw1 zw2
    go_wp2
    go_ret
    exact ⟨rfl, below_next WW.out C.out⟩
  · have hE0 : (E == 0) = false := by simp [hE]
    have hE1 : (E != 0) = true := by simp [hE]
    obtain rfl : y = noMx := by rw [← HY.out.2.2]; unfold offX; rw [if_neg (by rw [HY.out.1]; exact hE)]
    obtain rfl : k = 0 := by rw [← HY.out.2.1]; unfold lossX; rw [if_neg (by rw [HY.out.1]; exact hE)]
    clear hE
    have HX := hide (matrices_any _ _ noMx noMx _ (My.out.below C.out) (isMx_no _))
    have zy0 := (By.out.below C.out) 0 _ rfl
    have zy1 := (By.out.below C.out) 1 _ rfl
    have zy2 := (By.out.below C.out) 2 _ rfl
    go_wp2_with fail
    refine HX.out.mono ?_
    rintro e u8 ⟨rfl, hb⟩
    rw [sameM_refl]
    replace C := hide (below_next C.out hb)
    clear HX hb zy0 zy1 zy2
    go_wp2
    go_ret
    exact ⟨rfl, below_next WW.out C.out⟩
end Go.Proofs.YtogmbihigjpmfacDoor
