/- The walk of the law LayerRows: rows do not mind one another: what comes of some rows are those rows of what comes; likewise what goes back. No condition. -/
import Derived.Test.YtkncgelkbpeagacLFact
import Derived.Test.YtkncgelkbpeagacLyLaw
import Derived.Test.YtkncgelkbpeagacPick
namespace Go.Proofs.Ytkncgelkbpeagac
open Go.RowKit
theorem Box.above' {n B : Nat} {w u : World} {cs : List Value} (h : Box w B cs) (hB : n ≤ B) (ha : Above n w u) : Box u B cs := fun j x hx => ha _ _ hB (h j x hx)
theorem IsMx.above' {n : Nat} {w u : World} {v : Value} {m : Mx} (h : IsMx w v m) (hf : Fresh n v) (ha : Above n w u) : IsMx u v m := h.above hf ha
theorem BackErr.fresh_any {w : World} {m a b : Mx} {k : Int} {e : Ending} {w' : World} (h : BackErr w m a b k e w') : ∀ v d x, e = .returned (.tuple #[v, d, x]) → Fresh w.heap.size v := by
  intro v d x he
  obtain ⟨v', d', rfl, _, _, _, hf, _⟩ := h
  have : v' = v := by simp at he; exact he.1
  rw [← this]; exact hf
theorem Mut.other3 {w : World} {B B' : Nat} {r c : Int} {s : Value} (h : Mut w B r c s) (hne : ¬ B = B') (x y z : Value) : Mut (((w.setCell ⟨B', 0, none⟩ x).setCell ⟨B', 1, none⟩ y).setCell ⟨B', 2, none⟩ z) B r c s :=
  ⟨⟨cell_set3 h.t.1 hne x y z, cell_set3 h.t.2.1 hne x y z, cell_set3 h.t.2.2 hne x y z⟩, fun j => by simp [h.f]⟩
set_option maxHeartbeats 16000000 in
set_option maxRecDepth 100000 in
theorem rows_walk (v0 : Value) (l : Ly) (v1 v2 : Value) (m1 m2 : Mx) (a3 : Int) (w : World) (w0 : IsLy w v0 l) (w1 : IsMx w v1 m1) (w2 : IsMx w v2 m2) (w3 : (Lit.int .i64 a3).wf = true) : Calls Try.prog 3 #[v0, v1, v2, .int .i64 a3] w fun e w' => e = .returned (.bool true) ∧ Below w.heap.size w w' := by
  obtain ⟨sl, tl, rfl, hsl, htl⟩ := w0
  obtain ⟨la, ln, lm, rfl⟩ := hsl.shape
  obtain ⟨ba, bn, bm, rfl⟩ := htl.shape
  obtain ⟨lk, e0⟩ : ∃ r, l.k = r := ⟨_, rfl⟩
  obtain ⟨lr, e1⟩ : ∃ r, l.w.rows = r := ⟨_, rfl⟩
  obtain ⟨lc, e2⟩ : ∃ r, l.w.cols = r := ⟨_, rfl⟩
  obtain ⟨br, e3⟩ : ∃ r, l.b.rows = r := ⟨_, rfl⟩
  obtain ⟨bc, e4⟩ : ∃ r, l.b.cols = r := ⟨_, rfl⟩
  have ML := hide (show IsLy w (.agg #[.int .i64 lk, .int .i64 lr, .int .i64 lc, .slice la ln lm, .int .i64 br, .int .i64 bc, .slice ba bn bm]) l from ⟨_, _, by rw [e0, e1, e2, e3, e4], hsl, htl⟩)
  obtain ⟨sm1, rfl, hm1⟩ := w1
  obtain ⟨xa, xn, xk, rfl⟩ := hm1.shape
  obtain ⟨r, er⟩ : ∃ r, m1.rows = r := ⟨_, rfl⟩
  obtain ⟨c, ec⟩ : ∃ r, m1.cols = r := ⟨_, rfl⟩
  have Mm1 := hide (show IsMx w (.agg #[.int .i64 r, .int .i64 c, .slice xa xn xk]) m1 from ⟨_, by rw [er, ec], hm1⟩)
  obtain ⟨sm2, rfl, hm2⟩ := w2
  obtain ⟨ga, gn, gk, rfl⟩ := hm2.shape
  obtain ⟨r', er'⟩ : ∃ r, m2.rows = r := ⟨_, rfl⟩
  obtain ⟨c', ec'⟩ : ∃ r, m2.cols = r := ⟨_, rfl⟩
  have Mm2 := hide (show IsMx w (.agg #[.int .i64 r', .int .i64 c', .slice ga gn gk]) m2 from ⟨_, by rw [er', ec'], hm2⟩)
  have HEQ := hide (And.intro er (And.intro ec (And.intro er' ec')))
  have hp0 := (bounds_i64 w3).1
  have hp1 := (bounds_i64 w3).2
  rw [e0, e1, e2, e3, e4, er, ec, er', ec']
  clear hsl htl hm1 hm2 e0 e1 e2 e3 e4 er ec er' ec' w3
  have WW := hide (Below.refl w.heap.size w)
  have C := hide (Below.refl w.heap.size w)
  have D := below_next C.out (below_one w (.cells #[.int .i64 lk, .int .i64 lr, .int .i64 lc, .slice la ln lm, .int .i64 br, .int .i64 bc, .slice ba bn bm] 26))
  replace ML := hide (ML.out.below D)
  replace Mm1 := hide (Mm1.out.below D)
  replace Mm2 := hide (Mm2.out.below D)
  replace WW := hide (below_next WW.out D)
  replace C := hide (Below.refl (w.alloc (.cells #[.int .i64 lk, .int .i64 lr, .int .i64 lc, .slice la ln lm, .int .i64 br, .int .i64 bc, .slice ba bn bm] 26)).heap.size (w.alloc (.cells #[.int .i64 lk, .int .i64 lr, .int .i64 lc, .slice la ln lm, .int .i64 br, .int .i64 bc, .slice ba bn bm] 26)))
  clear D
  have Bl := hide (Box.new w [.int .i64 lk, .int .i64 lr, .int .i64 lc, .slice la ln lm, .int .i64 br, .int .i64 bc, .slice ba bn bm] 26 (B := w.heap.size) (by simp))
  have D := below_next C.out (below_one (w.alloc (.cells #[.int .i64 lk, .int .i64 lr, .int .i64 lc, .slice la ln lm, .int .i64 br, .int .i64 bc, .slice ba bn bm] 26)) (.cells #[.int .i64 r, .int .i64 c, .slice xa xn xk] 24))
  replace ML := hide (ML.out.below D)
  replace Mm1 := hide (Mm1.out.below D)
  replace Mm2 := hide (Mm2.out.below D)
  replace Bl := hide (Bl.out.below D)
  replace WW := hide (below_next WW.out D)
  replace C := hide (Below.refl ((w.alloc (.cells #[.int .i64 lk, .int .i64 lr, .int .i64 lc, .slice la ln lm, .int .i64 br, .int .i64 bc, .slice ba bn bm] 26)).alloc (.cells #[.int .i64 r, .int .i64 c, .slice xa xn xk] 24)).heap.size ((w.alloc (.cells #[.int .i64 lk, .int .i64 lr, .int .i64 lc, .slice la ln lm, .int .i64 br, .int .i64 bc, .slice ba bn bm] 26)).alloc (.cells #[.int .i64 r, .int .i64 c, .slice xa xn xk] 24)))
  clear D
  have Bx := hide (Box.new (w.alloc (.cells #[.int .i64 lk, .int .i64 lr, .int .i64 lc, .slice la ln lm, .int .i64 br, .int .i64 bc, .slice ba bn bm] 26)) [.int .i64 r, .int .i64 c, .slice xa xn xk] 24 (B := w.heap.size + 1) (by simp))
  have D := below_next C.out (below_one ((w.alloc (.cells #[.int .i64 lk, .int .i64 lr, .int .i64 lc, .slice la ln lm, .int .i64 br, .int .i64 bc, .slice ba bn bm] 26)).alloc (.cells #[.int .i64 r, .int .i64 c, .slice xa xn xk] 24)) (.cells #[.int .i64 r', .int .i64 c', .slice ga gn gk] 24))
  replace ML := hide (ML.out.below D)
  replace Mm1 := hide (Mm1.out.below D)
  replace Mm2 := hide (Mm2.out.below D)
  replace Bl := hide (Bl.out.below D)
  replace Bx := hide (Bx.out.below D)
  replace WW := hide (below_next WW.out D)
  replace C := hide (Below.refl (((w.alloc (.cells #[.int .i64 lk, .int .i64 lr, .int .i64 lc, .slice la ln lm, .int .i64 br, .int .i64 bc, .slice ba bn bm] 26)).alloc (.cells #[.int .i64 r, .int .i64 c, .slice xa xn xk] 24)).alloc (.cells #[.int .i64 r', .int .i64 c', .slice ga gn gk] 24)).heap.size (((w.alloc (.cells #[.int .i64 lk, .int .i64 lr, .int .i64 lc, .slice la ln lm, .int .i64 br, .int .i64 bc, .slice ba bn bm] 26)).alloc (.cells #[.int .i64 r, .int .i64 c, .slice xa xn xk] 24)).alloc (.cells #[.int .i64 r', .int .i64 c', .slice ga gn gk] 24)))
  clear D
  have Bg := hide (Box.new ((w.alloc (.cells #[.int .i64 lk, .int .i64 lr, .int .i64 lc, .slice la ln lm, .int .i64 br, .int .i64 bc, .slice ba bn bm] 26)).alloc (.cells #[.int .i64 r, .int .i64 c, .slice xa xn xk] 24)) [.int .i64 r', .int .i64 c', .slice ga gn gk] 24 (B := w.heap.size + 1 + 1) (by simp))
  go_enter Try.func3, Try.ntmps3
  have HX := hide (lfact_any (((w.alloc (.cells #[.int .i64 lk, .int .i64 lr, .int .i64 lc, .slice la ln lm, .int .i64 br, .int .i64 bc, .slice ba bn bm] 26)).alloc (.cells #[.int .i64 r, .int .i64 c, .slice xa xn xk] 24)).alloc (.cells #[.int .i64 r', .int .i64 c', .slice ga gn gk] 24)))
  go_wp2_with fail
  refine HX.out.mono ?_
  rintro e u1 ⟨rfl, hb⟩
  replace C := hide (below_next C.out hb)
  clear HX hb 
  obtain ⟨E, hE⟩ : ∃ E, goE l m1 = E := ⟨_, rfl⟩
  obtain ⟨y, hy⟩ : ∃ y, goX l m1 = y := ⟨_, rfl⟩
  have HY := hide (And.intro hE hy)
  clear hE hy
  have HX := hide (lgo_any _ l m1 _ _ (ML.out.below C.out) (Mm1.out.below C.out))
  have zl0 := (Bl.out.below C.out) 0 _ rfl
  have zl1 := (Bl.out.below C.out) 1 _ rfl
  have zl2 := (Bl.out.below C.out) 2 _ rfl
  have zl3 := (Bl.out.below C.out) 3 _ rfl
  have zl4 := (Bl.out.below C.out) 4 _ rfl
  have zl5 := (Bl.out.below C.out) 5 _ rfl
  have zl6 := (Bl.out.below C.out) 6 _ rfl
  have zx0 := (Bx.out.below C.out) 0 _ rfl
  have zx1 := (Bx.out.below C.out) 1 _ rfl
  have zx2 := (Bx.out.below C.out) 2 _ rfl
  go_wp2_with fail
  refine HX.out.mono ?_
  intro e u2 h
  rw [HY.out.1, HY.out.2] at h
  obtain ⟨ya, yn, yk, rfl, hm, hb⟩ := h.any
  clear h
  replace C := hide (below_next C.out hb)
  clear HX hb zl0 zl1 zl2 zl3 zl4 zl5 zl6 zx0 zx1 zx2
  by_cases hE : E = 0
  · subst hE
    rw [err_eq rfl]
    obtain ⟨R, Cc, gx⟩ := good_of (goE_zero HY.out.1).2.1
    have hr : r = (R : Int) := by rw [← HEQ.out.1]; exact gx.r
    have hr24 := gx.hR
    have hr0 : 0 ≤ r := by omega
    have hr1 : r ≤ 24 := by omega
    obtain ⟨Cy, gy, _⟩ := go_good gx HY.out.1
    rw [HY.out.2] at gy
    have HG := hide (And.intro gx (And.intro gy hr))
    have HK := hide (fun W => pick_any a3 (r + 1) W hp0 hp1 (by omega) (by omega))
    clear gx gy hr hr24
    have My := hide (hm.below (below_one u2 (.cells #[.int .i64 y.rows, .int .i64 y.cols, .slice ya yn yk] 24)))
    have D := below_next C.out (below_one u2 (.cells #[.int .i64 y.rows, .int .i64 y.cols, .slice ya yn yk] 24))
    replace ML := hide (ML.out.below D)
    replace Mm1 := hide (Mm1.out.below D)
    replace Mm2 := hide (Mm2.out.below D)
    replace Bl := hide (Bl.out.below D)
    replace Bx := hide (Bx.out.below D)
    replace Bg := hide (Bg.out.below D)
    replace WW := hide (below_next WW.out D)
    replace C := hide (Below.refl (u2.alloc (.cells #[.int .i64 y.rows, .int .i64 y.cols, .slice ya yn yk] 24)).heap.size (u2.alloc (.cells #[.int .i64 y.rows, .int .i64 y.cols, .slice ya yn yk] 24)))
    clear D
    have By := hide (Box.new u2 [.int .i64 y.rows, .int .i64 y.cols, .slice ya yn yk] 24 (B := u2.heap.size) (by simp))
    clear hm
    have HX := hide (HK.out (u2.alloc (.cells #[.int .i64 y.rows, .int .i64 y.cols, .slice ya yn yk] 24)))
    have zx0 := (Bx.out.below C.out) 0 _ rfl
    have zx1 := (Bx.out.below C.out) 1 _ rfl
    have zx2 := (Bx.out.below C.out) 2 _ rfl
    go_wp2_with fail
    refine HX.out.mono ?_
    rintro e _ ⟨k, rfl, hk, rfl⟩
    clear HX HK zx0 zx1 zx2
    have hkR : k ≤ R := by have := HG.out.2.2; omega
    have ga := HG.out.1.rows (f := 0) (Nat.zero_le k) hkR
    have gb := HG.out.1.rows hkR (Nat.le_refl R)
    have a0 : rowsE m1 0 (k : Int) = 0 := HG.out.1.rows0 (f := 0) (Nat.zero_le k) hkR
    have b0 : rowsE m1 (k : Int) r = 0 := by rw [HG.out.2.2]; exact HG.out.1.rows0 hkR (Nat.le_refl R)
    obtain ⟨a, ha⟩ : ∃ a, rowsX m1 0 (k : Int) = a := ⟨_, rfl⟩
    obtain ⟨b, hb'⟩ : ∃ a, rowsX m1 (k : Int) r = a := ⟨_, rfl⟩
    have ga' : Good a (k - 0) Cc := by rw [← ha]; exact ga
    have gb' : Good b (R - k) Cc := by rw [← hb', HG.out.2.2]; exact gb
    have pu : goE l a = 0 ∧ goX l a = rowsX y 0 (k : Int) := by rw [← ha, ← HY.out.2]; exact rows_go HG.out.1 HY.out.1 (f := 0) (Nat.zero_le k) hkR
    have pv : goE l b = 0 ∧ goX l b = rowsX y (k : Int) (R : Int) := by rw [← hb', ← HY.out.2, HG.out.2.2]; exact rows_go HG.out.1 HY.out.1 hkR (Nat.le_refl R)
    have st := stack_rows HG.out.2.1 hkR
    obtain ⟨p, hp⟩ : ∃ p, rowsX y 0 (k : Int) = p := ⟨_, rfl⟩
    obtain ⟨q, hq⟩ : ∃ p, rowsX y (k : Int) (R : Int) = p := ⟨_, rfl⟩
    rw [hp] at pu
    rw [hq] at pv
    have st' : stackE [p, q] = 0 ∧ stackX [p, q] = y := by rw [← hp, ← hq]; exact st
    have HA := hide (And.intro a0 (And.intro b0 (And.intro ha (And.intro hb' (And.intro ga' gb')))))
    have HP := hide (And.intro pu (And.intro pv st'))
    have HKR := hide hkR
    clear ga gb a0 b0 ha hb' ga' gb' pu pv st st' hp hq hkR
    have HX := hide (mrows_any _ m1 0 (k : Int) _ (Mm1.out.below C.out))
    have zx0 := (Bx.out.below C.out) 0 _ rfl
    have zx1 := (Bx.out.below C.out) 1 _ rfl
    have zx2 := (Bx.out.below C.out) 2 _ rfl
    go_wp2_with fail
    refine HX.out.mono ?_
    intro e u3 h
    rw [HA.out.1, HA.out.2.2.1] at h
    obtain ⟨aa, an, ak, rfl, hm, hb⟩ := h.any
    rw [err_eq rfl]
    clear h
    replace C := hide (below_next C.out hb)
    clear HX hb zx0 zx1 zx2
    have Ma := hide (hm.below (below_one u3 (.cells #[.int .i64 a.rows, .int .i64 a.cols, .slice aa an ak] 24)))
    have D := below_next C.out (below_one u3 (.cells #[.int .i64 a.rows, .int .i64 a.cols, .slice aa an ak] 24))
    replace ML := hide (ML.out.below D)
    replace Mm1 := hide (Mm1.out.below D)
    replace Mm2 := hide (Mm2.out.below D)
    replace Bl := hide (Bl.out.below D)
    replace Bx := hide (Bx.out.below D)
    replace Bg := hide (Bg.out.below D)
    replace By := hide (By.out.below D)
    replace My := hide (My.out.below D)
    replace WW := hide (below_next WW.out D)
    replace C := hide (Below.refl (u3.alloc (.cells #[.int .i64 a.rows, .int .i64 a.cols, .slice aa an ak] 24)).heap.size (u3.alloc (.cells #[.int .i64 a.rows, .int .i64 a.cols, .slice aa an ak] 24)))
    clear D
    have Ba := hide (Box.new u3 [.int .i64 a.rows, .int .i64 a.cols, .slice aa an ak] 24 (B := u3.heap.size) (by simp))
    clear hm
    have HX := hide (mrows_any _ m1 (k : Int) r _ (Mm1.out.below C.out))
    have zx0 := (Bx.out.below C.out) 0 _ rfl
    have zx1 := (Bx.out.below C.out) 1 _ rfl
    have zx2 := (Bx.out.below C.out) 2 _ rfl
    go_wp2_with fail
    refine HX.out.mono ?_
    intro e u4 h
    rw [HA.out.2.1, HA.out.2.2.2.1] at h
    obtain ⟨ea, en, ek, rfl, hm, hb⟩ := h.any
    rw [err_eq rfl]
    clear h
    replace C := hide (below_next C.out hb)
    clear HX hb zx0 zx1 zx2
    have Mb := hide (hm.below (below_one u4 (.cells #[.int .i64 b.rows, .int .i64 b.cols, .slice ea en ek] 24)))
    have D := below_next C.out (below_one u4 (.cells #[.int .i64 b.rows, .int .i64 b.cols, .slice ea en ek] 24))
    replace ML := hide (ML.out.below D)
    replace Mm1 := hide (Mm1.out.below D)
    replace Mm2 := hide (Mm2.out.below D)
    replace Bl := hide (Bl.out.below D)
    replace Bx := hide (Bx.out.below D)
    replace Bg := hide (Bg.out.below D)
    replace By := hide (By.out.below D)
    replace My := hide (My.out.below D)
    replace Ba := hide (Ba.out.below D)
    replace Ma := hide (Ma.out.below D)
    replace WW := hide (below_next WW.out D)
    replace C := hide (Below.refl (u4.alloc (.cells #[.int .i64 b.rows, .int .i64 b.cols, .slice ea en ek] 24)).heap.size (u4.alloc (.cells #[.int .i64 b.rows, .int .i64 b.cols, .slice ea en ek] 24)))
    clear D
    have Bb := hide (Box.new u4 [.int .i64 b.rows, .int .i64 b.cols, .slice ea en ek] 24 (B := u4.heap.size) (by simp))
    clear hm
    have Al := Bl
    have Ax := Bx
    have Ag := Bg
    have Ay := By
    have Aa := Ba
    have Ab := Bb
    have AML := ML
    have AMm1 := Mm1
    have AMm2 := Mm2
    have AMa := Ma
    have AMb := Mb
    have CA := C
    have WA0 := hide WW.out.size
    have HX := hide (lgo_any _ l a _ _ (ML.out.below C.out) (Ma.out.below C.out))
    have zl0 := (Bl.out.below C.out) 0 _ rfl
    have zl1 := (Bl.out.below C.out) 1 _ rfl
    have zl2 := (Bl.out.below C.out) 2 _ rfl
    have zl3 := (Bl.out.below C.out) 3 _ rfl
    have zl4 := (Bl.out.below C.out) 4 _ rfl
    have zl5 := (Bl.out.below C.out) 5 _ rfl
    have zl6 := (Bl.out.below C.out) 6 _ rfl
    have za0 := (Ba.out.below C.out) 0 _ rfl
    have za1 := (Ba.out.below C.out) 1 _ rfl
    have za2 := (Ba.out.below C.out) 2 _ rfl
    go_wp2_with fail
    refine HX.out.mono ?_
    intro e u5 h
    rw [HP.out.1.1, HP.out.1.2] at h
    obtain ⟨pa, pn, pk, rfl, hm, hb⟩ := h.any
    rw [err_eq rfl]
    clear h
    replace C := hide (below_next C.out hb)
    replace CA := hide (below_next CA.out hb)
    clear HX hb zl0 zl1 zl2 zl3 zl4 zl5 zl6 za0 za1 za2
    have LU := hide CA.out.size
    have Mu := hide (hm.below (below_one u5 (.cells #[.int .i64 p.rows, .int .i64 p.cols, .slice pa pn pk] 24)))
    have D := below_next C.out (below_one u5 (.cells #[.int .i64 p.rows, .int .i64 p.cols, .slice pa pn pk] 24))
    replace ML := hide (ML.out.below D)
    replace Mm1 := hide (Mm1.out.below D)
    replace Mm2 := hide (Mm2.out.below D)
    replace Bl := hide (Bl.out.below D)
    replace Bx := hide (Bx.out.below D)
    replace Bg := hide (Bg.out.below D)
    replace By := hide (By.out.below D)
    replace My := hide (My.out.below D)
    replace Ba := hide (Ba.out.below D)
    replace Ma := hide (Ma.out.below D)
    replace Bb := hide (Bb.out.below D)
    replace Mb := hide (Mb.out.below D)
    replace CA := hide (below_next CA.out (below_one u5 (.cells #[.int .i64 p.rows, .int .i64 p.cols, .slice pa pn pk] 24)))
    replace WW := hide (below_next WW.out D)
    replace C := hide (Below.refl (u5.alloc (.cells #[.int .i64 p.rows, .int .i64 p.cols, .slice pa pn pk] 24)).heap.size (u5.alloc (.cells #[.int .i64 p.rows, .int .i64 p.cols, .slice pa pn pk] 24)))
    clear D
    have Bu := hide (Box.new u5 [.int .i64 p.rows, .int .i64 p.cols, .slice pa pn pk] 24 (B := u5.heap.size) (by simp))
    have Uu := hide (Mut.newB u5 p.rows p.cols (.slice pa pn pk) 24 (B := u5.heap.size) (by simp))
    clear hm
    have HX := hide (lgo_any _ l b _ _ (ML.out.below C.out) (Mb.out.below C.out))
    have zl0 := (Bl.out.below C.out) 0 _ rfl
    have zl1 := (Bl.out.below C.out) 1 _ rfl
    have zl2 := (Bl.out.below C.out) 2 _ rfl
    have zl3 := (Bl.out.below C.out) 3 _ rfl
    have zl4 := (Bl.out.below C.out) 4 _ rfl
    have zl5 := (Bl.out.below C.out) 5 _ rfl
    have zl6 := (Bl.out.below C.out) 6 _ rfl
    have zb0 := (Bb.out.below C.out) 0 _ rfl
    have zb1 := (Bb.out.below C.out) 1 _ rfl
    have zb2 := (Bb.out.below C.out) 2 _ rfl
    go_wp2_with fail
    refine HX.out.mono ?_
    intro e u6 h
    rw [HP.out.2.1.1, HP.out.2.1.2] at h
    obtain ⟨qa, qn, qk, rfl, hm, hb⟩ := h.any
    rw [err_eq rfl]
    clear h
    replace C := hide (below_next C.out hb)
    replace CA := hide (below_next CA.out hb)
    replace Uu := hide (Uu.out.below hb)
    clear HX hb zl0 zl1 zl2 zl3 zl4 zl5 zl6 zb0 zb1 zb2
    have LV := hide CA.out.size
    have KUV := hide (show u5.heap.size < u6.heap.size by have h := C.out.size; simp only [World.size_alloc] at h; omega)
    have Mv := hide (hm.below (below_one u6 (.cells #[.int .i64 q.rows, .int .i64 q.cols, .slice qa qn qk] 24)))
    have D := below_next C.out (below_one u6 (.cells #[.int .i64 q.rows, .int .i64 q.cols, .slice qa qn qk] 24))
    replace ML := hide (ML.out.below D)
    replace Mm1 := hide (Mm1.out.below D)
    replace Mm2 := hide (Mm2.out.below D)
    replace Bl := hide (Bl.out.below D)
    replace Bx := hide (Bx.out.below D)
    replace Bg := hide (Bg.out.below D)
    replace By := hide (By.out.below D)
    replace My := hide (My.out.below D)
    replace Ba := hide (Ba.out.below D)
    replace Ma := hide (Ma.out.below D)
    replace Bb := hide (Bb.out.below D)
    replace Mb := hide (Mb.out.below D)
    replace Bu := hide (Bu.out.below D)
    replace Mu := hide (Mu.out.below D)
    replace CA := hide (below_next CA.out (below_one u6 (.cells #[.int .i64 q.rows, .int .i64 q.cols, .slice qa qn qk] 24)))
    replace Uu := hide (Uu.out.below (below_one u6 (.cells #[.int .i64 q.rows, .int .i64 q.cols, .slice qa qn qk] 24)))
    replace WW := hide (below_next WW.out D)
    replace C := hide (Below.refl (u6.alloc (.cells #[.int .i64 q.rows, .int .i64 q.cols, .slice qa qn qk] 24)).heap.size (u6.alloc (.cells #[.int .i64 q.rows, .int .i64 q.cols, .slice qa qn qk] 24)))
    clear D
    have Bv := hide (Box.new u6 [.int .i64 q.rows, .int .i64 q.cols, .slice qa qn qk] 24 (B := u6.heap.size) (by simp))
    have Uv := hide (Mut.newB u6 q.rows q.cols (.slice qa qn qk) 24 (B := u6.heap.size) (by simp))
    clear hm
    have hmx := mxs_two (Mu.out.below C.out).ints (Mv.out.below C.out).ints 24
    have hbx := below_one (u6.alloc (.cells #[.int .i64 q.rows, .int .i64 q.cols, .slice qa qn qk] 24)) (.cells #[.int .i64 p.rows, .int .i64 p.cols, .slice pa pn pk, .int .i64 q.rows, .int .i64 q.cols, .slice qa qn qk] 24)
    simp only [World.size_alloc] at hmx
    have HX := hide (mstack_any _ _ _ hmx (by simp))
    have zu0 := (Bu.out.below C.out) 0 _ rfl
    have zu1 := (Bu.out.below C.out) 1 _ rfl
    have zu2 := (Bu.out.below C.out) 2 _ rfl
    have zv0 := (Bv.out.below C.out) 0 _ rfl
    have zv1 := (Bv.out.below C.out) 1 _ rfl
    have zv2 := (Bv.out.below C.out) 2 _ rfl
    go_wp2_with fail
    refine HX.out.mono ?_
    intro e u7 h
    rw [HP.out.2.2.1, HP.out.2.2.2] at h
    obtain ⟨sa, sn, sk, rfl, hm, hb0⟩ := h.any
    have hb := below_next hbx hb0
    rw [err_eq rfl]
    clear h hmx hbx hb0
    replace C := hide (below_next C.out hb)
    replace CA := hide (below_next CA.out hb)
    replace Uu := hide (Uu.out.below hb)
    replace Uv := hide (Uv.out.below hb)
    clear HX hb zu0 zu1 zu2 zv0 zv1 zv2
    have LS := hide CA.out.size
    have KVS := hide (show u6.heap.size < u7.heap.size by have h := C.out.size; simp only [World.size_alloc] at h; omega)
    have Ms := hide (hm.below (below_one u7 (.cells #[.int .i64 y.rows, .int .i64 y.cols, .slice sa sn sk] 24)))
    have D := below_next C.out (below_one u7 (.cells #[.int .i64 y.rows, .int .i64 y.cols, .slice sa sn sk] 24))
    replace ML := hide (ML.out.below D)
    replace Mm1 := hide (Mm1.out.below D)
    replace Mm2 := hide (Mm2.out.below D)
    replace Bl := hide (Bl.out.below D)
    replace Bx := hide (Bx.out.below D)
    replace Bg := hide (Bg.out.below D)
    replace By := hide (By.out.below D)
    replace My := hide (My.out.below D)
    replace Ba := hide (Ba.out.below D)
    replace Ma := hide (Ma.out.below D)
    replace Bb := hide (Bb.out.below D)
    replace Mb := hide (Mb.out.below D)
    replace Bu := hide (Bu.out.below D)
    replace Mu := hide (Mu.out.below D)
    replace Bv := hide (Bv.out.below D)
    replace Mv := hide (Mv.out.below D)
    replace CA := hide (below_next CA.out (below_one u7 (.cells #[.int .i64 y.rows, .int .i64 y.cols, .slice sa sn sk] 24)))
    replace Uu := hide (Uu.out.below (below_one u7 (.cells #[.int .i64 y.rows, .int .i64 y.cols, .slice sa sn sk] 24)))
    replace Uv := hide (Uv.out.below (below_one u7 (.cells #[.int .i64 y.rows, .int .i64 y.cols, .slice sa sn sk] 24)))
    replace WW := hide (below_next WW.out D)
    replace C := hide (Below.refl (u7.alloc (.cells #[.int .i64 y.rows, .int .i64 y.cols, .slice sa sn sk] 24)).heap.size (u7.alloc (.cells #[.int .i64 y.rows, .int .i64 y.cols, .slice sa sn sk] 24)))
    clear D
    have Bs := hide (Box.new u7 [.int .i64 y.rows, .int .i64 y.cols, .slice sa sn sk] 24 (B := u7.heap.size) (by simp))
    have Us := hide (Mut.newB u7 y.rows y.cols (.slice sa sn sk) 24 (B := u7.heap.size) (by simp))
    clear hm
    have CW := C
    have HSW := hide (show u7.heap.size < (u7.alloc (.cells #[.int .i64 y.rows, .int .i64 y.cols, .slice sa sn sk] 24)).heap.size by simp)
    have HVW := hide (show u6.heap.size < (u7.alloc (.cells #[.int .i64 y.rows, .int .i64 y.cols, .slice sa sn sk] 24)).heap.size from Nat.lt_trans KVS.out HSW.out)
    have HUW := hide (show u5.heap.size < (u7.alloc (.cells #[.int .i64 y.rows, .int .i64 y.cols, .slice sa sn sk] 24)).heap.size from Nat.lt_trans KUV.out HVW.out)
    have Nuv := hide (Nat.ne_of_lt KUV.out)
    have Nvu := hide (Nat.ne_of_gt KUV.out)
    have Nvs := hide (Nat.ne_of_lt KVS.out)
    have Nsv := hide (Nat.ne_of_gt KVS.out)
    have Nus := hide (Nat.ne_of_lt (Nat.lt_trans KUV.out KVS.out))
    have Nsu := hide (Nat.ne_of_gt (Nat.lt_trans KUV.out KVS.out))
    have HX := hide (matrices_any _ _ y y _ (Ms.out.below C.out) (My.out.below C.out))
    have zs0 := (Bs.out.below C.out) 0 _ rfl
    have zs1 := (Bs.out.below C.out) 1 _ rfl
    have zs2 := (Bs.out.below C.out) 2 _ rfl
    have zy0 := (By.out.below C.out) 0 _ rfl
    have zy1 := (By.out.below C.out) 1 _ rfl
    have zy2 := (By.out.below C.out) 2 _ rfl
    go_wp2_with fail
    refine HX.out.mono ?_
    rintro e u8 ⟨rfl, hb⟩
    rw [sameM_refl]
    replace C := hide (below_next C.out hb)
    replace CA := hide (below_next CA.out hb)
    replace CW := hide (below_next CW.out hb)
    replace Uu := hide (Uu.out.below hb)
    replace Uv := hide (Uv.out.below hb)
    replace Us := hide (Us.out.below hb)
    clear HX hb zs0 zs1 zs2 zy0 zy1 zy2
    obtain ⟨to, hto⟩ : ∃ q, backX l m1 m2 = q := ⟨_, rfl⟩
    obtain ⟨da, hda⟩ : ∃ q, gradW l m1 m2 = q := ⟨_, rfl⟩
    obtain ⟨db, hdb⟩ : ∃ q, gradB l m1 m2 = q := ⟨_, rfl⟩
    obtain ⟨j, hj⟩ : ∃ q, backE l m1 m2 = q := ⟨_, rfl⟩
    have HT := hide (And.intro hto (And.intro hda (And.intro hdb hj)))
    clear hto hda hdb hj
    have CS := hide CW.out.size
    have HX := hide (lback_any _ l m1 m2 _ _ _ (ML.out.below C.out) (Mm1.out.below C.out) (Mm2.out.below C.out))
    have zl0 := (Bl.out.below C.out) 0 _ rfl
    have zl1 := (Bl.out.below C.out) 1 _ rfl
    have zl2 := (Bl.out.below C.out) 2 _ rfl
    have zl3 := (Bl.out.below C.out) 3 _ rfl
    have zl4 := (Bl.out.below C.out) 4 _ rfl
    have zl5 := (Bl.out.below C.out) 5 _ rfl
    have zl6 := (Bl.out.below C.out) 6 _ rfl
    have zx0 := (Bx.out.below C.out) 0 _ rfl
    have zx1 := (Bx.out.below C.out) 1 _ rfl
    have zx2 := (Bx.out.below C.out) 2 _ rfl
    have zg0 := (Bg.out.below C.out) 0 _ rfl
    have zg1 := (Bg.out.below C.out) 1 _ rfl
    have zg2 := (Bg.out.below C.out) 2 _ rfl
    go_wp2_with fail
    refine HX.out.mono ?_
    intro e u9 h
    rw [HT.out.1, HT.out.2.1, HT.out.2.2.1, HT.out.2.2.2] at h
    have hfr := h.fresh_any
    obtain ⟨ta, tn, tk, fa, fn, fk, ha, hn, hk', rfl, hm, hs1, hs2, hb⟩ := h.any
    have FT := hide (fresh_mono (hfr _ _ _ rfl) CS.out)
    clear h hfr
    replace C := hide (below_next C.out hb)
    replace CA := hide (below_next CA.out hb)
    replace CW := hide (below_next CW.out hb)
    replace Uu := hide (Uu.out.below hb)
    replace Uv := hide (Uv.out.below hb)
    replace Us := hide (Us.out.below hb)
    clear HX hb zl0 zl1 zl2 zl3 zl4 zl5 zl6 zx0 zx1 zx2 zg0 zg1 zg2
    clear hs1 hs2 CS
    by_cases hj : j = 0
    · subst hj
      rw [err_eq rfl]
      obtain ⟨Cg, gg, _, gto⟩ := back_good HG.out.1 HT.out.2.2.2
      rw [HT.out.1] at gto
      have hr' : r' = (R : Int) := by rw [← HEQ.out.2.2.1]; exact gg.r
      have c0 : rowsE m2 0 (k : Int) = 0 := gg.rows0 (f := 0) (Nat.zero_le k) HKR.out
      have d0 : rowsE m2 (k : Int) r' = 0 := by rw [hr']; exact gg.rows0 HKR.out (Nat.le_refl R)
      have pu := rows_back HG.out.1 HT.out.2.2.2 (f := 0) (Nat.zero_le k) HKR.out
      have pv := rows_back HG.out.1 HT.out.2.2.2 HKR.out (Nat.le_refl R)
      have st := stack_rows gto HKR.out
      obtain ⟨cc, hcc⟩ : ∃ p, rowsX m2 0 (k : Int) = p := ⟨_, rfl⟩
      obtain ⟨dd, hdd⟩ : ∃ p, rowsX m2 (k : Int) r' = p := ⟨_, rfl⟩
      obtain ⟨p', hp'⟩ : ∃ p, rowsX to 0 (k : Int) = p := ⟨_, rfl⟩
      obtain ⟨q', hq'⟩ : ∃ p, rowsX to (k : Int) (R : Int) = p := ⟨_, rfl⟩
      have pu' : backE l a cc = 0 ∧ backX l a cc = p' := by rw [← HA.out.2.2.1, ← hcc, ← hp', ← HT.out.1]; exact pu
      have pv' : backE l b dd = 0 ∧ backX l b dd = q' := by rw [← HA.out.2.2.2.1, ← hdd, hr', HG.out.2.2, ← hq', ← HT.out.1]; exact pv
      have st' : stackE [p', q'] = 0 ∧ stackX [p', q'] = to := by rw [← hp', ← hq']; exact st
      have HC := hide (And.intro c0 (And.intro hcc (And.intro d0 hdd)))
      have HQ := hide (And.intro pu' (And.intro pv' st'))
      clear gg gto hr' c0 d0 pu pv st hcc hdd hp' hq' pu' pv' st' 
      have NT := hide CW.out.size
      have Mt := hide (hm.below (below_one u9 (.cells #[.int .i64 to.rows, .int .i64 to.cols, .slice ta tn tk] 24)))
      have D := below_next C.out (below_one u9 (.cells #[.int .i64 to.rows, .int .i64 to.cols, .slice ta tn tk] 24))
      replace ML := hide (ML.out.below D)
      replace Mm1 := hide (Mm1.out.below D)
      replace Mm2 := hide (Mm2.out.below D)
      replace Bl := hide (Bl.out.below D)
      replace Bx := hide (Bx.out.below D)
      replace Bg := hide (Bg.out.below D)
      replace By := hide (By.out.below D)
      replace My := hide (My.out.below D)
      replace Ba := hide (Ba.out.below D)
      replace Ma := hide (Ma.out.below D)
      replace Bb := hide (Bb.out.below D)
      replace Mb := hide (Mb.out.below D)
      replace Bu := hide (Bu.out.below D)
      replace Mu := hide (Mu.out.below D)
      replace Bv := hide (Bv.out.below D)
      replace Mv := hide (Mv.out.below D)
      replace Bs := hide (Bs.out.below D)
      replace Ms := hide (Ms.out.below D)
      replace CA := hide (below_next CA.out (below_one u9 (.cells #[.int .i64 to.rows, .int .i64 to.cols, .slice ta tn tk] 24)))
      replace CW := hide (below_next CW.out (below_one u9 (.cells #[.int .i64 to.rows, .int .i64 to.cols, .slice ta tn tk] 24)))
      replace Uu := hide (Uu.out.below (below_one u9 (.cells #[.int .i64 to.rows, .int .i64 to.cols, .slice ta tn tk] 24)))
      replace Uv := hide (Uv.out.below (below_one u9 (.cells #[.int .i64 to.rows, .int .i64 to.cols, .slice ta tn tk] 24)))
      replace Us := hide (Us.out.below (below_one u9 (.cells #[.int .i64 to.rows, .int .i64 to.cols, .slice ta tn tk] 24)))
      replace WW := hide (below_next WW.out D)
      replace C := hide (Below.refl (u9.alloc (.cells #[.int .i64 to.rows, .int .i64 to.cols, .slice ta tn tk] 24)).heap.size (u9.alloc (.cells #[.int .i64 to.rows, .int .i64 to.cols, .slice ta tn tk] 24)))
      clear D
      have Bt := hide (Box.new u9 [.int .i64 to.rows, .int .i64 to.cols, .slice ta tn tk] 24 (B := u9.heap.size) (by simp))
      clear hm
      have D := below_next C.out (below_one (u9.alloc (.cells #[.int .i64 to.rows, .int .i64 to.cols, .slice ta tn tk] 24)) (.cells #[.int .i64 da.rows, .int .i64 da.cols, .slice fa fn fk, .int .i64 db.rows, .int .i64 db.cols, .slice ha hn hk'] 38))
      replace ML := hide (ML.out.below D)
      replace Mm1 := hide (Mm1.out.below D)
      replace Mm2 := hide (Mm2.out.below D)
      replace Bl := hide (Bl.out.below D)
      replace Bx := hide (Bx.out.below D)
      replace Bg := hide (Bg.out.below D)
      replace By := hide (By.out.below D)
      replace My := hide (My.out.below D)
      replace Ba := hide (Ba.out.below D)
      replace Ma := hide (Ma.out.below D)
      replace Bb := hide (Bb.out.below D)
      replace Mb := hide (Mb.out.below D)
      replace Bu := hide (Bu.out.below D)
      replace Mu := hide (Mu.out.below D)
      replace Bv := hide (Bv.out.below D)
      replace Mv := hide (Mv.out.below D)
      replace Bs := hide (Bs.out.below D)
      replace Ms := hide (Ms.out.below D)
      replace Bt := hide (Bt.out.below D)
      replace Mt := hide (Mt.out.below D)
      replace CA := hide (below_next CA.out (below_one (u9.alloc (.cells #[.int .i64 to.rows, .int .i64 to.cols, .slice ta tn tk] 24)) (.cells #[.int .i64 da.rows, .int .i64 da.cols, .slice fa fn fk, .int .i64 db.rows, .int .i64 db.cols, .slice ha hn hk'] 38)))
      replace CW := hide (below_next CW.out (below_one (u9.alloc (.cells #[.int .i64 to.rows, .int .i64 to.cols, .slice ta tn tk] 24)) (.cells #[.int .i64 da.rows, .int .i64 da.cols, .slice fa fn fk, .int .i64 db.rows, .int .i64 db.cols, .slice ha hn hk'] 38)))
      replace Uu := hide (Uu.out.below (below_one (u9.alloc (.cells #[.int .i64 to.rows, .int .i64 to.cols, .slice ta tn tk] 24)) (.cells #[.int .i64 da.rows, .int .i64 da.cols, .slice fa fn fk, .int .i64 db.rows, .int .i64 db.cols, .slice ha hn hk'] 38)))
      replace Uv := hide (Uv.out.below (below_one (u9.alloc (.cells #[.int .i64 to.rows, .int .i64 to.cols, .slice ta tn tk] 24)) (.cells #[.int .i64 da.rows, .int .i64 da.cols, .slice fa fn fk, .int .i64 db.rows, .int .i64 db.cols, .slice ha hn hk'] 38)))
      replace Us := hide (Us.out.below (below_one (u9.alloc (.cells #[.int .i64 to.rows, .int .i64 to.cols, .slice ta tn tk] 24)) (.cells #[.int .i64 da.rows, .int .i64 da.cols, .slice fa fn fk, .int .i64 db.rows, .int .i64 db.cols, .slice ha hn hk'] 38)))
      replace WW := hide (below_next WW.out D)
      replace C := hide (Below.refl ((u9.alloc (.cells #[.int .i64 to.rows, .int .i64 to.cols, .slice ta tn tk] 24)).alloc (.cells #[.int .i64 da.rows, .int .i64 da.cols, .slice fa fn fk, .int .i64 db.rows, .int .i64 db.cols, .slice ha hn hk'] 38)).heap.size ((u9.alloc (.cells #[.int .i64 to.rows, .int .i64 to.cols, .slice ta tn tk] 24)).alloc (.cells #[.int .i64 da.rows, .int .i64 da.cols, .slice fa fn fk, .int .i64 db.rows, .int .i64 db.cols, .slice ha hn hk'] 38)))
      clear D
      have Bf := hide (Box.new (u9.alloc (.cells #[.int .i64 to.rows, .int .i64 to.cols, .slice ta tn tk] 24)) [.int .i64 da.rows, .int .i64 da.cols, .slice fa fn fk, .int .i64 db.rows, .int .i64 db.cols, .slice ha hn hk'] 38 (B := u9.heap.size + 1) (by simp))
      have CS := hide CW.out.size
      have HX := hide (mrows_any _ m2 0 (k : Int) _ (Mm2.out.below C.out))
      have zg0 := (Bg.out.below C.out) 0 _ rfl
      have zg1 := (Bg.out.below C.out) 1 _ rfl
      have zg2 := (Bg.out.below C.out) 2 _ rfl
      go_wp2_with fail
      refine HX.out.mono ?_
      intro e u10 h
      rw [HC.out.1, HC.out.2.1] at h
      have hfr := h.fresh_any
      obtain ⟨ca, cn, ck, rfl, hm, hb⟩ := h.any
      have FC := hide (fresh_mono (hfr _ _ rfl) CS.out)
      rw [err_eq rfl]
      clear h hfr CS
      replace C := hide (below_next C.out hb)
      replace CA := hide (below_next CA.out hb)
      replace CW := hide (below_next CW.out hb)
      replace Uu := hide (Uu.out.below hb)
      replace Uv := hide (Uv.out.below hb)
      replace Us := hide (Us.out.below hb)
      clear HX hb zg0 zg1 zg2
      have Mc := hide (hm.below (below_one u10 (.cells #[.int .i64 cc.rows, .int .i64 cc.cols, .slice ca cn ck] 24)))
      have D := below_next C.out (below_one u10 (.cells #[.int .i64 cc.rows, .int .i64 cc.cols, .slice ca cn ck] 24))
      replace ML := hide (ML.out.below D)
      replace Mm1 := hide (Mm1.out.below D)
      replace Mm2 := hide (Mm2.out.below D)
      replace Bl := hide (Bl.out.below D)
      replace Bx := hide (Bx.out.below D)
      replace Bg := hide (Bg.out.below D)
      replace By := hide (By.out.below D)
      replace My := hide (My.out.below D)
      replace Ba := hide (Ba.out.below D)
      replace Ma := hide (Ma.out.below D)
      replace Bb := hide (Bb.out.below D)
      replace Mb := hide (Mb.out.below D)
      replace Bu := hide (Bu.out.below D)
      replace Mu := hide (Mu.out.below D)
      replace Bv := hide (Bv.out.below D)
      replace Mv := hide (Mv.out.below D)
      replace Bs := hide (Bs.out.below D)
      replace Ms := hide (Ms.out.below D)
      replace Bt := hide (Bt.out.below D)
      replace Mt := hide (Mt.out.below D)
      replace Bf := hide (Bf.out.below D)
      replace CA := hide (below_next CA.out (below_one u10 (.cells #[.int .i64 cc.rows, .int .i64 cc.cols, .slice ca cn ck] 24)))
      replace CW := hide (below_next CW.out (below_one u10 (.cells #[.int .i64 cc.rows, .int .i64 cc.cols, .slice ca cn ck] 24)))
      replace Uu := hide (Uu.out.below (below_one u10 (.cells #[.int .i64 cc.rows, .int .i64 cc.cols, .slice ca cn ck] 24)))
      replace Uv := hide (Uv.out.below (below_one u10 (.cells #[.int .i64 cc.rows, .int .i64 cc.cols, .slice ca cn ck] 24)))
      replace Us := hide (Us.out.below (below_one u10 (.cells #[.int .i64 cc.rows, .int .i64 cc.cols, .slice ca cn ck] 24)))
      replace WW := hide (below_next WW.out D)
      replace C := hide (Below.refl (u10.alloc (.cells #[.int .i64 cc.rows, .int .i64 cc.cols, .slice ca cn ck] 24)).heap.size (u10.alloc (.cells #[.int .i64 cc.rows, .int .i64 cc.cols, .slice ca cn ck] 24)))
      clear D
      have Bc := hide (Box.new u10 [.int .i64 cc.rows, .int .i64 cc.cols, .slice ca cn ck] 24 (B := u10.heap.size) (by simp))
      clear hm
      have CS := hide CW.out.size
      have HX := hide (mrows_any _ m2 (k : Int) r' _ (Mm2.out.below C.out))
      have zg0 := (Bg.out.below C.out) 0 _ rfl
      have zg1 := (Bg.out.below C.out) 1 _ rfl
      have zg2 := (Bg.out.below C.out) 2 _ rfl
      go_wp2_with fail
      refine HX.out.mono ?_
      intro e u11 h
      rw [HC.out.2.2.1, HC.out.2.2.2] at h
      have hfr := h.fresh_any
      obtain ⟨oa, on, ok, rfl, hm, hb⟩ := h.any
      have FD := hide (fresh_mono (hfr _ _ rfl) CS.out)
      rw [err_eq rfl]
      clear h hfr CS
      replace C := hide (below_next C.out hb)
      replace CA := hide (below_next CA.out hb)
      replace CW := hide (below_next CW.out hb)
      replace Uu := hide (Uu.out.below hb)
      replace Uv := hide (Uv.out.below hb)
      replace Us := hide (Us.out.below hb)
      clear HX hb zg0 zg1 zg2
      have ND := hide CW.out.size
      have Mh := hide (hm.below (below_one u11 (.cells #[.int .i64 dd.rows, .int .i64 dd.cols, .slice oa on ok] 24)))
      have D := below_next C.out (below_one u11 (.cells #[.int .i64 dd.rows, .int .i64 dd.cols, .slice oa on ok] 24))
      replace ML := hide (ML.out.below D)
      replace Mm1 := hide (Mm1.out.below D)
      replace Mm2 := hide (Mm2.out.below D)
      replace Bl := hide (Bl.out.below D)
      replace Bx := hide (Bx.out.below D)
      replace Bg := hide (Bg.out.below D)
      replace By := hide (By.out.below D)
      replace My := hide (My.out.below D)
      replace Ba := hide (Ba.out.below D)
      replace Ma := hide (Ma.out.below D)
      replace Bb := hide (Bb.out.below D)
      replace Mb := hide (Mb.out.below D)
      replace Bu := hide (Bu.out.below D)
      replace Mu := hide (Mu.out.below D)
      replace Bv := hide (Bv.out.below D)
      replace Mv := hide (Mv.out.below D)
      replace Bs := hide (Bs.out.below D)
      replace Ms := hide (Ms.out.below D)
      replace Bt := hide (Bt.out.below D)
      replace Mt := hide (Mt.out.below D)
      replace Bf := hide (Bf.out.below D)
      replace Bc := hide (Bc.out.below D)
      replace Mc := hide (Mc.out.below D)
      replace CA := hide (below_next CA.out (below_one u11 (.cells #[.int .i64 dd.rows, .int .i64 dd.cols, .slice oa on ok] 24)))
      replace CW := hide (below_next CW.out (below_one u11 (.cells #[.int .i64 dd.rows, .int .i64 dd.cols, .slice oa on ok] 24)))
      replace Uu := hide (Uu.out.below (below_one u11 (.cells #[.int .i64 dd.rows, .int .i64 dd.cols, .slice oa on ok] 24)))
      replace Uv := hide (Uv.out.below (below_one u11 (.cells #[.int .i64 dd.rows, .int .i64 dd.cols, .slice oa on ok] 24)))
      replace Us := hide (Us.out.below (below_one u11 (.cells #[.int .i64 dd.rows, .int .i64 dd.cols, .slice oa on ok] 24)))
      replace WW := hide (below_next WW.out D)
      replace C := hide (Below.refl (u11.alloc (.cells #[.int .i64 dd.rows, .int .i64 dd.cols, .slice oa on ok] 24)).heap.size (u11.alloc (.cells #[.int .i64 dd.rows, .int .i64 dd.cols, .slice oa on ok] 24)))
      clear D
      have Bh := hide (Box.new u11 [.int .i64 dd.rows, .int .i64 dd.cols, .slice oa on ok] 24 (B := u11.heap.size) (by simp))
      clear hm
      obtain ⟨da2, hd1⟩ : ∃ q, gradW l a cc = q := ⟨_, rfl⟩
      obtain ⟨db2, hd2⟩ : ∃ q, gradB l a cc = q := ⟨_, rfl⟩
      obtain ⟨da3, hd3⟩ : ∃ q, gradW l b dd = q := ⟨_, rfl⟩
      obtain ⟨db3, hd4⟩ : ∃ q, gradB l b dd = q := ⟨_, rfl⟩
      have HD := hide (And.intro hd1 (And.intro hd2 (And.intro hd3 hd4)))
      clear hd1 hd2 hd3 hd4
      have CS := hide CW.out.size
      have HX := hide (lback_any _ l a cc _ _ _ (ML.out.below C.out) (Ma.out.below C.out) (Mc.out.below C.out))
      have zl0 := (Bl.out.below C.out) 0 _ rfl
      have zl1 := (Bl.out.below C.out) 1 _ rfl
      have zl2 := (Bl.out.below C.out) 2 _ rfl
      have zl3 := (Bl.out.below C.out) 3 _ rfl
      have zl4 := (Bl.out.below C.out) 4 _ rfl
      have zl5 := (Bl.out.below C.out) 5 _ rfl
      have zl6 := (Bl.out.below C.out) 6 _ rfl
      have za0 := (Ba.out.below C.out) 0 _ rfl
      have za1 := (Ba.out.below C.out) 1 _ rfl
      have za2 := (Ba.out.below C.out) 2 _ rfl
      have zc0 := (Bc.out.below C.out) 0 _ rfl
      have zc1 := (Bc.out.below C.out) 1 _ rfl
      have zc2 := (Bc.out.below C.out) 2 _ rfl
      go_wp2_with fail
      refine HX.out.mono ?_
      intro e u12 h
      rw [HQ.out.1.1, HQ.out.1.2, HD.out.1, HD.out.2.1] at h
      have hfr := h.fresh_any
      obtain ⟨ia, in', ik, ja, jn, jk, ka, kn, kk, rfl, hm, hs1, hs2, hb⟩ := h.any
      have FP := hide (fresh_mono (hfr _ _ _ rfl) CS.out)
      rw [err_eq rfl]
      clear h hfr CS hs1 hs2
      replace C := hide (below_next C.out hb)
      replace CA := hide (below_next CA.out hb)
      replace CW := hide (below_next CW.out hb)
      replace Uu := hide (Uu.out.below hb)
      replace Uv := hide (Uv.out.below hb)
      replace Us := hide (Us.out.below hb)
      clear HX hb zl0 zl1 zl2 zl3 zl4 zl5 zl6 za0 za1 za2 zc0 zc1 zc2
      have WU := hide (Nat.le_trans WA0.out LU.out)
      have WV := hide (Nat.le_trans WA0.out LV.out)
      have WS := hide (Nat.le_trans WA0.out LS.out)
      have SU := hide CW.out.size
      clear CW
      obtain ⟨y00, y01, y02⟩ := Uu.out.t
      have y03 := Uu.out.f 0
      have y04 := Uu.out.f 1
      have y05 := Uu.out.f 2
      have HAB := above3 (B := u5.heap.size) HUW.out u12 (.int .i64 p'.rows) (.int .i64 p'.cols) (.slice ia in' ik)
      replace Bt := hide ((Bt.out.below C.out).above' NT.out HAB)
      replace Mt := hide ((Mt.out.below C.out).above' FT.out HAB)
      replace Bh := hide ((Bh.out.below C.out).above' ND.out HAB)
      replace Mh := hide ((Mh.out.below C.out).above' FD.out HAB)
      have Mp := hide (hm.above' FP.out HAB)
      replace CA := hide (below_set3 CA.out LU.out (.int .i64 p'.rows) (.int .i64 p'.cols) (.slice ia in' ik))
      replace WW := hide (below_set3 (below_next WW.out C.out) WU.out (.int .i64 p'.rows) (.int .i64 p'.cols) (.slice ia in' ik))
      replace Uv := hide (Uv.out.other3 Nvu.out (.int .i64 p'.rows) (.int .i64 p'.cols) (.slice ia in' ik))
      replace Us := hide (Us.out.other3 Nsu.out (.int .i64 p'.rows) (.int .i64 p'.cols) (.slice ia in' ik))
      replace Uu := hide (Uu.out.set (p'.rows) (p'.cols) (.slice ia in' ik))
      replace C := hide (Below.refl (((u12.setCell ⟨u5.heap.size, 0, none⟩ (.int .i64 p'.rows)).setCell ⟨u5.heap.size, 1, none⟩ (.int .i64 p'.cols)).setCell ⟨u5.heap.size, 2, none⟩ (.slice ia in' ik)).heap.size (((u12.setCell ⟨u5.heap.size, 0, none⟩ (.int .i64 p'.rows)).setCell ⟨u5.heap.size, 1, none⟩ (.int .i64 p'.cols)).setCell ⟨u5.heap.size, 2, none⟩ (.slice ia in' ik)))
      clear HAB
      clear hm
      have CS2 := hide (show (u7.alloc (.cells #[.int .i64 y.rows, .int .i64 y.cols, .slice sa sn sk] 24)).heap.size ≤ (((u12.setCell ⟨u5.heap.size, 0, none⟩ (.int .i64 p'.rows)).setCell ⟨u5.heap.size, 1, none⟩ (.int .i64 p'.cols)).setCell ⟨u5.heap.size, 2, none⟩ (.slice ia in' ik)).heap.size by have h := SU.out; simp only [World.size_setCell, World.size_alloc] at h ⊢; omega)
      have HX := hide (lback_any _ l b dd _ _ _ (AML.out.below CA.out) (AMb.out.below CA.out) (Mh.out.below C.out))
      have zh0 := (Bh.out.below C.out) 0 _ rfl
      have zh1 := (Bh.out.below C.out) 1 _ rfl
      have zh2 := (Bh.out.below C.out) 2 _ rfl
      have zl0 := (Al.out.below CA.out) 0 _ rfl
      have zl1 := (Al.out.below CA.out) 1 _ rfl
      have zl2 := (Al.out.below CA.out) 2 _ rfl
      have zl3 := (Al.out.below CA.out) 3 _ rfl
      have zl4 := (Al.out.below CA.out) 4 _ rfl
      have zl5 := (Al.out.below CA.out) 5 _ rfl
      have zl6 := (Al.out.below CA.out) 6 _ rfl
      have zb0 := (Ab.out.below CA.out) 0 _ rfl
      have zb1 := (Ab.out.below CA.out) 1 _ rfl
      have zb2 := (Ab.out.below CA.out) 2 _ rfl
      go_wp2_with fail
      refine HX.out.mono ?_
      intro e u13 h
      rw [HQ.out.2.1.1, HQ.out.2.1.2, HD.out.2.2.1, HD.out.2.2.2] at h
      have hfr := h.fresh_any
      obtain ⟨ra, rn, rk, ja', jn', jk', ka', kn', kk', rfl, hm, hs1, hs2, hb⟩ := h.any
      have FQ := hide (fresh_mono (hfr _ _ _ rfl) CS2.out)
      rw [err_eq rfl]
      have CS2S := CS2
      clear h hfr CS2 hs1 hs2
      replace C := hide (below_next C.out hb)
      replace CA := hide (below_next CA.out hb)
      replace Uu := hide (Uu.out.below hb)
      replace Uv := hide (Uv.out.below hb)
      replace Us := hide (Us.out.below hb)
      clear HX hb zh0 zh1 zh2 zl0 zl1 zl2 zl3 zl4 zl5 zl6 zb0 zb1 zb2 y00 y01 y02 y03 y04 y05
      have SV := hide (Nat.le_trans CS2S.out C.out.size)
      obtain ⟨y00, y01, y02⟩ := Uv.out.t
      have y03 := Uv.out.f 0
      have y04 := Uv.out.f 1
      have y05 := Uv.out.f 2
      have HAB := above3 (B := u6.heap.size) HVW.out u13 (.int .i64 q'.rows) (.int .i64 q'.cols) (.slice ra rn rk)
      replace Bt := hide ((Bt.out.below C.out).above' NT.out HAB)
      replace Mt := hide ((Mt.out.below C.out).above' FT.out HAB)
      replace Mp := hide ((Mp.out.below C.out).above' FP.out HAB)
      have Mq := hide (hm.above' FQ.out HAB)
      replace CA := hide (below_set3 CA.out LV.out (.int .i64 q'.rows) (.int .i64 q'.cols) (.slice ra rn rk))
      replace WW := hide (below_set3 (below_next WW.out C.out) WV.out (.int .i64 q'.rows) (.int .i64 q'.cols) (.slice ra rn rk))
      replace Uu := hide (Uu.out.other3 Nuv.out (.int .i64 q'.rows) (.int .i64 q'.cols) (.slice ra rn rk))
      replace Us := hide (Us.out.other3 Nsv.out (.int .i64 q'.rows) (.int .i64 q'.cols) (.slice ra rn rk))
      replace Uv := hide (Uv.out.set (q'.rows) (q'.cols) (.slice ra rn rk))
      replace C := hide (Below.refl (((u13.setCell ⟨u6.heap.size, 0, none⟩ (.int .i64 q'.rows)).setCell ⟨u6.heap.size, 1, none⟩ (.int .i64 q'.cols)).setCell ⟨u6.heap.size, 2, none⟩ (.slice ra rn rk)).heap.size (((u13.setCell ⟨u6.heap.size, 0, none⟩ (.int .i64 q'.rows)).setCell ⟨u6.heap.size, 1, none⟩ (.int .i64 q'.cols)).setCell ⟨u6.heap.size, 2, none⟩ (.slice ra rn rk)))
      clear HAB
      clear hm
      have CS3 := hide (show (u7.alloc (.cells #[.int .i64 y.rows, .int .i64 y.cols, .slice sa sn sk] 24)).heap.size ≤ ((((u13.setCell ⟨u6.heap.size, 0, none⟩ (.int .i64 q'.rows)).setCell ⟨u6.heap.size, 1, none⟩ (.int .i64 q'.cols)).setCell ⟨u6.heap.size, 2, none⟩ (.slice ra rn rk)).alloc (.cells #[.int .i64 p'.rows, .int .i64 p'.cols, .slice ia in' ik, .int .i64 q'.rows, .int .i64 q'.cols, .slice ra rn rk] 24)).heap.size by have h := SV.out; simp only [World.size_setCell, World.size_alloc] at h ⊢; omega)
      have hmx := mxs_two (Mp.out.below C.out).ints (Mq.out.below C.out).ints 24
      have hbx := below_one (((u13.setCell ⟨u6.heap.size, 0, none⟩ (.int .i64 q'.rows)).setCell ⟨u6.heap.size, 1, none⟩ (.int .i64 q'.cols)).setCell ⟨u6.heap.size, 2, none⟩ (.slice ra rn rk)) (.cells #[.int .i64 p'.rows, .int .i64 p'.cols, .slice ia in' ik, .int .i64 q'.rows, .int .i64 q'.cols, .slice ra rn rk] 24)
      simp only [World.size_setCell] at hmx
      have HX := hide (mstack_any _ _ _ hmx (by simp))
      obtain ⟨zu0, zu1, zu2⟩ := Uu.out.t
      obtain ⟨zv0, zv1, zv2⟩ := Uv.out.t
      go_wp2_with fail
      refine HX.out.mono ?_
      intro e u14 h
      rw [HQ.out.2.2.1, HQ.out.2.2.2] at h
      have hfr := h.fresh_any
      obtain ⟨xa', xn', xk', rfl, hm, hb0⟩ := h.any
      have FS := hide (fresh_mono (hfr _ _ rfl) CS3.out)
      have hb := below_next hbx hb0
      rw [err_eq rfl]
      clear h hfr hmx hbx hb0 CS3
      replace C := hide (below_next C.out hb)
      replace CA := hide (below_next CA.out hb)
      replace Uu := hide (Uu.out.below hb)
      replace Uv := hide (Uv.out.below hb)
      replace Us := hide (Us.out.below hb)
      clear HX hb zu0 zu1 zu2 zv0 zv1 zv2 y00 y01 y02 y03 y04 y05
      obtain ⟨y00, y01, y02⟩ := Us.out.t
      have y03 := Us.out.f 0
      have y04 := Us.out.f 1
      have y05 := Us.out.f 2
      have HAB := above3 (B := u7.heap.size) HSW.out u14 (.int .i64 to.rows) (.int .i64 to.cols) (.slice xa' xn' xk')
      replace Bt := hide ((Bt.out.below C.out).above' NT.out HAB)
      replace Mt := hide ((Mt.out.below C.out).above' FT.out HAB)
      have Mz := hide (hm.above' FS.out HAB)
      replace CA := hide (below_set3 CA.out LS.out (.int .i64 to.rows) (.int .i64 to.cols) (.slice xa' xn' xk'))
      replace WW := hide (below_set3 (below_next WW.out C.out) WS.out (.int .i64 to.rows) (.int .i64 to.cols) (.slice xa' xn' xk'))
      replace Uu := hide (Uu.out.other3 Nus.out (.int .i64 to.rows) (.int .i64 to.cols) (.slice xa' xn' xk'))
      replace Uv := hide (Uv.out.other3 Nvs.out (.int .i64 to.rows) (.int .i64 to.cols) (.slice xa' xn' xk'))
      replace Us := hide (Us.out.set (to.rows) (to.cols) (.slice xa' xn' xk'))
      replace C := hide (Below.refl (((u14.setCell ⟨u7.heap.size, 0, none⟩ (.int .i64 to.rows)).setCell ⟨u7.heap.size, 1, none⟩ (.int .i64 to.cols)).setCell ⟨u7.heap.size, 2, none⟩ (.slice xa' xn' xk')).heap.size (((u14.setCell ⟨u7.heap.size, 0, none⟩ (.int .i64 to.rows)).setCell ⟨u7.heap.size, 1, none⟩ (.int .i64 to.cols)).setCell ⟨u7.heap.size, 2, none⟩ (.slice xa' xn' xk')))
      clear HAB
      clear hm
      have HX := hide (matrices_any _ _ to to _ (Mz.out.below C.out) (Mt.out.below C.out))
      have zt0 := (Bt.out.below C.out) 0 _ rfl
      have zt1 := (Bt.out.below C.out) 1 _ rfl
      have zt2 := (Bt.out.below C.out) 2 _ rfl
      obtain ⟨zs0, zs1, zs2⟩ := Us.out.t
      go_wp2_with fail
      refine HX.out.mono ?_
      rintro e u15 ⟨rfl, hb⟩
      rw [sameM_refl]
      replace C := hide (below_next C.out hb)
      replace CA := hide (below_next CA.out hb)
      replace Uu := hide (Uu.out.below hb)
      replace Uv := hide (Uv.out.below hb)
      replace Us := hide (Us.out.below hb)
      clear HX hb zt0 zt1 zt2 zs0 zs1 zs2 y00 y01 y02 y03 y04 y05
      go_wp2
      go_ret
      exact ⟨rfl, below_next WW.out C.out⟩
    · rw [err_ne hj]
      have D := below_next C.out (below_one u9 (.cells #[.int .i64 to.rows, .int .i64 to.cols, .slice ta tn tk] 24))
      replace ML := hide (ML.out.below D)
      replace Mm1 := hide (Mm1.out.below D)
      replace Mm2 := hide (Mm2.out.below D)
      replace Bl := hide (Bl.out.below D)
      replace Bx := hide (Bx.out.below D)
      replace Bg := hide (Bg.out.below D)
      replace By := hide (By.out.below D)
      replace My := hide (My.out.below D)
      replace Ba := hide (Ba.out.below D)
      replace Ma := hide (Ma.out.below D)
      replace Bb := hide (Bb.out.below D)
      replace Mb := hide (Mb.out.below D)
      replace Bu := hide (Bu.out.below D)
      replace Mu := hide (Mu.out.below D)
      replace Bv := hide (Bv.out.below D)
      replace Mv := hide (Mv.out.below D)
      replace Bs := hide (Bs.out.below D)
      replace Ms := hide (Ms.out.below D)
      replace CA := hide (below_next CA.out (below_one u9 (.cells #[.int .i64 to.rows, .int .i64 to.cols, .slice ta tn tk] 24)))
      replace CW := hide (below_next CW.out (below_one u9 (.cells #[.int .i64 to.rows, .int .i64 to.cols, .slice ta tn tk] 24)))
      replace Uu := hide (Uu.out.below (below_one u9 (.cells #[.int .i64 to.rows, .int .i64 to.cols, .slice ta tn tk] 24)))
      replace Uv := hide (Uv.out.below (below_one u9 (.cells #[.int .i64 to.rows, .int .i64 to.cols, .slice ta tn tk] 24)))
      replace Us := hide (Us.out.below (below_one u9 (.cells #[.int .i64 to.rows, .int .i64 to.cols, .slice ta tn tk] 24)))
      replace WW := hide (below_next WW.out D)
      replace C := hide (Below.refl (u9.alloc (.cells #[.int .i64 to.rows, .int .i64 to.cols, .slice ta tn tk] 24)).heap.size (u9.alloc (.cells #[.int .i64 to.rows, .int .i64 to.cols, .slice ta tn tk] 24)))
      clear D
      have Bt := hide (Box.new u9 [.int .i64 to.rows, .int .i64 to.cols, .slice ta tn tk] 24 (B := u9.heap.size) (by simp))
      have D := below_next C.out (below_one (u9.alloc (.cells #[.int .i64 to.rows, .int .i64 to.cols, .slice ta tn tk] 24)) (.cells #[.int .i64 da.rows, .int .i64 da.cols, .slice fa fn fk, .int .i64 db.rows, .int .i64 db.cols, .slice ha hn hk'] 38))
      replace ML := hide (ML.out.below D)
      replace Mm1 := hide (Mm1.out.below D)
      replace Mm2 := hide (Mm2.out.below D)
      replace Bl := hide (Bl.out.below D)
      replace Bx := hide (Bx.out.below D)
      replace Bg := hide (Bg.out.below D)
      replace By := hide (By.out.below D)
      replace My := hide (My.out.below D)
      replace Ba := hide (Ba.out.below D)
      replace Ma := hide (Ma.out.below D)
      replace Bb := hide (Bb.out.below D)
      replace Mb := hide (Mb.out.below D)
      replace Bu := hide (Bu.out.below D)
      replace Mu := hide (Mu.out.below D)
      replace Bv := hide (Bv.out.below D)
      replace Mv := hide (Mv.out.below D)
      replace Bs := hide (Bs.out.below D)
      replace Ms := hide (Ms.out.below D)
      replace Bt := hide (Bt.out.below D)
      replace CA := hide (below_next CA.out (below_one (u9.alloc (.cells #[.int .i64 to.rows, .int .i64 to.cols, .slice ta tn tk] 24)) (.cells #[.int .i64 da.rows, .int .i64 da.cols, .slice fa fn fk, .int .i64 db.rows, .int .i64 db.cols, .slice ha hn hk'] 38)))
      replace CW := hide (below_next CW.out (below_one (u9.alloc (.cells #[.int .i64 to.rows, .int .i64 to.cols, .slice ta tn tk] 24)) (.cells #[.int .i64 da.rows, .int .i64 da.cols, .slice fa fn fk, .int .i64 db.rows, .int .i64 db.cols, .slice ha hn hk'] 38)))
      replace Uu := hide (Uu.out.below (below_one (u9.alloc (.cells #[.int .i64 to.rows, .int .i64 to.cols, .slice ta tn tk] 24)) (.cells #[.int .i64 da.rows, .int .i64 da.cols, .slice fa fn fk, .int .i64 db.rows, .int .i64 db.cols, .slice ha hn hk'] 38)))
      replace Uv := hide (Uv.out.below (below_one (u9.alloc (.cells #[.int .i64 to.rows, .int .i64 to.cols, .slice ta tn tk] 24)) (.cells #[.int .i64 da.rows, .int .i64 da.cols, .slice fa fn fk, .int .i64 db.rows, .int .i64 db.cols, .slice ha hn hk'] 38)))
      replace Us := hide (Us.out.below (below_one (u9.alloc (.cells #[.int .i64 to.rows, .int .i64 to.cols, .slice ta tn tk] 24)) (.cells #[.int .i64 da.rows, .int .i64 da.cols, .slice fa fn fk, .int .i64 db.rows, .int .i64 db.cols, .slice ha hn hk'] 38)))
      replace WW := hide (below_next WW.out D)
      replace C := hide (Below.refl ((u9.alloc (.cells #[.int .i64 to.rows, .int .i64 to.cols, .slice ta tn tk] 24)).alloc (.cells #[.int .i64 da.rows, .int .i64 da.cols, .slice fa fn fk, .int .i64 db.rows, .int .i64 db.cols, .slice ha hn hk'] 38)).heap.size ((u9.alloc (.cells #[.int .i64 to.rows, .int .i64 to.cols, .slice ta tn tk] 24)).alloc (.cells #[.int .i64 da.rows, .int .i64 da.cols, .slice fa fn fk, .int .i64 db.rows, .int .i64 db.cols, .slice ha hn hk'] 38)))
      clear D
      have Bf := hide (Box.new (u9.alloc (.cells #[.int .i64 to.rows, .int .i64 to.cols, .slice ta tn tk] 24)) [.int .i64 da.rows, .int .i64 da.cols, .slice fa fn fk, .int .i64 db.rows, .int .i64 db.cols, .slice ha hn hk'] 38 (B := u9.heap.size + 1) (by simp))
      clear hm
      go_wp2
      go_ret
      exact ⟨rfl, below_next WW.out C.out⟩
  · rw [err_ne hE]
    have D := below_next C.out (below_one u2 (.cells #[.int .i64 y.rows, .int .i64 y.cols, .slice ya yn yk] 24))
    replace ML := hide (ML.out.below D)
    replace Mm1 := hide (Mm1.out.below D)
    replace Mm2 := hide (Mm2.out.below D)
    replace Bl := hide (Bl.out.below D)
    replace Bx := hide (Bx.out.below D)
    replace Bg := hide (Bg.out.below D)
    replace WW := hide (below_next WW.out D)
    replace C := hide (Below.refl (u2.alloc (.cells #[.int .i64 y.rows, .int .i64 y.cols, .slice ya yn yk] 24)).heap.size (u2.alloc (.cells #[.int .i64 y.rows, .int .i64 y.cols, .slice ya yn yk] 24)))
    clear D
    have By := hide (Box.new u2 [.int .i64 y.rows, .int .i64 y.cols, .slice ya yn yk] 24 (B := u2.heap.size) (by simp))
    clear hm
    go_wp2
    go_ret
    exact ⟨rfl, below_next WW.out C.out⟩
end Go.Proofs.Ytkncgelkbpeagac
