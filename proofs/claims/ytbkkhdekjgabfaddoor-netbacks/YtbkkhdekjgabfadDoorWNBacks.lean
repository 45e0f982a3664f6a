/- The walk of the law NetBacks: Back of package net answers what the document's answer does. Condition: the library's variable errors.errorType is as its text lays it. -/
import Derived.Test.YtbkkhdekjgabfadDoorErr
import Derived.Test.YtbkkhdekjgabfadDoorRNetBack
import Derived.Test.YtbkkhdekjgabfadDoorSameL
import Derived.Test.YtbkkhdekjgabfadDoorNetCB
namespace Go.Proofs.YtbkkhdekjgabfadDoor
open Go.RowKit
set_option maxHeartbeats 40000000 in
set_option maxRecDepth 100000 in
theorem nbacks_walk (v0 : Value) (m0 : List Ly) (v1 : Value) (m1 : List Mx) (v2 : Value) (m2 : Mx) (w : World) (w0 : IsLys w v0 m0) (w1 : IsMxs w v1 m1) (w2 : IsMx w v2 m2) (hH : Handle w) : Calls Tryd.prog 4 #[v0, v1, v2] w fun e w' => e = .returned (.bool true) ∧ Below w.heap.size w w' := by
  obtain ⟨la, lk, rfl, _, _⟩ := w0.shape
  have ML := hide w0
  clear w0
  obtain ⟨sa, sk, rfl, _, _⟩ := w1.shape
  have MS := hide w1
  clear w1
  obtain ⟨sm2, rfl, hm2⟩ := w2
  obtain ⟨xa, xn, xk, rfl⟩ := hm2.shape
  obtain ⟨r, er⟩ : ∃ r, m2.rows = r := ⟨_, rfl⟩
  obtain ⟨c, ec⟩ : ∃ r, m2.cols = r := ⟨_, rfl⟩
  have Mm2 := hide (show IsMx w (.agg #[.int .i64 r, .int .i64 c, .slice xa xn xk]) m2 from ⟨_, by rw [er, ec], hm2⟩)
  rw [er, ec]
  have HH := hide hH
  clear hm2 er ec hH
  have WW := hide (Below.refl w.heap.size w)
  have C := hide (Below.refl w.heap.size w)
  have D := below_next C.out (below_one w (.cells #[.int .i64 r, .int .i64 c, .slice xa xn xk] 25))
  replace ML := hide (ML.out.below D)
  replace MS := hide (MS.out.below D)
  replace Mm2 := hide (Mm2.out.below D)
  replace HH := hide (HH.out.below D)
  replace WW := hide (below_next WW.out D)
  replace C := hide (Below.refl (w.alloc (.cells #[.int .i64 r, .int .i64 c, .slice xa xn xk] 25)).heap.size (w.alloc (.cells #[.int .i64 r, .int .i64 c, .slice xa xn xk] 25)))
  clear D
  have Bx := hide (Box.new w [.int .i64 r, .int .i64 c, .slice xa xn xk] 25 (B := w.heap.size) (by simp))
  obtain ⟨N, hN⟩ : ∃ N, m0.length = N := ⟨_, rfl⟩
  obtain ⟨N', hN'⟩ : ∃ N, m1.length = N := ⟨_, rfl⟩
  obtain ⟨E, hE⟩ : ∃ E, nbE m0 m1 m2 = E := ⟨_, rfl⟩
  obtain ⟨y, hy⟩ : ∃ k, nbX m0 m1 m2 = k := ⟨_, rfl⟩
  obtain ⟨ds, hd⟩ : ∃ k, nbD m0 m1 m2 = k := ⟨_, rfl⟩
  have HY := hide (And.intro hE (And.intro hy hd))
  rw [hN] at ML ⊢
  rw [hN'] at MS ⊢
  clear hE hy hd hN hN' 
  go_enter Tryd.func4, Tryd.ntmps4
  have HX := hide (netback_any _ _ _ m0 m1 m2 _ (ML.out.below C.out) (MS.out.below C.out) (Mm2.out.below C.out))
  have zx0 := (Bx.out.below C.out) 0 _ rfl
  have zx1 := (Bx.out.below C.out) 1 _ rfl
  have zx2 := (Bx.out.below C.out) 2 _ rfl
  go_wp2_with fail
  refine HX.out.mono ?_
  rintro e u1 ⟨vx, vd, rfl, hm, hd, hb⟩
  rw [HY.out.2.1] at hm
  rw [HY.out.2.2] at hd
  rw [HY.out.1]
  obtain ⟨ps, rfl, hps⟩ := hm
  obtain ⟨pa, pn, pk, rfl⟩ := hps.shape
  obtain ⟨da, dk, rfl, _, _⟩ := hd.shape
  replace C := hide (below_next C.out hb)
  clear HX hb zx0 zx1 zx2
  have hm : IsMx u1 (.agg #[.int .i64 y.rows, .int .i64 y.cols, .slice pa pn pk]) y := ⟨_, rfl, hps⟩
  clear hps
  have My := hide (hm.below (below_one u1 (.cells #[.int .i64 y.rows, .int .i64 y.cols, .slice pa pn pk] 25)))
  have Md := hide (hd.below (below_one u1 (.cells #[.int .i64 y.rows, .int .i64 y.cols, .slice pa pn pk] 25)))
  have D := below_next C.out (below_one u1 (.cells #[.int .i64 y.rows, .int .i64 y.cols, .slice pa pn pk] 25))
  replace ML := hide (ML.out.below D)
  replace MS := hide (MS.out.below D)
  replace Mm2 := hide (Mm2.out.below D)
  replace HH := hide (HH.out.below D)
  replace Bx := hide (Bx.out.below D)
  replace WW := hide (below_next WW.out D)
  replace C := hide (Below.refl (u1.alloc (.cells #[.int .i64 y.rows, .int .i64 y.cols, .slice pa pn pk] 25)).heap.size (u1.alloc (.cells #[.int .i64 y.rows, .int .i64 y.cols, .slice pa pn pk] 25)))
  clear D
  have By := hide (Box.new u1 [.int .i64 y.rows, .int .i64 y.cols, .slice pa pn pk] 25 (B := u1.heap.size) (by simp))
  clear hm hd
  have HX := hide (rnetback_any _ _ _ m0 m1 m2 _ (ML.out.below C.out) (MS.out.below C.out) (Mm2.out.below C.out))
  have zx0 := (Bx.out.below C.out) 0 _ rfl
  have zx1 := (Bx.out.below C.out) 1 _ rfl
  have zx2 := (Bx.out.below C.out) 2 _ rfl
  go_wp2_with fail
  refine HX.out.mono ?_
  rintro e u2 ⟨sx, vd, rfl, hm, hd, hb⟩
  rw [HY.out.2.1] at hm
  rw [HY.out.2.2] at hd
  rw [HY.out.1, HY.out.2.1]
  obtain ⟨qa, qn, qk, rfl⟩ := hm.1.shape
  replace hd : IsGds _ _ ds := hd.reads
  obtain ⟨ea, ek, rfl, _, _⟩ := hd.shape
  replace C := hide (below_next C.out hb)
  clear HX hb zx0 zx1 zx2
  replace hm : IsMx u2 (.agg #[.int .i64 y.rows, .int .i64 y.cols, .slice qa qn qk]) y := ⟨_, rfl, hm.1⟩
  have Mz := hide (hm.below (below_one u2 (.cells #[.int .i64 y.rows, .int .i64 y.cols, .slice qa qn qk] 25)))
  have Me := hide (hd.below (below_one u2 (.cells #[.int .i64 y.rows, .int .i64 y.cols, .slice qa qn qk] 25)))
  have D := below_next C.out (below_one u2 (.cells #[.int .i64 y.rows, .int .i64 y.cols, .slice qa qn qk] 25))
  replace ML := hide (ML.out.below D)
  replace MS := hide (MS.out.below D)
  replace Mm2 := hide (Mm2.out.below D)
  replace HH := hide (HH.out.below D)
  replace Bx := hide (Bx.out.below D)
  replace By := hide (By.out.below D)
  replace My := hide (My.out.below D)
  replace Md := hide (Md.out.below D)
  replace WW := hide (below_next WW.out D)
  replace C := hide (Below.refl (u2.alloc (.cells #[.int .i64 y.rows, .int .i64 y.cols, .slice qa qn qk] 25)).heap.size (u2.alloc (.cells #[.int .i64 y.rows, .int .i64 y.cols, .slice qa qn qk] 25)))
  clear D
  have Bz := hide (Box.new u2 [.int .i64 y.rows, .int .i64 y.cols, .slice qa qn qk] 25 (B := u2.heap.size) (by simp))
  clear hm hd
  have HX := hide (error_same (k := E) (n := E) rfl _ (HH.out.below C.out))
  go_wp2_with fail
  refine HX.out.mono ?_
  rintro e u3 ⟨rfl, hb⟩
  replace C := hide (below_next C.out hb)
  clear HX hb 
  have HX := hide (matrices_any _ _ y y _ (My.out.below C.out) (Mz.out.below C.out))
  have zy0 := (By.out.below C.out) 0 _ rfl
  have zy1 := (By.out.below C.out) 1 _ rfl
  have zy2 := (By.out.below C.out) 2 _ rfl
  have zz0 := (Bz.out.below C.out) 0 _ rfl
  have zz1 := (Bz.out.below C.out) 1 _ rfl
  have zz2 := (Bz.out.below C.out) 2 _ rfl
  go_wp2_with fail
  refine HX.out.mono ?_
  rintro e u4 ⟨rfl, hb⟩
  rw [sameM_refl]
  replace C := hide (below_next C.out hb)
  clear HX hb zy0 zy1 zy2 zz0 zz1 zz2
  have HX := hide (gds_same _ _ ds _ (Md.out.below C.out) (Me.out.below C.out))
  go_wp2_with fail
  refine HX.out.mono ?_
  rintro e u5 ⟨rfl, hb⟩
  replace C := hide (below_next C.out hb)
  clear HX hb 
  go_wp2
  go_ret
  exact ⟨rfl, below_next WW.out C.out⟩
end Go.Proofs.YtbkkhdekjgabfadDoor
