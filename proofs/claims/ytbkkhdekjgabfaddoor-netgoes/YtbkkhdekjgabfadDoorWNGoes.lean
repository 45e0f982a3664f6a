/- The walk of the law NetGoes: Check and Go of package net answer what the document's answer does. Condition: the library's variable errors.errorType is as its text lays it. -/
import Derived.Test.YtbkkhdekjgabfadDoorErr
import Derived.Test.YtbkkhdekjgabfadDoorRNetGo
import Derived.Test.YtbkkhdekjgabfadDoorSameL
import Derived.Test.YtbkkhdekjgabfadDoorNetC2
namespace Go.Proofs.YtbkkhdekjgabfadDoor
open Go.RowKit
set_option maxHeartbeats 40000000 in
set_option maxRecDepth 100000 in
theorem ngoes_walk (v0 : Value) (m0 : List Ly) (v1 : Value) (m1 : Mx) (n : Int) (w : World) (w0 : IsLys w v0 m0) (w1 : IsMx w v1 m1) (hH : Handle w) : Calls Tryd.prog 3 #[v0, v1, .int .i64 n] w fun e w' => e = .returned (.bool true) ∧ Below w.heap.size w w' := by
  obtain ⟨la, lk, rfl, _, _⟩ := w0.shape
  have ML := hide w0
  clear w0
  obtain ⟨sm1, rfl, hm1⟩ := w1
  obtain ⟨xa, xn, xk, rfl⟩ := hm1.shape
  obtain ⟨r, er⟩ : ∃ r, m1.rows = r := ⟨_, rfl⟩
  obtain ⟨c, ec⟩ : ∃ r, m1.cols = r := ⟨_, rfl⟩
  have Mm1 := hide (show IsMx w (.agg #[.int .i64 r, .int .i64 c, .slice xa xn xk]) m1 from ⟨_, by rw [er, ec], hm1⟩)
  rw [er, ec]
  have HH := hide hH
  clear hm1 er ec hH
  have WW := hide (Below.refl w.heap.size w)
  have C := hide (Below.refl w.heap.size w)
  have D := below_next C.out (below_one w (.cells #[.int .i64 r, .int .i64 c, .slice xa xn xk] 25))
  replace ML := hide (ML.out.below D)
  replace Mm1 := hide (Mm1.out.below D)
  replace HH := hide (HH.out.below D)
  replace WW := hide (below_next WW.out D)
  replace C := hide (Below.refl (w.alloc (.cells #[.int .i64 r, .int .i64 c, .slice xa xn xk] 25)).heap.size (w.alloc (.cells #[.int .i64 r, .int .i64 c, .slice xa xn xk] 25)))
  clear D
  have Bx := hide (Box.new w [.int .i64 r, .int .i64 c, .slice xa xn xk] 25 (B := w.heap.size) (by simp))
  obtain ⟨N, hN⟩ : ∃ N, m0.length = N := ⟨_, rfl⟩
  obtain ⟨E, hE⟩ : ∃ E, nwE m0 n = E := ⟨_, rfl⟩
  obtain ⟨k, hk⟩ : ∃ k, nwX m0 n = k := ⟨_, rfl⟩
  obtain ⟨E', hE'⟩ : ∃ E, ngE m0 m1 = E := ⟨_, rfl⟩
  obtain ⟨ys, hy⟩ : ∃ ys, ngX m0 m1 = ys := ⟨_, rfl⟩
  have HY := hide (And.intro hE (And.intro hk (And.intro hE' hy)))
  rw [hN] at ML ⊢
  clear hE hk hE' hy hN
  go_enter Tryd.func3, Tryd.ntmps3
  have HX := hide (netcheck_any _ m0 n _ (ML.out.below C.out))
  go_wp2_with fail
  refine HX.out.mono ?_
  rintro e u1 ⟨rfl, hb⟩
  rw [HY.out.1, HY.out.2.1]
  replace C := hide (below_next C.out hb)
  clear HX hb 
  have HX := hide (rnetwide_any _ m0 n _ (ML.out.below C.out))
  go_wp2_with fail
  refine HX.out.mono ?_
  rintro e u2 ⟨rfl, hb⟩
  rw [HY.out.1, HY.out.2.1]
  replace C := hide (below_next C.out hb)
  clear HX hb 
  have HX := hide (error_same (k := E) (n := E) rfl _ (HH.out.below C.out))
  go_wp2_with fail
  refine HX.out.mono ?_
  rintro e u3 ⟨rfl, hb⟩
  replace C := hide (below_next C.out hb)
  clear HX hb 
  have hkk : (k != k) = false := by simp
  have HX := hide (netgo_any _ _ m0 m1 _ (ML.out.below C.out) (Mm1.out.below C.out))
  have zx0 := (Bx.out.below C.out) 0 _ rfl
  have zx1 := (Bx.out.below C.out) 1 _ rfl
  have zx2 := (Bx.out.below C.out) 2 _ rfl
  go_wp2_with fail
  refine HX.out.mono ?_
  rintro e u4 ⟨vl, rfl, hm, hb⟩
  rw [HY.out.2.2.2] at hm
  rw [HY.out.2.2.1]
  obtain ⟨pa, pk, rfl, _, _⟩ := hm.shape
  replace C := hide (below_next C.out hb)
  clear HX hb zx0 zx1 zx2
  replace ML := hide (ML.out.below C.out)
  replace Mm1 := hide (Mm1.out.below C.out)
  replace HH := hide (HH.out.below C.out)
  replace Bx := hide (Bx.out.below C.out)
  replace WW := hide (below_next WW.out C.out)
  replace C := hide (Below.refl u4.heap.size u4)
  have Mp := hide hm
  clear hm
  have HX := hide (rnetgo_any _ _ m0 m1 _ (ML.out.below C.out) (Mm1.out.below C.out))
  have zx0 := (Bx.out.below C.out) 0 _ rfl
  have zx1 := (Bx.out.below C.out) 1 _ rfl
  have zx2 := (Bx.out.below C.out) 2 _ rfl
  go_wp2_with fail
  refine HX.out.mono ?_
  rintro e u5 ⟨vl, rfl, hm, hb⟩
  rw [HY.out.2.2.2] at hm
  rw [HY.out.2.2.1]
  obtain ⟨qa, qk, rfl, _, _⟩ := hm.shape
  replace C := hide (below_next C.out hb)
  clear HX hb zx0 zx1 zx2
  replace ML := hide (ML.out.below C.out)
  replace Mm1 := hide (Mm1.out.below C.out)
  replace HH := hide (HH.out.below C.out)
  replace Bx := hide (Bx.out.below C.out)
  replace Mp := hide (Mp.out.below C.out)
  replace WW := hide (below_next WW.out C.out)
  replace C := hide (Below.refl u5.heap.size u5)
  have Mq := hide hm
  clear hm
  have HX := hide (error_same (k := E') (n := E') rfl _ (HH.out.below C.out))
  go_wp2_with fail
  refine HX.out.mono ?_
  rintro e u6 ⟨rfl, hb⟩
  replace C := hide (below_next C.out hb)
  clear HX hb 
  have HX := hide (mxs_same _ _ ys _ (Mp.out.below C.out) (Mq.out.below C.out))
  go_wp2_with fail
  refine HX.out.mono ?_
  rintro e u7 ⟨rfl, hb⟩
  replace C := hide (below_next C.out hb)
  clear HX hb 
  go_wp2
  go_ret
  exact ⟨rfl, below_next WW.out C.out⟩
end Go.Proofs.YtbkkhdekjgabfadDoor
