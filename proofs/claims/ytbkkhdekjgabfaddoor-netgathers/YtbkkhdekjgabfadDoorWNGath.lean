/- The walk of the law NetGathers: Gather of package net answers what the document's answer does, and Zero makes noughts. Conditions: the room that any slice that comes in may have; the library's variable errors.errorType is as its text lays it. -/
import Derived.Test.YtbkkhdekjgabfadDoorErr
import Derived.Test.YtbkkhdekjgabfadDoorRGather
import Derived.Test.YtbkkhdekjgabfadDoorSameL
import Derived.Test.YtbkkhdekjgabfadDoorReg
import Derived.Test.YtbkkhdekjgabfadDoorNetCG
namespace Go.Proofs.YtbkkhdekjgabfadDoor
open Go.RowKit
theorem run_mkN (n : Nat) (hn : n ≤ 17592186043904) (W : World) : (Instr.makeSlice 23 (.int .i64 (n : Int)) (.int .i64 (n : Int))).run Tryd.prog W = .ok (.slice (some ⟨W.heap.size, 0, none⟩) n n) (W.alloc (.cells (zeros n) 3)) := by
  obtain ⟨i0, hi, hz0, hz1, hz2⟩ := info_parts infoInt
  have hr := run_make (P := Tryd.prog) W 23 3 i0 (.int .i64 0) Tryd.underlying23 hi hz0 .i64 .i64 (n : Int) (n : Int) (by omega) (Int.le_refl _) (by rw [hz2]; omega) (by omega)
  simpa [zeros, hz1, Value.cells] using hr
theorem mk_way1 {W : World} {n : Nat} {zs : List Int} (hz : n = zs.length) (hm : n ≤ maxLen) (o : Obj) : IsInts (((W.alloc (.cells (zeros n) 3)).alloc o).drew) (.slice (some ⟨W.heap.size, 0, none⟩) n n) (tab zs.length fun _ => 0) := by
  rw [← hz]; exact RowAt.isTab (e := 3) (RowAt.drew ((zeros_row W n).alloc o)) hm
theorem mk_way2 {W : World} {n : Nat} {zs : List Int} (hz : n = zs.length) (hm : n ≤ maxLen) (o : Obj) : IsInts (((W.alloc o).alloc (.cells (zeros n) 3)).drew) (.slice (some ⟨W.heap.size + 1, 0, none⟩) n n) (tab zs.length fun _ => 0) := by
  have h := RowAt.isTab (e := 3) (RowAt.drew (zeros_row (W.alloc o) n)) hm
  rw [World.size_alloc] at h; rw [← hz]; exact h
theorem mk_cells1 (W : World) (o : Obj) (x y z : Value) : Cells3 (((W.alloc o).alloc (.cells #[x, y, z] 25)).drew) (W.heap.size + 1) x y z :=
  ⟨box_new (W.alloc o) _ _ (World.size_alloc _ _) rfl, box_new (W.alloc o) _ _ (World.size_alloc _ _) rfl, box_new (W.alloc o) _ _ (World.size_alloc _ _) rfl⟩
theorem mk_cells2 (W : World) (o : Obj) (x y z : Value) : Cells3 (((W.alloc (.cells #[x, y, z] 25)).alloc o).drew) W.heap.size x y z :=
  ⟨cell_past (box_new W _ _ rfl rfl) o, cell_past (box_new W _ _ rfl rfl) o, cell_past (box_new W _ _ rfl rfl) o⟩
theorem cells3_below {u u' : World} {B : Nat} {x y z : Value} (h : Cells3 u B x y z) (hb : Below u.heap.size u u') : Cells3 u' B x y z := ⟨cell_below hb h.1, cell_below hb h.2.1, cell_below hb h.2.2⟩
set_option maxHeartbeats 40000000 in
set_option maxRecDepth 100000 in
theorem ngath_walk (v0 : Value) (m0 : List Ly) (v1 : Value) (m1 : List (Mx × Mx)) (v2 : Value) (m2 : List (Mx × Mx)) (w : World) (w0 : IsLys w v0 m0) (w1 : IsGds w v1 m1) (w2 : IsGds w v2 m2) (y0 : m0.length ≤ 1599289640355) (y1 : m1.length ≤ 1759218604390) (z0 : ∀ l ∈ m0, l.w.cells.length ≤ 17592186043904 ∧ l.b.cells.length ≤ 17592186043904) (hH : Handle w) : Calls Tryd.prog 5 #[v0, v1, v2] w fun e w' => e = .returned (.bool true) ∧ Below w.heap.size w w' := by
  obtain ⟨la, lk, rfl, _, _⟩ := w0.shape
  have ML := hide w0
  clear w0
  obtain ⟨aa, ak, rfl, _, _⟩ := w1.shape
  have MA := hide w1
  clear w1
  obtain ⟨ba, bk, rfl, _, _⟩ := w2.shape
  have MB := hide w2
  clear w2
  have HH := hide hH
  clear hH
  have WW := hide (Below.refl w.heap.size w)
  have C := hide (Below.refl w.heap.size w)
  obtain ⟨N, hN⟩ : ∃ N, m0.length = N := ⟨_, rfl⟩
  obtain ⟨NA, hNA⟩ : ∃ N, m1.length = N := ⟨_, rfl⟩
  obtain ⟨NB, hNB⟩ : ∃ N, m2.length = N := ⟨_, rfl⟩
  obtain ⟨E, hE⟩ : ∃ E, gaE m1 m2 = E := ⟨_, rfl⟩
  obtain ⟨ys, hy⟩ : ∃ k, gaX m1 m2 = k := ⟨_, rfl⟩
  have HY := hide (And.intro hE hy)
  have HLE := hide (And.intro y0 y1)
  have HZ := hide z0
  have HN := hide hN
  have hzl : (zeroD m0).length = N := by unfold zeroD; rw [List.length_map, hN]
  have HZL := hide hzl
  rw [hN] at ML ⊢
  rw [hNA] at MA ⊢
  rw [hNB] at MB ⊢
  rw [hN] at y0
  have hN63 : (N : Int) ≤ 1599289640355 := by omega
  clear hE hy hN hNA hNB y0 y1 z0 hzl
  go_enter Tryd.func5, Tryd.ntmps5
  have HX := hide (netgather_any _ _ m1 m2 _ (MA.out.below C.out) (MB.out.below C.out) HLE.out.2)
  go_wp2_with fail
  refine HX.out.mono ?_
  rintro e u1 ⟨vl, rfl, hm, hb⟩
  rw [HY.out.2] at hm
  rw [HY.out.1]
  obtain ⟨pa, pk, rfl, _, _⟩ := hm.shape
  replace C := hide (below_next C.out hb)
  clear HX hb 
  replace ML := hide (ML.out.below C.out)
  replace MA := hide (MA.out.below C.out)
  replace MB := hide (MB.out.below C.out)
  replace HH := hide (HH.out.below C.out)
  replace WW := hide (below_next WW.out C.out)
  replace C := hide (Below.refl u1.heap.size u1)
  have Mp := hide hm
  clear hm
  have HX := hide (rgather_any _ _ m1 m2 _ (MA.out.below C.out) (MB.out.below C.out) HLE.out.2)
  go_wp2_with fail
  refine HX.out.mono ?_
  rintro e u2 ⟨vl, rfl, hm, hb⟩
  rw [HY.out.2] at hm
  rw [HY.out.1]
  obtain ⟨qa, qk, rfl, _, _⟩ := hm.shape
  replace C := hide (below_next C.out hb)
  clear HX hb 
  replace ML := hide (ML.out.below C.out)
  replace MA := hide (MA.out.below C.out)
  replace MB := hide (MB.out.below C.out)
  replace HH := hide (HH.out.below C.out)
  replace Mp := hide (Mp.out.below C.out)
  replace WW := hide (below_next WW.out C.out)
  replace C := hide (Below.refl u2.heap.size u2)
  have Mq := hide hm
  clear hm
  have HX := hide (error_same (k := E) (n := E) rfl _ (HH.out.below C.out))
  go_wp2_with fail
  refine HX.out.mono ?_
  rintro e u3 ⟨rfl, hb⟩
  replace C := hide (below_next C.out hb)
  clear HX hb 
  have HX := hide (gds_same _ _ ys _ (Mp.out.below C.out) (Mq.out.below C.out))
  go_wp2_with fail
  refine HX.out.mono ?_
  rintro e u4 ⟨rfl, hb⟩
  replace C := hide (below_next C.out hb)
  clear HX hb 
  have HX := hide (netzero_any _ m0 _ (ML.out.below C.out) HLE.out.1 HZ.out)
  go_wp2_with fail
  refine HX.out.mono ?_
  rintro e u5 ⟨vl, rfl, hm, hb⟩
  obtain ⟨za, zk, rfl, _, _⟩ := hm.shape
  rw [HZL.out] at hm ⊢
  replace C := hide (below_next C.out hb)
  clear HX hb 
  replace ML := hide (ML.out.below C.out)
  replace MA := hide (MA.out.below C.out)
  replace MB := hide (MB.out.below C.out)
  replace HH := hide (HH.out.below C.out)
  replace Mp := hide (Mp.out.below C.out)
  replace Mq := hide (Mq.out.below C.out)
  replace WW := hide (below_next WW.out C.out)
  replace C := hide (Below.refl u5.heap.size u5)
  have MZ := hide hm
  clear hm
  obtain ⟨W0, hW0⟩ : ∃ W0, W0 = u5 := ⟨_, rfl⟩
  rw [← hW0] at ML MZ WW
  go_wp2
  rw [← hW0]
  clear hW0 C
  go_loopw [14] (fun a wr => ∃ (i : Nat) (xi : Int), i ≤ N ∧ xi = (i : Int) ∧ a = .int .i64 xi ∧ Below W0.heap.size W0 wr) (fun a _ => N - (intOf a).toNat)
  case atStart => exact ⟨0, 0, Nat.zero_le _, rfl, rfl, Below.refl _ _⟩
  case round =>
    obtain ⟨i, xi, hi, hxi, rfl, hbw⟩ := hrel
    have HB := hide hbw
    have HXI := hide hxi
    have hxi0 : 0 ≤ xi := by omega
    have hxi1 : xi ≤ 1599289640355 := by omega
    clear hbw hxi
    by_cases hlt : xi < (N : Int)
    · have hin : i < N := by have := HXI.out; omega
      have hxn : xi.toNat = i := by have := HXI.out; omega
      obtain ⟨l, hl⟩ : ∃ x, m0[i]? = some x := ⟨m0[i]'(by have := HN.out; omega), List.getElem?_eq_getElem _⟩
      obtain ⟨b, off, cp, sa, sn, sk, ta, tn, tk, ev, k0, k1, k2, k3, k4, k5, k6, hly⟩ := ML.out.at hl
      injection ev with ev1 ev2 ev3
      clear ev2 ev3
      subst ev1
      obtain ⟨b', off', cp', ja, jn, jk, ka, kn, kk, ev, y0, y1, y2, y3, y4, y5, hj, hk⟩ := MZ.out.at (i := i) (d := (zeroM l.w, zeroM l.b)) (by unfold zeroD; rw [List.getElem?_map, hl]; rfl)
      injection ev with ev1 ev2 ev3
      clear ev2 ev3
      subst ev1
      have hsn : sn = l.w.cells.length ∧ tn = l.b.cells.length := by
        obtain ⟨i1, i2⟩ := IsLys.ints hly
        obtain ⟨_, _, e1, _⟩ := i1
        obtain ⟨_, _, e2, _⟩ := i2
        injection e1 with _ e1 _
        injection e2 with _ e2 _
        exact ⟨e1, e2⟩
      obtain ⟨z1, z2⟩ := HZ.out l (List.mem_of_getElem? hl)
      rw [← hsn.1] at z1
      rw [← hsn.2] at z2
      have HSN1 := hide hsn.1
      have HSN2 := hide hsn.2
      rw [← hxn] at k0 k1 k2 k3 k4 k5 k6 y0 y1 y2 y3 y4 y5
      have HK := hide (fun W (h : Below W0.heap.size W0 W) => (And.intro (cell_below h k1) (And.intro (cell_below h k2) (cell_below h k3))))
      have HK2 := hide (fun W (h : Below W0.heap.size W0 W) => (And.intro (cell_below h k4) (And.intro (cell_below h k5) (cell_below h k6))))
      have HZ1 := hide (fun W (h : Below W0.heap.size W0 W) => (And.intro (cell_below h y0) (And.intro (cell_below h y1) (cell_below h y2))))
      have HZ2 := hide (fun W (h : Below W0.heap.size W0 W) => (And.intro (cell_below h y3) (And.intro (cell_below h y4) (cell_below h y5))))
      have HJ := hide (And.intro hj hk)
      clear k0 k1 k2 k3 k4 k5 k6 y0 y1 y2 y3 y4 y5 hly hj hk hl hxn hsn
  
      have hmk := run_mkN sn z1
      have HSB : Hid (∀ W', Below wr.heap.size wr W' → (fun W' => W'.cell? ⟨b, off + xi.toNat * 7 + 1, none⟩ = some (.int .i64 l.w.rows) ∧ W'.cell? ⟨b, off + xi.toNat * 7 + 2, none⟩ = some (.int .i64 l.w.cols) ∧ W'.cell? ⟨b, off + xi.toNat * 7 + 3, none⟩ = some (.slice sa sn sk)) W') := hide (fun W' h => HK.out W' (below_next HB.out h))
      obtain ⟨lm0, lm1, lm2⟩ := HSB.out wr (Below.refl _ _)
      go_wp2
      go_cut [15] from 56 to 76 (fun a wx => ∃ (Bk g : Nat), a = .pointer (some ⟨Bk, 0, none⟩) ∧ IsMx wx (.agg #[.int .i64 l.w.rows, .int .i64 l.w.cols, .slice (some ⟨g, 0, none⟩) sn sn]) (zeroM l.w) ∧ Cells3 wx Bk (.int .i64 l.w.rows) (.int .i64 l.w.cols) (.slice (some ⟨g, 0, none⟩) sn sn) ∧ Below wr.heap.size wr wx)
      case first =>
        go_region_held3 (fun W' => W'.cell? ⟨b, off + xi.toNat * 7 + 1, none⟩ = some (.int .i64 l.w.rows) ∧ W'.cell? ⟨b, off + xi.toNat * 7 + 2, none⟩ = some (.int .i64 l.w.cols) ∧ W'.cell? ⟨b, off + xi.toNat * 7 + 3, none⟩ = some (.slice sa sn sk)) ((refine HSB.out _ ?_; repeat' (first | with_reducible exact Below.refl _ _ | with_reducible refine bel_drew ?_ | with_reducible refine bel_alloc ?_ | with_reducible refine bel_set ?_ ?_ | exact Nat.le_refl _ | exact Nat.le_succ _)))
          (fail)
        all_goals go_wp2
        all_goals go_meet
        all_goals first
          | exact ⟨_, _, rfl, ⟨_, rfl, mk_way1 HSN1.out (by unfold maxLen; omega) _⟩, mk_cells1 _ _ _ _ _, bel_drew (bel_alloc (bel_alloc (Below.refl _ _)))⟩
          | exact ⟨_, _, rfl, ⟨_, rfl, mk_way2 HSN1.out (by unfold maxLen; omega) _⟩, mk_cells2 _ _ _ _ _, bel_drew (bel_alloc (bel_alloc (Below.refl _ _)))⟩
      case rest =>
      clear hmk lm0 lm1 lm2 HSB
      obtain ⟨B1, g1, rfl, hm1, hc1, hb1⟩ := hcut
      obtain ⟨wa, hwa⟩ : ∃ wa, wa = wc := ⟨_, rfl⟩
      subst hwa
      have HBA := hide (below_next HB.out hb1)
      have HM1 := hide hm1
      have HC1 := hide hc1
      clear hm1 hc1 hb1
      have hmk := run_mkN tn z2
      have HSB : Hid (∀ W', Below wa.heap.size wa W' → (fun W' => W'.cell? ⟨b, off + xi.toNat * 7 + 4, none⟩ = some (.int .i64 l.b.rows) ∧ W'.cell? ⟨b, off + xi.toNat * 7 + 5, none⟩ = some (.int .i64 l.b.cols) ∧ W'.cell? ⟨b, off + xi.toNat * 7 + 6, none⟩ = some (.slice ta tn tk)) W') := hide (fun W' h => HK2.out W' (below_next HBA.out h))
      obtain ⟨lm0, lm1, lm2⟩ := HSB.out wa (Below.refl _ _)
      go_wp2
      go_cut [16] from 77 to 97 (fun a wx => ∃ (Bk g : Nat), a = .pointer (some ⟨Bk, 0, none⟩) ∧ IsMx wx (.agg #[.int .i64 l.b.rows, .int .i64 l.b.cols, .slice (some ⟨g, 0, none⟩) tn tn]) (zeroM l.b) ∧ Cells3 wx Bk (.int .i64 l.b.rows) (.int .i64 l.b.cols) (.slice (some ⟨g, 0, none⟩) tn tn) ∧ Below wa.heap.size wa wx)
      case first =>
        go_region_held3 (fun W' => W'.cell? ⟨b, off + xi.toNat * 7 + 4, none⟩ = some (.int .i64 l.b.rows) ∧ W'.cell? ⟨b, off + xi.toNat * 7 + 5, none⟩ = some (.int .i64 l.b.cols) ∧ W'.cell? ⟨b, off + xi.toNat * 7 + 6, none⟩ = some (.slice ta tn tk)) ((refine HSB.out _ ?_; repeat' (first | with_reducible exact Below.refl _ _ | with_reducible refine bel_drew ?_ | with_reducible refine bel_alloc ?_ | with_reducible refine bel_set ?_ ?_ | exact Nat.le_refl _ | exact Nat.le_succ _)))
          (fail)
        all_goals go_wp2
        all_goals go_meet
        all_goals first
          | exact ⟨_, _, rfl, ⟨_, rfl, mk_way1 HSN2.out (by unfold maxLen; omega) _⟩, mk_cells1 _ _ _ _ _, bel_drew (bel_alloc (bel_alloc (Below.refl _ _)))⟩
          | exact ⟨_, _, rfl, ⟨_, rfl, mk_way2 HSN2.out (by unfold maxLen; omega) _⟩, mk_cells2 _ _ _ _ _, bel_drew (bel_alloc (bel_alloc (Below.refl _ _)))⟩
      case rest =>
      clear hmk lm0 lm1 lm2 HSB
      obtain ⟨B2, g2, rfl, hm2, hc2, hb2⟩ := hcut
      have HBC := hide (below_next HBA.out hb2)
      have HM2 := hide hm2
      replace HM1 := hide (HM1.out.below hb2)
      replace HC1 := hide (cells3_below HC1.out hb2)
      have HC2 := hide hc2
      clear hm2 hc2 hb2
      obtain ⟨y0, y1, y2⟩ := HZ1.out wc HBC.out
      obtain ⟨c0, c1, c2⟩ := HC1.out
      have HX := hide (matrices_any _ _ (zeroM l.w) (zeroM l.w) wc.drew ⟨_, rfl, (HJ.out.1.below HBC.out).below (below_dr (Below.refl _ _))⟩ (HM1.out.below (below_dr (Below.refl _ _))))
      rw [sameM_refl] at HX
      go_wp2
      refine region_tail 6 (by kernel_rfl) (by kernel_rfl) ?_
      simp only [List.take_succ_cons, List.take_zero, List.drop_succ_cons, List.drop_zero]
      repeat still_step
      refine wpStill_nil ?_
      go_wp2_with fail
      refine HX.out.mono ?_
      rintro e wd ⟨rfl, hbd⟩
      have HDD := hide (below_next (below_dr (Below.refl _ wc)) hbd)
      clear y0 y1 y2 c0 c1 c2 HX hbd
      obtain ⟨y3, y4, y5⟩ := HZ2.out wd (below_next HBC.out HDD.out)
      obtain ⟨c0, c1, c2⟩ := cells3_below HC2.out HDD.out
      have HX := hide (matrices_any _ _ (zeroM l.b) (zeroM l.b) wd.drew ⟨_, rfl, (HJ.out.2.below (below_next HBC.out HDD.out)).below (below_dr (Below.refl _ _))⟩ ((HM2.out.below HDD.out).below (below_dr (Below.refl _ _))))
      rw [sameM_refl] at HX
      go_wp2
      refine region_tail 6 (by kernel_rfl) (by kernel_rfl) ?_
      simp only [List.take_succ_cons, List.take_zero, List.drop_succ_cons, List.drop_zero]
      repeat still_step
      refine wpStill_nil ?_
      go_wp2_with fail
      refine HX.out.mono ?_
      rintro e we ⟨rfl, hbe⟩
      have HEE := hide (below_next (below_next HBC.out HDD.out) (below_next (below_dr (Below.refl _ wd)) hbe))
      clear y3 y4 y5 c0 c1 c2 HX hbe
      go_wp2
      go_roundw
      case rel => exact ⟨i + 1, _, by omega, by have := HXI.out; omega, rfl, HEE.out⟩
      case measure => have := HXI.out; simp [intOf]; omega
    · go_wp2
      go_ret
      exact ⟨rfl, below_next WW.out HB.out⟩
end Go.Proofs.YtbkkhdekjgabfadDoor
