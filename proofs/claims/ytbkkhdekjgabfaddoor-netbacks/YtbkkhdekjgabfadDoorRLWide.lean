/- What WideOf, GoFault and BackFault of the document's answer come to. -/
import Derived.Test.YtbkkhdekjgabfadDoorRLFault
namespace Go.Proofs.YtbkkhdekjgabfadDoor
open Go.RowKit
/-- How many columns come, or -1. -/
def wideR (l : Ly) (n : Int) : Int := if takesL l n = true then givesL l n else -1
theorem wideR_1 {l : Ly} {n : Int} (hk : l.k = 1) (h : n = l.w.rows) : l.w.cols = wideR l n := by unfold wideR takesL givesL; rw [if_pos hk, if_pos (decide_eq_true h), if_pos hk]
theorem wideR_1n {l : Ly} {n : Int} (hk : l.k = 1) (h : ¬ n = l.w.rows) : -1 = wideR l n := by unfold wideR takesL; rw [if_pos hk, if_neg (by rw [decide_eq_false h]; decide)]
theorem wideR_4 {l : Ly} {n : Int} (hk : l.k = 4) (h : n = l.b.cols) : n = wideR l n := by
  have h1 : ¬ l.k = 1 := by omega
  unfold wideR takesL givesL; rw [if_neg h1, if_pos hk, if_pos (decide_eq_true h), if_neg h1]
theorem wideR_4n {l : Ly} {n : Int} (hk : l.k = 4) (h : ¬ n = l.b.cols) : -1 = wideR l n := by
  have h1 : ¬ l.k = 1 := by omega
  unfold wideR takesL; rw [if_neg h1, if_pos hk, if_neg (by rw [decide_eq_false h]; decide)]
theorem wideR_o {l : Ly} {n : Int} (h1 : ¬ l.k = 1) (h4 : ¬ l.k = 4) : n = wideR l n := by unfold wideR takesL givesL; rw [if_neg h1, if_neg h4, if_pos rfl, if_neg h1]
set_option maxHeartbeats 800000 in
theorem rwide_any (v : Value) (l : Ly) (n : Int) (w : World) (hv : IsLy w v l) : Calls Tryd.prog 22 #[v, .int .i64 n] w fun e w' => e = .returned (.int .i64 (wideR l n)) ∧ Below w.heap.size w w' := by
  obtain ⟨s, t, rfl, hs, ht⟩ := hv
  obtain ⟨xa, xn, xk, rfl⟩ := hs.shape
  obtain ⟨ya, yn, yk, rfl⟩ := ht.shape
  obtain ⟨k, e0⟩ : ∃ r, l.k = r := ⟨_, rfl⟩
  obtain ⟨wr, e1⟩ : ∃ r, l.w.rows = r := ⟨_, rfl⟩
  obtain ⟨wc, e2⟩ : ∃ r, l.w.cols = r := ⟨_, rfl⟩
  obtain ⟨br, e3⟩ : ∃ r, l.b.rows = r := ⟨_, rfl⟩
  obtain ⟨bc, e4⟩ : ∃ r, l.b.cols = r := ⟨_, rfl⟩
  rw [e0, e1, e2, e3, e4]
  clear hs ht
  by_cases h1 : k = 1
  · by_cases hn : n = wr
    · have HE := hide (show wc = wideR l n by rw [← e2]; exact wideR_1 (by omega) (by omega))
      have t1 : (k == 1) = true := by simp [h1]
      have t2 : (n != wr) = false := by simp [hn]
      clear h1 hn e0 e1 e2 e3 e4
      go_enter Tryd.func22, Tryd.ntmps22
      go_wp2
      go_ret
      exact ⟨ret_int HE.out, below_one _ _⟩
    · have HE := hide (wideR_1n (l := l) (n := n) (by omega) (by omega))
      have t1 : (k == 1) = true := by simp [h1]
      have t2 : (n != wr) = true := by simp [hn]
      clear h1 hn e0 e1 e2 e3 e4
      go_enter Tryd.func22, Tryd.ntmps22
      go_wp2
      go_ret
      exact ⟨ret_int HE.out, below_one _ _⟩
  · have t1 : (k == 1) = false := by simp [h1]
    by_cases h4 : k = 4
    · have t4 : (k == 4) = true := by simp [h4]
      by_cases hn : n = bc
      · have HE := hide (wideR_4 (l := l) (n := n) (by omega) (by omega))
        have t2 : (n != bc) = false := by simp [hn]
        clear h1 h4 hn e0 e1 e2 e3 e4
        go_enter Tryd.func22, Tryd.ntmps22
        go_wp2
        go_ret
        exact ⟨ret_int HE.out, below_one _ _⟩
      · have HE := hide (wideR_4n (l := l) (n := n) (by omega) (by omega))
        have t2 : (n != bc) = true := by simp [hn]
        clear h1 h4 hn e0 e1 e2 e3 e4
        go_enter Tryd.func22, Tryd.ntmps22
        go_wp2
        go_ret
        exact ⟨ret_int HE.out, below_one _ _⟩
    · have t4 : (k == 4) = false := by simp [h4]
      have HE := hide (wideR_o (l := l) (n := n) (by omega) (by omega))
      clear h1 h4 e0 e1 e2 e3 e4
      go_enter Tryd.func22, Tryd.ntmps22
      go_wp2
      go_ret
      exact ⟨ret_int HE.out, below_one _ _⟩
theorem wideR_yes {l : Ly} {n : Int} (h : takesL l n = true) : wideR l n = givesL l n := by unfold wideR; rw [if_pos h]
theorem wideR_no {l : Ly} {n : Int} (h : takesL l n = false) : wideR l n = -1 := by unfold wideR; rw [if_neg (by simp [h])]
theorem gives_0 {l : Ly} {x : Mx} (hl : lfault l = 0) (hx : fault x = 0) : 0 ≤ givesL l x.cols := by
  obtain ⟨_, _, fw, _, _⟩ := lgood_of hl
  obtain ⟨_, Cw, gw⟩ := good_of fw
  obtain ⟨_, Cx, gx⟩ := good_of hx
  have := gw.c
  have := gx.c
  unfold givesL; split <;> omega
set_option maxHeartbeats 1600000 in
theorem rgofault_any (v vx : Value) (l : Ly) (x : Mx) (w : World) (hv : IsLy w v l) (hx : IsMx w vx x) : Calls Tryd.prog 27 #[v, vx] w fun e w' => e = .returned (.int .i64 (goE l x)) ∧ Below w.heap.size w w' := by
  obtain ⟨s, t, rfl, hs, ht⟩ := hv
  obtain ⟨xa, xn, xk, rfl⟩ := hs.shape
  obtain ⟨ya, yn, yk, rfl⟩ := ht.shape
  obtain ⟨k, e0⟩ : ∃ r, l.k = r := ⟨_, rfl⟩
  obtain ⟨wr, e1⟩ : ∃ r, l.w.rows = r := ⟨_, rfl⟩
  obtain ⟨wc, e2⟩ : ∃ r, l.w.cols = r := ⟨_, rfl⟩
  obtain ⟨br, e3⟩ : ∃ r, l.b.rows = r := ⟨_, rfl⟩
  obtain ⟨bc, e4⟩ : ∃ r, l.b.cols = r := ⟨_, rfl⟩
  obtain ⟨sx, rfl, hsx⟩ := hx
  obtain ⟨za, zn, zk, rfl⟩ := hsx.shape
  obtain ⟨r, e5⟩ : ∃ r, x.rows = r := ⟨_, rfl⟩
  obtain ⟨c, e6⟩ : ∃ r, x.cols = r := ⟨_, rfl⟩
  have HLF := hide (fun W (h : Below w.heap.size w W) => rlfault_any _ l W ⟨_, _, rfl, hs.below h, ht.below h⟩)
  have HXF := hide (fun W (h : Below w.heap.size w W) => fault_any _ x W ⟨_, rfl, hsx.below h⟩)
  have HWD := hide (fun W (h : Below w.heap.size w W) => rwide_any _ l x.cols W ⟨_, _, rfl, hs.below h, ht.below h⟩)
  rw [e0, e1, e2, e3, e4] at HLF HWD
  rw [e5, e6] at HXF
  have HEC := hide e6
  rw [e6] at HWD
  rw [e0, e1, e2, e3, e4, e5, e6]
  obtain ⟨V, hV⟩ : ∃ V, V = (w.alloc (.cells #[.int .i64 k, .int .i64 wr, .int .i64 wc, .slice xa xn xk, .int .i64 br, .int .i64 bc, .slice ya yn yk] 55)).alloc (.cells #[.int .i64 r, .int .i64 c, .slice za zn zk] 25) := ⟨_, rfl⟩
  have HV := hide hV
  have HBW : Hid (Below w.heap.size w V) := by rw [hV]; exact hide (below_next (below_one _ _) (below_one _ _))
  have HBL : Hid (Box V w.heap.size [.int .i64 k, .int .i64 wr, .int .i64 wc, .slice xa xn xk, .int .i64 br, .int .i64 bc, .slice ya yn yk]) := by rw [hV]; exact hide ((Box.new w [.int .i64 k, .int .i64 wr, .int .i64 wc, .slice xa xn xk, .int .i64 br, .int .i64 bc, .slice ya yn yk] 55 rfl).below (below_one _ _))
  have HBX : Hid (Box V (w.heap.size + 1) [.int .i64 r, .int .i64 c, .slice za zn zk]) := by rw [hV]; exact hide (Box.new _ [.int .i64 r, .int .i64 c, .slice za zn zk] 25 (by simp))
  clear hs ht hsx e0 e1 e2 e3 e4 e5 e6 hV
  go_enter Tryd.func27, Tryd.ntmps27
  go_wp2_with fail
  rw [← HV.out]
  refine (HLF.out _ HBW.out).mono ?_
  rintro e w1 ⟨rfl, hb1⟩
  have HB1 := hide hb1
  clear hb1
  by_cases hl : lfault l = 0
  · rw [hl]
    have HL := hide hl
    clear hl
    have d0 := (HBX.out.below HB1.out) 0 _ rfl
    have d1 := (HBX.out.below HB1.out) 1 _ rfl
    have d2 := (HBX.out.below HB1.out) 2 _ rfl
    go_wp2_with fail
    refine (HXF.out _ (below_next HBW.out HB1.out)).mono ?_
    rintro e w2 ⟨rfl, hb2⟩
    have HB2 := hide (below_next HB1.out hb2)
    clear hb2 d0 d1 d2
    by_cases hx : fault x = 0
    · rw [hx]
      have HX := hide hx
      clear hx
      have d0 := (HBL.out.below HB2.out) 0 _ rfl
      have d1 := (HBL.out.below HB2.out) 1 _ rfl
      have d2 := (HBL.out.below HB2.out) 2 _ rfl
      have d3 := (HBL.out.below HB2.out) 3 _ rfl
      have d4 := (HBL.out.below HB2.out) 4 _ rfl
      have d5 := (HBL.out.below HB2.out) 5 _ rfl
      have d6 := (HBL.out.below HB2.out) 6 _ rfl
      have y0 := (HBX.out.below HB2.out) 0 _ rfl
      have y1 := (HBX.out.below HB2.out) 1 _ rfl
      have y2 := (HBX.out.below HB2.out) 2 _ rfl
      go_wp2_with fail
      refine (HWD.out _ (below_next HBW.out HB2.out)).mono ?_
      rintro e w3 ⟨rfl, hb3⟩
      have HB3 := hide (below_next HB2.out hb3)
      clear hb3 d0 d1 d2 d3 d4 d5 d6 y0 y1 y2
      cases htk : takesL l c with
      | true =>
        have hn := gives_0 HL.out HX.out
        rw [HEC.out] at hn
        rw [wideR_yes htk]
        obtain ⟨n, hn'⟩ : ∃ n, givesL l c = n := ⟨_, rfl⟩
        rw [hn'] at hn ⊢
        have HE := hide (show 0 = goE l x from (goE_of HL.out HX.out (by rw [HEC.out]; exact htk)).symm)
        clear htk hn'
        go_wp2
        go_ret
        exact ⟨ret_int HE.out, below_next HBW.out HB3.out⟩
      | false =>
        rw [wideR_no htk]
        have HE := hide (show 2 = goE l x by unfold goE; rw [if_neg (by simp [HL.out]), if_neg (by simp [HX.out]), if_pos (by rw [HEC.out]; exact htk)])
        clear htk
        go_wp2
        go_ret
        exact ⟨ret_int HE.out, below_next HBW.out HB3.out⟩
    · obtain ⟨j, hj⟩ : ∃ j, fault x = j := ⟨_, rfl⟩
      have hj0 : (j == 0) = false := by rw [← hj]; simp [hx]
      have hj1 : (j != 0) = true := by rw [← hj]; simp [hx]
      have HE := hide (show j = goE l x by rw [goE_x HL.out hx, hj])
      rw [hj]
      clear hx hj
      go_wp2
      go_ret
      exact ⟨ret_int HE.out, below_next HBW.out HB2.out⟩
  · obtain ⟨j, hj⟩ : ∃ j, lfault l = j := ⟨_, rfl⟩
    have hj0 : (j == 0) = false := by rw [← hj]; simp [hl]
    have hj1 : (j != 0) = true := by rw [← hj]; simp [hl]
    have HE := hide (show j = goE l x by rw [goE_l hl, hj])
    rw [hj]
    clear hl hj
    go_wp2
    go_ret
    exact ⟨ret_int HE.out, below_next HBW.out HB1.out⟩
set_option maxHeartbeats 4000000 in
theorem rbackfault_any (v vx vg : Value) (l : Ly) (x g : Mx) (w : World) (hv : IsLy w v l) (hx : IsMx w vx x) (hg : IsMx w vg g) : Calls Tryd.prog 31 #[v, vx, vg] w fun e w' => e = .returned (.int .i64 (backE l x g)) ∧ Below w.heap.size w w' := by
  obtain ⟨s, t, rfl, hs, ht⟩ := hv
  obtain ⟨xa, xn, xk, rfl⟩ := hs.shape
  obtain ⟨ya, yn, yk, rfl⟩ := ht.shape
  obtain ⟨k, e0⟩ : ∃ r, l.k = r := ⟨_, rfl⟩
  obtain ⟨wr, e1⟩ : ∃ r, l.w.rows = r := ⟨_, rfl⟩
  obtain ⟨wc, e2⟩ : ∃ r, l.w.cols = r := ⟨_, rfl⟩
  obtain ⟨br, e3⟩ : ∃ r, l.b.rows = r := ⟨_, rfl⟩
  obtain ⟨bc, e4⟩ : ∃ r, l.b.cols = r := ⟨_, rfl⟩
  obtain ⟨sx, rfl, hsx⟩ := hx
  obtain ⟨za, zn, zk, rfl⟩ := hsx.shape
  obtain ⟨r, e5⟩ : ∃ r, x.rows = r := ⟨_, rfl⟩
  obtain ⟨c, e6⟩ : ∃ r, x.cols = r := ⟨_, rfl⟩
  obtain ⟨sg, rfl, hsg⟩ := hg
  obtain ⟨ga, gn, gk, rfl⟩ := hsg.shape
  obtain ⟨r', e7⟩ : ∃ r, g.rows = r := ⟨_, rfl⟩
  obtain ⟨c', e8⟩ : ∃ r, g.cols = r := ⟨_, rfl⟩
  have HLF := hide (fun W (h : Below w.heap.size w W) => rgofault_any _ _ l x W ⟨_, _, rfl, hs.below h, ht.below h⟩ ⟨_, rfl, hsx.below h⟩)
  have HXF := hide (fun W (h : Below w.heap.size w W) => fault_any _ g W ⟨_, rfl, hsg.below h⟩)
  have HWD := hide (fun W (h : Below w.heap.size w W) => rwide_any _ l x.cols W ⟨_, _, rfl, hs.below h, ht.below h⟩)
  rw [e0, e1, e2, e3, e4, e5, e6] at HLF
  rw [e0, e1, e2, e3, e4, e6] at HWD
  rw [e7, e8] at HXF
  have HEC := hide (And.intro e0 (And.intro e5 (And.intro e6 (And.intro e7 e8))))
  rw [e0, e1, e2, e3, e4, e5, e6, e7, e8]
  obtain ⟨V, hV⟩ : ∃ V, V = ((w.alloc (.cells #[.int .i64 k, .int .i64 wr, .int .i64 wc, .slice xa xn xk, .int .i64 br, .int .i64 bc, .slice ya yn yk] 55)).alloc (.cells #[.int .i64 r, .int .i64 c, .slice za zn zk] 25)).alloc (.cells #[.int .i64 r', .int .i64 c', .slice ga gn gk] 25) := ⟨_, rfl⟩
  have HV := hide hV
  have HBW : Hid (Below w.heap.size w V) := by rw [hV]; exact hide (below_next (below_next (below_one _ _) (below_one _ _)) (below_one _ _))
  have HBL : Hid (Box V w.heap.size [.int .i64 k, .int .i64 wr, .int .i64 wc, .slice xa xn xk, .int .i64 br, .int .i64 bc, .slice ya yn yk]) := by rw [hV]; exact hide (((Box.new w [.int .i64 k, .int .i64 wr, .int .i64 wc, .slice xa xn xk, .int .i64 br, .int .i64 bc, .slice ya yn yk] 55 rfl).below (below_one _ _)).below (below_one _ _))
  have HBX : Hid (Box V (w.heap.size + 1) [.int .i64 r, .int .i64 c, .slice za zn zk]) := by rw [hV]; exact hide ((Box.new _ [.int .i64 r, .int .i64 c, .slice za zn zk] 25 (by simp)).below (below_one _ _))
  have HBG : Hid (Box V (w.heap.size + 1 + 1) [.int .i64 r', .int .i64 c', .slice ga gn gk]) := by rw [hV]; exact hide (Box.new _ [.int .i64 r', .int .i64 c', .slice ga gn gk] 25 (by simp))
  clear hs ht hsx hsg e0 e1 e2 e3 e4 e5 e6 e7 e8 hV
  go_enter Tryd.func31, Tryd.ntmps31
  go_wp2_with fail
  rw [← HV.out]
  refine (HLF.out _ HBW.out).mono ?_
  rintro e w1 ⟨rfl, hb1⟩
  have HB1 := hide hb1
  clear hb1
  by_cases hl : goE l x = 0
  · rw [hl]
    have HL := hide hl
    clear hl
    have d0 := (HBG.out.below HB1.out) 0 _ rfl
    have d1 := (HBG.out.below HB1.out) 1 _ rfl
    have d2 := (HBG.out.below HB1.out) 2 _ rfl
    go_wp2_with fail
    refine (HXF.out _ (below_next HBW.out HB1.out)).mono ?_
    rintro e w2 ⟨rfl, hb2⟩
    have HB2 := hide (below_next HB1.out hb2)
    clear hb2 d0 d1 d2
    by_cases hx : fault g = 0
    · rw [hx]
      have HX := hide hx
      clear hx
      have d0 := (HBL.out.below HB2.out) 0 _ rfl
      have d1 := (HBL.out.below HB2.out) 1 _ rfl
      have d2 := (HBL.out.below HB2.out) 2 _ rfl
      have d3 := (HBL.out.below HB2.out) 3 _ rfl
      have d4 := (HBL.out.below HB2.out) 4 _ rfl
      have d5 := (HBL.out.below HB2.out) 5 _ rfl
      have d6 := (HBL.out.below HB2.out) 6 _ rfl
      have y0 := (HBX.out.below HB2.out) 0 _ rfl
      have y1 := (HBX.out.below HB2.out) 1 _ rfl
      have y2 := (HBX.out.below HB2.out) 2 _ rfl
      go_wp2_with fail
      refine (HWD.out _ (below_next HBW.out HB2.out)).mono ?_
      rintro e w3 ⟨rfl, hb3⟩
      have HB3 := hide (below_next HB2.out hb3)
      clear hb3 d0 d1 d2 d3 d4 d5 d6 y0 y1 y2
      have htk := (goE_zero HL.out).2.2
      rw [HEC.out.2.2.1] at htk
      rw [wideR_yes htk]
      obtain ⟨n, hn⟩ : ∃ n, givesL l c = n := ⟨_, rfl⟩
      have HN := hide (show givesL l x.cols = n by rw [HEC.out.2.2.1]; exact hn)
      rw [hn]
      clear htk hn
      have d0 := (HBL.out.below HB3.out) 0 _ rfl
      have d1 := (HBL.out.below HB3.out) 1 _ rfl
      have d2 := (HBL.out.below HB3.out) 2 _ rfl
      have d3 := (HBL.out.below HB3.out) 3 _ rfl
      have d4 := (HBL.out.below HB3.out) 4 _ rfl
      have d5 := (HBL.out.below HB3.out) 5 _ rfl
      have d6 := (HBL.out.below HB3.out) 6 _ rfl
      have y0 := (HBX.out.below HB3.out) 0 _ rfl
      have y1 := (HBX.out.below HB3.out) 1 _ rfl
      have y2 := (HBX.out.below HB3.out) 2 _ rfl
      have z0 := (HBG.out.below HB3.out) 0 _ rfl
      have z1 := (HBG.out.below HB3.out) 1 _ rfl
      have z2 := (HBG.out.below HB3.out) 2 _ rfl
      by_cases h1 : r' = r
      · have t1 : (r' != r) = false := by simp [h1]
        by_cases h2 : c' = n
        · have t2 : (c' != n) = false := by simp [h2]
          have HSH := hide (show g.rows = x.rows ∧ g.cols = givesL l x.cols by rw [HN.out]; obtain ⟨_, a2, _, a4, a5⟩ := HEC.out; rw [a2, a4, a5]; exact ⟨h1, h2⟩)
          clear h1 h2
          by_cases hk : k = 1
          · have t3 : (k == 1) = true := by simp [hk]
            by_cases hr : 12 < r
            · have HE := hide (backE_f HL.out HX.out HSH.out ⟨by rw [HEC.out.1]; exact hk, by rw [HEC.out.2.1]; exact hr⟩).symm
              clear hk
              go_wp2
              go_ret
              exact ⟨ret_int HE.out, below_next HBW.out HB3.out⟩
            · have HE := hide (backE_of HL.out HX.out HSH.out.1 HSH.out.2 (fun h => hr (by rw [← HEC.out.2.1]; exact h.2))).symm
              clear hk
              go_wp2
              go_ret
              exact ⟨ret_int HE.out, below_next HBW.out HB3.out⟩
          · have t3 : (k == 1) = false := by simp [hk]
            have HE := hide (backE_of HL.out HX.out HSH.out.1 HSH.out.2 (fun h => hk (by rw [← HEC.out.1]; exact h.1))).symm
            clear hk
            go_wp2
            go_ret
            exact ⟨ret_int HE.out, below_next HBW.out HB3.out⟩
        · have t2 : (c' != n) = true := by simp [h2]
          have HE := hide (backE_s HL.out HX.out (g := g) (fun h => h2 (by obtain ⟨_, a2, _, a4, a5⟩ := HEC.out; rw [← HN.out, ← a5]; exact h.2))).symm
          clear h1 h2
          go_wp2
          go_ret
          exact ⟨ret_int HE.out, below_next HBW.out HB3.out⟩
      · have t1 : (r' != r) = true := by simp [h1]
        have HE := hide (backE_s HL.out HX.out (g := g) (fun h => h1 (by obtain ⟨_, a2, _, a4, a5⟩ := HEC.out; rw [← a2, ← a4]; exact h.1))).symm
        clear h1
        go_wp2
        go_ret
        exact ⟨ret_int HE.out, below_next HBW.out HB3.out⟩
    · obtain ⟨j, hj⟩ : ∃ j, fault g = j := ⟨_, rfl⟩
      have hj0 : (j == 0) = false := by rw [← hj]; simp [hx]
      have hj1 : (j != 0) = true := by rw [← hj]; simp [hx]
      have HE := hide (show j = backE l x g by rw [backE_g HL.out hx, hj])
      rw [hj]
      clear hx hj
      go_wp2
      go_ret
      exact ⟨ret_int HE.out, below_next HBW.out HB2.out⟩
  · obtain ⟨j, hj⟩ : ∃ j, goE l x = j := ⟨_, rfl⟩
    have hj0 : (j == 0) = false := by rw [← hj]; simp [hl]
    have hj1 : (j != 0) = true := by rw [← hj]; simp [hl]
    have HE := hide (show j = backE l x g by rw [backE_go hl, hj])
    rw [hj]
    clear hl hj
    go_wp2
    go_ret
    exact ⟨ret_int HE.out, below_next HBW.out HB1.out⟩
end Go.Proofs.YtbkkhdekjgabfadDoor
