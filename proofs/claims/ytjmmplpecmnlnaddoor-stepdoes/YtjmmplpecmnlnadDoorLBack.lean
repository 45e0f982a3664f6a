/- What back of the kinds Linear, Relu and Shift of package layer comes to. -/
import Derived.Test.YtjmmplpecmnlnadDoorLGrad
namespace Go.Proofs.YtjmmplpecmnlnadDoor
open Go.RowKit
theorem Above.drew {n : Nat} {w u : World} (h : Above n w u) : Above n w u.drew := h
theorem above9 {n B C : Nat} (hB : B < n) (hC : C < n) (u : World) (x0 x1 x2 y0 y1 y2 y3 y4 y5 : Value) : Above n u (((((((((u.setCell ⟨B, 0, none⟩ x0).setCell ⟨B, 1, none⟩ x1).setCell ⟨B, 2, none⟩ x2).setCell ⟨C, 0, none⟩ y0).setCell ⟨C, 1, none⟩ y1).setCell ⟨C, 2, none⟩ y2).setCell ⟨C, 3, none⟩ y3).setCell ⟨C, 4, none⟩ y4).setCell ⟨C, 5, none⟩ y5) := above6 hC (above3 hB u x0 x1 x2) y0 y1 y2 y3 y4 y5
theorem below9 {V u : World} {B C : Nat} (h : Below V.heap.size V u) (hB : V.heap.size ≤ B) (hC : V.heap.size ≤ C) (x0 x1 x2 y0 y1 y2 y3 y4 y5 : Value) : Below V.heap.size V (((((((((u.setCell ⟨B, 0, none⟩ x0).setCell ⟨B, 1, none⟩ x1).setCell ⟨B, 2, none⟩ x2).setCell ⟨C, 0, none⟩ y0).setCell ⟨C, 1, none⟩ y1).setCell ⟨C, 2, none⟩ y2).setCell ⟨C, 3, none⟩ y3).setCell ⟨C, 4, none⟩ y4).setCell ⟨C, 5, none⟩ y5) := below6 (below_set3 h hB x0 x1 x2) hC y0 y1 y2 y3 y4 y5
set_option maxHeartbeats 1600000 in
theorem back_linear (l : Ly) {xa : Option Addr} {xn xk : Nat} {ya : Option Addr} {yn yk : Nat} (x g : Mx) (vx vg : Value) (w : World) (R Rw Cw : Nat) (gx : Good x R Rw) (gw : Good l.w Rw Cw) (gg : Good g R Cw) (hw : Rw ≤ 12) (hR : R ≤ 12) (hs : IsInts w (.slice xa xn xk) l.w.cells) (hx : IsMx w vx x) (hg : IsMx w vg g) :
    Calls Tryd.prog 112 #[.agg #[.int .i64 l.w.rows, .int .i64 l.w.cols, .slice xa xn xk, .int .i64 l.b.rows, .int .i64 l.b.cols, .slice ya yn yk], vx, vg] w (BackErr w (mulX g (turnX l.w)) (mulX (turnX x) g) (sumsX g) 0) := by
  obtain ⟨sx, rfl, hsx⟩ := hx
  obtain ⟨sg, rfl, hsg⟩ := hg
  obtain ⟨za, zn, zk, rfl⟩ := hsx.shape
  obtain ⟨ga, gn, gk, rfl⟩ := hsg.shape
  obtain ⟨wr, e1⟩ : ∃ r, l.w.rows = r := ⟨_, rfl⟩
  obtain ⟨wc, e2⟩ : ∃ r, l.w.cols = r := ⟨_, rfl⟩
  obtain ⟨br, e3⟩ : ∃ r, l.b.rows = r := ⟨_, rfl⟩
  obtain ⟨bc, e4⟩ : ∃ r, l.b.cols = r := ⟨_, rfl⟩
  obtain ⟨r, e5⟩ : ∃ r, x.rows = r := ⟨_, rfl⟩
  obtain ⟨c, e6⟩ : ∃ r, x.cols = r := ⟨_, rfl⟩
  obtain ⟨r', e7⟩ : ∃ r, g.rows = r := ⟨_, rfl⟩
  obtain ⟨c', e8⟩ : ∃ r, g.cols = r := ⟨_, rfl⟩
  have HMT := hide (fun W (h : Below w.heap.size w W) => multurned_any _ _ g l.w W R Rw Cw gg gw hw ⟨_, rfl, hsg.below h⟩ ⟨_, rfl, hs.below h⟩)
  obtain ⟨t, ht⟩ : ∃ t, mulX g (turnX l.w) = t := ⟨_, rfl⟩
  have HGR := hide (fun W (h : Below w.heap.size w W) => grad_any _ _ x g W R Rw Cw gx gg hR ⟨_, rfl, hsx.below h⟩ ⟨_, rfl, hsg.below h⟩)
  obtain ⟨p, hp⟩ : ∃ p, mulX (turnX x) g = p := ⟨_, rfl⟩
  obtain ⟨q, hq⟩ : ∃ q, sumsX g = q := ⟨_, rfl⟩
  rw [ht] at HMT ⊢
  rw [hp, hq] at HGR ⊢
  rw [e7, e8, e1, e2] at HMT
  rw [e5, e6, e7, e8] at HGR
  rw [e1, e2, e3, e4, e5, e6, e7, e8]
  obtain ⟨V, hV⟩ : ∃ V, V = (((((w.alloc (.cells #[.int .i64 wr, .int .i64 wc, .slice xa xn xk, .int .i64 br, .int .i64 bc, .slice ya yn yk] 144)).alloc (.cells #[.int .i64 r, .int .i64 c, .slice za zn zk] 25)).alloc (.cells #[.int .i64 r', .int .i64 c', .slice ga gn gk] 25)).alloc (.cells #[.int .i64 0, .int .i64 0, .slice none 0 0] 25)).alloc (.cells #[.int .i64 0, .int .i64 0, .slice none 0 0, .int .i64 0, .int .i64 0, .slice none 0 0] 57)) := ⟨_, rfl⟩
  have HV := hide hV
  have HBW : Hid (Below w.heap.size w V) := by rw [hV]; exact hide (below_next (below_next (below_next (below_next (below_one _ _) (below_one _ _)) (below_one _ _)) (below_one _ _)) (below_one _ _))
  have HBK : Hid (Box V w.heap.size [.int .i64 wr, .int .i64 wc, .slice xa xn xk, .int .i64 br, .int .i64 bc, .slice ya yn yk]) := by rw [hV]; exact hide (((((Box.new w [.int .i64 wr, .int .i64 wc, .slice xa xn xk, .int .i64 br, .int .i64 bc, .slice ya yn yk] 144 rfl).below (below_one _ _)).below (below_one _ _)).below (below_one _ _)).below (below_one _ _))
  have HBX : Hid (Box V (w.heap.size + 1) [.int .i64 r, .int .i64 c, .slice za zn zk]) := by rw [hV]; exact hide ((((Box.new _ [.int .i64 r, .int .i64 c, .slice za zn zk] 25 (by simp)).below (below_one _ _)).below (below_one _ _)).below (below_one _ _))
  have HBG : Hid (Box V (w.heap.size + 1 + 1) [.int .i64 r', .int .i64 c', .slice ga gn gk]) := by rw [hV]; exact hide (((Box.new _ [.int .i64 r', .int .i64 c', .slice ga gn gk] 25 (by simp)).below (below_one _ _)).below (below_one _ _))
  have HQ : Hid (Box V (w.heap.size + 1 + 1 + 1) [.int .i64 0, .int .i64 0, .slice none 0 0]) := by rw [hV]; exact hide ((Box.new _ [.int .i64 0, .int .i64 0, .slice none 0 0] 25 (by simp)).below (below_one _ _))
  have HFR : Hid (Free V (w.heap.size + 1 + 1 + 1)) := by rw [hV]; exact hide ((Free.new _ _ 25 (by simp)).below (below_one _ _) (by simp))
  have HP : Hid (Box V (w.heap.size + 1 + 1 + 1 + 1) [.int .i64 0, .int .i64 0, .slice none 0 0, .int .i64 0, .int .i64 0, .slice none 0 0]) := by rw [hV]; exact hide (Box.new _ [.int .i64 0, .int .i64 0, .slice none 0 0, .int .i64 0, .int .i64 0, .slice none 0 0] 57 (by simp))
  have HFP : Hid (Free V (w.heap.size + 1 + 1 + 1 + 1)) := by rw [hV]; exact hide (Free.new _ _ 57 (by simp))
  have HL := hide HQ.out.lt
  have HM2 := hide HP.out.lt
  clear hV
  clear hs hsx hsg e1 e2 e3 e4 e5 e6 e7 e8 ht hp hq gx gw gg hw hR
  have d0 := HBK.out 0 _ rfl
  have d1 := HBK.out 1 _ rfl
  have d2 := HBK.out 2 _ rfl
  have y0 := HBG.out 0 _ rfl
  have y1 := HBG.out 1 _ rfl
  have y2 := HBG.out 2 _ rfl
  go_enter Tryd.func112, Tryd.ntmps112
  go_wp2_with fail
  rw [← HV.out]
  refine (HMT.out _ HBW.out).mono ?_
  intro e w1 h
  have HF := hide h.fresh_any
  obtain ⟨ta, tn, tk, rfl, htm, hb1⟩ := h.good rfl
  have HTF := hide (HF.out _ _ rfl)
  have HD := hide (below_next hb1 (below_one w1 (.cells #[.int .i64 t.rows, .int .i64 t.cols, .slice ta tn tk] 25)))
  have HTM := hide (htm.below (below_one w1 (.cells #[.int .i64 t.rows, .int .i64 t.cols, .slice ta tn tk] 25)))
  have HTB := hide (Box.new w1 [.int .i64 t.rows, .int .i64 t.cols, .slice ta tn tk] 25 rfl)
  clear h htm hb1 HMT HF d0 d1 d2 y0 y1 y2
  have d0 := (HBX.out.below HD.out) 0 _ rfl
  have d1 := (HBX.out.below HD.out) 1 _ rfl
  have d2 := (HBX.out.below HD.out) 2 _ rfl
  have y0 := (HBG.out.below HD.out) 0 _ rfl
  have y1 := (HBG.out.below HD.out) 1 _ rfl
  have y2 := (HBG.out.below HD.out) 2 _ rfl
  go_wp2_with fail
  refine (HGR.out _ (below_next HBW.out HD.out)).mono ?_
  rintro e w2 ⟨dv, rfl, hd, hb2, hf2⟩
  obtain ⟨s1, s2, rfl, hs1, hs2⟩ := hd
  obtain ⟨ua, un, uk, rfl⟩ := hs1.shape
  obtain ⟨va, vn, vk, rfl⟩ := hs2.shape
  rw [err_eq rfl]
  have D2 := below_next hb2 (below_one w2 (.cells #[.int .i64 p.rows, .int .i64 p.cols, .slice ua un uk, .int .i64 q.rows, .int .i64 q.cols, .slice va vn vk] 57))
  have HD2 := hide (below_next HD.out D2)
  have HTB2 := hide (HTB.out.below D2)
  have HTM2 := hide (HTM.out.below D2)
  have HU := hide (hs1.below (below_one w2 (.cells #[.int .i64 p.rows, .int .i64 p.cols, .slice ua un uk, .int .i64 q.rows, .int .i64 q.cols, .slice va vn vk] 57)))
  have HVV := hide (hs2.below (below_one w2 (.cells #[.int .i64 p.rows, .int .i64 p.cols, .slice ua un uk, .int .i64 q.rows, .int .i64 q.cols, .slice va vn vk] 57)))
  have hfr := hf2 _ _ _ _ _ _ _ _ _ _ rfl
  have HUF := hide (fresh_mono hfr.1 HD.out.size)
  have HVF := hide (fresh_mono hfr.2 HD.out.size)
  clear hb2 hf2 hs1 hs2 HGR d0 d1 d2 y0 y1 y2 D2 hfr HTB HTM
  have d0 := HTB2.out 0 _ rfl
  have d1 := HTB2.out 1 _ rfl
  have d2 := HTB2.out 2 _ rfl
  obtain ⟨U, hU⟩ : ∃ U, U = w2.alloc (.cells #[.int .i64 p.rows, .int .i64 p.cols, .slice ua un uk, .int .i64 q.rows, .int .i64 q.cols, .slice va vn vk] 57) := ⟨_, rfl⟩
  have HGB : Hid (Box U w2.heap.size [.int .i64 p.rows, .int .i64 p.cols, .slice ua un uk, .int .i64 q.rows, .int .i64 q.cols, .slice va vn vk]) := by rw [hU]; exact hide (Box.new w2 _ 57 rfl)
  have hBw : ¬ w2.heap.size = w.heap.size + 1 + 1 + 1 := by
    have h1 := HM2.out
    have h2 := HD2.out.size
    simp only [World.size_alloc] at h2
    omega
  rw [← hU] at HD2 HTM2 HU HVV d0 d1 d2
  have p0 := (HQ.out.below HD2.out) 0 _ rfl
  have p1 := (HQ.out.below HD2.out) 1 _ rfl
  have p2 := (HQ.out.below HD2.out) 2 _ rfl
  have f0 := (HFR.out.below HD2.out HL.out) 0
  have f1 := (HFR.out.below HD2.out HL.out) 1
  have f2 := (HFR.out.below HD2.out HL.out) 2
  have q0 := (HP.out.below HD2.out) 0 _ rfl
  have q1 := (HP.out.below HD2.out) 1 _ rfl
  have q2 := (HP.out.below HD2.out) 2 _ rfl
  have q3 := (HP.out.below HD2.out) 3 _ rfl
  have q4 := (HP.out.below HD2.out) 4 _ rfl
  have q5 := (HP.out.below HD2.out) 5 _ rfl
  have h0 := (HFP.out.below HD2.out HM2.out) 0
  have h1 := (HFP.out.below HD2.out HM2.out) 1
  have h2 := (HFP.out.below HD2.out HM2.out) 2
  have h3 := (HFP.out.below HD2.out HM2.out) 3
  have h4 := (HFP.out.below HD2.out HM2.out) 4
  have h5 := (HFP.out.below HD2.out HM2.out) 5
  have g0 := HGB.out 0 _ rfl
  have g1 := HGB.out 1 _ rfl
  have g2 := HGB.out 2 _ rfl
  have g3 := HGB.out 3 _ rfl
  have g4 := HGB.out 4 _ rfl
  have g5 := HGB.out 5 _ rfl
  have k0 := cell_set3 g0 (B := w.heap.size + 1 + 1 + 1) hBw (.int .i64 t.rows) (.int .i64 t.cols) (.slice ta tn tk)
  have k1 := cell_set3 g1 (B := w.heap.size + 1 + 1 + 1) hBw (.int .i64 t.rows) (.int .i64 t.cols) (.slice ta tn tk)
  have k2 := cell_set3 g2 (B := w.heap.size + 1 + 1 + 1) hBw (.int .i64 t.rows) (.int .i64 t.cols) (.slice ta tn tk)
  have k3 := cell_set3 g3 (B := w.heap.size + 1 + 1 + 1) hBw (.int .i64 t.rows) (.int .i64 t.cols) (.slice ta tn tk)
  have k4 := cell_set3 g4 (B := w.heap.size + 1 + 1 + 1) hBw (.int .i64 t.rows) (.int .i64 t.cols) (.slice ta tn tk)
  have k5 := cell_set3 g5 (B := w.heap.size + 1 + 1 + 1) hBw (.int .i64 t.rows) (.int .i64 t.cols) (.slice ta tn tk)
  go_wp2
  rw [← hU]
  clear hU
  go_region
  all_goals go_wp2
  all_goals
    have HA := above9 (B := w.heap.size + 1 + 1 + 1) (C := w.heap.size + 1 + 1 + 1 + 1) HL.out HM2.out U (.int .i64 t.rows) (.int .i64 t.cols) (.slice ta tn tk) (.int .i64 p.rows) (.int .i64 p.cols) (.slice ua un uk) (.int .i64 q.rows) (.int .i64 q.cols) (.slice va vn vk)
    exact bodyPost_ret (v := .tuple #[.agg #[.int .i64 t.rows, .int .i64 t.cols, .slice ta tn tk], .agg #[.int .i64 p.rows, .int .i64 p.cols, .slice ua un uk, .int .i64 q.rows, .int .i64 q.cols, .slice va vn vk], .nilIface]) (by simp [results, Tryd.results112, go_sem, p0, p1, p2, q0, q1, q2, q3, q4, q5]) rfl
      ⟨_, _, rfl, HTM2.out.above HTF.out HA.drew, two_of (HU.out.above HUF.out HA.drew) (HVV.out.above HVF.out HA.drew), below_dr (below9 (below_next HBW.out HD2.out) (B := w.heap.size + 1 + 1 + 1) (C := w.heap.size + 1 + 1 + 1 + 1) (by omega) (by omega) _ _ _ _ _ _ _ _ _), fresh_mono HTF.out HBW.out.size, fresh2_of (fresh_mono HUF.out HBW.out.size) (fresh_mono HVF.out HBW.out.size)⟩
set_option maxHeartbeats 1600000 in
theorem back_linear_far (l : Ly) {xa : Option Addr} {xn xk : Nat} {ya : Option Addr} {yn yk : Nat} (x g : Mx) (vx vg : Value) (w : World) (R Rw Cw : Nat) (gx : Good x R Rw) (gw : Good l.w Rw Cw) (gg : Good g R Cw) (hw : Rw ≤ 12) (hR : 12 < R) (hs : IsInts w (.slice xa xn xk) l.w.cells) (hx : IsMx w vx x) (hg : IsMx w vg g) :
    Calls Tryd.prog 112 #[.agg #[.int .i64 l.w.rows, .int .i64 l.w.cols, .slice xa xn xk, .int .i64 l.b.rows, .int .i64 l.b.cols, .slice ya yn yk], vx, vg] w (BackErr w noMx noMx noMx 1) := by
  obtain ⟨sx, rfl, hsx⟩ := hx
  obtain ⟨sg, rfl, hsg⟩ := hg
  obtain ⟨za, zn, zk, rfl⟩ := hsx.shape
  obtain ⟨ga, gn, gk, rfl⟩ := hsg.shape
  obtain ⟨wr, e1⟩ : ∃ r, l.w.rows = r := ⟨_, rfl⟩
  obtain ⟨wc, e2⟩ : ∃ r, l.w.cols = r := ⟨_, rfl⟩
  obtain ⟨br, e3⟩ : ∃ r, l.b.rows = r := ⟨_, rfl⟩
  obtain ⟨bc, e4⟩ : ∃ r, l.b.cols = r := ⟨_, rfl⟩
  obtain ⟨r, e5⟩ : ∃ r, x.rows = r := ⟨_, rfl⟩
  obtain ⟨c, e6⟩ : ∃ r, x.cols = r := ⟨_, rfl⟩
  obtain ⟨r', e7⟩ : ∃ r, g.rows = r := ⟨_, rfl⟩
  obtain ⟨c', e8⟩ : ∃ r, g.cols = r := ⟨_, rfl⟩
  have HMT := hide (fun W (h : Below w.heap.size w W) => multurned_any _ _ g l.w W R Rw Cw gg gw hw ⟨_, rfl, hsg.below h⟩ ⟨_, rfl, hs.below h⟩)
  obtain ⟨t, ht⟩ : ∃ t, mulX g (turnX l.w) = t := ⟨_, rfl⟩
  have HGR := hide (fun W (h : Below w.heap.size w W) => grad_far _ _ x g W R Rw gx hR ⟨_, rfl, hsx.below h⟩ ⟨_, rfl, hsg.below h⟩)
  rw [ht] at HMT
  rw [e7, e8, e1, e2] at HMT
  rw [e5, e6, e7, e8] at HGR
  rw [e1, e2, e3, e4, e5, e6, e7, e8]
  obtain ⟨V, hV⟩ : ∃ V, V = (((((w.alloc (.cells #[.int .i64 wr, .int .i64 wc, .slice xa xn xk, .int .i64 br, .int .i64 bc, .slice ya yn yk] 144)).alloc (.cells #[.int .i64 r, .int .i64 c, .slice za zn zk] 25)).alloc (.cells #[.int .i64 r', .int .i64 c', .slice ga gn gk] 25)).alloc (.cells #[.int .i64 0, .int .i64 0, .slice none 0 0] 25)).alloc (.cells #[.int .i64 0, .int .i64 0, .slice none 0 0, .int .i64 0, .int .i64 0, .slice none 0 0] 57)) := ⟨_, rfl⟩
  have HV := hide hV
  have HBW : Hid (Below w.heap.size w V) := by rw [hV]; exact hide (below_next (below_next (below_next (below_next (below_one _ _) (below_one _ _)) (below_one _ _)) (below_one _ _)) (below_one _ _))
  have HBK : Hid (Box V w.heap.size [.int .i64 wr, .int .i64 wc, .slice xa xn xk, .int .i64 br, .int .i64 bc, .slice ya yn yk]) := by rw [hV]; exact hide (((((Box.new w [.int .i64 wr, .int .i64 wc, .slice xa xn xk, .int .i64 br, .int .i64 bc, .slice ya yn yk] 144 rfl).below (below_one _ _)).below (below_one _ _)).below (below_one _ _)).below (below_one _ _))
  have HBX : Hid (Box V (w.heap.size + 1) [.int .i64 r, .int .i64 c, .slice za zn zk]) := by rw [hV]; exact hide ((((Box.new _ [.int .i64 r, .int .i64 c, .slice za zn zk] 25 (by simp)).below (below_one _ _)).below (below_one _ _)).below (below_one _ _))
  have HBG : Hid (Box V (w.heap.size + 1 + 1) [.int .i64 r', .int .i64 c', .slice ga gn gk]) := by rw [hV]; exact hide (((Box.new _ [.int .i64 r', .int .i64 c', .slice ga gn gk] 25 (by simp)).below (below_one _ _)).below (below_one _ _))
  have HQ : Hid (Box V (w.heap.size + 1 + 1 + 1) [.int .i64 0, .int .i64 0, .slice none 0 0]) := by rw [hV]; exact hide ((Box.new _ [.int .i64 0, .int .i64 0, .slice none 0 0] 25 (by simp)).below (below_one _ _))
  have HFR : Hid (Free V (w.heap.size + 1 + 1 + 1)) := by rw [hV]; exact hide ((Free.new _ _ 25 (by simp)).below (below_one _ _) (by simp))
  have HP : Hid (Box V (w.heap.size + 1 + 1 + 1 + 1) [.int .i64 0, .int .i64 0, .slice none 0 0, .int .i64 0, .int .i64 0, .slice none 0 0]) := by rw [hV]; exact hide (Box.new _ [.int .i64 0, .int .i64 0, .slice none 0 0, .int .i64 0, .int .i64 0, .slice none 0 0] 57 (by simp))
  have HFP : Hid (Free V (w.heap.size + 1 + 1 + 1 + 1)) := by rw [hV]; exact hide (Free.new _ _ 57 (by simp))
  have HL := hide HQ.out.lt
  have HM2 := hide HP.out.lt
  clear hV
  clear hs hsx hsg e1 e2 e3 e4 e5 e6 e7 e8 ht gx gw gg hw hR
  have d0 := HBK.out 0 _ rfl
  have d1 := HBK.out 1 _ rfl
  have d2 := HBK.out 2 _ rfl
  have y0 := HBG.out 0 _ rfl
  have y1 := HBG.out 1 _ rfl
  have y2 := HBG.out 2 _ rfl
  go_enter Tryd.func112, Tryd.ntmps112
  go_wp2_with fail
  rw [← HV.out]
  refine (HMT.out _ HBW.out).mono ?_
  intro e w1 h
  have HF := hide h.fresh_any
  obtain ⟨ta, tn, tk, rfl, htm, hb1⟩ := h.good rfl
  have HTF := hide (HF.out _ _ rfl)
  have HD := hide (below_next hb1 (below_one w1 (.cells #[.int .i64 t.rows, .int .i64 t.cols, .slice ta tn tk] 25)))
  have HTM := hide (htm.below (below_one w1 (.cells #[.int .i64 t.rows, .int .i64 t.cols, .slice ta tn tk] 25)))
  have HTB := hide (Box.new w1 [.int .i64 t.rows, .int .i64 t.cols, .slice ta tn tk] 25 rfl)
  clear h htm hb1 HMT HF d0 d1 d2 y0 y1 y2
  have d0 := (HBX.out.below HD.out) 0 _ rfl
  have d1 := (HBX.out.below HD.out) 1 _ rfl
  have d2 := (HBX.out.below HD.out) 2 _ rfl
  have y0 := (HBG.out.below HD.out) 0 _ rfl
  have y1 := (HBG.out.below HD.out) 1 _ rfl
  have y2 := (HBG.out.below HD.out) 2 _ rfl
  go_wp2_with fail
  refine (HGR.out _ (below_next HBW.out HD.out)).mono ?_
  rintro e w2 ⟨dv, rfl, hd, hb2, hf2⟩
  obtain ⟨s1, s2, rfl, hs1, hs2⟩ := hd
  obtain ⟨ua, un, uk, rfl⟩ := hs1.shape
  obtain ⟨va, vn, vk, rfl⟩ := hs2.shape
  rw [err_ne (show (1 : Int) ≠ 0 by decide)]
  have HD2 := hide (below_next (below_next HD.out hb2) (below_one w2 (.cells #[.int .i64 noMx.rows, .int .i64 noMx.cols, .slice ua un uk, .int .i64 noMx.rows, .int .i64 noMx.cols, .slice va vn vk] 57)))
  clear hb2 hf2 hs1 hs2 HGR d0 d1 d2 y0 y1 y2
  have p0 := (HQ.out.below HD2.out) 0 _ rfl
  have p1 := (HQ.out.below HD2.out) 1 _ rfl
  have p2 := (HQ.out.below HD2.out) 2 _ rfl
  have f0 := (HFR.out.below HD2.out HL.out) 0
  have f1 := (HFR.out.below HD2.out HL.out) 1
  have f2 := (HFR.out.below HD2.out HL.out) 2
  have q0 := (HP.out.below HD2.out) 0 _ rfl
  have q1 := (HP.out.below HD2.out) 1 _ rfl
  have q2 := (HP.out.below HD2.out) 2 _ rfl
  have q3 := (HP.out.below HD2.out) 3 _ rfl
  have q4 := (HP.out.below HD2.out) 4 _ rfl
  have q5 := (HP.out.below HD2.out) 5 _ rfl
  have h0 := (HFP.out.below HD2.out HM2.out) 0
  have h1 := (HFP.out.below HD2.out HM2.out) 1
  have h2 := (HFP.out.below HD2.out HM2.out) 2
  have h3 := (HFP.out.below HD2.out HM2.out) 3
  have h4 := (HFP.out.below HD2.out HM2.out) 4
  have h5 := (HFP.out.below HD2.out HM2.out) 5
  go_wp2
  exact bodyPost_ret (v := .tuple #[.agg #[.int .i64 0, .int .i64 0, .slice none 0 0], .agg #[.int .i64 0, .int .i64 0, .slice none 0 0, .int .i64 0, .int .i64 0, .slice none 0 0], .iface 30 (.int .i64 1)]) (by simp [results, Tryd.results112, go_sem, p0, p1, p2, q0, q1, q2, q3, q4, q5]) rfl
    ⟨_, _, rfl, isMx_no _, isTwo_no _, below9 (below_next HBW.out HD2.out) (B := w.heap.size + 1 + 1 + 1) (C := w.heap.size + 1 + 1 + 1 + 1) (by omega) (by omega) _ _ _ _ _ _ _ _ _, fresh_no _ _ _, fresh2_no _ _ _ _ _⟩
set_option maxHeartbeats 1600000 in
theorem back_relu (l : Ly) {xa : Option Addr} {xn xk : Nat} {ya : Option Addr} {yn yk : Nat} (x g : Mx) (vx vg : Value) (w : World) (R C : Nat) (gx : Good x R C) (gg : Good g R C) (hx : IsMx w vx x) (hg : IsMx w vg g) :
    Calls Tryd.prog 130 #[.agg #[.int .i64 l.w.rows, .int .i64 l.w.cols, .slice xa xn xk, .int .i64 l.b.rows, .int .i64 l.b.cols, .slice ya yn yk], vx, vg] w (BackErr w (reluB x g) noMx noMx 0) := by
  obtain ⟨sx, rfl, hsx⟩ := hx
  obtain ⟨sg, rfl, hsg⟩ := hg
  obtain ⟨za, zn, zk, rfl⟩ := hsx.shape
  obtain ⟨ga, gn, gk, rfl⟩ := hsg.shape
  obtain ⟨wr, e1⟩ : ∃ r, l.w.rows = r := ⟨_, rfl⟩
  obtain ⟨wc, e2⟩ : ∃ r, l.w.cols = r := ⟨_, rfl⟩
  obtain ⟨br, e3⟩ : ∃ r, l.b.rows = r := ⟨_, rfl⟩
  obtain ⟨bc, e4⟩ : ∃ r, l.b.cols = r := ⟨_, rfl⟩
  obtain ⟨r, e5⟩ : ∃ r, x.rows = r := ⟨_, rfl⟩
  obtain ⟨c, e6⟩ : ∃ r, x.cols = r := ⟨_, rfl⟩
  obtain ⟨r', e7⟩ : ∃ r, g.rows = r := ⟨_, rfl⟩
  obtain ⟨c', e8⟩ : ∃ r, g.cols = r := ⟨_, rfl⟩
  have eg := enters_of (f := 133) Tryd.func133 (by kernel_rfl) rfl
  have hn : g.cells.length ≤ 576 := by have := gg.l; have := Nat.mul_le_mul gg.hR gg.hC; omega
  have HEA := hide (fun W (h : Below w.heap.size w W) (hB : BoxMx W (w.heap.size + 1) x) => each_new eg (w := W) (m := g) ⟨_, rfl, hsg.below h⟩ hn (reluB_gives (w.heap.size + 1) x g.cells W hB (by rw [gx.l, gg.l]) hn))
  have hq0 : eachX g (fun i => if 0 < cellAt x i then (g.cells[i]?).getD 0 else 0) = reluB x g := rfl
  rw [hq0] at HEA
  obtain ⟨t, ht⟩ : ∃ t, reluB x g = t := ⟨_, rfl⟩
  rw [ht] at HEA ⊢
  rw [e7, e8] at HEA
  have HEX := hide (And.intro e5 e6)
  have HSX := hide hsx
  rw [e1, e2, e3, e4, e5, e6, e7, e8]
  obtain ⟨V, hV⟩ : ∃ V, V = (((((w.alloc (.cells #[.int .i64 wr, .int .i64 wc, .slice xa xn xk, .int .i64 br, .int .i64 bc, .slice ya yn yk] 147)).alloc (.cells #[.int .i64 r, .int .i64 c, .slice za zn zk] 25)).alloc (.cells #[.int .i64 r', .int .i64 c', .slice ga gn gk] 25)).alloc (.cells #[.int .i64 0, .int .i64 0, .slice none 0 0] 25)).alloc (.cells #[.int .i64 0, .int .i64 0, .slice none 0 0, .int .i64 0, .int .i64 0, .slice none 0 0] 57)) := ⟨_, rfl⟩
  have HV := hide hV
  have HBW : Hid (Below w.heap.size w V) := by rw [hV]; exact hide (below_next (below_next (below_next (below_next (below_one _ _) (below_one _ _)) (below_one _ _)) (below_one _ _)) (below_one _ _))
  have HBK : Hid (Box V w.heap.size [.int .i64 wr, .int .i64 wc, .slice xa xn xk, .int .i64 br, .int .i64 bc, .slice ya yn yk]) := by rw [hV]; exact hide (((((Box.new w [.int .i64 wr, .int .i64 wc, .slice xa xn xk, .int .i64 br, .int .i64 bc, .slice ya yn yk] 147 rfl).below (below_one _ _)).below (below_one _ _)).below (below_one _ _)).below (below_one _ _))
  have HBX : Hid (Box V (w.heap.size + 1) [.int .i64 r, .int .i64 c, .slice za zn zk]) := by rw [hV]; exact hide ((((Box.new _ [.int .i64 r, .int .i64 c, .slice za zn zk] 25 (by simp)).below (below_one _ _)).below (below_one _ _)).below (below_one _ _))
  have HBG : Hid (Box V (w.heap.size + 1 + 1) [.int .i64 r', .int .i64 c', .slice ga gn gk]) := by rw [hV]; exact hide (((Box.new _ [.int .i64 r', .int .i64 c', .slice ga gn gk] 25 (by simp)).below (below_one _ _)).below (below_one _ _))
  have HQ : Hid (Box V (w.heap.size + 1 + 1 + 1) [.int .i64 0, .int .i64 0, .slice none 0 0]) := by rw [hV]; exact hide ((Box.new _ [.int .i64 0, .int .i64 0, .slice none 0 0] 25 (by simp)).below (below_one _ _))
  have HFR : Hid (Free V (w.heap.size + 1 + 1 + 1)) := by rw [hV]; exact hide ((Free.new _ _ 25 (by simp)).below (below_one _ _) (by simp))
  have HP : Hid (Box V (w.heap.size + 1 + 1 + 1 + 1) [.int .i64 0, .int .i64 0, .slice none 0 0, .int .i64 0, .int .i64 0, .slice none 0 0]) := by rw [hV]; exact hide (Box.new _ [.int .i64 0, .int .i64 0, .slice none 0 0, .int .i64 0, .int .i64 0, .slice none 0 0] 57 (by simp))
  have HFP : Hid (Free V (w.heap.size + 1 + 1 + 1 + 1)) := by rw [hV]; exact hide (Free.new _ _ 57 (by simp))
  have HL := hide HQ.out.lt
  have HM2 := hide HP.out.lt
  clear hV
  have HBM := hide (show BoxMx V (w.heap.size + 1) x from ⟨_, by rw [HEX.out.1]; exact HBX.out 0 _ rfl, by rw [HEX.out.2]; exact HBX.out 1 _ rfl, HBX.out 2 _ rfl, HSX.out.below HBW.out⟩)
  clear hsx hsg e1 e2 e3 e4 e5 e6 e7 e8 ht gx gg eg hq0 hn HEX HSX HBK
  have y0 := HBG.out 0 _ rfl
  have y1 := HBG.out 1 _ rfl
  have y2 := HBG.out 2 _ rfl
  go_enter Tryd.func130, Tryd.ntmps130
  go_wp2_with fail
  rw [← HV.out]
  refine (HEA.out _ HBW.out HBM.out).mono ?_
  rintro e w1 ⟨ta, tn, tk, rfl, hnew, hb1⟩
  have HD := hide (below_next hb1 (below_one w1 (.cells #[.int .i64 t.rows, .int .i64 t.cols, .slice ta tn tk] 25)))
  have HTI := hide (hnew.isInts.below (below_one w1 (.cells #[.int .i64 t.rows, .int .i64 t.cols, .slice ta tn tk] 25)))
  have HTF := hide (hnew.fresh (Nat.le_refl _) (.int .i64 t.rows) (.int .i64 t.cols))
  clear hnew hb1 HEA y0 y1 y2
  have p0 := (HQ.out.below HD.out) 0 _ rfl
  have p1 := (HQ.out.below HD.out) 1 _ rfl
  have p2 := (HQ.out.below HD.out) 2 _ rfl
  have f0 := (HFR.out.below HD.out HL.out) 0
  have f1 := (HFR.out.below HD.out HL.out) 1
  have f2 := (HFR.out.below HD.out HL.out) 2
  have q0 := (HP.out.below HD.out) 0 _ rfl
  have q1 := (HP.out.below HD.out) 1 _ rfl
  have q2 := (HP.out.below HD.out) 2 _ rfl
  have q3 := (HP.out.below HD.out) 3 _ rfl
  have q4 := (HP.out.below HD.out) 4 _ rfl
  have q5 := (HP.out.below HD.out) 5 _ rfl
  have h0 := (HFP.out.below HD.out HM2.out) 0
  have h1 := (HFP.out.below HD.out HM2.out) 1
  have h2 := (HFP.out.below HD.out HM2.out) 2
  have h3 := (HFP.out.below HD.out HM2.out) 3
  have h4 := (HFP.out.below HD.out HM2.out) 4
  have h5 := (HFP.out.below HD.out HM2.out) 5
  go_wp2
  have HA := above9 (B := w.heap.size + 1 + 1 + 1) (C := w.heap.size + 1 + 1 + 1 + 1) HL.out HM2.out (w1.alloc (.cells #[.int .i64 t.rows, .int .i64 t.cols, .slice ta tn tk] 25)) (.int .i64 t.rows) (.int .i64 t.cols) (.slice ta tn tk) (.int .i64 0) (.int .i64 0) (.slice none 0 0) (.int .i64 0) (.int .i64 0) (.slice none 0 0)
  exact bodyPost_ret (v := .tuple #[.agg #[.int .i64 t.rows, .int .i64 t.cols, .slice ta tn tk], .agg #[.int .i64 0, .int .i64 0, .slice none 0 0, .int .i64 0, .int .i64 0, .slice none 0 0], .nilIface]) (by simp [results, Tryd.results130, go_sem, p0, p1, p2, q0, q1, q2, q3, q4, q5]) rfl
    ⟨_, _, rfl, ⟨_, rfl, HTI.out.above HTF.out HA⟩, isTwo_no _, below9 (below_next HBW.out HD.out) (B := w.heap.size + 1 + 1 + 1) (C := w.heap.size + 1 + 1 + 1 + 1) (by omega) (by omega) _ _ _ _ _ _ _ _ _, fresh_mono HTF.out HBW.out.size, fresh2_no _ _ _ _ _⟩
set_option maxHeartbeats 1600000 in
theorem back_shift (l : Ly) {xa : Option Addr} {xn xk : Nat} {ya : Option Addr} {yn yk : Nat} (x g : Mx) (vx vg : Value) (w : World) (R C : Nat) (gg : Good g R C) (hx : IsMx w vx x) (hg : IsMx w vg g) :
    Calls Tryd.prog 140 #[.agg #[.int .i64 l.w.rows, .int .i64 l.w.cols, .slice xa xn xk, .int .i64 l.b.rows, .int .i64 l.b.cols, .slice ya yn yk], vx, vg] w (BackErr w (eachX g (cellAt g)) noMx (sumsX g) 0) := by
  obtain ⟨sx, rfl, hsx⟩ := hx
  obtain ⟨sg, rfl, hsg⟩ := hg
  obtain ⟨za, zn, zk, rfl⟩ := hsx.shape
  obtain ⟨ga, gn, gk, rfl⟩ := hsg.shape
  obtain ⟨wr, e1⟩ : ∃ r, l.w.rows = r := ⟨_, rfl⟩
  obtain ⟨wc, e2⟩ : ∃ r, l.w.cols = r := ⟨_, rfl⟩
  obtain ⟨br, e3⟩ : ∃ r, l.b.rows = r := ⟨_, rfl⟩
  obtain ⟨bc, e4⟩ : ∃ r, l.b.cols = r := ⟨_, rfl⟩
  obtain ⟨r, e5⟩ : ∃ r, x.rows = r := ⟨_, rfl⟩
  obtain ⟨c, e6⟩ : ∃ r, x.cols = r := ⟨_, rfl⟩
  obtain ⟨r', e7⟩ : ∃ r, g.rows = r := ⟨_, rfl⟩
  obtain ⟨c', e8⟩ : ∃ r, g.cols = r := ⟨_, rfl⟩
  have eg := enters_of (f := 144) Tryd.func144 (by kernel_rfl) rfl
  have hn : g.cells.length ≤ 576 := by have := gg.l; have := Nat.mul_le_mul gg.hR gg.hC; omega
  have HEA := hide (fun W (h : Below w.heap.size w W) => each_new eg (w := W) (m := g) ⟨_, rfl, hsg.below h⟩ hn (copy_gives g.cells W))
  have hq0 : eachX g (fun i => (g.cells[i]?).getD 0) = eachX g (cellAt g) := rfl
  rw [hq0] at HEA
  obtain ⟨t, ht⟩ : ∃ t, eachX g (cellAt g) = t := ⟨_, rfl⟩
  rw [ht] at HEA ⊢
  have HS := hide (fun W (h : Below w.heap.size w W) => msums_any _ g W ⟨_, rfl, hsg.below h⟩)
  have HE3 := hide (show timesE g = 0 by unfold timesE; rw [if_neg (by simp [gg.fault])])
  obtain ⟨q, hq⟩ : ∃ q, sumsX g = q := ⟨_, rfl⟩
  rw [hq] at HS ⊢
  rw [e7, e8] at HEA HS
  rw [e1, e2, e3, e4, e5, e6, e7, e8]
  obtain ⟨V, hV⟩ : ∃ V, V = (((((w.alloc (.cells #[.int .i64 wr, .int .i64 wc, .slice xa xn xk, .int .i64 br, .int .i64 bc, .slice ya yn yk] 149)).alloc (.cells #[.int .i64 r, .int .i64 c, .slice za zn zk] 25)).alloc (.cells #[.int .i64 r', .int .i64 c', .slice ga gn gk] 25)).alloc (.cells #[.int .i64 0, .int .i64 0, .slice none 0 0] 25)).alloc (.cells #[.int .i64 0, .int .i64 0, .slice none 0 0, .int .i64 0, .int .i64 0, .slice none 0 0] 57)) := ⟨_, rfl⟩
  have HV := hide hV
  have HBW : Hid (Below w.heap.size w V) := by rw [hV]; exact hide (below_next (below_next (below_next (below_next (below_one _ _) (below_one _ _)) (below_one _ _)) (below_one _ _)) (below_one _ _))
  have HBK : Hid (Box V w.heap.size [.int .i64 wr, .int .i64 wc, .slice xa xn xk, .int .i64 br, .int .i64 bc, .slice ya yn yk]) := by rw [hV]; exact hide (((((Box.new w [.int .i64 wr, .int .i64 wc, .slice xa xn xk, .int .i64 br, .int .i64 bc, .slice ya yn yk] 149 rfl).below (below_one _ _)).below (below_one _ _)).below (below_one _ _)).below (below_one _ _))
  have HBX : Hid (Box V (w.heap.size + 1) [.int .i64 r, .int .i64 c, .slice za zn zk]) := by rw [hV]; exact hide ((((Box.new _ [.int .i64 r, .int .i64 c, .slice za zn zk] 25 (by simp)).below (below_one _ _)).below (below_one _ _)).below (below_one _ _))
  have HBG : Hid (Box V (w.heap.size + 1 + 1) [.int .i64 r', .int .i64 c', .slice ga gn gk]) := by rw [hV]; exact hide (((Box.new _ [.int .i64 r', .int .i64 c', .slice ga gn gk] 25 (by simp)).below (below_one _ _)).below (below_one _ _))
  have HQ : Hid (Box V (w.heap.size + 1 + 1 + 1) [.int .i64 0, .int .i64 0, .slice none 0 0]) := by rw [hV]; exact hide ((Box.new _ [.int .i64 0, .int .i64 0, .slice none 0 0] 25 (by simp)).below (below_one _ _))
  have HFR : Hid (Free V (w.heap.size + 1 + 1 + 1)) := by rw [hV]; exact hide ((Free.new _ _ 25 (by simp)).below (below_one _ _) (by simp))
  have HP : Hid (Box V (w.heap.size + 1 + 1 + 1 + 1) [.int .i64 0, .int .i64 0, .slice none 0 0, .int .i64 0, .int .i64 0, .slice none 0 0]) := by rw [hV]; exact hide (Box.new _ [.int .i64 0, .int .i64 0, .slice none 0 0, .int .i64 0, .int .i64 0, .slice none 0 0] 57 (by simp))
  have HFP : Hid (Free V (w.heap.size + 1 + 1 + 1 + 1)) := by rw [hV]; exact hide (Free.new _ _ 57 (by simp))
  have HL := hide HQ.out.lt
  have HM2 := hide HP.out.lt
  clear hV
  clear hsx hsg e1 e2 e3 e4 e5 e6 e7 e8 ht hq gg eg hq0 hn HBK HBX
  have y0 := HBG.out 0 _ rfl
  have y1 := HBG.out 1 _ rfl
  have y2 := HBG.out 2 _ rfl
  go_enter Tryd.func140, Tryd.ntmps140
  go_wp2_with fail
  rw [← HV.out]
  refine (HS.out _ HBW.out).mono ?_
  intro e w1 h
  have HF := hide h.fresh_any
  obtain ⟨qa, qn, qk, rfl, hqm, hb1⟩ := h.good HE3.out
  have HQF := hide (HF.out _ _ rfl)
  have HD := hide (below_next hb1 (below_one w1 (.cells #[.int .i64 q.rows, .int .i64 q.cols, .slice qa qn qk] 25)))
  have HQM := hide (hqm.below (below_one w1 (.cells #[.int .i64 q.rows, .int .i64 q.cols, .slice qa qn qk] 25)))
  have HQB := hide (Box.new w1 [.int .i64 q.rows, .int .i64 q.cols, .slice qa qn qk] 25 rfl)
  clear h hqm hb1 HS HF y0 y1 y2
  have y0 := (HBG.out.below HD.out) 0 _ rfl
  have y1 := (HBG.out.below HD.out) 1 _ rfl
  have y2 := (HBG.out.below HD.out) 2 _ rfl
  go_wp2_with fail
  refine (HEA.out _ (below_next HBW.out HD.out)).mono ?_
  rintro e w2 ⟨ta, tn, tk, rfl, hnew, hb2⟩
  have D2 := below_next hb2 (below_one w2 (.cells #[.int .i64 t.rows, .int .i64 t.cols, .slice ta tn tk] 25))
  have HD2 := hide (below_next HD.out D2)
  have HQM2 := hide (HQM.out.below D2)
  have HQB2 := hide (HQB.out.below D2)
  have HTI := hide (hnew.isInts.below (below_one w2 (.cells #[.int .i64 t.rows, .int .i64 t.cols, .slice ta tn tk] 25)))
  have HTF := hide (fresh_mono (hnew.fresh (Nat.le_refl _) (.int .i64 t.rows) (.int .i64 t.cols)) HD.out.size)
  clear hnew hb2 HEA y0 y1 y2 D2 HQM HQB
  have d0 := HQB2.out 0 _ rfl
  have d1 := HQB2.out 1 _ rfl
  have d2 := HQB2.out 2 _ rfl
  obtain ⟨U, hU⟩ : ∃ U, U = w2.alloc (.cells #[.int .i64 t.rows, .int .i64 t.cols, .slice ta tn tk] 25) := ⟨_, rfl⟩
  have HGB : Hid (Box U w2.heap.size [.int .i64 t.rows, .int .i64 t.cols, .slice ta tn tk]) := by rw [hU]; exact hide (Box.new w2 _ 25 rfl)
  have hBw : ¬ w1.heap.size = w.heap.size + 1 + 1 + 1 := by
    have h1 := HM2.out
    have h2 := HD.out.size
    simp only [World.size_alloc] at h2
    omega
  rw [← hU] at HD2 HQM2 HTI d0 d1 d2
  have p0 := (HQ.out.below HD2.out) 0 _ rfl
  have p1 := (HQ.out.below HD2.out) 1 _ rfl
  have p2 := (HQ.out.below HD2.out) 2 _ rfl
  have f0 := (HFR.out.below HD2.out HL.out) 0
  have f1 := (HFR.out.below HD2.out HL.out) 1
  have f2 := (HFR.out.below HD2.out HL.out) 2
  have q0 := (HP.out.below HD2.out) 0 _ rfl
  have q1 := (HP.out.below HD2.out) 1 _ rfl
  have q2 := (HP.out.below HD2.out) 2 _ rfl
  have q3 := (HP.out.below HD2.out) 3 _ rfl
  have q4 := (HP.out.below HD2.out) 4 _ rfl
  have q5 := (HP.out.below HD2.out) 5 _ rfl
  have h0 := (HFP.out.below HD2.out HM2.out) 0
  have h1 := (HFP.out.below HD2.out HM2.out) 1
  have h2 := (HFP.out.below HD2.out HM2.out) 2
  have h3 := (HFP.out.below HD2.out HM2.out) 3
  have h4 := (HFP.out.below HD2.out HM2.out) 4
  have h5 := (HFP.out.below HD2.out HM2.out) 5
  have g0 := HGB.out 0 _ rfl
  have g1 := HGB.out 1 _ rfl
  have g2 := HGB.out 2 _ rfl
  have k0 := cell_set3 d0 (B := w.heap.size + 1 + 1 + 1) hBw (.int .i64 t.rows) (.int .i64 t.cols) (.slice ta tn tk)
  have k1 := cell_set3 d1 (B := w.heap.size + 1 + 1 + 1) hBw (.int .i64 t.rows) (.int .i64 t.cols) (.slice ta tn tk)
  have k2 := cell_set3 d2 (B := w.heap.size + 1 + 1 + 1) hBw (.int .i64 t.rows) (.int .i64 t.cols) (.slice ta tn tk)
  go_wp2
  rw [← hU]
  clear hU
  go_region
  all_goals go_wp2
  all_goals
    have HA := above9 (B := w.heap.size + 1 + 1 + 1) (C := w.heap.size + 1 + 1 + 1 + 1) HL.out HM2.out U (.int .i64 t.rows) (.int .i64 t.cols) (.slice ta tn tk) (.int .i64 0) (.int .i64 0) (.slice none 0 0) (.int .i64 q.rows) (.int .i64 q.cols) (.slice qa qn qk)
    exact bodyPost_ret (v := .tuple #[.agg #[.int .i64 t.rows, .int .i64 t.cols, .slice ta tn tk], .agg #[.int .i64 0, .int .i64 0, .slice none 0 0, .int .i64 q.rows, .int .i64 q.cols, .slice qa qn qk], .nilIface]) (by simp [results, Tryd.results140, go_sem, p0, p1, p2, q0, q1, q2, q3, q4, q5]) rfl
      ⟨_, _, rfl, ⟨_, rfl, HTI.out.above HTF.out HA.drew⟩, ⟨_, _, rfl, IsInts.nil _, HQM2.out.ints.above HQF.out HA.drew⟩, below_dr (below9 (below_next HBW.out HD2.out) (B := w.heap.size + 1 + 1 + 1) (C := w.heap.size + 1 + 1 + 1 + 1) (by omega) (by omega) _ _ _ _ _ _ _ _ _), fresh_mono HTF.out HBW.out.size, fresh2_of (fresh_no _ _ _) (fresh_mono HQF.out HBW.out.size)⟩
end Go.Proofs.YtjmmplpecmnlnadDoor
