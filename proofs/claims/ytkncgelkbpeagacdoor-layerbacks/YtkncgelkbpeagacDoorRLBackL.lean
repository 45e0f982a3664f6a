/- What BackOf of the document's answer comes to at the kind Linear: what goes back, and the Grad. -/
import Derived.Test.YtkncgelkbpeagacDoorRLBack
namespace Go.Proofs.YtkncgelkbpeagacDoor
open Go.RowKit
theorem two_set0 {w : World} {B : Nat} {a0 a1 a2 a3 a4 a5 : Value} (h : Box w B [a0, a1, a2, a3, a4, a5]) (x y z : Value) : Box (((w.setCell ⟨B, 0, none⟩ x).setCell ⟨B, 1, none⟩ y).setCell ⟨B, 2, none⟩ z) B [x, y, z, a3, a4, a5] := by
  have o : ∀ (u : World) (i j : Nat) (v : Value), i ≠ j → (u.setCell ⟨B, i, none⟩ v).cell? ⟨B, j, none⟩ = u.cell? ⟨B, j, none⟩ := fun u i j v hij => cell_at_other u B i j v hij
  intro j v hv
  match j, hv with
  | 3, hv => simp at hv; subst hv; rw [o _ 2 3 _ (by decide), o _ 1 3 _ (by decide), o _ 0 3 _ (by decide)]; exact h 3 _ rfl
  | 4, hv => simp at hv; subst hv; rw [o _ 2 4 _ (by decide), o _ 1 4 _ (by decide), o _ 0 4 _ (by decide)]; exact h 4 _ rfl
  | 5, hv => simp at hv; subst hv; rw [o _ 2 5 _ (by decide), o _ 1 5 _ (by decide), o _ 0 5 _ (by decide)]; exact h 5 _ rfl
  | 0, hv => simp at hv; subst hv; rw [o _ 2 0 _ (by decide), o _ 1 0 _ (by decide)]; exact World.cell?_setCell_same _ _ _ (h 0 _ rfl)
  | 1, hv => simp at hv; subst hv; rw [o _ 2 1 _ (by decide)]; exact World.cell?_setCell_same _ _ _ ((o _ 0 1 _ (by decide)).trans (h 1 _ rfl))
  | 2, hv => simp at hv; subst hv; exact World.cell?_setCell_same _ _ _ ((o _ 1 2 _ (by decide)).trans ((o _ 0 2 _ (by decide)).trans (h 2 _ rfl)))
theorem above345 {n B : Nat} (hB : B < n) (u : World) (x0 x1 x2 : Value) : Above n u (((u.setCell ⟨B, 3, none⟩ x0).setCell ⟨B, 4, none⟩ x1).setCell ⟨B, 5, none⟩ x2) := (((Above.refl n u).set hB 3 x0).set hB 4 x1).set hB 5 x2
theorem below_set345 {V u : World} {B : Nat} (h : Below V.heap.size V u) (hB : V.heap.size ≤ B) (x y z : Value) : Below V.heap.size V (((u.setCell ⟨B, 3, none⟩ x).setCell ⟨B, 4, none⟩ y).setCell ⟨B, 5, none⟩ z) := ((h.setCell hB _).setCell hB _).setCell hB _
set_option maxHeartbeats 8000000 in
set_option maxRecDepth 100000 in
theorem rback_linear (l : Ly) {xa : Option Addr} {xn xk : Nat} {ya : Option Addr} {yn yk : Nat} (x g : Mx) (vx vg : Value) (w : World) (hk : l.k = 1) (hE : backE l x g = 0) (hs : IsInts w (.slice xa xn xk) l.w.cells) (hx : IsMx w vx x) (hg : IsMx w vg g) :
    Calls Tryd.prog 16 #[.agg #[.int .i64 1, .int .i64 l.w.rows, .int .i64 l.w.cols, .slice xa xn xk, .int .i64 l.b.rows, .int .i64 l.b.cols, .slice ya yn yk], vx, vg] w (RefBack w (backX l x g) (gradW l x g) (gradB l x g)) := by
  obtain ⟨sx, rfl, hsx⟩ := hx
  obtain ⟨za, zn, zk, rfl⟩ := hsx.shape
  obtain ⟨sg, rfl, hsg⟩ := hg
  obtain ⟨ga, gn, gk, rfl⟩ := hsg.shape
  obtain ⟨wr, e1⟩ : ∃ r, l.w.rows = r := ⟨_, rfl⟩
  obtain ⟨wc, e2⟩ : ∃ r, l.w.cols = r := ⟨_, rfl⟩
  obtain ⟨br, e3⟩ : ∃ r, l.b.rows = r := ⟨_, rfl⟩
  obtain ⟨bc, e4⟩ : ∃ r, l.b.cols = r := ⟨_, rfl⟩
  obtain ⟨r, e5⟩ : ∃ r, x.rows = r := ⟨_, rfl⟩
  obtain ⟨c, e6⟩ : ∃ r, x.cols = r := ⟨_, rfl⟩
  obtain ⟨r', e7⟩ : ∃ r, g.rows = r := ⟨_, rfl⟩
  obtain ⟨c', e8⟩ : ∃ r, g.cols = r := ⟨_, rfl⟩
  obtain ⟨hgo, hfg, s1, s2, s3⟩ := backE_zero hE
  obtain ⟨hl, hfx, htk⟩ := goE_zero hgo
  obtain ⟨R, Cx, gx⟩ := good_of hfx
  obtain ⟨Rg, Cg, gg⟩ := good_of hfg
  obtain ⟨Rw, C, gw, h2⟩ : ∃ Rw C, Good l.w Rw C ∧ Rw ≤ 12 := by
    cases lyG_of hl with
    | lin Rw Cw _ gw _ _ h2 _ => exact ⟨Rw, Cw, gw, h2⟩
    | relu hk' _ _ => omega
    | scale hk' _ _ => omega
    | shift _ hk' _ _ _ => omega
  have hC : Cx = Rw := by have := takes_lin hk htk; have := gw.r; have := gx.c; omega
  subst hC
  have eg : givesL l x.cols = l.w.cols := by unfold givesL; rw [if_pos hk]
  have gg := gg.same (R' := R) (C' := C) (by have := gg.r; have := gx.r; omega) (by have := gg.c; have := gw.c; omega)
  have hR : R ≤ 12 := by have := gx.r; omega
  have hX : backX l x g = mulX g (turnX l.w) := by unfold backX backG; rw [if_pos hE, if_pos hk]
  have hW : gradW l x g = mulX (turnX x) g := by unfold gradW; rw [if_pos hE, if_pos hk]
  have hB : gradB l x g = sumsX g := by unfold gradB; rw [if_pos hE, if_pos (.inl hk)]
  rw [hX, hW, hB]
  have HC1 := hide (fun W (h : Below w.heap.size w W) => ref_turn W (va := .agg #[.int .i64 l.w.rows, .int .i64 l.w.cols, .slice xa xn xk]) (a := l.w) ⟨_, rfl, hs.below h⟩ (gw.turn0 h2) gw.fault)
  have HC2 := hide (fun W (h : Below w.heap.size w W) => ref_turn W (va := .agg #[.int .i64 x.rows, .int .i64 x.cols, .slice za zn zk]) (a := x) ⟨_, rfl, hsx.below h⟩ (gx.turn0 hR) hfx)
  have HC3 := hide (fun W v (h : Below w.heap.size w W) (ht : IsMx W v (turnX x)) => ref_mul W (va := v) (vb := .agg #[.int .i64 g.rows, .int .i64 g.cols, .slice ga gn gk]) (a := turnX x) (b := g) ht ⟨_, rfl, hsg.below h⟩ ((gx.turn hR).mul0 gg))
  have HC4 := hide (fun W (h : Below w.heap.size w W) => ref_sums W (va := .agg #[.int .i64 g.rows, .int .i64 g.cols, .slice ga gn gk]) (a := g) ⟨_, rfl, hsg.below h⟩ hfg)
  have HC5 := hide (fun W v (h : Below w.heap.size w W) (ht : IsMx W v (turnX l.w)) => ref_mul W (va := .agg #[.int .i64 g.rows, .int .i64 g.cols, .slice ga gn gk]) (vb := v) (a := g) (b := turnX l.w) ⟨_, rfl, hsg.below h⟩ ht (gg.mul0 (gw.turn h2)))
  obtain ⟨tw, htw⟩ : ∃ q, turnX l.w = q := ⟨_, rfl⟩
  obtain ⟨tx, htx⟩ : ∃ q, turnX x = q := ⟨_, rfl⟩
  rw [htw] at HC1 HC5 ⊢
  rw [htx] at HC2 HC3 ⊢
  obtain ⟨p, hp⟩ : ∃ q, mulX tx g = q := ⟨_, rfl⟩
  obtain ⟨q, hq⟩ : ∃ q, sumsX g = q := ⟨_, rfl⟩
  obtain ⟨t, ht⟩ : ∃ q, mulX g tw = q := ⟨_, rfl⟩
  rw [hp] at HC3 ⊢
  rw [hq] at HC4 ⊢
  rw [ht] at HC5 ⊢
  rw [e1, e2] at HC1
  rw [e5, e6] at HC2
  rw [e7, e8] at HC3 HC4 HC5
  rw [e1, e2, e3, e4, e5, e6, e7, e8]
  obtain ⟨V0, hV⟩ : ∃ V, V = ((((((w.alloc (.cells #[.int .i64 1, .int .i64 wr, .int .i64 wc, .slice xa xn xk, .int .i64 br, .int .i64 bc, .slice ya yn yk] 26)).alloc (.cells #[.int .i64 r, .int .i64 c, .slice za zn zk] 24)).alloc (.cells #[.int .i64 r', .int .i64 c', .slice ga gn gk] 24)).alloc (.cells #[.int .i64 0, .int .i64 0, .slice none 0 0] 24)).alloc (.cells #[.int .i64 0, .int .i64 0, .slice none 0 0, .int .i64 0, .int .i64 0, .slice none 0 0] 43)).alloc (.cells #[.int .i64 0, .int .i64 0, .slice none 0 0, .int .i64 0, .int .i64 0, .slice none 0 0] 43)) := ⟨_, rfl⟩
  have HV := hide hV
  have H0W : Hid (Below w.heap.size w V0) := by rw [hV]; exact hide (below_next (below_next (below_next (below_next (below_next (below_one _ _) (below_one _ _)) (below_one _ _)) (below_one _ _)) (below_one _ _)) (below_one _ _))
  have H0L : Hid (Box V0 w.heap.size [.int .i64 1, .int .i64 wr, .int .i64 wc, .slice xa xn xk, .int .i64 br, .int .i64 bc, .slice ya yn yk]) := by rw [hV]; exact hide ((((((Box.new w [.int .i64 1, .int .i64 wr, .int .i64 wc, .slice xa xn xk, .int .i64 br, .int .i64 bc, .slice ya yn yk] 26 rfl).below (below_one _ _)).below (below_one _ _)).below (below_one _ _)).below (below_one _ _)).below (below_one _ _))
  have H0X : Hid (Box V0 (w.heap.size + 1) [.int .i64 r, .int .i64 c, .slice za zn zk]) := by rw [hV]; exact hide (((((Box.new _ [.int .i64 r, .int .i64 c, .slice za zn zk] 24 (by simp)).below (below_one _ _)).below (below_one _ _)).below (below_one _ _)).below (below_one _ _))
  have H0G : Hid (Box V0 (w.heap.size + 1 + 1) [.int .i64 r', .int .i64 c', .slice ga gn gk]) := by rw [hV]; exact hide ((((Box.new _ [.int .i64 r', .int .i64 c', .slice ga gn gk] 24 (by simp)).below (below_one _ _)).below (below_one _ _)).below (below_one _ _))
  have H0Q : Hid (Box V0 (w.heap.size + 1 + 1 + 1) [.int .i64 0, .int .i64 0, .slice none 0 0]) := by rw [hV]; exact hide (((Box.new _ [.int .i64 0, .int .i64 0, .slice none 0 0] 24 (by simp)).below (below_one _ _)).below (below_one _ _))
  have H0F : Hid (Free V0 (w.heap.size + 1 + 1 + 1)) := by rw [hV]; exact hide (((Free.new _ _ 24 (by simp)).below (below_one _ _) (by simp)).below (below_one _ _) (by simp))
  have H0P : Hid (Box V0 (w.heap.size + 1 + 1 + 1 + 1) [.int .i64 0, .int .i64 0, .slice none 0 0, .int .i64 0, .int .i64 0, .slice none 0 0]) := by rw [hV]; exact hide ((Box.new _ [.int .i64 0, .int .i64 0, .slice none 0 0, .int .i64 0, .int .i64 0, .slice none 0 0] 43 (by simp)).below (below_one _ _))
  have H0E : Hid (Free V0 (w.heap.size + 1 + 1 + 1 + 1)) := by rw [hV]; exact hide ((Free.new _ _ 43 (by simp)).below (below_one _ _) (by simp))
  have H0D : Hid (Box V0 (w.heap.size + 1 + 1 + 1 + 1 + 1) [.int .i64 0, .int .i64 0, .slice none 0 0, .int .i64 0, .int .i64 0, .slice none 0 0]) := by rw [hV]; exact hide (Box.new _ [.int .i64 0, .int .i64 0, .slice none 0 0, .int .i64 0, .int .i64 0, .slice none 0 0] 43 (by simp))
  have H0I : Hid (Free V0 (w.heap.size + 1 + 1 + 1 + 1 + 1)) := by rw [hV]; exact hide (Free.new _ _ 43 (by simp))
  clear hV
  clear hs hsx hsg gx gg gw hk hE hgo hl hfg hfx htk eg s1 s2 s3 h2 hR hX hW hB htw htx hp hq ht e1 e2 e3 e4 e5 e6 e7 e8
  have d1 := H0L.out 1 _ rfl
  have d2 := H0L.out 2 _ rfl
  have d3 := H0L.out 3 _ rfl
  go_enter Tryd.func16, Tryd.ntmps16
  go_wp2_with fail
  rw [← HV.out]
  refine (HC1.out _ H0W.out).mono ?_
  rintro e u1 ⟨wa, wn, wk, rfl, hm, hb, hf⟩
  have D1 := below_next hb (below_one u1 (.cells #[.int .i64 tw.rows, .int .i64 tw.cols, .slice wa wn wk] 24))
  have HU1 := hide (below_next H0W.out D1)
  have HBW := hide (Box.new u1 [.int .i64 tw.rows, .int .i64 tw.cols, .slice wa wn wk] 24 rfl)
  have HMW := hide (hm.below (below_one u1 (.cells #[.int .i64 tw.rows, .int .i64 tw.cols, .slice wa wn wk] 24)))
  have HFW := hide hf
  have HNW := hide hb.size
  have HD1 := hide D1
  have x0 := (H0X.out.below D1) 0 _ rfl
  have x1 := (H0X.out.below D1) 1 _ rfl
  have x2 := (H0X.out.below D1) 2 _ rfl
  clear hm hb hf D1 d1 d2 d3 HC1
  go_wp2_with fail
  refine (HC2.out _ HU1.out).mono ?_
  rintro e u2 ⟨ta, tn, tk, rfl, hm, hb, hf⟩
  have D := below_next hb (below_one u2 (.cells #[.int .i64 tx.rows, .int .i64 tx.cols, .slice ta tn tk] 24))
  have HU2 := hide (below_next HU1.out D)
  have HD2 := hide (below_next HD1.out D)
  replace HBW := hide (HBW.out.below D)
  replace HMW := hide (HMW.out.below D)
  have HBT := hide (Box.new u2 [.int .i64 tx.rows, .int .i64 tx.cols, .slice ta tn tk] 24 rfl)
  have HMT := hide (hm.below (below_one u2 (.cells #[.int .i64 tx.rows, .int .i64 tx.cols, .slice ta tn tk] 24)))
  clear hm hb hf D x0 x1 x2 HC2 HU1 HD1
  have a0 := HBT.out 0 _ rfl
  have a1 := HBT.out 1 _ rfl
  have a2 := HBT.out 2 _ rfl
  have y0 := (H0G.out.below HD2.out) 0 _ rfl
  have y1 := (H0G.out.below HD2.out) 1 _ rfl
  have y2 := (H0G.out.below HD2.out) 2 _ rfl
  go_wp2_with fail
  refine (HC3.out _ _ HU2.out HMT.out).mono ?_
  rintro e u3 ⟨pa, pn, pk, rfl, hm, hb, hf⟩
  have HF3 := hide (fresh_mono hf HD2.out.size)
  have D := below_next HD2.out hb
  have t0 := (H0D.out.below D) 0 _ rfl
  have t1 := (H0D.out.below D) 1 _ rfl
  have t2 := (H0D.out.below D) 2 _ rfl
  have v0 := (H0I.out.below D H0D.out.lt) 0
  have v1 := (H0I.out.below D H0D.out.lt) 1
  have v2 := (H0I.out.below D H0D.out.lt) 2
  obtain ⟨V3, hV⟩ : ∃ V, V = (((u3.setCell ⟨w.heap.size + 1 + 1 + 1 + 1 + 1, 0, none⟩ (.int .i64 p.rows)).setCell ⟨w.heap.size + 1 + 1 + 1 + 1 + 1, 1, none⟩ (.int .i64 p.cols)).setCell ⟨w.heap.size + 1 + 1 + 1 + 1 + 1, 2, none⟩ (.slice pa pn pk)) := ⟨_, rfl⟩
  have HV3 := hide hV
  have HNZ := hide H0D.out.lt
  have hne : ¬ u1.heap.size = w.heap.size + 1 + 1 + 1 + 1 + 1 := by have := HNW.out; have := HNZ.out; omega
  have HA := above3 (B := w.heap.size + 1 + 1 + 1 + 1 + 1) HNZ.out u3 (.int .i64 p.rows) (.int .i64 p.cols) (.slice pa pn pk)
  rw [← hV] at HA
  have HW3 : Hid (Below w.heap.size w V3) := by rw [hV]; exact hide (below_set3 (below_next HU2.out hb) (by omega) _ _ _)
  have HG3 : Hid (Box V3 (w.heap.size + 1 + 1) [.int .i64 r', .int .i64 c', .slice ga gn gk]) := by rw [hV]; exact hide ((H0G.out.below D).set3 (by omega) _ _ _)
  have HQ3 : Hid (Box V3 (w.heap.size + 1 + 1 + 1) [.int .i64 0, .int .i64 0, .slice none 0 0]) := by rw [hV]; exact hide ((H0Q.out.below D).set3 (by omega) _ _ _)
  have HFQ3 : Hid (Free V3 (w.heap.size + 1 + 1 + 1)) := by rw [hV]; exact hide ((H0F.out.below D H0Q.out.lt).set3 _ _ _ _)
  have HP3 : Hid (Box V3 (w.heap.size + 1 + 1 + 1 + 1) [.int .i64 0, .int .i64 0, .slice none 0 0, .int .i64 0, .int .i64 0, .slice none 0 0]) := by rw [hV]; exact hide ((H0P.out.below D).set3 (by omega) _ _ _)
  have HFP3 : Hid (Free V3 (w.heap.size + 1 + 1 + 1 + 1)) := by rw [hV]; exact hide ((H0E.out.below D H0P.out.lt).set3 _ _ _ _)
  have HD3 : Hid (Box V3 (w.heap.size + 1 + 1 + 1 + 1 + 1) [.int .i64 p.rows, .int .i64 p.cols, .slice pa pn pk, .int .i64 0, .int .i64 0, .slice none 0 0]) := by rw [hV]; exact hide (two_set0 (H0D.out.below D) _ _ _)
  have HFD3 : Hid (Free V3 (w.heap.size + 1 + 1 + 1 + 1 + 1)) := by rw [hV]; exact hide ((H0I.out.below D H0D.out.lt).set3 _ _ _ _)
  have HBW3 : Hid (Box V3 u1.heap.size [.int .i64 tw.rows, .int .i64 tw.cols, .slice wa wn wk]) := by rw [hV]; exact hide ((HBW.out.below hb).set3 hne _ _ _)
  have HMW3 := hide ((HMW.out.below hb).above HFW.out HA)
  have HMP3 := hide (hm.ints.above HF3.out HA)
  have HZ3 : Hid (V0.heap.size ≤ V3.heap.size) := by rw [hV]; exact hide (by simpa using D.size)
  have m0 := HG3.out 0 _ rfl
  have m1 := HG3.out 1 _ rfl
  have m2 := HG3.out 2 _ rfl
  rw [hV] at m0 m1 m2
  clear hm hb hf D HA hV hne a0 a1 a2 y0 y1 y2 HC3 HBT HMT HBW HMW HU2 HD2
  go_wp2_with fail
  rw [← HV3.out]
  clear t0 t1 t2 v0 v1 v2 m0 m1 m2
  refine (HC4.out _ HW3.out).mono ?_
  rintro e u4 ⟨qa, qn, qk, rfl, hm, hb, hf⟩
  have HF4 := hide (fresh_mono hf HZ3.out)
  have t3 := (HD3.out.below hb) 3 _ rfl
  have t4 := (HD3.out.below hb) 4 _ rfl
  have t5 := (HD3.out.below hb) 5 _ rfl
  have v3 := (HFD3.out.below hb HD3.out.lt) 3
  have v4 := (HFD3.out.below hb HD3.out.lt) 4
  have v5 := (HFD3.out.below hb HD3.out.lt) 5
  obtain ⟨V4, hV⟩ : ∃ V, V = (((u4.setCell ⟨w.heap.size + 1 + 1 + 1 + 1 + 1, 3, none⟩ (.int .i64 q.rows)).setCell ⟨w.heap.size + 1 + 1 + 1 + 1 + 1, 4, none⟩ (.int .i64 q.cols)).setCell ⟨w.heap.size + 1 + 1 + 1 + 1 + 1, 5, none⟩ (.slice qa qn qk)) := ⟨_, rfl⟩
  have HV4 := hide hV
  have hne : u1.heap.size ≠ w.heap.size + 1 + 1 + 1 + 1 + 1 := by have := HNW.out; have := HNZ.out; omega
  have HA := above345 (B := w.heap.size + 1 + 1 + 1 + 1 + 1) HNZ.out u4 (.int .i64 q.rows) (.int .i64 q.cols) (.slice qa qn qk)
  rw [← hV] at HA
  have HW4 : Hid (Below w.heap.size w V4) := by rw [hV]; exact hide (below_set345 (below_next HW3.out hb) (by omega) _ _ _)
  have HG4 : Hid (Box V4 (w.heap.size + 1 + 1) [.int .i64 r', .int .i64 c', .slice ga gn gk]) := by rw [hV]; exact hide ((HG3.out.below hb).set345 (by omega) _ _ _)
  have HQ4 : Hid (Box V4 (w.heap.size + 1 + 1 + 1) [.int .i64 0, .int .i64 0, .slice none 0 0]) := by rw [hV]; exact hide ((HQ3.out.below hb).set345 (by omega) _ _ _)
  have HFQ4 : Hid (Free V4 (w.heap.size + 1 + 1 + 1)) := by rw [hV]; exact hide ((HFQ3.out.below hb HQ3.out.lt).set345 _ _ _ _)
  have HP4 : Hid (Box V4 (w.heap.size + 1 + 1 + 1 + 1) [.int .i64 0, .int .i64 0, .slice none 0 0, .int .i64 0, .int .i64 0, .slice none 0 0]) := by rw [hV]; exact hide ((HP3.out.below hb).set345 (by omega) _ _ _)
  have HFP4 : Hid (Free V4 (w.heap.size + 1 + 1 + 1 + 1)) := by rw [hV]; exact hide ((HFP3.out.below hb HP3.out.lt).set345 _ _ _ _)
  have HD4 : Hid (Box V4 (w.heap.size + 1 + 1 + 1 + 1 + 1) [.int .i64 p.rows, .int .i64 p.cols, .slice pa pn pk, .int .i64 q.rows, .int .i64 q.cols, .slice qa qn qk]) := by rw [hV]; exact hide (two_set (HD3.out.below hb) _ _ _)
  have HBW4 : Hid (Box V4 u1.heap.size [.int .i64 tw.rows, .int .i64 tw.cols, .slice wa wn wk]) := by rw [hV]; exact hide ((HBW3.out.below hb).set345 hne _ _ _)
  have HMW4 := hide ((HMW3.out.below hb).above HFW.out HA)
  have HMP4 := hide ((HMP3.out.below hb).above HF3.out HA)
  have HMQ4 := hide (hm.ints.above HF4.out HA)
  have HZ4 : Hid (V0.heap.size ≤ V4.heap.size) := by rw [hV]; exact hide (by simpa using Nat.le_trans HZ3.out hb.size)
  have m0 := HG4.out 0 _ rfl
  have m1 := HG4.out 1 _ rfl
  have m2 := HG4.out 2 _ rfl
  have a0 := HBW4.out 0 _ rfl
  have a1 := HBW4.out 1 _ rfl
  have a2 := HBW4.out 2 _ rfl
  rw [hV] at m0 m1 m2 a0 a1 a2
  clear hm hb hf HA hV hne HC4 HG3 HQ3 HFQ3 HP3 HFP3 HD3 HFD3 HBW3 HMW3 HMP3 HZ3 HW3
  go_wp2_with fail
  rw [← HV4.out]
  clear t3 t4 t5 v3 v4 v5 m0 m1 m2 a0 a1 a2
  refine (HC5.out _ _ HW4.out HMW4.out).mono ?_
  rintro e u5 ⟨ja, jn, jk, rfl, hm, hb, hf⟩
  have HF5 := hide (fresh_mono hf HZ4.out)
  have D := below_next hb (below_one u5 (.cells #[.int .i64 t.rows, .int .i64 t.cols, .slice ja jn jk] 24))
  obtain ⟨U, hU⟩ : ∃ U, U = u5.alloc (.cells #[.int .i64 t.rows, .int .i64 t.cols, .slice ja jn jk] 24) := ⟨_, rfl⟩
  have HUS := hide hU
  have HWU : Hid (Below w.heap.size w U) := by rw [hU]; exact hide (below_next HW4.out D)
  have HTO : Hid (Box U u5.heap.size [.int .i64 t.rows, .int .i64 t.cols, .slice ja jn jk]) := by rw [hU]; exact hide (Box.new u5 _ 24 rfl)
  have HMO : Hid (IsMx U (.agg #[.int .i64 t.rows, .int .i64 t.cols, .slice ja jn jk]) t) := by rw [hU]; exact hide (hm.below (below_one _ _))
  have HMPU : Hid (IsInts U (.slice pa pn pk) p.cells) := by rw [hU]; exact hide (HMP4.out.below D)
  have HMQU : Hid (IsInts U (.slice qa qn qk) q.cells) := by rw [hU]; exact hide (HMQ4.out.below D)
  have HQU : Hid (Box U (w.heap.size + 1 + 1 + 1) [.int .i64 0, .int .i64 0, .slice none 0 0]) := by rw [hU]; exact hide (HQ4.out.below D)
  have HFQU : Hid (Free U (w.heap.size + 1 + 1 + 1)) := by rw [hU]; exact hide (HFQ4.out.below D HQ4.out.lt)
  have HPU : Hid (Box U (w.heap.size + 1 + 1 + 1 + 1) [.int .i64 0, .int .i64 0, .slice none 0 0, .int .i64 0, .int .i64 0, .slice none 0 0]) := by rw [hU]; exact hide (HP4.out.below D)
  have HFPU : Hid (Free U (w.heap.size + 1 + 1 + 1 + 1)) := by rw [hU]; exact hide (HFP4.out.below D HP4.out.lt)
  have HDU : Hid (Box U (w.heap.size + 1 + 1 + 1 + 1 + 1) [.int .i64 p.rows, .int .i64 p.cols, .slice pa pn pk, .int .i64 q.rows, .int .i64 q.cols, .slice qa qn qk]) := by rw [hU]; exact hide (HD4.out.below D)
  have HLQ := hide H0Q.out.lt
  have HLP := hide H0P.out.lt
  clear hm hb hf D hU HC5
  have p0 := HTO.out 0 _ rfl
  have p1 := HTO.out 1 _ rfl
  have p2 := HTO.out 2 _ rfl
  have q0 := HQU.out 0 _ rfl
  have q1 := HQU.out 1 _ rfl
  have q2 := HQU.out 2 _ rfl
  have t0 := HPU.out 0 _ rfl
  have t1 := HPU.out 1 _ rfl
  have t2 := HPU.out 2 _ rfl
  have t3 := HPU.out 3 _ rfl
  have t4 := HPU.out 4 _ rfl
  have t5 := HPU.out 5 _ rfl
  have d0 := HDU.out 0 _ rfl
  have d1 := HDU.out 1 _ rfl
  have d2 := HDU.out 2 _ rfl
  have d3 := HDU.out 3 _ rfl
  have d4 := HDU.out 4 _ rfl
  have d5 := HDU.out 5 _ rfl
  have f0 := HFQU.out 0
  have f1 := HFQU.out 1
  have f2 := HFQU.out 2
  have v0 := HFPU.out 0
  have v1 := HFPU.out 1
  have v2 := HFPU.out 2
  have v3 := HFPU.out 3
  have v4 := HFPU.out 4
  have v5 := HFPU.out 5
  have nd : ¬ w.heap.size + 1 + 1 + 1 + 1 + 1 = w.heap.size + 1 + 1 + 1 := by omega
  have k0 := cell_set3 d0 (B := w.heap.size + 1 + 1 + 1) nd (.int .i64 t.rows) (.int .i64 t.cols) (.slice ja jn jk)
  have k1 := cell_set3 d1 (B := w.heap.size + 1 + 1 + 1) nd (.int .i64 t.rows) (.int .i64 t.cols) (.slice ja jn jk)
  have k2 := cell_set3 d2 (B := w.heap.size + 1 + 1 + 1) nd (.int .i64 t.rows) (.int .i64 t.cols) (.slice ja jn jk)
  have k3 := cell_set3 d3 (B := w.heap.size + 1 + 1 + 1) nd (.int .i64 t.rows) (.int .i64 t.cols) (.slice ja jn jk)
  have k4 := cell_set3 d4 (B := w.heap.size + 1 + 1 + 1) nd (.int .i64 t.rows) (.int .i64 t.cols) (.slice ja jn jk)
  have k5 := cell_set3 d5 (B := w.heap.size + 1 + 1 + 1) nd (.int .i64 t.rows) (.int .i64 t.cols) (.slice ja jn jk)
  go_wp2
  rw [← HUS.out]
  go_region
  all_goals go_wp2
  all_goals
    have HA := above9 (B := w.heap.size + 1 + 1 + 1) (C := w.heap.size + 1 + 1 + 1 + 1) HLQ.out HLP.out U (.int .i64 t.rows) (.int .i64 t.cols) (.slice ja jn jk) (.int .i64 p.rows) (.int .i64 p.cols) (.slice pa pn pk) (.int .i64 q.rows) (.int .i64 q.cols) (.slice qa qn qk)
    refine bodyPost_ret (v := .tuple #[.agg #[.int .i64 t.rows, .int .i64 t.cols, .slice ja jn jk], .agg #[.int .i64 p.rows, .int .i64 p.cols, .slice pa pn pk, .int .i64 q.rows, .int .i64 q.cols, .slice qa qn qk]]) (by simp [results, Tryd.results16, go_sem, q0, q1, q2, t0, t1, t2, t3, t4, t5]) rfl ⟨_, _, rfl, HMO.out.above HF5.out HA.drew, two_of (HMPU.out.above HF3.out HA.drew) (HMQU.out.above HF4.out HA.drew), ?_, fresh_mono HF5.out H0W.out.size, fresh2_of (fresh_mono HF3.out H0W.out.size) (fresh_mono HF4.out H0W.out.size)⟩
    exact below_dr (below9 HWU.out (B := w.heap.size + 1 + 1 + 1) (C := w.heap.size + 1 + 1 + 1 + 1) (by omega) (by omega) _ _ _ _ _ _ _ _ _)
end Go.Proofs.YtkncgelkbpeagacDoor
