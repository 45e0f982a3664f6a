/- What forth of the kinds of package layer comes to: what a layer that fits gives of a matrix that goes with it. -/
import Derived.Test.YtjmmplpecmnlnadDoorLNamed
import Derived.Test.YtjmmplpecmnlnadDoorThree
namespace Go.Proofs.YtjmmplpecmnlnadDoor
open Go.RowKit
theorem newEnd {w V w2 : World} {m : Mx} {B : Nat} {s : Value} (hnew : NewInts V.heap.size w2 s m.cells) (hV : Below w.heap.size w V) (hB : w.heap.size ≤ B) (hlt : B < V.heap.size) (hb : Below V.heap.size V w2) (x y z : Value) :
    IsMx (((w2.setCell ⟨B, 0, none⟩ x).setCell ⟨B, 1, none⟩ y).setCell ⟨B, 2, none⟩ z) (.agg #[.int .i64 m.rows, .int .i64 m.cols, s]) m ∧ Below w.heap.size w (((w2.setCell ⟨B, 0, none⟩ x).setCell ⟨B, 1, none⟩ y).setCell ⟨B, 2, none⟩ z) ∧ Fresh w.heap.size (.agg #[.int .i64 m.rows, .int .i64 m.cols, s]) :=
  ⟨⟨_, rfl, (((hnew.set hlt 0 x).set hlt 1 y).set hlt 2 z).isInts⟩, below_set3 (below_next hV hb) hB x y z, hnew.fresh hV.size _ _⟩
theorem cell_set3 {w : World} {p : Addr} {u : Value} {B : Nat} (h : w.cell? p = some u) (hne : ¬ p.block = B) (x y z : Value) : (((w.setCell ⟨B, 0, none⟩ x).setCell ⟨B, 1, none⟩ y).setCell ⟨B, 2, none⟩ z).cell? p = some u := cell_other (cell_other (cell_other h hne 0 x) hne 1 y) hne 2 z
theorem errEnd {w V w2 : World} {m : Mx} {B : Nat} {v : Value} (hm : IsMx w2 v m) (hf : Fresh V.heap.size v) (hV : Below w.heap.size w V) (hB : w.heap.size ≤ B) (hlt : B < V.heap.size) (hb : Below V.heap.size V w2) (x y z : Value) :
    IsMx (((w2.setCell ⟨B, 0, none⟩ x).setCell ⟨B, 1, none⟩ y).setCell ⟨B, 2, none⟩ z) v m ∧ Below w.heap.size w (((w2.setCell ⟨B, 0, none⟩ x).setCell ⟨B, 1, none⟩ y).setCell ⟨B, 2, none⟩ z) ∧ Fresh w.heap.size v :=
  ⟨hm.set3 hf hlt x y z, below_set3 (below_next hV hb) hB x y z, fresh_mono hf hV.size⟩
set_option maxHeartbeats 800000 in
theorem forth_linear (l : Ly) {xa : Option Addr} {xn xk : Nat} {ya : Option Addr} {yn yk : Nat} (x : Mx) (vx : Value) (w : World) (R Rw Cw : Nat) (gx : Good x R Rw) (gw : Good l.w Rw Cw) (gb : Good l.b 1 Cw) (hc : 1 ≤ Cw) (hs : IsInts w (.slice xa xn xk) l.w.cells) (ht : IsInts w (.slice ya yn yk) l.b.cells) (hx : IsMx w vx x) :
    Calls Tryd.prog 114 #[.agg #[.int .i64 l.w.rows, .int .i64 l.w.cols, .slice xa xn xk, .int .i64 l.b.rows, .int .i64 l.b.cols, .slice ya yn yk], vx] w (MxErr w (addRows (mulX x l.w) l.b) 0) := by
  obtain ⟨sx, rfl, hsx⟩ := hx
  obtain ⟨za, zn, zk, rfl⟩ := hsx.shape
  obtain ⟨wr, e1⟩ : ∃ r, l.w.rows = r := ⟨_, rfl⟩
  obtain ⟨wc, e2⟩ : ∃ r, l.w.cols = r := ⟨_, rfl⟩
  obtain ⟨br, e3⟩ : ∃ r, l.b.rows = r := ⟨_, rfl⟩
  obtain ⟨bc, e4⟩ : ∃ r, l.b.cols = r := ⟨_, rfl⟩
  obtain ⟨r, e5⟩ : ∃ r, x.rows = r := ⟨_, rfl⟩
  obtain ⟨c, e6⟩ : ∃ r, x.cols = r := ⟨_, rfl⟩
  have HM := hide (fun W (h : Below w.heap.size w W) => mmul_any _ _ x l.w W ⟨_, rfl, hsx.below h⟩ ⟨_, rfl, hs.below h⟩)
  have gp := gx.mul gw
  have HE := hide (gx.mul0 gw)
  obtain ⟨p, hp⟩ : ∃ p, mulX x l.w = p := ⟨_, rfl⟩
  rw [hp] at gp HM ⊢
  have HA := hide (fun W v (hv : IsMx W v p) (h : Below w.heap.size w W) => addrows_any v _ p l.b Cw W hv ⟨_, rfl, ht.below h⟩ gb.c (by omega) (by have := gb.hC; omega) (by have := gb.l; omega) (by have := gp.l; have := Nat.mul_le_mul gp.hR gp.hC; omega))
  obtain ⟨q, hq⟩ : ∃ q, addRows p l.b = q := ⟨_, rfl⟩
  rw [hq] at HA ⊢
  rw [e5, e6, e1, e2] at HM
  rw [e3, e4] at HA
  rw [e1, e2, e3, e4, e5, e6]
  obtain ⟨V, hV⟩ : ∃ V, V = (((w.alloc (.cells #[.int .i64 wr, .int .i64 wc, .slice xa xn xk, .int .i64 br, .int .i64 bc, .slice ya yn yk] 144)).alloc (.cells #[.int .i64 r, .int .i64 c, .slice za zn zk] 25)).alloc (.cells #[.int .i64 0, .int .i64 0, .slice none 0 0] 25)) := ⟨_, rfl⟩
  have HV := hide hV
  have HBW : Hid (Below w.heap.size w V) := by rw [hV]; exact hide (below_next (below_next (below_one _ _) (below_one _ _)) (below_one _ _))
  have HB : Hid (Box V w.heap.size [.int .i64 wr, .int .i64 wc, .slice xa xn xk, .int .i64 br, .int .i64 bc, .slice ya yn yk]) := by rw [hV]; exact hide (((Box.new w [.int .i64 wr, .int .i64 wc, .slice xa xn xk, .int .i64 br, .int .i64 bc, .slice ya yn yk] 144 rfl).below (below_one _ _)).below (below_one _ _))
  have HBX : Hid (Box V (w.heap.size + 1) [.int .i64 r, .int .i64 c, .slice za zn zk]) := by rw [hV]; exact hide ((Box.new _ [.int .i64 r, .int .i64 c, .slice za zn zk] 25 (by simp)).below (below_one _ _))
  have HQ : Hid (ResBox V (w.heap.size + 1 + 1)) := by rw [hV]; exact hide (ResBox.new _ _ (by simp))
  clear hV
  clear hs ht hsx e1 e2 e3 e4 e5 e6 hp hq gx gw gb gp hc
  go_enter Tryd.func114, Tryd.ntmps114
  go_wp2_with fail
  rw [← HV.out]
  refine (HM.out _ HBW.out).mono ?_
  intro e w1 h
  obtain ⟨pa, pn, pk, rfl, hpm, hb1⟩ := h.good HE.out
  have D := below_next hb1 (below_one w1 (.cells #[.int .i64 p.rows, .int .i64 p.cols, .slice pa pn pk] 25))
  have H1 := HB.out.below D
  have d3 := H1 3 _ rfl
  have d4 := H1 4 _ rfl
  have d5 := H1 5 _ rfl
  have HPM := hide (hpm.below (below_one w1 (.cells #[.int .i64 p.rows, .int .i64 p.cols, .slice pa pn pk] 25)))
  have HD := hide D
  clear h hpm hb1 D H1 HM HB
  go_wp2_with fail
  refine (HA.out _ _ HPM.out (below_next HBW.out HD.out)).mono ?_
  rintro e w2 ⟨qa, qn, qk, rfl, hnew, hb2⟩
  have HN := hide hnew
  have HB2 := hide hb2
  have p := HQ.out.below (below_next HD.out hb2)
  have p0 := p.c0
  have p1 := p.c1
  have p2 := p.c2
  have p3 := p.f 0
  have p4 := p.f 1
  have p5 := p.f 2
  have HL := hide (World.block_lt_of_cell? V _ HQ.out.c0)
  clear hnew hb2 p HA d3 d4 d5
  go_wp2
  obtain ⟨c1, c2, c3⟩ := newEnd HN.out (below_next HBW.out HD.out) (B := w.heap.size + 1 + 1) (by omega) (Nat.lt_of_lt_of_le HL.out HD.out.size) HB2.out (.int .i64 q.rows) (.int .i64 q.cols) (.slice qa qn qk)
  exact bodyPost_ret (v := .tuple #[.agg #[.int .i64 q.rows, .int .i64 q.cols, .slice qa qn qk], .nilIface]) (by simp [results, Tryd.results114, go_sem, p0, p1, p2]) rfl ⟨_, rfl, c1, c2, c3⟩
set_option maxHeartbeats 800000 in
theorem forth_relu (l : Ly) {xa : Option Addr} {xn xk : Nat} {ya : Option Addr} {yn yk : Nat} (x : Mx) (vx : Value) (w : World) (R C : Nat) (gx : Good x R C) (hx : IsMx w vx x) :
    Calls Tryd.prog 132 #[.agg #[.int .i64 l.w.rows, .int .i64 l.w.cols, .slice xa xn xk, .int .i64 l.b.rows, .int .i64 l.b.cols, .slice ya yn yk], vx] w (MxErr w (reluX x) 0) := by
  obtain ⟨sx, rfl, hsx⟩ := hx
  obtain ⟨za, zn, zk, rfl⟩ := hsx.shape
  obtain ⟨wr, e1⟩ : ∃ r, l.w.rows = r := ⟨_, rfl⟩
  obtain ⟨wc, e2⟩ : ∃ r, l.w.cols = r := ⟨_, rfl⟩
  obtain ⟨br, e3⟩ : ∃ r, l.b.rows = r := ⟨_, rfl⟩
  obtain ⟨bc, e4⟩ : ∃ r, l.b.cols = r := ⟨_, rfl⟩
  obtain ⟨r, e5⟩ : ∃ r, x.rows = r := ⟨_, rfl⟩
  obtain ⟨c, e6⟩ : ∃ r, x.cols = r := ⟨_, rfl⟩
  have eg := enters_of (f := 134) Tryd.func134 (by kernel_rfl) rfl
  have HA := hide (fun W (h : Below w.heap.size w W) => each_new eg (w := W) (m := x) ⟨_, rfl, hsx.below h⟩ (by have := gx.l; have := Nat.mul_le_mul gx.hR gx.hC; omega) (relu_gives x.cells W))
  have hq0 : eachX x (fun i => max ((x.cells[i]?).getD 0) 0) = reluX x := rfl
  rw [hq0] at HA
  obtain ⟨q, hq⟩ : ∃ q, reluX x = q := ⟨_, rfl⟩
  rw [hq] at HA ⊢
  rw [e5, e6] at HA
  rw [e1, e2, e3, e4, e5, e6]
  obtain ⟨V, hV⟩ : ∃ V, V = (((w.alloc (.cells #[.int .i64 wr, .int .i64 wc, .slice xa xn xk, .int .i64 br, .int .i64 bc, .slice ya yn yk] 147)).alloc (.cells #[.int .i64 r, .int .i64 c, .slice za zn zk] 25)).alloc (.cells #[.int .i64 0, .int .i64 0, .slice none 0 0] 25)) := ⟨_, rfl⟩
  have HV := hide hV
  have HBW : Hid (Below w.heap.size w V) := by rw [hV]; exact hide (below_next (below_next (below_one _ _) (below_one _ _)) (below_one _ _))
  have HB : Hid (Box V w.heap.size [.int .i64 wr, .int .i64 wc, .slice xa xn xk, .int .i64 br, .int .i64 bc, .slice ya yn yk]) := by rw [hV]; exact hide (((Box.new w [.int .i64 wr, .int .i64 wc, .slice xa xn xk, .int .i64 br, .int .i64 bc, .slice ya yn yk] 147 rfl).below (below_one _ _)).below (below_one _ _))
  have HBX : Hid (Box V (w.heap.size + 1) [.int .i64 r, .int .i64 c, .slice za zn zk]) := by rw [hV]; exact hide ((Box.new _ [.int .i64 r, .int .i64 c, .slice za zn zk] 25 (by simp)).below (below_one _ _))
  have HQ : Hid (ResBox V (w.heap.size + 1 + 1)) := by rw [hV]; exact hide (ResBox.new _ _ (by simp))
  clear hV
  clear hsx e1 e2 e3 e4 e5 e6 hq gx hq0 eg HB
  go_enter Tryd.func132, Tryd.ntmps132
  go_wp2_with fail
  rw [← HV.out]
  refine (HA.out _ HBW.out).mono ?_
  rintro e w2 ⟨qa, qn, qk, rfl, hnew, hb2⟩
  have HN := hide hnew
  have HB2 := hide hb2
  have p := HQ.out.below hb2
  have p0 := p.c0
  have p1 := p.c1
  have p2 := p.c2
  have p3 := p.f 0
  have p4 := p.f 1
  have p5 := p.f 2
  have HL := hide (World.block_lt_of_cell? V _ HQ.out.c0)
  clear hnew hb2 p HA
  go_wp2
  obtain ⟨c1, c2, c3⟩ := newEnd HN.out HBW.out (B := w.heap.size + 1 + 1) (by omega) HL.out HB2.out (.int .i64 q.rows) (.int .i64 q.cols) (.slice qa qn qk)
  exact bodyPost_ret (v := .tuple #[.agg #[.int .i64 q.rows, .int .i64 q.cols, .slice qa qn qk], .nilIface]) (by simp [results, Tryd.results132, go_sem, p0, p1, p2]) rfl ⟨_, rfl, c1, c2, c3⟩
set_option maxHeartbeats 800000 in
theorem forth_shift (l : Ly) {xa : Option Addr} {xn xk : Nat} {ya : Option Addr} {yn yk : Nat} (x : Mx) (vx : Value) (w : World) (R C : Nat) (gx : Good x R C) (gb : Good l.b 1 C) (hc : 1 ≤ C) (ht : IsInts w (.slice ya yn yk) l.b.cells) (hx : IsMx w vx x) :
    Calls Tryd.prog 142 #[.agg #[.int .i64 l.w.rows, .int .i64 l.w.cols, .slice xa xn xk, .int .i64 l.b.rows, .int .i64 l.b.cols, .slice ya yn yk], vx] w (MxErr w (addRows x l.b) 0) := by
  obtain ⟨sx, rfl, hsx⟩ := hx
  obtain ⟨za, zn, zk, rfl⟩ := hsx.shape
  obtain ⟨wr, e1⟩ : ∃ r, l.w.rows = r := ⟨_, rfl⟩
  obtain ⟨wc, e2⟩ : ∃ r, l.w.cols = r := ⟨_, rfl⟩
  obtain ⟨br, e3⟩ : ∃ r, l.b.rows = r := ⟨_, rfl⟩
  obtain ⟨bc, e4⟩ : ∃ r, l.b.cols = r := ⟨_, rfl⟩
  obtain ⟨r, e5⟩ : ∃ r, x.rows = r := ⟨_, rfl⟩
  obtain ⟨c, e6⟩ : ∃ r, x.cols = r := ⟨_, rfl⟩
  have HA := hide (fun W (h : Below w.heap.size w W) => addrows_any _ _ x l.b C W ⟨_, rfl, hsx.below h⟩ ⟨_, rfl, ht.below h⟩ gb.c (by omega) (by have := gb.hC; omega) (by have := gb.l; omega) (by have := gx.l; have := Nat.mul_le_mul gx.hR gx.hC; omega))
  obtain ⟨q, hq⟩ : ∃ q, addRows x l.b = q := ⟨_, rfl⟩
  rw [hq] at HA ⊢
  rw [e5, e6, e3, e4] at HA
  rw [e1, e2, e3, e4, e5, e6]
  obtain ⟨V, hV⟩ : ∃ V, V = (((w.alloc (.cells #[.int .i64 wr, .int .i64 wc, .slice xa xn xk, .int .i64 br, .int .i64 bc, .slice ya yn yk] 149)).alloc (.cells #[.int .i64 r, .int .i64 c, .slice za zn zk] 25)).alloc (.cells #[.int .i64 0, .int .i64 0, .slice none 0 0] 25)) := ⟨_, rfl⟩
  have HV := hide hV
  have HBW : Hid (Below w.heap.size w V) := by rw [hV]; exact hide (below_next (below_next (below_one _ _) (below_one _ _)) (below_one _ _))
  have HB : Hid (Box V w.heap.size [.int .i64 wr, .int .i64 wc, .slice xa xn xk, .int .i64 br, .int .i64 bc, .slice ya yn yk]) := by rw [hV]; exact hide (((Box.new w [.int .i64 wr, .int .i64 wc, .slice xa xn xk, .int .i64 br, .int .i64 bc, .slice ya yn yk] 149 rfl).below (below_one _ _)).below (below_one _ _))
  have HBX : Hid (Box V (w.heap.size + 1) [.int .i64 r, .int .i64 c, .slice za zn zk]) := by rw [hV]; exact hide ((Box.new _ [.int .i64 r, .int .i64 c, .slice za zn zk] 25 (by simp)).below (below_one _ _))
  have HQ : Hid (ResBox V (w.heap.size + 1 + 1)) := by rw [hV]; exact hide (ResBox.new _ _ (by simp))
  clear hV
  clear ht hsx e1 e2 e3 e4 e5 e6 hq gx gb hc HB
  go_enter Tryd.func142, Tryd.ntmps142
  go_wp2_with fail
  rw [← HV.out]
  refine (HA.out _ HBW.out).mono ?_
  rintro e w2 ⟨qa, qn, qk, rfl, hnew, hb2⟩
  have HN := hide hnew
  have HB2 := hide hb2
  have p := HQ.out.below hb2
  have p0 := p.c0
  have p1 := p.c1
  have p2 := p.c2
  have p3 := p.f 0
  have p4 := p.f 1
  have p5 := p.f 2
  have HL := hide (World.block_lt_of_cell? V _ HQ.out.c0)
  clear hnew hb2 p HA
  go_wp2
  obtain ⟨c1, c2, c3⟩ := newEnd HN.out HBW.out (B := w.heap.size + 1 + 1) (by omega) HL.out HB2.out (.int .i64 q.rows) (.int .i64 q.cols) (.slice qa qn qk)
  exact bodyPost_ret (v := .tuple #[.agg #[.int .i64 q.rows, .int .i64 q.cols, .slice qa qn qk], .nilIface]) (by simp [results, Tryd.results142, go_sem, p0, p1, p2]) rfl ⟨_, rfl, c1, c2, c3⟩
set_option maxHeartbeats 800000 in
theorem forth_scale (l : Ly) {xa : Option Addr} {xn xk : Nat} {ya : Option Addr} {yn yk : Nat} (x : Mx) (vx : Value) (w : World) (R C : Nat) (gx : Good x R C) (gw : Good l.w 1 1) (hs : IsInts w (.slice xa xn xk) l.w.cells) (hx : IsMx w vx x) :
    Calls Tryd.prog 137 #[.agg #[.int .i64 l.w.rows, .int .i64 l.w.cols, .slice xa xn xk, .int .i64 l.b.rows, .int .i64 l.b.cols, .slice ya yn yk], vx] w (MxErr w (timesX x (cellAt l.w 0)) 0) := by
  obtain ⟨sx, rfl, hsx⟩ := hx
  obtain ⟨za, zn, zk, rfl⟩ := hsx.shape
  obtain ⟨wr, e1⟩ : ∃ r, l.w.rows = r := ⟨_, rfl⟩
  obtain ⟨wc, e2⟩ : ∃ r, l.w.cols = r := ⟨_, rfl⟩
  obtain ⟨br, e3⟩ : ∃ r, l.b.rows = r := ⟨_, rfl⟩
  obtain ⟨bc, e4⟩ : ∃ r, l.b.cols = r := ⟨_, rfl⟩
  obtain ⟨r, e5⟩ : ∃ r, x.rows = r := ⟨_, rfl⟩
  obtain ⟨c, e6⟩ : ∃ r, x.cols = r := ⟨_, rfl⟩
  obtain ⟨y, hy⟩ : ∃ y, cellAt l.w 0 = y := ⟨_, rfl⟩
  have HT := hide (fun W (h : Below w.heap.size w W) => mtimes_any _ x y W ⟨_, rfl, hsx.below h⟩)
  have HE := hide (show timesE x = 0 by unfold timesE; rw [if_neg (by simp [gx.fault])])
  obtain ⟨q, hq⟩ : ∃ q, timesX x y = q := ⟨_, rfl⟩
  rw [hy, hq]
  rw [hq, HE.out, e5, e6] at HT
  have hw0 : l.w.cells[0]? = some y := by rw [← hy]; unfold cellAt; rw [List.getElem?_eq_getElem (by have := gw.l; omega)]; rfl
  have hwl := gw.l
  obtain ⟨aa, cap, esv, h2, h3, h4⟩ := hs
  injection esv with q1 q2 q3
  obtain ⟨b, off, rfl, hcl⟩ := h4.resolve_left (fun e => by rw [e] at hw0; simp at hw0)
  have h0 : w.cell? ⟨b, off, none⟩ = some (.int .i64 y) := hcl 0 y hw0
  have q2' : xn = 1 := by omega
  subst q1 q2'
  rw [e1, e2, e3, e4, e5, e6]
  obtain ⟨V, hV⟩ : ∃ V, V = (((w.alloc (.cells #[.int .i64 wr, .int .i64 wc, .slice (some ⟨b, off, none⟩) 1 xk, .int .i64 br, .int .i64 bc, .slice ya yn yk] 148)).alloc (.cells #[.int .i64 r, .int .i64 c, .slice za zn zk] 25)).alloc (.cells #[.int .i64 0, .int .i64 0, .slice none 0 0] 25)) := ⟨_, rfl⟩
  have HV := hide hV
  have HBW : Hid (Below w.heap.size w V) := by rw [hV]; exact hide (below_next (below_next (below_one _ _) (below_one _ _)) (below_one _ _))
  have HB : Hid (Box V w.heap.size [.int .i64 wr, .int .i64 wc, .slice (some ⟨b, off, none⟩) 1 xk, .int .i64 br, .int .i64 bc, .slice ya yn yk]) := by rw [hV]; exact hide (((Box.new w [.int .i64 wr, .int .i64 wc, .slice (some ⟨b, off, none⟩) 1 xk, .int .i64 br, .int .i64 bc, .slice ya yn yk] 148 rfl).below (below_one _ _)).below (below_one _ _))
  have HBX : Hid (Box V (w.heap.size + 1) [.int .i64 r, .int .i64 c, .slice za zn zk]) := by rw [hV]; exact hide ((Box.new _ [.int .i64 r, .int .i64 c, .slice za zn zk] 25 (by simp)).below (below_one _ _))
  have HQ : Hid (ResBox V (w.heap.size + 1 + 1)) := by rw [hV]; exact hide (ResBox.new _ _ (by simp))
  clear hV
  have g0 := cell_below HBW.out h0
  have HBD := hide (show Below w.heap.size w V.drew from ⟨HBW.out.os, HBW.out.tape, HBW.out.output, HBW.out.size, HBW.out.block⟩)
  have HBL := hide (World.block_lt_of_cell? w _ h0)
  clear hsx e1 e2 e3 e4 e5 e6 hq hy gx gw hw0 hwl h2 h3 h4 hcl h0 q2 q3
  have d0 := HB.out 0 _ rfl
  have d1 := HB.out 1 _ rfl
  have d2 := HB.out 2 _ rfl
  have x0 := HBX.out 0 _ rfl
  have x1 := HBX.out 1 _ rfl
  have x2 := HBX.out 2 _ rfl
  go_enter Tryd.func137, Tryd.ntmps137
  go_wp2
  rw [← HV.out]
  have hne : ¬ b = w.heap.size + 1 + 1 := by have := HBL.out; omega
  go_region_held3 (fun W' => W'.cell? ⟨w.heap.size + 1, 0, none⟩ = some (.int .i64 r) ∧ W'.cell? ⟨w.heap.size + 1, 1, none⟩ = some (.int .i64 c) ∧ W'.cell? ⟨w.heap.size + 1, 2, none⟩ = some (.slice za zn zk) ∧ W'.cell? ⟨w.heap.size, 2, none⟩ = some (.slice (some ⟨b, off, none⟩) 1 xk) ∧ W'.cell? ⟨b, off, none⟩ = some (.int .i64 y)) ((first | go_keep | (refine ⟨?_, ?_, ?_, ?_, ?_⟩ <;> first | assumption | go_keep)))
    (first
      | (go_at_call 138; refine (HT.out _ HBD.out).mono ?_; rintro e w2 ⟨v', rfl, hm, hb2, hf⟩; obtain ⟨s', rfl, hs'⟩ := hm; obtain ⟨qa, qn, qk, rfl⟩ := hs'.shape; rw [err_eq rfl]; have HN := hide (show IsMx w2 (.agg #[.int .i64 q.rows, .int .i64 q.cols, .slice qa qn qk]) q from ⟨_, rfl, hs'⟩); have HF := hide (show Fresh V.heap.size (.agg #[.int .i64 q.rows, .int .i64 q.cols, .slice qa qn qk]) from hf); have HB2 := hide (show Below V.heap.size V w2 from (show Below V.heap.size V V.drew from ⟨rfl, rfl, rfl, Nat.le_refl _, fun _ _ => rfl⟩).trans hb2); have p0 := (HQ.out.below HB2.out).c0; have p1 := (HQ.out.below HB2.out).c1; have p2 := (HQ.out.below HB2.out).c2; have p3 := (HQ.out.below HB2.out).f 0; have p4 := (HQ.out.below HB2.out).f 1; have p5 := (HQ.out.below HB2.out).f 2; have i0 := cell_below HB2.out x0; have i1 := cell_below HB2.out x1; have i2 := cell_below HB2.out x2; have i3 := cell_below HB2.out d2; have i4 := cell_below HB2.out g0; have j3 := cell_set3 i3 (B := w.heap.size + 1 + 1) (show ¬ w.heap.size = w.heap.size + 1 + 1 by omega) (.int .i64 q.rows) (.int .i64 q.cols) (.slice qa qn qk); have j4 := cell_set3 i4 (B := w.heap.size + 1 + 1) hne (.int .i64 q.rows) (.int .i64 q.cols) (.slice qa qn qk); clear hb2 hs' hf))
  have HL := hide (World.block_lt_of_cell? V _ HQ.out.c0)
  go_wp2
  obtain ⟨c1, c2, c3⟩ := errEnd HN.out HF.out HBW.out (B := w.heap.size + 1 + 1) (by omega) HL.out HB2.out (.int .i64 q.rows) (.int .i64 q.cols) (.slice qa qn qk)
  exact bodyPost_ret (v := .tuple #[.agg #[.int .i64 q.rows, .int .i64 q.cols, .slice qa qn qk], .nilIface]) (by simp [results, Tryd.results137, go_sem, p0, p1, p2]) rfl ⟨_, rfl, c1, c2, c3⟩
end Go.Proofs.YtjmmplpecmnlnadDoor
