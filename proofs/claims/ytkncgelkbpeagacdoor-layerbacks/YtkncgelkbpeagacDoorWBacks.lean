/- The walk of the law LayerBacks: Back of package layer answers what the document's answer does. Condition: the library's variable errors.errorType is as its text lays it. -/
import Derived.Test.YtkncgelkbpeagacDoorErr
import Derived.Test.YtkncgelkbpeagacDoorRLWide
import Derived.Test.YtkncgelkbpeagacDoorRLBackS
import Derived.Test.YtkncgelkbpeagacDoorLGo
import Derived.Test.YtkncgelkbpeagacDoorGrads
namespace Go.Proofs.YtkncgelkbpeagacDoor
open Go.RowKit
theorem RefBack.any {w : World} {m a b : Mx} {e : Ending} {w' : World} (h : RefBack w m a b e w') : ∃ p n q p1 n1 q1 p2 n2 q2, e = .returned (.tuple #[.agg #[.int .i64 m.rows, .int .i64 m.cols, .slice p n q], .agg #[.int .i64 a.rows, .int .i64 a.cols, .slice p1 n1 q1, .int .i64 b.rows, .int .i64 b.cols, .slice p2 n2 q2]]) ∧ IsMx w' (.agg #[.int .i64 m.rows, .int .i64 m.cols, .slice p n q]) m ∧ IsInts w' (.slice p1 n1 q1) a.cells ∧ IsInts w' (.slice p2 n2 q2) b.cells ∧ Below w.heap.size w w' ∧ Fresh w.heap.size (.agg #[.int .i64 m.rows, .int .i64 m.cols, .slice p n q]) ∧ Fresh w.heap.size (.agg #[.int .i64 a.rows, .int .i64 a.cols, .slice p1 n1 q1]) ∧ Fresh w.heap.size (.agg #[.int .i64 b.rows, .int .i64 b.cols, .slice p2 n2 q2]) := by
  obtain ⟨v', d, rfl, ⟨s, rfl, hs⟩, ⟨s1, s2, rfl, hs1, hs2⟩, hb, hf, hf2⟩ := h
  obtain ⟨p, n, q, rfl⟩ := hs.shape
  obtain ⟨p1, n1, q1, rfl⟩ := hs1.shape
  obtain ⟨p2, n2, q2, rfl⟩ := hs2.shape
  have h2 := hf2 _ _ _ _ _ _ _ _ _ _ rfl
  exact ⟨_, _, _, _, _, _, _, _, _, rfl, ⟨_, rfl, hs⟩, hs1, hs2, hb, hf, h2.1, h2.2⟩
theorem set_three {w : World} {B : Nat} {a0 a1 a2 : Value} (h : Box w B [a0, a1, a2]) (x y z : Value) : Box (((w.setCell ⟨B, 0, none⟩ x).setCell ⟨B, 1, none⟩ y).setCell ⟨B, 2, none⟩ z) B [x, y, z] := by
  have o : ∀ (u : World) (i j : Nat) (v : Value), i ≠ j → (u.setCell ⟨B, i, none⟩ v).cell? ⟨B, j, none⟩ = u.cell? ⟨B, j, none⟩ := fun u i j v hij => cell_at_other u B i j v hij
  intro j v hv
  match j, hv with
  | 0, hv => simp at hv; subst hv; rw [o _ 2 0 _ (by decide), o _ 1 0 _ (by decide)]; exact World.cell?_setCell_same _ _ _ (h 0 _ rfl)
  | 1, hv => simp at hv; subst hv; rw [o _ 2 1 _ (by decide)]; exact World.cell?_setCell_same _ _ _ ((o _ 0 1 _ (by decide)).trans (h 1 _ rfl))
  | 2, hv => simp at hv; subst hv; exact World.cell?_setCell_same _ _ _ ((o _ 1 2 _ (by decide)).trans ((o _ 0 2 _ (by decide)).trans (h 2 _ rfl)))
set_option maxHeartbeats 40000000 in
set_option maxRecDepth 100000 in
theorem backs_walk (v0 : Value) (l : Ly) (v1 : Value) (m1 : Mx) (v2 : Value) (m2 : Mx) (w : World) (w0 : IsLy w v0 l) (w1 : IsMx w v1 m1) (w2 : IsMx w v2 m2) (hH : Handle w) : Calls Tryd.prog 4 #[v0, v1, v2] w fun e w' => e = .returned (.bool true) ∧ Below w.heap.size w w' := by
  obtain ⟨sl, tl, rfl, hsl, htl⟩ := w0
  obtain ⟨la, ln, lm, rfl⟩ := hsl.shape
  obtain ⟨ba, bn, bm, rfl⟩ := htl.shape
  obtain ⟨lk, e0⟩ : ∃ r, l.k = r := ⟨_, rfl⟩
  obtain ⟨lr, e1⟩ : ∃ r, l.w.rows = r := ⟨_, rfl⟩
  obtain ⟨lc, e2⟩ : ∃ r, l.w.cols = r := ⟨_, rfl⟩
  obtain ⟨br, e3⟩ : ∃ r, l.b.rows = r := ⟨_, rfl⟩
  obtain ⟨bc, e4⟩ : ∃ r, l.b.cols = r := ⟨_, rfl⟩
  have ML := hide (show IsLy w (.agg #[.int .i64 lk, .int .i64 lr, .int .i64 lc, .slice la ln lm, .int .i64 br, .int .i64 bc, .slice ba bn bm]) l from ⟨_, _, by rw [e0, e1, e2, e3, e4], hsl, htl⟩)
  obtain ⟨sm1, rfl, hm1⟩ := w1
  obtain ⟨xa, xn, xk, rfl⟩ := hm1.shape
  obtain ⟨r, er⟩ : ∃ r, m1.rows = r := ⟨_, rfl⟩
  obtain ⟨c, ec⟩ : ∃ r, m1.cols = r := ⟨_, rfl⟩
  have Mm1 := hide (show IsMx w (.agg #[.int .i64 r, .int .i64 c, .slice xa xn xk]) m1 from ⟨_, by rw [er, ec], hm1⟩)
  obtain ⟨sm2, rfl, hm2⟩ := w2
  obtain ⟨ha, hn, hk, rfl⟩ := hm2.shape
  obtain ⟨r', er'⟩ : ∃ r, m2.rows = r := ⟨_, rfl⟩
  obtain ⟨c', ec'⟩ : ∃ r, m2.cols = r := ⟨_, rfl⟩
  have Mm2 := hide (show IsMx w (.agg #[.int .i64 r', .int .i64 c', .slice ha hn hk]) m2 from ⟨_, by rw [er', ec'], hm2⟩)
  rw [e0, e1, e2, e3, e4, er, ec, er', ec']
  have HH := hide hH
  clear hsl htl hm1 hm2 e0 e1 e2 e3 e4 er ec er' ec' hH
  have WW := hide (Below.refl w.heap.size w)
  have C := hide (Below.refl w.heap.size w)
  have D := below_next C.out (below_one w (.cells #[.int .i64 lk, .int .i64 lr, .int .i64 lc, .slice la ln lm, .int .i64 br, .int .i64 bc, .slice ba bn bm] 26))
  replace ML := hide (ML.out.below D)
  replace Mm1 := hide (Mm1.out.below D)
  replace Mm2 := hide (Mm2.out.below D)
  replace HH := hide (HH.out.below D)
  replace WW := hide (below_next WW.out D)
  replace C := hide (Below.refl (w.alloc (.cells #[.int .i64 lk, .int .i64 lr, .int .i64 lc, .slice la ln lm, .int .i64 br, .int .i64 bc, .slice ba bn bm] 26)).heap.size (w.alloc (.cells #[.int .i64 lk, .int .i64 lr, .int .i64 lc, .slice la ln lm, .int .i64 br, .int .i64 bc, .slice ba bn bm] 26)))
  clear D
  have Bl := hide (Box.new w [.int .i64 lk, .int .i64 lr, .int .i64 lc, .slice la ln lm, .int .i64 br, .int .i64 bc, .slice ba bn bm] 26 (B := w.heap.size) (by simp))
  have D := below_next C.out (below_one (w.alloc (.cells #[.int .i64 lk, .int .i64 lr, .int .i64 lc, .slice la ln lm, .int .i64 br, .int .i64 bc, .slice ba bn bm] 26)) (.cells #[.int .i64 r, .int .i64 c, .slice xa xn xk] 24))
  replace ML := hide (ML.out.below D)
  replace Mm1 := hide (Mm1.out.below D)
  replace Mm2 := hide (Mm2.out.below D)
  replace HH := hide (HH.out.below D)
  replace Bl := hide (Bl.out.below D)
  replace WW := hide (below_next WW.out D)
  replace C := hide (Below.refl ((w.alloc (.cells #[.int .i64 lk, .int .i64 lr, .int .i64 lc, .slice la ln lm, .int .i64 br, .int .i64 bc, .slice ba bn bm] 26)).alloc (.cells #[.int .i64 r, .int .i64 c, .slice xa xn xk] 24)).heap.size ((w.alloc (.cells #[.int .i64 lk, .int .i64 lr, .int .i64 lc, .slice la ln lm, .int .i64 br, .int .i64 bc, .slice ba bn bm] 26)).alloc (.cells #[.int .i64 r, .int .i64 c, .slice xa xn xk] 24)))
  clear D
  have Bx := hide (Box.new (w.alloc (.cells #[.int .i64 lk, .int .i64 lr, .int .i64 lc, .slice la ln lm, .int .i64 br, .int .i64 bc, .slice ba bn bm] 26)) [.int .i64 r, .int .i64 c, .slice xa xn xk] 24 (B := w.heap.size + 1) (by simp))
  have D := below_next C.out (below_one ((w.alloc (.cells #[.int .i64 lk, .int .i64 lr, .int .i64 lc, .slice la ln lm, .int .i64 br, .int .i64 bc, .slice ba bn bm] 26)).alloc (.cells #[.int .i64 r, .int .i64 c, .slice xa xn xk] 24)) (.cells #[.int .i64 r', .int .i64 c', .slice ha hn hk] 24))
  replace ML := hide (ML.out.below D)
  replace Mm1 := hide (Mm1.out.below D)
  replace Mm2 := hide (Mm2.out.below D)
  replace HH := hide (HH.out.below D)
  replace Bl := hide (Bl.out.below D)
  replace Bx := hide (Bx.out.below D)
  replace WW := hide (below_next WW.out D)
  replace C := hide (Below.refl (((w.alloc (.cells #[.int .i64 lk, .int .i64 lr, .int .i64 lc, .slice la ln lm, .int .i64 br, .int .i64 bc, .slice ba bn bm] 26)).alloc (.cells #[.int .i64 r, .int .i64 c, .slice xa xn xk] 24)).alloc (.cells #[.int .i64 r', .int .i64 c', .slice ha hn hk] 24)).heap.size (((w.alloc (.cells #[.int .i64 lk, .int .i64 lr, .int .i64 lc, .slice la ln lm, .int .i64 br, .int .i64 bc, .slice ba bn bm] 26)).alloc (.cells #[.int .i64 r, .int .i64 c, .slice xa xn xk] 24)).alloc (.cells #[.int .i64 r', .int .i64 c', .slice ha hn hk] 24)))
  clear D
  have Bg := hide (Box.new ((w.alloc (.cells #[.int .i64 lk, .int .i64 lr, .int .i64 lc, .slice la ln lm, .int .i64 br, .int .i64 bc, .slice ba bn bm] 26)).alloc (.cells #[.int .i64 r, .int .i64 c, .slice xa xn xk] 24)) [.int .i64 r', .int .i64 c', .slice ha hn hk] 24 (B := w.heap.size + 1 + 1) (by simp))
  obtain ⟨E, hE⟩ : ∃ q, backE l m1 m2 = q := ⟨_, rfl⟩
  obtain ⟨y, hy⟩ : ∃ q, backX l m1 m2 = q := ⟨_, rfl⟩
  obtain ⟨p, hp⟩ : ∃ q, gradW l m1 m2 = q := ⟨_, rfl⟩
  obtain ⟨q, hq⟩ : ∃ q, gradB l m1 m2 = q := ⟨_, rfl⟩
  have HY := hide (And.intro hE (And.intro hy (And.intro hp hq)))
  clear hE hy hp hq
  go_enter Tryd.func4, Tryd.ntmps4
  have HX := hide (lback_any _ l m1 m2 _ _ _ (ML.out.below C.out) (Mm1.out.below C.out) (Mm2.out.below C.out))
  have zl0 := (Bl.out.below C.out) 0 _ rfl
  have zl1 := (Bl.out.below C.out) 1 _ rfl
  have zl2 := (Bl.out.below C.out) 2 _ rfl
  have zl3 := (Bl.out.below C.out) 3 _ rfl
  have zl4 := (Bl.out.below C.out) 4 _ rfl
  have zl5 := (Bl.out.below C.out) 5 _ rfl
  have zl6 := (Bl.out.below C.out) 6 _ rfl
  have zx0 := (Bx.out.below C.out) 0 _ rfl
  have zx1 := (Bx.out.below C.out) 1 _ rfl
  have zx2 := (Bx.out.below C.out) 2 _ rfl
  have zg0 := (Bg.out.below C.out) 0 _ rfl
  have zg1 := (Bg.out.below C.out) 1 _ rfl
  have zg2 := (Bg.out.below C.out) 2 _ rfl
  go_wp2_with fail
  refine HX.out.mono ?_
  intro e vv1 h
  rw [HY.out.1, HY.out.2.1, HY.out.2.2.1, HY.out.2.2.2] at h
  obtain ⟨ya, yn, yk, pa, pn, pk, qa, qn, qk, rfl, hm, hs1, hs2, hb⟩ := h.any
  clear h
  replace C := hide (below_next C.out hb)
  clear HX hb zl0 zl1 zl2 zl3 zl4 zl5 zl6 zx0 zx1 zx2 zg0 zg1 zg2
  have My := hide (hm.below (below_one vv1 (.cells #[.int .i64 y.rows, .int .i64 y.cols, .slice ya yn yk] 24)))
  have S1 := hide (hs1.below (below_one vv1 (.cells #[.int .i64 y.rows, .int .i64 y.cols, .slice ya yn yk] 24)))
  have S2 := hide (hs2.below (below_one vv1 (.cells #[.int .i64 y.rows, .int .i64 y.cols, .slice ya yn yk] 24)))
  have D := below_next C.out (below_one vv1 (.cells #[.int .i64 y.rows, .int .i64 y.cols, .slice ya yn yk] 24))
  replace ML := hide (ML.out.below D)
  replace Mm1 := hide (Mm1.out.below D)
  replace Mm2 := hide (Mm2.out.below D)
  replace HH := hide (HH.out.below D)
  replace Bl := hide (Bl.out.below D)
  replace Bx := hide (Bx.out.below D)
  replace Bg := hide (Bg.out.below D)
  replace WW := hide (below_next WW.out D)
  replace C := hide (Below.refl (vv1.alloc (.cells #[.int .i64 y.rows, .int .i64 y.cols, .slice ya yn yk] 24)).heap.size (vv1.alloc (.cells #[.int .i64 y.rows, .int .i64 y.cols, .slice ya yn yk] 24)))
  clear D
  have By := hide (Box.new vv1 [.int .i64 y.rows, .int .i64 y.cols, .slice ya yn yk] 24 (B := vv1.heap.size) (by simp))
  clear hm hs1 hs2
  have D := below_next C.out (below_one (vv1.alloc (.cells #[.int .i64 y.rows, .int .i64 y.cols, .slice ya yn yk] 24)) (.cells #[.int .i64 p.rows, .int .i64 p.cols, .slice pa pn pk, .int .i64 q.rows, .int .i64 q.cols, .slice qa qn qk] 43))
  replace ML := hide (ML.out.below D)
  replace Mm1 := hide (Mm1.out.below D)
  replace Mm2 := hide (Mm2.out.below D)
  replace HH := hide (HH.out.below D)
  replace Bl := hide (Bl.out.below D)
  replace Bx := hide (Bx.out.below D)
  replace Bg := hide (Bg.out.below D)
  replace By := hide (By.out.below D)
  replace My := hide (My.out.below D)
  replace S1 := hide (S1.out.below D)
  replace S2 := hide (S2.out.below D)
  replace WW := hide (below_next WW.out D)
  replace C := hide (Below.refl ((vv1.alloc (.cells #[.int .i64 y.rows, .int .i64 y.cols, .slice ya yn yk] 24)).alloc (.cells #[.int .i64 p.rows, .int .i64 p.cols, .slice pa pn pk, .int .i64 q.rows, .int .i64 q.cols, .slice qa qn qk] 43)).heap.size ((vv1.alloc (.cells #[.int .i64 y.rows, .int .i64 y.cols, .slice ya yn yk] 24)).alloc (.cells #[.int .i64 p.rows, .int .i64 p.cols, .slice pa pn pk, .int .i64 q.rows, .int .i64 q.cols, .slice qa qn qk] 43)))
  clear D
  have Bd := hide (Box.new (vv1.alloc (.cells #[.int .i64 y.rows, .int .i64 y.cols, .slice ya yn yk] 24)) [.int .i64 p.rows, .int .i64 p.cols, .slice pa pn pk, .int .i64 q.rows, .int .i64 q.cols, .slice qa qn qk] 43 (B := vv1.heap.size + 1) (by simp))
  have HX := hide (rbackfault_any _ _ _ l m1 m2 _ (ML.out.below C.out) (Mm1.out.below C.out) (Mm2.out.below C.out))
  have zl0 := (Bl.out.below C.out) 0 _ rfl
  have zl1 := (Bl.out.below C.out) 1 _ rfl
  have zl2 := (Bl.out.below C.out) 2 _ rfl
  have zl3 := (Bl.out.below C.out) 3 _ rfl
  have zl4 := (Bl.out.below C.out) 4 _ rfl
  have zl5 := (Bl.out.below C.out) 5 _ rfl
  have zl6 := (Bl.out.below C.out) 6 _ rfl
  have zx0 := (Bx.out.below C.out) 0 _ rfl
  have zx1 := (Bx.out.below C.out) 1 _ rfl
  have zx2 := (Bx.out.below C.out) 2 _ rfl
  have zg0 := (Bg.out.below C.out) 0 _ rfl
  have zg1 := (Bg.out.below C.out) 1 _ rfl
  have zg2 := (Bg.out.below C.out) 2 _ rfl
  go_wp2_with fail
  refine HX.out.mono ?_
  rintro e vv2 ⟨rfl, hb⟩
  rw [HY.out.1]
  replace C := hide (below_next C.out hb)
  clear HX hb zl0 zl1 zl2 zl3 zl4 zl5 zl6 zx0 zx1 zx2 zg0 zg1 zg2
  by_cases hE : E = 0
  · subst hE
    rw [err_eq rfl]
    have CA := C
    obtain ⟨V, hV⟩ : ∃ V, V = ((vv2.alloc (.cells #[.int .i64 0, .int .i64 0, .slice none 0 0] 24)).alloc (.cells #[.int .i64 0, .int .i64 0, .slice none 0 0, .int .i64 0, .int .i64 0, .slice none 0 0] 43)) := ⟨_, rfl⟩
    have HV := hide hV
    have CV := hide (below_next C.out (below_next (below_one vv2 (.cells #[.int .i64 0, .int .i64 0, .slice none 0 0] 24)) (below_one (vv2.alloc (.cells #[.int .i64 0, .int .i64 0, .slice none 0 0] 24)) (.cells #[.int .i64 0, .int .i64 0, .slice none 0 0, .int .i64 0, .int .i64 0, .slice none 0 0] 43))))
    rw [← hV] at CV
    have LU := hide C.out.size
    have BwV : Hid (Box V (vv2.heap.size) [.int .i64 0, .int .i64 0, .slice none 0 0]) := by rw [hV]; exact hide ((Box.new vv2 [.int .i64 0, .int .i64 0, .slice none 0 0] 24 rfl).below (below_one _ _))
    have FwV : Hid (Free V (vv2.heap.size)) := by rw [hV]; exact hide ((Free.new vv2 #[.int .i64 0, .int .i64 0, .slice none 0 0] 24 rfl).below (below_one _ _) (Nat.lt_of_lt_of_eq (Nat.lt_succ_self _) (World.size_alloc _ _).symm))
    have BfV : Hid (Box V (vv2.heap.size + 1) [.int .i64 0, .int .i64 0, .slice none 0 0, .int .i64 0, .int .i64 0, .slice none 0 0]) := by rw [hV]; exact hide (Box.new (vv2.alloc (.cells #[.int .i64 0, .int .i64 0, .slice none 0 0] 24)) [.int .i64 0, .int .i64 0, .slice none 0 0, .int .i64 0, .int .i64 0, .slice none 0 0] 43 (World.size_alloc _ _))
    have FfV : Hid (Free V (vv2.heap.size + 1)) := by rw [hV]; exact hide (Free.new (vv2.alloc (.cells #[.int .i64 0, .int .i64 0, .slice none 0 0] 24)) #[.int .i64 0, .int .i64 0, .slice none 0 0, .int .i64 0, .int .i64 0, .slice none 0 0] 43 (World.size_alloc _ _))
    clear hV
    have zl0 := (Bl.out.below CV.out) 0 _ rfl
    have zl1 := (Bl.out.below CV.out) 1 _ rfl
    have zl2 := (Bl.out.below CV.out) 2 _ rfl
    have zl3 := (Bl.out.below CV.out) 3 _ rfl
    have zl4 := (Bl.out.below CV.out) 4 _ rfl
    have zl5 := (Bl.out.below CV.out) 5 _ rfl
    have zl6 := (Bl.out.below CV.out) 6 _ rfl
    have zx0 := (Bx.out.below CV.out) 0 _ rfl
    have zx1 := (Bx.out.below CV.out) 1 _ rfl
    have zx2 := (Bx.out.below CV.out) 2 _ rfl
    have zg0 := (Bg.out.below CV.out) 0 _ rfl
    have zg1 := (Bg.out.below CV.out) 1 _ rfl
    have zg2 := (Bg.out.below CV.out) 2 _ rfl
    rw [HV.out] at zl0 zl1 zl2 zl3 zl4 zl5 zl6 zx0 zx1 zx2 zg0 zg1 zg2
    have HX := hide (rback_any _ _ _ l m1 m2 V (ML.out.below CV.out) (Mm1.out.below CV.out) (Mm2.out.below CV.out) HY.out.1)
    rw [HY.out.2.1, HY.out.2.2.1, HY.out.2.2.2] at HX
    go_wp2_with fail
    rw [← HV.out]
    refine HX.out.mono ?_
    intro e u2 h
    obtain ⟨ea, en, ek, sa, sn, sk, ta, tn, tk, rfl, hm, hs1, hs2, hb, hf, hf1, hf2⟩ := h.any
    clear h HX zl0 zl1 zl2 zl3 zl4 zl5 zl6 zx0 zx1 zx2 zg0 zg1 zg2
    have D := below_next CV.out hb
    obtain ⟨V2, hV⟩ : ∃ V, V = (((((((((u2.setCell ⟨vv2.heap.size, 0, none⟩ (.int .i64 y.rows)).setCell ⟨vv2.heap.size, 1, none⟩ (.int .i64 y.cols)).setCell ⟨vv2.heap.size, 2, none⟩ (.slice ea en ek)).setCell ⟨vv2.heap.size + 1, 0, none⟩ (.int .i64 p.rows)).setCell ⟨vv2.heap.size + 1, 1, none⟩ (.int .i64 p.cols)).setCell ⟨vv2.heap.size + 1, 2, none⟩ (.slice sa sn sk)).setCell ⟨vv2.heap.size + 1, 3, none⟩ (.int .i64 q.rows)).setCell ⟨vv2.heap.size + 1, 4, none⟩ (.int .i64 q.cols)).setCell ⟨vv2.heap.size + 1, 5, none⟩ (.slice ta tn tk)) := ⟨_, rfl⟩
    have HV2 := hide hV
    have HA := above9 (B := vv2.heap.size) (C := vv2.heap.size + 1) BwV.out.lt BfV.out.lt u2 (.int .i64 y.rows) (.int .i64 y.cols) (.slice ea en ek) (.int .i64 p.rows) (.int .i64 p.cols) (.slice sa sn sk) (.int .i64 q.rows) (.int .i64 q.cols) (.slice ta tn tk)
    rw [← hV] at HA
    have CN := hide (below9 D (B := vv2.heap.size) (C := vv2.heap.size + 1) LU.out (Nat.le_succ_of_le LU.out) (.int .i64 y.rows) (.int .i64 y.cols) (.slice ea en ek) (.int .i64 p.rows) (.int .i64 p.cols) (.slice sa sn sk) (.int .i64 q.rows) (.int .i64 q.cols) (.slice ta tn tk))
    rw [← hV] at CN
    have Bw : Hid (Box V2 (vv2.heap.size) [.int .i64 y.rows, .int .i64 y.cols, .slice ea en ek]) := by rw [hV]; exact hide ((((set_three (BwV.out.below hb) _ _ _).set3 (Nat.ne_of_lt (Nat.lt_succ_self _)) _ _ _)).set345 (Nat.ne_of_lt (Nat.lt_succ_self _)) _ _ _)
    have Bf : Hid (Box V2 (vv2.heap.size + 1) [.int .i64 p.rows, .int .i64 p.cols, .slice sa sn sk, .int .i64 q.rows, .int .i64 q.cols, .slice ta tn tk]) := by rw [hV]; exact hide (two_set (two_set0 ((BfV.out.below hb).set3 (Nat.succ_ne_self _) _ _ _) _ _ _) _ _ _)
    have Mw := hide (hm.above hf HA)
    have P1 := hide (hs1.above hf1 HA)
    have P2 := hide (hs2.above hf2 HA)
    have zw0 := (BwV.out.below hb) 0 _ rfl
    have fw0 := (FwV.out.below hb BwV.out.lt) 0
    have zw1 := (BwV.out.below hb) 1 _ rfl
    have fw1 := (FwV.out.below hb BwV.out.lt) 1
    have zw2 := (BwV.out.below hb) 2 _ rfl
    have fw2 := (FwV.out.below hb BwV.out.lt) 2
    have zf0 := (BfV.out.below hb) 0 _ rfl
    have ff0 := (FfV.out.below hb BfV.out.lt) 0
    have zf1 := (BfV.out.below hb) 1 _ rfl
    have ff1 := (FfV.out.below hb BfV.out.lt) 1
    have zf2 := (BfV.out.below hb) 2 _ rfl
    have ff2 := (FfV.out.below hb BfV.out.lt) 2
    have zf3 := (BfV.out.below hb) 3 _ rfl
    have ff3 := (FfV.out.below hb BfV.out.lt) 3
    have zf4 := (BfV.out.below hb) 4 _ rfl
    have ff4 := (FfV.out.below hb BfV.out.lt) 4
    have zf5 := (BfV.out.below hb) 5 _ rfl
    have ff5 := (FfV.out.below hb BfV.out.lt) 5
    replace HH := hide (HH.out.below CN.out)
    replace By := hide (By.out.below CN.out)
    replace My := hide (My.out.below CN.out)
    replace S1 := hide (S1.out.below CN.out)
    replace S2 := hide (S2.out.below CN.out)
    replace Bd := hide (Bd.out.below CN.out)
    replace WW := hide (below_next WW.out CN.out)
    clear hm hs1 hs2 hb hf hf1 hf2 D HA hV ML Mm1 Mm2 Bl Bx Bg C CA CV CN BwV FwV BfV FfV LU
    have C := hide (Below.refl V2.heap.size V2)
    have HX := hide (error_same (k := 0) (n := 0) rfl _ (HH.out.below C.out))
    go_wp2_with fail
    rw [← HV2.out]
    clear zw0 fw0 zw1 fw1 zw2 fw2 zf0 ff0 zf1 ff1 zf2 ff2 zf3 ff3 zf4 ff4 zf5 ff5
    refine HX.out.mono ?_
    rintro e vv3 ⟨rfl, hb⟩
    replace C := hide (below_next C.out hb)
    clear HX hb 
    have HX := hide (matrices_any _ _ y y _ (My.out.below C.out) (Mw.out.below C.out))
    have zy0 := (By.out.below C.out) 0 _ rfl
    have zy1 := (By.out.below C.out) 1 _ rfl
    have zy2 := (By.out.below C.out) 2 _ rfl
    have zw0 := (Bw.out.below C.out) 0 _ rfl
    have zw1 := (Bw.out.below C.out) 1 _ rfl
    have zw2 := (Bw.out.below C.out) 2 _ rfl
    go_wp2_with fail
    refine HX.out.mono ?_
    rintro e vv4 ⟨rfl, hb⟩
    rw [sameM_refl]
    replace C := hide (below_next C.out hb)
    clear HX hb zy0 zy1 zy2 zw0 zw1 zw2
    have zd0 := (Bd.out.below C.out) 0 _ rfl
    have zd1 := (Bd.out.below C.out) 1 _ rfl
    have zd2 := (Bd.out.below C.out) 2 _ rfl
    have zd3 := (Bd.out.below C.out) 3 _ rfl
    have zd4 := (Bd.out.below C.out) 4 _ rfl
    have zd5 := (Bd.out.below C.out) 5 _ rfl
    have zf0 := (Bf.out.below C.out) 0 _ rfl
    have zf1 := (Bf.out.below C.out) 1 _ rfl
    have zf2 := (Bf.out.below C.out) 2 _ rfl
    have zf3 := (Bf.out.below C.out) 3 _ rfl
    have zf4 := (Bf.out.below C.out) 4 _ rfl
    have zf5 := (Bf.out.below C.out) 5 _ rfl
    have y0 := fun o => cell_past zf0 o
    have y1 := fun o => cell_past zf1 o
    have y2 := fun o => cell_past zf2 o
    have y3 := fun o => cell_past zf3 o
    have y4 := fun o => cell_past zf4 o
    have y5 := fun o => cell_past zf5 o
    have C1 := hide (below_next C.out (below_next (below_one vv4 (.cells #[.int .i64 p.rows, .int .i64 p.cols, .slice pa pn pk, .int .i64 q.rows, .int .i64 q.cols, .slice qa qn qk] 43)) (below_one (vv4.alloc (.cells #[.int .i64 p.rows, .int .i64 p.cols, .slice pa pn pk, .int .i64 q.rows, .int .i64 q.cols, .slice qa qn qk] 43)) (.cells #[.int .i64 p.rows, .int .i64 p.cols, .slice sa sn sk, .int .i64 q.rows, .int .i64 q.cols, .slice ta tn tk] 43))))
    have HG1 : Hid (OneGrad ((vv4.alloc (.cells #[.int .i64 p.rows, .int .i64 p.cols, .slice pa pn pk, .int .i64 q.rows, .int .i64 q.cols, .slice qa qn qk] 43)).alloc (.cells #[.int .i64 p.rows, .int .i64 p.cols, .slice sa sn sk, .int .i64 q.rows, .int .i64 q.cols, .slice ta tn tk] 43)) vv4.heap.size p q) := hide ⟨_, _, _, _, _, _, (Box.new vv4 [.int .i64 p.rows, .int .i64 p.cols, .slice pa pn pk, .int .i64 q.rows, .int .i64 q.cols, .slice qa qn qk] 43 (B := vv4.heap.size) rfl).below (below_one _ _), S1.out.below C1.out, S2.out.below C1.out⟩
    have HG2 : Hid (OneGrad ((vv4.alloc (.cells #[.int .i64 p.rows, .int .i64 p.cols, .slice pa pn pk, .int .i64 q.rows, .int .i64 q.cols, .slice qa qn qk] 43)).alloc (.cells #[.int .i64 p.rows, .int .i64 p.cols, .slice sa sn sk, .int .i64 q.rows, .int .i64 q.cols, .slice ta tn tk] 43)) (vv4.heap.size + 1) p q) := hide ⟨_, _, _, _, _, _, Box.new (vv4.alloc (.cells #[.int .i64 p.rows, .int .i64 p.cols, .slice pa pn pk, .int .i64 q.rows, .int .i64 q.cols, .slice qa qn qk] 43)) [.int .i64 p.rows, .int .i64 p.cols, .slice sa sn sk, .int .i64 q.rows, .int .i64 q.cols, .slice ta tn tk] 43 (B := vv4.heap.size + 1) (World.size_alloc _ _), P1.out.below C1.out, P2.out.below C1.out⟩
    have HX := hide (grads_any _ _ p q _ HG1.out HG2.out)
    go_wp2_with fail
    refine HX.out.mono ?_
    rintro e vz ⟨rfl, hb⟩
    replace C := hide (below_next C1.out hb)
    clear HX hb zd0 zd1 zd2 zd3 zd4 zd5 zf0 zf1 zf2 zf3 zf4 zf5 y0 y1 y2 y3 y4 y5
    go_wp2
    go_ret
    exact ⟨rfl, below_next WW.out C.out⟩
  · have hE0 : (E == 0) = false := by simp [hE]
    obtain ⟨rfl, rfl, rfl⟩ : y = noMx ∧ p = noMx ∧ q = noMx := by
      have h := backX_no (l := l) (x := m1) (g := m2) (by rw [HY.out.1]; exact hE)
      rw [HY.out.2.1, HY.out.2.2.1, HY.out.2.2.2] at h
      exact h
    clear hE
    clear ML Mm1 Mm2 Bl Bx Bg
    have D := below_next C.out (below_one vv2 (.cells #[.int .i64 0, .int .i64 0, .slice none 0 0] 24))
    replace HH := hide (HH.out.below D)
    replace By := hide (By.out.below D)
    replace My := hide (My.out.below D)
    replace S1 := hide (S1.out.below D)
    replace S2 := hide (S2.out.below D)
    replace Bd := hide (Bd.out.below D)
    replace WW := hide (below_next WW.out D)
    replace C := hide (Below.refl (vv2.alloc (.cells #[.int .i64 0, .int .i64 0, .slice none 0 0] 24)).heap.size (vv2.alloc (.cells #[.int .i64 0, .int .i64 0, .slice none 0 0] 24)))
    clear D
    have Bw := hide (Box.new vv2 [.int .i64 0, .int .i64 0, .slice none 0 0] 24 (B := vv2.heap.size) (by simp))
    have D := below_next C.out (below_one (vv2.alloc (.cells #[.int .i64 0, .int .i64 0, .slice none 0 0] 24)) (.cells #[.int .i64 0, .int .i64 0, .slice none 0 0, .int .i64 0, .int .i64 0, .slice none 0 0] 43))
    replace HH := hide (HH.out.below D)
    replace By := hide (By.out.below D)
    replace My := hide (My.out.below D)
    replace S1 := hide (S1.out.below D)
    replace S2 := hide (S2.out.below D)
    replace Bd := hide (Bd.out.below D)
    replace Bw := hide (Bw.out.below D)
    replace WW := hide (below_next WW.out D)
    replace C := hide (Below.refl ((vv2.alloc (.cells #[.int .i64 0, .int .i64 0, .slice none 0 0] 24)).alloc (.cells #[.int .i64 0, .int .i64 0, .slice none 0 0, .int .i64 0, .int .i64 0, .slice none 0 0] 43)).heap.size ((vv2.alloc (.cells #[.int .i64 0, .int .i64 0, .slice none 0 0] 24)).alloc (.cells #[.int .i64 0, .int .i64 0, .slice none 0 0, .int .i64 0, .int .i64 0, .slice none 0 0] 43)))
    clear D
    have Bf := hide (Box.new (vv2.alloc (.cells #[.int .i64 0, .int .i64 0, .slice none 0 0] 24)) [.int .i64 0, .int .i64 0, .slice none 0 0, .int .i64 0, .int .i64 0, .slice none 0 0] 43 (B := vv2.heap.size + 1) (by simp))
    have Mw := hide (isMx_no ((vv2.alloc (.cells #[.int .i64 0, .int .i64 0, .slice none 0 0] 24)).alloc (.cells #[.int .i64 0, .int .i64 0, .slice none 0 0, .int .i64 0, .int .i64 0, .slice none 0 0] 43)))
    have P1 := hide (IsInts.nil ((vv2.alloc (.cells #[.int .i64 0, .int .i64 0, .slice none 0 0] 24)).alloc (.cells #[.int .i64 0, .int .i64 0, .slice none 0 0, .int .i64 0, .int .i64 0, .slice none 0 0] 43)))
    have P2 := P1
    have HX := hide (error_same (k := E) (n := E) rfl _ (HH.out.below C.out))
    go_wp2_with fail
    refine HX.out.mono ?_
    rintro e vv5 ⟨rfl, hb⟩
    replace C := hide (below_next C.out hb)
    clear HX hb 
    have HX := hide (matrices_any _ _ noMx noMx _ (My.out.below C.out) (Mw.out.below C.out))
    have zy0 := (By.out.below C.out) 0 _ rfl
    have zy1 := (By.out.below C.out) 1 _ rfl
    have zy2 := (By.out.below C.out) 2 _ rfl
    have zw0 := (Bw.out.below C.out) 0 _ rfl
    have zw1 := (Bw.out.below C.out) 1 _ rfl
    have zw2 := (Bw.out.below C.out) 2 _ rfl
    go_wp2_with fail
    refine HX.out.mono ?_
    rintro e vv6 ⟨rfl, hb⟩
    rw [sameM_refl]
    replace C := hide (below_next C.out hb)
    clear HX hb zy0 zy1 zy2 zw0 zw1 zw2
    have zd0 := (Bd.out.below C.out) 0 _ rfl
    have zd1 := (Bd.out.below C.out) 1 _ rfl
    have zd2 := (Bd.out.below C.out) 2 _ rfl
    have zd3 := (Bd.out.below C.out) 3 _ rfl
    have zd4 := (Bd.out.below C.out) 4 _ rfl
    have zd5 := (Bd.out.below C.out) 5 _ rfl
    have zf0 := (Bf.out.below C.out) 0 _ rfl
    have zf1 := (Bf.out.below C.out) 1 _ rfl
    have zf2 := (Bf.out.below C.out) 2 _ rfl
    have zf3 := (Bf.out.below C.out) 3 _ rfl
    have zf4 := (Bf.out.below C.out) 4 _ rfl
    have zf5 := (Bf.out.below C.out) 5 _ rfl
    have y0 := fun o => cell_past zf0 o
    have y1 := fun o => cell_past zf1 o
    have y2 := fun o => cell_past zf2 o
    have y3 := fun o => cell_past zf3 o
    have y4 := fun o => cell_past zf4 o
    have y5 := fun o => cell_past zf5 o
    have C1 := hide (below_next C.out (below_next (below_one vv6 (.cells #[.int .i64 noMx.rows, .int .i64 noMx.cols, .slice pa pn pk, .int .i64 noMx.rows, .int .i64 noMx.cols, .slice qa qn qk] 43)) (below_one (vv6.alloc (.cells #[.int .i64 noMx.rows, .int .i64 noMx.cols, .slice pa pn pk, .int .i64 noMx.rows, .int .i64 noMx.cols, .slice qa qn qk] 43)) (.cells #[.int .i64 0, .int .i64 0, .slice none 0 0, .int .i64 0, .int .i64 0, .slice none 0 0] 43))))
    have HG1 : Hid (OneGrad ((vv6.alloc (.cells #[.int .i64 noMx.rows, .int .i64 noMx.cols, .slice pa pn pk, .int .i64 noMx.rows, .int .i64 noMx.cols, .slice qa qn qk] 43)).alloc (.cells #[.int .i64 0, .int .i64 0, .slice none 0 0, .int .i64 0, .int .i64 0, .slice none 0 0] 43)) vv6.heap.size noMx noMx) := hide ⟨_, _, _, _, _, _, (Box.new vv6 [.int .i64 noMx.rows, .int .i64 noMx.cols, .slice pa pn pk, .int .i64 noMx.rows, .int .i64 noMx.cols, .slice qa qn qk] 43 (B := vv6.heap.size) rfl).below (below_one _ _), S1.out.below C1.out, S2.out.below C1.out⟩
    have HG2 : Hid (OneGrad ((vv6.alloc (.cells #[.int .i64 noMx.rows, .int .i64 noMx.cols, .slice pa pn pk, .int .i64 noMx.rows, .int .i64 noMx.cols, .slice qa qn qk] 43)).alloc (.cells #[.int .i64 0, .int .i64 0, .slice none 0 0, .int .i64 0, .int .i64 0, .slice none 0 0] 43)) (vv6.heap.size + 1) noMx noMx) := hide ⟨_, _, _, _, _, _, Box.new (vv6.alloc (.cells #[.int .i64 noMx.rows, .int .i64 noMx.cols, .slice pa pn pk, .int .i64 noMx.rows, .int .i64 noMx.cols, .slice qa qn qk] 43)) [.int .i64 0, .int .i64 0, .slice none 0 0, .int .i64 0, .int .i64 0, .slice none 0 0] 43 (B := vv6.heap.size + 1) (World.size_alloc _ _), P1.out.below C1.out, P2.out.below C1.out⟩
    have HX := hide (grads_any _ _ noMx noMx _ HG1.out HG2.out)
    go_wp2_with fail
    refine HX.out.mono ?_
    rintro e vz ⟨rfl, hb⟩
    replace C := hide (below_next C1.out hb)
    clear HX hb zd0 zd1 zd2 zd3 zd4 zd5 zf0 zf1 zf2 zf3 zf4 zf5 y0 y1 y2 y3 y4 y5
    go_wp2
    go_ret
    exact ⟨rfl, below_next WW.out C.out⟩
end Go.Proofs.YtkncgelkbpeagacDoor
