/- The walk of the law LayerRelu.
The law LayerRelu of the landed program returns true for every two matrices: Relu twice is Relu once; nothing comes of it that is below 0, and nothing goes back where nothing came. No condition. -/
import Derived.Test.YtkncgelkbpeagacLFact
namespace Go.Proofs.Ytkncgelkbpeagac
open Go.RowKit
def reluL : Ly := ⟨2, noMx, noMx⟩
theorem reluL_0 : lfault reluL = 0 := by decide
theorem isLy_relu (w : World) : IsLy w (.agg #[.int .i64 2, .int .i64 0, .int .i64 0, .slice none 0 0, .int .i64 0, .int .i64 0, .slice none 0 0]) reluL := ⟨_, _, rfl, IsInts.nil w, IsInts.nil w⟩
theorem reluL_X {x : Mx} (h : goE reluL x = 0) : goX reluL x = reluX x := by unfold goX goG; rw [if_pos h]; rfl
theorem relu_twice {x : Mx} {R C : Nat} (g : Good x R C) : goE reluL (reluX x) = 0 ∧ goX reluL (reluX x) = reluX x := by
  have h : goE reluL (reluX x) = 0 := goE_of reluL_0 g.relu.fault rfl
  refine ⟨h, ?_⟩
  rw [reluL_X h]
  show eachX (eachX x _) _ = eachX x _
  rw [each_eq (show Good (eachX x _) R C from g.relu), each_eq g]
  congr 1
  refine tab_congr (fun q hq => ?_)
  have e : cellAt (reluX x) q = max (cellAt x q) 0 := cellAt_each g _ hq
  show max (cellAt (reluX x) q) 0 = _
  rw [e]; omega
theorem relu_facts {x g : Mx} {R C : Nat} (gx : Good x R C) (h : backE reluL x g = 0) :
    (gradW reluL x g).cells.length = 0 ∧ (gradB reluL x g).cells.length = 0 ∧ (backX reluL x g).cells.length = (reluX x).cells.length ∧ g.cells.length = (reluX x).cells.length ∧
      ∀ i : Nat, i < (reluX x).cells.length → ∃ vx vg, (reluX x).cells[i]? = some (max vx 0) ∧ (backX reluL x g).cells[i]? = some (if 0 < vx then vg else 0) ∧ g.cells[i]? = some vg := by
  obtain ⟨hg, fg, e1, e2, _⟩ := backE_zero h
  obtain ⟨Rg, Cg, gg⟩ := good_of fg
  have e2 : g.cols = x.cols := e2
  have gg := gg.same (R' := R) (C' := C) (by have := gg.r; have := gx.r; omega) (by have := gg.c; have := gx.c; omega)
  have hb : backX reluL x g = reluB x g := by unfold backX backG; rw [if_pos h]; rfl
  have hl : (reluX x).cells.length = R * C := gx.relu.l
  have hl2 : (reluB x g).cells.length = R * C := gg.reluB.l
  refine ⟨by unfold gradW; rw [if_pos h]; rfl, by unfold gradB; rw [if_pos h]; rfl, by rw [hb, hl, hl2], by rw [gg.l, hl], fun i hi => ?_⟩
  rw [hl] at hi
  refine ⟨cellAt x i, cellAt g i, ?_, ?_, ?_⟩
  · show (tab x.cells.length _)[i]? = _
    rw [tab_at (by rw [gx.l]; exact hi)]
  · rw [hb]
    show (tab g.cells.length _)[i]? = _
    rw [tab_at (by rw [gg.l]; exact hi)]
  · unfold cellAt; rw [List.getElem?_eq_getElem (by rw [gg.l]; exact hi)]; rfl
set_option maxHeartbeats 8000000 in
set_option maxRecDepth 100000 in
theorem relu_walk (v0 v1 : Value) (m0 m1 : Mx) (w : World) (w0 : IsMx w v0 m0) (w1 : IsMx w v1 m1) : Calls Try.prog 4 #[v0, v1] w fun e w' => e = .returned (.bool true) ∧ Below w.heap.size w w' := by
  obtain ⟨sm0, rfl, hm0⟩ := w0
  obtain ⟨xa, xn, xk, rfl⟩ := hm0.shape
  obtain ⟨r, er⟩ : ∃ r, m0.rows = r := ⟨_, rfl⟩
  obtain ⟨c, ec⟩ : ∃ r, m0.cols = r := ⟨_, rfl⟩
  have Mm0 := hide (show IsMx w (.agg #[.int .i64 r, .int .i64 c, .slice xa xn xk]) m0 from ⟨_, by rw [er, ec], hm0⟩)
  obtain ⟨sm1, rfl, hm1⟩ := w1
  obtain ⟨ga, gn, gk, rfl⟩ := hm1.shape
  obtain ⟨r', er'⟩ : ∃ r, m1.rows = r := ⟨_, rfl⟩
  obtain ⟨c', ec'⟩ : ∃ r, m1.cols = r := ⟨_, rfl⟩
  have Mm1 := hide (show IsMx w (.agg #[.int .i64 r', .int .i64 c', .slice ga gn gk]) m1 from ⟨_, by rw [er', ec'], hm1⟩)
  have HEQ := hide (And.intro er (And.intro ec (And.intro er' ec')))
  rw [er, ec, er', ec']
  clear hm0 hm1 er ec er' ec'
  have WW := hide (Below.refl w.heap.size w)
  have C := hide (Below.refl w.heap.size w)
  have D := below_next C.out (below_one w (.cells #[.int .i64 r, .int .i64 c, .slice xa xn xk] 24))
  replace Mm0 := hide (Mm0.out.below D)
  replace Mm1 := hide (Mm1.out.below D)
  replace WW := hide (below_next WW.out D)
  replace C := hide (Below.refl (w.alloc (.cells #[.int .i64 r, .int .i64 c, .slice xa xn xk] 24)).heap.size (w.alloc (.cells #[.int .i64 r, .int .i64 c, .slice xa xn xk] 24)))
  clear D
  have Bx := hide (Box.new w [.int .i64 r, .int .i64 c, .slice xa xn xk] 24 (B := w.heap.size) (by simp))
  have D := below_next C.out (below_one (w.alloc (.cells #[.int .i64 r, .int .i64 c, .slice xa xn xk] 24)) (.cells #[.int .i64 r', .int .i64 c', .slice ga gn gk] 24))
  replace Mm0 := hide (Mm0.out.below D)
  replace Mm1 := hide (Mm1.out.below D)
  replace Bx := hide (Bx.out.below D)
  replace WW := hide (below_next WW.out D)
  replace C := hide (Below.refl ((w.alloc (.cells #[.int .i64 r, .int .i64 c, .slice xa xn xk] 24)).alloc (.cells #[.int .i64 r', .int .i64 c', .slice ga gn gk] 24)).heap.size ((w.alloc (.cells #[.int .i64 r, .int .i64 c, .slice xa xn xk] 24)).alloc (.cells #[.int .i64 r', .int .i64 c', .slice ga gn gk] 24)))
  clear D
  have Bg := hide (Box.new (w.alloc (.cells #[.int .i64 r, .int .i64 c, .slice xa xn xk] 24)) [.int .i64 r', .int .i64 c', .slice ga gn gk] 24 (B := w.heap.size + 1) (by simp))
  go_enter Try.func4, Try.ntmps4
  have HX := hide (lfact_any ((w.alloc (.cells #[.int .i64 r, .int .i64 c, .slice xa xn xk] 24)).alloc (.cells #[.int .i64 r', .int .i64 c', .slice ga gn gk] 24)))
  go_wp2_with fail
  refine HX.out.mono ?_
  rintro e u1 ⟨rfl, hb⟩
  replace C := hide (below_next C.out hb)
  clear HX hb 
  have D := below_next C.out (below_one u1 (.cells #[.int .i64 2, .int .i64 0, .int .i64 0, .slice none 0 0, .int .i64 0, .int .i64 0, .slice none 0 0] 26))
  replace Mm0 := hide (Mm0.out.below D)
  replace Mm1 := hide (Mm1.out.below D)
  replace Bx := hide (Bx.out.below D)
  replace Bg := hide (Bg.out.below D)
  replace WW := hide (below_next WW.out D)
  replace C := hide (Below.refl (u1.alloc (.cells #[.int .i64 2, .int .i64 0, .int .i64 0, .slice none 0 0, .int .i64 0, .int .i64 0, .slice none 0 0] 26)).heap.size (u1.alloc (.cells #[.int .i64 2, .int .i64 0, .int .i64 0, .slice none 0 0, .int .i64 0, .int .i64 0, .slice none 0 0] 26)))
  clear D
  have Bl := hide (Box.new u1 [.int .i64 2, .int .i64 0, .int .i64 0, .slice none 0 0, .int .i64 0, .int .i64 0, .slice none 0 0] 26 (B := u1.heap.size) (by simp))
  have ML := hide (isLy_relu (u1.alloc (.cells #[.int .i64 2, .int .i64 0, .int .i64 0, .slice none 0 0, .int .i64 0, .int .i64 0, .slice none 0 0] 26)))
  obtain ⟨E, hE⟩ : ∃ E, goE reluL m0 = E := ⟨_, rfl⟩
  obtain ⟨y, hy⟩ : ∃ y, goX reluL m0 = y := ⟨_, rfl⟩
  have HY := hide (And.intro hE hy)
  clear hE hy
  have HX := hide (lgo_any _ reluL m0 _ _ (ML.out.below C.out) (Mm0.out.below C.out))
  have zx0 := (Bx.out.below C.out) 0 _ rfl
  have zx1 := (Bx.out.below C.out) 1 _ rfl
  have zx2 := (Bx.out.below C.out) 2 _ rfl
  go_wp2_with fail
  refine HX.out.mono ?_
  intro e u2 h
  rw [HY.out.1, HY.out.2] at h
  obtain ⟨ya, yn, yk, rfl, hm, hb⟩ := h.any
  clear h
  replace C := hide (below_next C.out hb)
  clear HX hb zx0 zx1 zx2
  by_cases hE : E = 0
  · subst hE
    rw [err_eq rfl]
    obtain ⟨R, Cc, gx⟩ := good_of (goE_zero HY.out.1).2.1
    have hy1 : y = reluX m0 := by rw [← HY.out.2]; exact reluL_X HY.out.1
    have gy : Good y R Cc := by rw [hy1]; exact gx.relu
    have hyy : goE reluL y = 0 ∧ goX reluL y = y := by rw [hy1]; exact relu_twice gx
    have HG := hide (And.intro gx (And.intro hy1 (And.intro gy hyy)))
    clear gx hy1 gy hyy
    have My := hide (hm.below (below_one u2 (.cells #[.int .i64 y.rows, .int .i64 y.cols, .slice ya yn yk] 24)))
    have D := below_next C.out (below_one u2 (.cells #[.int .i64 y.rows, .int .i64 y.cols, .slice ya yn yk] 24))
    replace Mm0 := hide (Mm0.out.below D)
    replace Mm1 := hide (Mm1.out.below D)
    replace Bx := hide (Bx.out.below D)
    replace Bg := hide (Bg.out.below D)
    replace Bl := hide (Bl.out.below D)
    replace ML := hide (ML.out.below D)
    replace WW := hide (below_next WW.out D)
    replace C := hide (Below.refl (u2.alloc (.cells #[.int .i64 y.rows, .int .i64 y.cols, .slice ya yn yk] 24)).heap.size (u2.alloc (.cells #[.int .i64 y.rows, .int .i64 y.cols, .slice ya yn yk] 24)))
    clear D
    have By := hide (Box.new u2 [.int .i64 y.rows, .int .i64 y.cols, .slice ya yn yk] 24 (B := u2.heap.size) (by simp))
    clear hm
    have HX := hide (lgo_any _ reluL y _ _ (ML.out.below C.out) (My.out.below C.out))
    have zl0 := (Bl.out.below C.out) 0 _ rfl
    have zl1 := (Bl.out.below C.out) 1 _ rfl
    have zl2 := (Bl.out.below C.out) 2 _ rfl
    have zl3 := (Bl.out.below C.out) 3 _ rfl
    have zl4 := (Bl.out.below C.out) 4 _ rfl
    have zl5 := (Bl.out.below C.out) 5 _ rfl
    have zl6 := (Bl.out.below C.out) 6 _ rfl
    have zy0 := (By.out.below C.out) 0 _ rfl
    have zy1 := (By.out.below C.out) 1 _ rfl
    have zy2 := (By.out.below C.out) 2 _ rfl
    go_wp2_with fail
    refine HX.out.mono ?_
    intro e u3 h
    rw [HG.out.2.2.2.1, HG.out.2.2.2.2] at h
    obtain ⟨za, zn, zk, rfl, hm, hb⟩ := h.any
    rw [err_eq rfl]
    clear h
    replace C := hide (below_next C.out hb)
    clear HX hb zl0 zl1 zl2 zl3 zl4 zl5 zl6 zy0 zy1 zy2
    have Mz := hide (hm.below (below_one u3 (.cells #[.int .i64 y.rows, .int .i64 y.cols, .slice za zn zk] 24)))
    have D := below_next C.out (below_one u3 (.cells #[.int .i64 y.rows, .int .i64 y.cols, .slice za zn zk] 24))
    replace Mm0 := hide (Mm0.out.below D)
    replace Mm1 := hide (Mm1.out.below D)
    replace Bx := hide (Bx.out.below D)
    replace Bg := hide (Bg.out.below D)
    replace Bl := hide (Bl.out.below D)
    replace ML := hide (ML.out.below D)
    replace By := hide (By.out.below D)
    replace My := hide (My.out.below D)
    replace WW := hide (below_next WW.out D)
    replace C := hide (Below.refl (u3.alloc (.cells #[.int .i64 y.rows, .int .i64 y.cols, .slice za zn zk] 24)).heap.size (u3.alloc (.cells #[.int .i64 y.rows, .int .i64 y.cols, .slice za zn zk] 24)))
    clear D
    have Bz := hide (Box.new u3 [.int .i64 y.rows, .int .i64 y.cols, .slice za zn zk] 24 (B := u3.heap.size) (by simp))
    clear hm
    have HX := hide (matrices_any _ _ y y _ (Mz.out.below C.out) (My.out.below C.out))
    have zz0 := (Bz.out.below C.out) 0 _ rfl
    have zz1 := (Bz.out.below C.out) 1 _ rfl
    have zz2 := (Bz.out.below C.out) 2 _ rfl
    have zy0 := (By.out.below C.out) 0 _ rfl
    have zy1 := (By.out.below C.out) 1 _ rfl
    have zy2 := (By.out.below C.out) 2 _ rfl
    go_wp2_with fail
    refine HX.out.mono ?_
    rintro e u4 ⟨rfl, hb⟩
    rw [sameM_refl]
    replace C := hide (below_next C.out hb)
    clear HX hb zz0 zz1 zz2 zy0 zy1 zy2
    obtain ⟨to, hto⟩ : ∃ q, backX reluL m0 m1 = q := ⟨_, rfl⟩
    obtain ⟨da, hda⟩ : ∃ q, gradW reluL m0 m1 = q := ⟨_, rfl⟩
    obtain ⟨db, hdb⟩ : ∃ q, gradB reluL m0 m1 = q := ⟨_, rfl⟩
    obtain ⟨j, hj⟩ : ∃ q, backE reluL m0 m1 = q := ⟨_, rfl⟩
    have HT := hide (And.intro hto (And.intro hda (And.intro hdb hj)))
    clear hto hda hdb hj
    have HX := hide (lback_any _ reluL m0 m1 _ _ _ (ML.out.below C.out) (Mm0.out.below C.out) (Mm1.out.below C.out))
    have zl0 := (Bl.out.below C.out) 0 _ rfl
    have zl1 := (Bl.out.below C.out) 1 _ rfl
    have zl2 := (Bl.out.below C.out) 2 _ rfl
    have zl3 := (Bl.out.below C.out) 3 _ rfl
    have zl4 := (Bl.out.below C.out) 4 _ rfl
    have zl5 := (Bl.out.below C.out) 5 _ rfl
    have zl6 := (Bl.out.below C.out) 6 _ rfl
    have zx0 := (Bx.out.below C.out) 0 _ rfl
    have zx1 := (Bx.out.below C.out) 1 _ rfl
    have zx2 := (Bx.out.below C.out) 2 _ rfl
    have zg0 := (Bg.out.below C.out) 0 _ rfl
    have zg1 := (Bg.out.below C.out) 1 _ rfl
    have zg2 := (Bg.out.below C.out) 2 _ rfl
    go_wp2_with fail
    refine HX.out.mono ?_
    intro e u5 h
    rw [HT.out.1, HT.out.2.1, HT.out.2.2.1, HT.out.2.2.2] at h
    obtain ⟨ta, tn, tk, da', dn, dk, db', en, ek, rfl, hm, hs1, hs2, hb⟩ := h.any
    clear h
    replace C := hide (below_next C.out hb)
    clear HX hb zl0 zl1 zl2 zl3 zl4 zl5 zl6 zx0 zx1 zx2 zg0 zg1 zg2
    by_cases hj : j = 0
    · subst hj
      rw [err_eq rfl]
      have Mt := hide (hm.below (below_one u5 (.cells #[.int .i64 to.rows, .int .i64 to.cols, .slice ta tn tk] 24)))
      have Ms1 := hide (hs1.below (below_one u5 (.cells #[.int .i64 to.rows, .int .i64 to.cols, .slice ta tn tk] 24)))
      have Ms2 := hide (hs2.below (below_one u5 (.cells #[.int .i64 to.rows, .int .i64 to.cols, .slice ta tn tk] 24)))
      have D := below_next C.out (below_one u5 (.cells #[.int .i64 to.rows, .int .i64 to.cols, .slice ta tn tk] 24))
      replace Mm0 := hide (Mm0.out.below D)
      replace Mm1 := hide (Mm1.out.below D)
      replace Bx := hide (Bx.out.below D)
      replace Bg := hide (Bg.out.below D)
      replace Bl := hide (Bl.out.below D)
      replace ML := hide (ML.out.below D)
      replace By := hide (By.out.below D)
      replace My := hide (My.out.below D)
      replace Bz := hide (Bz.out.below D)
      replace Mz := hide (Mz.out.below D)
      replace WW := hide (below_next WW.out D)
      replace C := hide (Below.refl (u5.alloc (.cells #[.int .i64 to.rows, .int .i64 to.cols, .slice ta tn tk] 24)).heap.size (u5.alloc (.cells #[.int .i64 to.rows, .int .i64 to.cols, .slice ta tn tk] 24)))
      clear D
      have Bt := hide (Box.new u5 [.int .i64 to.rows, .int .i64 to.cols, .slice ta tn tk] 24 (B := u5.heap.size) (by simp))
      clear hm hs1 hs2
      have D := below_next C.out (below_one (u5.alloc (.cells #[.int .i64 to.rows, .int .i64 to.cols, .slice ta tn tk] 24)) (.cells #[.int .i64 da.rows, .int .i64 da.cols, .slice da' dn dk, .int .i64 db.rows, .int .i64 db.cols, .slice db' en ek] 38))
      replace Mm0 := hide (Mm0.out.below D)
      replace Mm1 := hide (Mm1.out.below D)
      replace Bx := hide (Bx.out.below D)
      replace Bg := hide (Bg.out.below D)
      replace Bl := hide (Bl.out.below D)
      replace ML := hide (ML.out.below D)
      replace By := hide (By.out.below D)
      replace My := hide (My.out.below D)
      replace Bz := hide (Bz.out.below D)
      replace Mz := hide (Mz.out.below D)
      replace Bt := hide (Bt.out.below D)
      replace Mt := hide (Mt.out.below D)
      replace Ms1 := hide (Ms1.out.below D)
      replace Ms2 := hide (Ms2.out.below D)
      replace WW := hide (below_next WW.out D)
      replace C := hide (Below.refl ((u5.alloc (.cells #[.int .i64 to.rows, .int .i64 to.cols, .slice ta tn tk] 24)).alloc (.cells #[.int .i64 da.rows, .int .i64 da.cols, .slice da' dn dk, .int .i64 db.rows, .int .i64 db.cols, .slice db' en ek] 38)).heap.size ((u5.alloc (.cells #[.int .i64 to.rows, .int .i64 to.cols, .slice ta tn tk] 24)).alloc (.cells #[.int .i64 da.rows, .int .i64 da.cols, .slice da' dn dk, .int .i64 db.rows, .int .i64 db.cols, .slice db' en ek] 38)))
      clear D
      have Bd := hide (Box.new (u5.alloc (.cells #[.int .i64 to.rows, .int .i64 to.cols, .slice ta tn tk] 24)) [.int .i64 da.rows, .int .i64 da.cols, .slice da' dn dk, .int .i64 db.rows, .int .i64 db.cols, .slice db' en ek] 38 (B := u5.heap.size + 1) (by simp))
      obtain ⟨n, hn⟩ : ∃ n, y.cells.length = n := ⟨_, rfl⟩
      have hfc := relu_facts HG.out.1 HT.out.2.2.2
      rw [HT.out.1, HT.out.2.1, HT.out.2.2.1, ← HG.out.2.1] at hfc
      have HF := hide hfc
      have HN := hide hn
      have hn576 : n ≤ 576 := by rw [← hn, HG.out.2.2.1.l]; have := Nat.mul_le_mul HG.out.2.2.1.hR HG.out.2.2.1.hC; omega
      clear hfc hn
      obtain ⟨W0, hW0⟩ : ∃ W0, W0 = ((u5.alloc (.cells #[.int .i64 to.rows, .int .i64 to.cols, .slice ta tn tk] 24)).alloc (.cells #[.int .i64 da.rows, .int .i64 da.cols, .slice da' dn dk, .int .i64 db.rows, .int .i64 db.cols, .slice db' en ek] 38)) := ⟨_, rfl⟩
      rw [← hW0] at Mm0 Mm1 Bx Bg Bl ML By My Bz Mz Bt Mt Ms1 Ms2 Bd WW
      have hy2 := By.out 2 _ rfl
      have ht2 := Bt.out 2 _ rfl
      have hg2 := Bg.out 2 _ rfl
      have hd2 := Bd.out 2 _ rfl
      have hd5 := Bd.out 5 _ rfl
      obtain ⟨y1, y2, ey, _, _, h4y⟩ := My.out.ints
      obtain ⟨t1, t2, et, _, _, h4t⟩ := Mt.out.ints
      obtain ⟨g1, g2, eg, _, _, h4g⟩ := Mm1.out.ints
      injection ey with ey1 ey2 ey3
      injection et with et1 et2 et3
      injection eg with eg1 eg2 eg3
      have hyn : n = yn := by rw [← HN.out]; exact ey2.symm
      have htn : n = tn := by rw [et2, HF.out.2.2.1, ← HN.out]
      have hgn : n = gn := by rw [eg2, HF.out.2.2.2.1, ← HN.out]
      subst hyn htn hgn
      have hdn : 0 = dn := by obtain ⟨_, _, e, _⟩ := Ms1.out; injection e with _ e _; rw [HF.out.1] at e; exact e.symm
      have hen : 0 = en := by obtain ⟨_, _, e, _⟩ := Ms2.out; injection e with _ e _; rw [HF.out.2.1] at e; exact e.symm
      subst hdn hen
      have H4 := hide (And.intro h4y (And.intro h4t h4g))
      have HS := hide (And.intro ey1 (And.intro et1 eg1))
      clear h4y h4t h4g ey1 et1 eg1 ey2 et2 eg2 ey3 et3 eg3
      go_wp2
      rw [← hW0]
      clear hW0
      go_loopw [13] (fun a wr => ∃ (i q : Nat) (xi : Int), i ≤ n ∧ xi = (i : Int) ∧ a = .int .i64 xi ∧ wr = W0.drewN q) (fun a _ => n - (intOf a).toNat)
      case atStart => exact ⟨0, 0, 0, Nat.zero_le _, rfl, rfl, rfl⟩
      case round =>
        obtain ⟨i, q, xi, hi, hxi, rfl, rfl⟩ := hrel
        have HXI := hide hxi
        have hxi0 : 0 ≤ xi := by omega
        have hxi1 : xi ≤ 576 := by omega
        clear hxi
        by_cases hlt : xi < (n : Int)
        · have hin : i < n := by have := HXI.out; omega
          have hxn : xi.toNat = i := by have := HXI.out; omega
          obtain ⟨vx, vg, e1, e2, e3⟩ := HF.out.2.2.2.2 i (by rw [HN.out]; exact hin)
          obtain ⟨yb, yo, ry, hcy⟩ := H4.out.1.resolve_left (fun e => by rw [e] at e1; simp at e1)
          obtain ⟨tb, to', rt, hct⟩ := H4.out.2.1.resolve_left (fun e => by rw [e] at e2; simp at e2)
          obtain ⟨gb, go', rg, hcg⟩ := H4.out.2.2.resolve_left (fun e => by rw [e] at e3; simp at e3)
          have s1 := HS.out.1.trans ry
          have s2 := HS.out.2.1.trans rt
          have s3 := HS.out.2.2.trans rg
          clear ry rt rg HS H4
          subst s1 s2 s3
          have c1 : W0.cell? ⟨yb, yo + xi.toNat, none⟩ = some (.int .i64 (max vx 0)) := by rw [hxn]; exact hcy i _ e1
          have c2 : W0.cell? ⟨tb, to' + xi.toNat, none⟩ = some (.int .i64 (if 0 < vx then vg else 0)) := by rw [hxn]; exact hct i _ e2
          have c3 : W0.cell? ⟨gb, go' + xi.toNat, none⟩ = some (.int .i64 vg) := by rw [hxn]; exact hcg i _ e3
          clear hcy hct hcg e1 e2 e3 hxn
          by_cases hv : 0 < vx
          · rw [show max vx 0 = vx by omega] at c1
            rw [if_pos hv] at c2
            have t1 : decide (vx < 0) = false := by simp; omega
            have t2 : (vx == 0) = false := by simp; omega
            have t3 : decide (0 < vx) = true := by simp [hv]
            have t4 : (vg != vg) = false := by simp
            go_wp2
            go_quiet (fail)
            go_wp2
            exact ⟨⟨i + 1, _, _, by omega, by have := HXI.out; omega, rfl, rfl⟩, by have := HXI.out; simp [intOf]; omega⟩
          · rw [show max vx 0 = 0 by omega] at c1
            rw [if_neg hv] at c2
            go_wp2
            go_quiet (fail)
            go_wp2
            exact ⟨⟨i + 1, _, _, by omega, by have := HXI.out; omega, rfl, rfl⟩, by have := HXI.out; simp [intOf]; omega⟩
        · go_wp2
          go_ret
          exact ⟨rfl, below_next WW.out (below_drewN _ _)⟩
    · rw [err_ne hj]
      have D := below_next C.out (below_one u5 (.cells #[.int .i64 to.rows, .int .i64 to.cols, .slice ta tn tk] 24))
      replace Mm0 := hide (Mm0.out.below D)
      replace Mm1 := hide (Mm1.out.below D)
      replace Bx := hide (Bx.out.below D)
      replace Bg := hide (Bg.out.below D)
      replace Bl := hide (Bl.out.below D)
      replace ML := hide (ML.out.below D)
      replace By := hide (By.out.below D)
      replace My := hide (My.out.below D)
      replace Bz := hide (Bz.out.below D)
      replace Mz := hide (Mz.out.below D)
      replace WW := hide (below_next WW.out D)
      replace C := hide (Below.refl (u5.alloc (.cells #[.int .i64 to.rows, .int .i64 to.cols, .slice ta tn tk] 24)).heap.size (u5.alloc (.cells #[.int .i64 to.rows, .int .i64 to.cols, .slice ta tn tk] 24)))
      clear D
      have Bt := hide (Box.new u5 [.int .i64 to.rows, .int .i64 to.cols, .slice ta tn tk] 24 (B := u5.heap.size) (by simp))
      have D := below_next C.out (below_one (u5.alloc (.cells #[.int .i64 to.rows, .int .i64 to.cols, .slice ta tn tk] 24)) (.cells #[.int .i64 da.rows, .int .i64 da.cols, .slice da' dn dk, .int .i64 db.rows, .int .i64 db.cols, .slice db' en ek] 38))
      replace Mm0 := hide (Mm0.out.below D)
      replace Mm1 := hide (Mm1.out.below D)
      replace Bx := hide (Bx.out.below D)
      replace Bg := hide (Bg.out.below D)
      replace Bl := hide (Bl.out.below D)
      replace ML := hide (ML.out.below D)
      replace By := hide (By.out.below D)
      replace My := hide (My.out.below D)
      replace Bz := hide (Bz.out.below D)
      replace Mz := hide (Mz.out.below D)
      replace Bt := hide (Bt.out.below D)
      replace WW := hide (below_next WW.out D)
      replace C := hide (Below.refl ((u5.alloc (.cells #[.int .i64 to.rows, .int .i64 to.cols, .slice ta tn tk] 24)).alloc (.cells #[.int .i64 da.rows, .int .i64 da.cols, .slice da' dn dk, .int .i64 db.rows, .int .i64 db.cols, .slice db' en ek] 38)).heap.size ((u5.alloc (.cells #[.int .i64 to.rows, .int .i64 to.cols, .slice ta tn tk] 24)).alloc (.cells #[.int .i64 da.rows, .int .i64 da.cols, .slice da' dn dk, .int .i64 db.rows, .int .i64 db.cols, .slice db' en ek] 38)))
      clear D
      have Bd := hide (Box.new (u5.alloc (.cells #[.int .i64 to.rows, .int .i64 to.cols, .slice ta tn tk] 24)) [.int .i64 da.rows, .int .i64 da.cols, .slice da' dn dk, .int .i64 db.rows, .int .i64 db.cols, .slice db' en ek] 38 (B := u5.heap.size + 1) (by simp))
      clear hm hs1 hs2
      go_wp2
      go_ret
      exact ⟨rfl, below_next WW.out C.out⟩
  · rw [err_ne hE]
    have D := below_next C.out (below_one u2 (.cells #[.int .i64 y.rows, .int .i64 y.cols, .slice ya yn yk] 24))
    replace Mm0 := hide (Mm0.out.below D)
    replace Mm1 := hide (Mm1.out.below D)
    replace Bx := hide (Bx.out.below D)
    replace Bg := hide (Bg.out.below D)
    replace Bl := hide (Bl.out.below D)
    replace ML := hide (ML.out.below D)
    replace WW := hide (below_next WW.out D)
    replace C := hide (Below.refl (u2.alloc (.cells #[.int .i64 y.rows, .int .i64 y.cols, .slice ya yn yk] 24)).heap.size (u2.alloc (.cells #[.int .i64 y.rows, .int .i64 y.cols, .slice ya yn yk] 24)))
    clear D
    have By := hide (Box.new u2 [.int .i64 y.rows, .int .i64 y.cols, .slice ya yn yk] 24 (B := u2.heap.size) (by simp))
    clear hm
    go_wp2
    go_ret
    exact ⟨rfl, below_next WW.out C.out⟩
end Go.Proofs.Ytkncgelkbpeagac
