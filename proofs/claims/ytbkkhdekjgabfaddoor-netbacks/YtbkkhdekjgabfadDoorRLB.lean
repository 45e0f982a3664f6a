/- What BackOf of the document's answer comes to at the kinds Relu and Shift: what goes back, and the Grad. -/
import Derived.Test.YtbkkhdekjgabfadDoorRLGo
import Derived.Test.YtbkkhdekjgabfadDoorLBack
import Derived.Test.YtbkkhdekjgabfadDoorLScale
namespace Go.Proofs.YtbkkhdekjgabfadDoor
open Go.RowKit
/-- What BackOf comes to. -/
def RefBack (w : World) (m a b : Mx) (e : Ending) (w' : World) : Prop := ∃ v d, e = .returned (.tuple #[v, d]) ∧ IsMx w' v m ∧ IsTwo w' d a b ∧ Below w.heap.size w w' ∧ Fresh w.heap.size v ∧ Fresh2 w.heap.size d
theorem fillF_skip (h : Nat → Int) (i n : Nat) (hz : h i = 0) : tab n (fillF h i) = tab n (fillF h (i + 1)) := tab_congr (fun q _ => by
  unfold fillF
  by_cases hq : q < i
  · rw [if_pos hq, if_pos (by omega)]
  · rw [if_neg hq]
    by_cases hq' : q = i
    · subst hq'; rw [if_pos (by omega), hz]
    · rw [if_neg (by omega)])
theorem IsInts.keep {V w1 wr : World} {o : Obj} {g : Nat} (hb : Below V.heap.size V w1) (hg : V.heap.size ≤ g) (hgr : (w1.alloc o).grownBy wr (some g)) {s : Value} {zs : List Int} (h : IsInts V s zs) : IsInts wr s zs := by
  obtain ⟨a, cap, h1, h2, h3, h4⟩ := h
  exact ⟨a, cap, h1, h2, h3, h4.imp id (fun ⟨b, off, e, hc⟩ => ⟨b, off, e, fun i x hx => keep_cell hb hg hgr (hc i x hx)⟩)⟩
theorem two_set {w : World} {B : Nat} {a0 a1 a2 a3 a4 a5 : Value} (h : Box w B [a0, a1, a2, a3, a4, a5]) (x y z : Value) : Box (((w.setCell ⟨B, 3, none⟩ x).setCell ⟨B, 4, none⟩ y).setCell ⟨B, 5, none⟩ z) B [a0, a1, a2, x, y, z] := by
  have o : ∀ (u : World) (i j : Nat) (v : Value), i ≠ j → (u.setCell ⟨B, i, none⟩ v).cell? ⟨B, j, none⟩ = u.cell? ⟨B, j, none⟩ := fun u i j v hij => cell_at_other u B i j v hij
  intro j v hv
  match j, hv with
  | 0, hv => simp at hv; subst hv; rw [o _ 5 0 _ (by decide), o _ 4 0 _ (by decide), o _ 3 0 _ (by decide)]; exact h 0 _ rfl
  | 1, hv => simp at hv; subst hv; rw [o _ 5 1 _ (by decide), o _ 4 1 _ (by decide), o _ 3 1 _ (by decide)]; exact h 1 _ rfl
  | 2, hv => simp at hv; subst hv; rw [o _ 5 2 _ (by decide), o _ 4 2 _ (by decide), o _ 3 2 _ (by decide)]; exact h 2 _ rfl
  | 3, hv => simp at hv; subst hv; rw [o _ 5 3 _ (by decide), o _ 4 3 _ (by decide)]; exact World.cell?_setCell_same _ _ _ (h 3 _ rfl)
  | 4, hv => simp at hv; subst hv; rw [o _ 5 4 _ (by decide)]; exact World.cell?_setCell_same _ _ _ ((o _ 3 4 _ (by decide)).trans (h 4 _ rfl))
  | 5, hv => simp at hv; subst hv; exact World.cell?_setCell_same _ _ _ ((o _ 4 5 _ (by decide)).trans ((o _ 3 5 _ (by decide)).trans (h 5 _ rfl)))
theorem Box.set345 {w : World} {B B' : Nat} {cs : List Value} (h : Box w B cs) (hne : B ≠ B') (x y z : Value) : Box (((w.setCell ⟨B', 3, none⟩ x).setCell ⟨B', 4, none⟩ y).setCell ⟨B', 5, none⟩ z) B cs := ((h.other hne x).other hne y).other hne z
theorem Free.set345 {w : World} {B : Nat} (h : Free w B) (B' : Nat) (x y z : Value) : Free (((w.setCell ⟨B', 3, none⟩ x).setCell ⟨B', 4, none⟩ y).setCell ⟨B', 5, none⟩ z) B := fun j => by simp [h j]
set_option maxHeartbeats 8000000 in
set_option maxRecDepth 100000 in
theorem rback_relu (l : Ly) {xa : Option Addr} {xn xk : Nat} {ya : Option Addr} {yn yk : Nat} (x g : Mx) (vx vg : Value) (w : World) (hk : l.k = 2) (hE : backE l x g = 0) (hx : IsMx w vx x) (hg : IsMx w vg g) :
    Calls Tryd.prog 32 #[.agg #[.int .i64 2, .int .i64 l.w.rows, .int .i64 l.w.cols, .slice xa xn xk, .int .i64 l.b.rows, .int .i64 l.b.cols, .slice ya yn yk], vx, vg] w (RefBack w (backX l x g) (gradW l x g) (gradB l x g)) := by
  obtain ⟨sx, rfl, hsx⟩ := hx
  obtain ⟨za, zn, zk, rfl⟩ := hsx.shape
  obtain ⟨sg, rfl, hsg⟩ := hg
  obtain ⟨ga, gn, gk, rfl⟩ := hsg.shape
  obtain ⟨wr, e1⟩ : ∃ r, l.w.rows = r := ⟨_, rfl⟩
  obtain ⟨wc, e2⟩ : ∃ r, l.w.cols = r := ⟨_, rfl⟩
  obtain ⟨br, e3⟩ : ∃ r, l.b.rows = r := ⟨_, rfl⟩
  obtain ⟨bc, e4⟩ : ∃ r, l.b.cols = r := ⟨_, rfl⟩
  obtain ⟨r, e5⟩ : ∃ r, x.rows = r := ⟨_, rfl⟩
  obtain ⟨c, e6⟩ : ∃ r, x.cols = r := ⟨_, rfl⟩
  obtain ⟨r', e7⟩ : ∃ r, g.rows = r := ⟨_, rfl⟩
  obtain ⟨c', e8⟩ : ∃ r, g.cols = r := ⟨_, rfl⟩
  obtain ⟨hgo, hfg, s1, s2, _⟩ := backE_zero hE
  obtain ⟨_, hfx, _⟩ := goE_zero hgo
  obtain ⟨R, C, gx⟩ := good_of hfx
  obtain ⟨Rg, Cg, gg⟩ := good_of hfg
  have eg : givesL l x.cols = x.cols := by unfold givesL; rw [if_neg (by omega)]
  have gg := gg.same (R' := R) (C' := C) (by have := gg.r; have := gx.r; omega) (by have := gg.c; have := gx.c; omega)
  obtain ⟨n, hn⟩ : ∃ n, R * C = n := ⟨_, rfl⟩
  have hn576 : n ≤ 576 := by have := Nat.mul_le_mul gx.hR gx.hC; omega
  have hX : backX l x g = ⟨R, C, tab n (fun q => if 0 < cellAt x q then cellAt g q else 0)⟩ := by
    unfold backX backG
    rw [if_pos hE, if_neg (by omega), if_pos hk]
    unfold reluB
    rw [each_eq gg, hn]
  have hW : gradW l x g = noMx := by unfold gradW; rw [if_pos hE, if_neg (by omega), if_neg (by omega)]
  have hB : gradB l x g = noMx := by unfold gradB; rw [if_pos hE, if_neg (by omega)]
  rw [hX, hW, hB]
  have hzn : n = zn := by obtain ⟨_, _, e, _⟩ := hsx; injection e with _ e _; rw [e, gx.l, hn]
  have hgn : n = gn := by obtain ⟨_, _, e, _⟩ := hsg; injection e with _ e _; rw [e, gg.l, hn]
  subst hzn hgn
  have HLX := hide (show x.cells.length = n by rw [gx.l, hn])
  have HLG := hide (show g.cells.length = n by rw [gg.l, hn])
  have HN := hide hn
  have HMR := hide (show r = (R : Int) ∧ c = (C : Int) by rw [← e5, ← e6]; exact ⟨gx.r, gx.c⟩)
  have HSX := hide hsx
  have HSG := hide hsg
  rw [e1, e2, e3, e4, e5, e6, e7, e8]
  obtain ⟨V0, hV⟩ : ∃ V, V = ((((((w.alloc (.cells #[.int .i64 2, .int .i64 wr, .int .i64 wc, .slice xa xn xk, .int .i64 br, .int .i64 bc, .slice ya yn yk] 55)).alloc (.cells #[.int .i64 r, .int .i64 c, .slice za n zk] 25)).alloc (.cells #[.int .i64 r', .int .i64 c', .slice ga n gk] 25)).alloc (.cells #[.int .i64 0, .int .i64 0, .slice none 0 0] 25)).alloc (.cells #[.int .i64 0, .int .i64 0, .slice none 0 0, .int .i64 0, .int .i64 0, .slice none 0 0] 57)).alloc (.cells #[.int .i64 0, .int .i64 0, .slice none 0 0, .int .i64 0, .int .i64 0, .slice none 0 0] 57)) := ⟨_, rfl⟩
  have HV := hide hV
  have H0W : Hid (Below w.heap.size w V0) := by rw [hV]; exact hide (below_next (below_next (below_next (below_next (below_next (below_one _ _) (below_one _ _)) (below_one _ _)) (below_one _ _)) (below_one _ _)) (below_one _ _))
  have H0L : Hid (Box V0 w.heap.size [.int .i64 2, .int .i64 wr, .int .i64 wc, .slice xa xn xk, .int .i64 br, .int .i64 bc, .slice ya yn yk]) := by rw [hV]; exact hide ((((((Box.new w [.int .i64 2, .int .i64 wr, .int .i64 wc, .slice xa xn xk, .int .i64 br, .int .i64 bc, .slice ya yn yk] 55 rfl).below (below_one _ _)).below (below_one _ _)).below (below_one _ _)).below (below_one _ _)).below (below_one _ _))
  have H0X : Hid (Box V0 (w.heap.size + 1) [.int .i64 r, .int .i64 c, .slice za n zk]) := by rw [hV]; exact hide (((((Box.new _ [.int .i64 r, .int .i64 c, .slice za n zk] 25 (by simp)).below (below_one _ _)).below (below_one _ _)).below (below_one _ _)).below (below_one _ _))
  have H0G : Hid (Box V0 (w.heap.size + 1 + 1) [.int .i64 r', .int .i64 c', .slice ga n gk]) := by rw [hV]; exact hide ((((Box.new _ [.int .i64 r', .int .i64 c', .slice ga n gk] 25 (by simp)).below (below_one _ _)).below (below_one _ _)).below (below_one _ _))
  have H0Q : Hid (Box V0 (w.heap.size + 1 + 1 + 1) [.int .i64 0, .int .i64 0, .slice none 0 0]) := by rw [hV]; exact hide (((Box.new _ [.int .i64 0, .int .i64 0, .slice none 0 0] 25 (by simp)).below (below_one _ _)).below (below_one _ _))
  have H0F : Hid (Free V0 (w.heap.size + 1 + 1 + 1)) := by rw [hV]; exact hide (((Free.new _ _ 25 (by simp)).below (below_one _ _) (by simp)).below (below_one _ _) (by simp))
  have H0P : Hid (Box V0 (w.heap.size + 1 + 1 + 1 + 1) [.int .i64 0, .int .i64 0, .slice none 0 0, .int .i64 0, .int .i64 0, .slice none 0 0]) := by rw [hV]; exact hide ((Box.new _ [.int .i64 0, .int .i64 0, .slice none 0 0, .int .i64 0, .int .i64 0, .slice none 0 0] 57 (by simp)).below (below_one _ _))
  have H0E : Hid (Free V0 (w.heap.size + 1 + 1 + 1 + 1)) := by rw [hV]; exact hide ((Free.new _ _ 57 (by simp)).below (below_one _ _) (by simp))
  have H0D : Hid (Box V0 (w.heap.size + 1 + 1 + 1 + 1 + 1) [.int .i64 0, .int .i64 0, .slice none 0 0, .int .i64 0, .int .i64 0, .slice none 0 0]) := by rw [hV]; exact hide (Box.new _ [.int .i64 0, .int .i64 0, .slice none 0 0, .int .i64 0, .int .i64 0, .slice none 0 0] 57 (by simp))
  have H0I : Hid (Free V0 (w.heap.size + 1 + 1 + 1 + 1 + 1)) := by rw [hV]; exact hide (Free.new _ _ 57 (by simp))
  clear hV
  clear hsx hsg gx gg hn hk hE hgo hfg hfx eg s1 s2 hX hW hB e1 e2 e3 e4 e5 e6 e7 e8
  have HBK := hide (fun W => blank_any r c n W (by rw [HMR.out.1, HMR.out.2, ← HN.out]; simp) (by omega))
  have HWV := H0W
  have HBL := H0L
  have HBX := H0X
  have HBG := H0G
  have HQ := H0Q
  have HFR := H0F
  have HP := H0P
  have HFP := H0E
  have HD := H0D
  go_enter Tryd.func32, Tryd.ntmps32
  go_wp2_with fail
  rw [← HV.out]
  obtain ⟨V, hVV⟩ : ∃ V, V = V0 := ⟨_, rfl⟩
  rw [← hVV] at HWV HBL HBX HBG HQ HFR HP HFP HD ⊢
  clear hVV
  refine (HBK.out _).mono ?_
  rintro e w1 ⟨h, rfl, hh, hrow, hb1⟩
  have hglt : h < w1.heap.size := hrow.lt
  have HB1 := hide hb1
  have HG := hide hh
  have HR := hide (hrow.alloc (.cells #[.int .i64 r, .int .i64 c, .slice (some ⟨h, 0, none⟩) n n] 25))
  have HXI := hide (HSX.out.below HWV.out)
  have HGI := hide (HSG.out.below HWV.out)
  clear hb1 hh hrow HBK
  go_wp2
  go_loopw [17] (fun a wr => ∃ (i : Nat) (xi : Int), i ≤ n ∧ xi = (i : Int) ∧ a = .int .i64 xi ∧ RowAt 3 wr h (tab n (fillF (fun q => if 0 < cellAt x q then cellAt g q else 0) i)) ∧ (w1.alloc (.cells #[.int .i64 r, .int .i64 c, .slice (some ⟨h, 0, none⟩) n n] 25)).grownBy wr (some h)) (fun a _ => n - (intOf a).toNat)
  case atStart => exact ⟨0, 0, Nat.zero_le _, rfl, rfl, by rw [← fillF_zero]; exact HR.out, World.grownBy.refl _ _⟩
  case round =>
    obtain ⟨i, xi, hi, hxi, rfl, hro, hgr⟩ := hrel
    have p2 := box_cell hglt hgr (j := 2) rfl
    have j0 := keep_cell HB1.out HG.out hgr (HBL.out 0 _ rfl)
    have jx := keep_cell HB1.out HG.out hgr (HBX.out 2 _ rfl)
    have jg := keep_cell HB1.out HG.out hgr (HBG.out 2 _ rfl)
    have HRO := hide hro
    have HGR := hide hgr
    have HXJ := hide hxi
    have hxi0 : 0 ≤ xi := by omega
    have hxi1 : xi ≤ 576 := by omega
    clear hro hgr hxi
    by_cases hlt : xi < (n : Int)
    · have hin : i < n := by have := HXJ.out; omega
      have hxn : xi.toNat = i := by have := HXJ.out; omega
      obtain ⟨z, hz⟩ : ∃ z, g.cells[i]? = some z := ⟨g.cells[i]'(by have := HLG.out; omega), List.getElem?_eq_getElem _⟩
      obtain ⟨am, capm, esm, _, _, h4m⟩ := HGI.out
      injection esm with sm1 sm2 sm3
      clear sm2 sm3
      obtain ⟨bm, om, rm, hclm⟩ := h4m.resolve_left (fun e => by rw [e] at hz; simp at hz)
      have sm := sm1.trans rm
      clear sm1 rm h4m
      subst sm
      have cz : wr.cell? ⟨bm, om + xi.toNat, none⟩ = some (.int .i64 z) := by
        rw [hxn]
        exact keep_cell HB1.out HG.out HGR.out (hclm _ _ hz)
      obtain ⟨u, dx⟩ : ∃ u, wr.cell? ⟨h, xi.toNat, none⟩ = some (.int .i64 u) := ⟨_, by rw [hxn]; exact HRO.out.cell (tab_at hin)⟩
      have fx : wr.frozen? ⟨h, xi.toNat, none⟩ = false := HRO.out.frozen _
      have HZ := hide (cellAt_some hz)
      have HXN := hide hxn
      clear hclm hz
      obtain ⟨y, hy⟩ : ∃ z, x.cells[i]? = some z := ⟨x.cells[i]'(by have := HLX.out; omega), List.getElem?_eq_getElem _⟩
      obtain ⟨am', capm', esm', _, _, h4m'⟩ := HXI.out
      injection esm' with sm1' sm2' sm3'
      clear sm2' sm3'
      obtain ⟨bx, ox, rx, hclx⟩ := h4m'.resolve_left (fun e => by rw [e] at hy; simp at hy)
      have sx' := sm1'.trans rx
      clear sm1' rx h4m'
      subst sx'
      have cy : wr.cell? ⟨bx, ox + xi.toNat, none⟩ = some (.int .i64 y) := by
        rw [hxn]
        exact keep_cell HB1.out HG.out HGR.out (hclx _ _ hy)
      have HY := hide (cellAt_some hy)
      clear hclx hy
      by_cases hy0 : 0 < y
      · have HW := hide (show fillF_ok (fun q => if 0 < cellAt x q then cellAt g q else 0) i z by show (if 0 < cellAt x i then cellAt g i else 0) = z; rw [HY.out, HZ.out, if_pos hy0])
        clear hxn
        go_wp2
        refine region_tail 9 (by kernel_rfl) (by kernel_rfl) ?_
        simp only [List.take_succ_cons, List.take_zero, List.drop_succ_cons, List.drop_zero]
        repeat still_step
        refine wpStill_nil ?_
        go_wp2
        exact ⟨⟨i + 1, _, by omega, by have := HXJ.out; omega, rfl, by
          rw [HXN.out, ← fillF_step _ i n _ HW.out]
          exact HRO.out.set i _, grown_drew (grown_set HGR.out _ _)⟩, by have := HXJ.out; simp [intOf]; omega⟩
      · have HW := hide (show (fun q => if 0 < cellAt x q then cellAt g q else 0) i = 0 by show (if 0 < cellAt x i then cellAt g i else 0) = 0; rw [HY.out, if_neg hy0])
        clear hxn
        go_wp2
        go_roundw
        case rel => exact ⟨i + 1, _, by omega, by have := HXJ.out; omega, rfl, by rw [← fillF_skip _ i n HW.out]; exact HRO.out, HGR.out⟩
        case measure => have := HXJ.out; simp [intOf]; omega
    · have hin : i = n := by have := HXJ.out; omega
      have p0 := box_cell hglt HGR.out (j := 0) rfl
      have p1 := box_cell hglt HGR.out (j := 1) rfl
      have q0 := keep_cell HB1.out HG.out HGR.out (HQ.out 0 _ rfl)
      have f0 := keep_frozen HB1.out HG.out HGR.out (p := ⟨w.heap.size + 1 + 1 + 1, 0, none⟩) HQ.out.lt (HFR.out 0)
      have q1 := keep_cell HB1.out HG.out HGR.out (HQ.out 1 _ rfl)
      have f1 := keep_frozen HB1.out HG.out HGR.out (p := ⟨w.heap.size + 1 + 1 + 1, 1, none⟩) HQ.out.lt (HFR.out 1)
      have q2 := keep_cell HB1.out HG.out HGR.out (HQ.out 2 _ rfl)
      have f2 := keep_frozen HB1.out HG.out HGR.out (p := ⟨w.heap.size + 1 + 1 + 1, 2, none⟩) HQ.out.lt (HFR.out 2)
      have t0 := keep_cell HB1.out HG.out HGR.out (HP.out 0 _ rfl)
      have v0 := keep_frozen HB1.out HG.out HGR.out (p := ⟨w.heap.size + 1 + 1 + 1 + 1, 0, none⟩) HP.out.lt (HFP.out 0)
      have d0 := keep_cell HB1.out HG.out HGR.out (HD.out 0 _ rfl)
      have t1 := keep_cell HB1.out HG.out HGR.out (HP.out 1 _ rfl)
      have v1 := keep_frozen HB1.out HG.out HGR.out (p := ⟨w.heap.size + 1 + 1 + 1 + 1, 1, none⟩) HP.out.lt (HFP.out 1)
      have d1 := keep_cell HB1.out HG.out HGR.out (HD.out 1 _ rfl)
      have t2 := keep_cell HB1.out HG.out HGR.out (HP.out 2 _ rfl)
      have v2 := keep_frozen HB1.out HG.out HGR.out (p := ⟨w.heap.size + 1 + 1 + 1 + 1, 2, none⟩) HP.out.lt (HFP.out 2)
      have d2 := keep_cell HB1.out HG.out HGR.out (HD.out 2 _ rfl)
      have t3 := keep_cell HB1.out HG.out HGR.out (HP.out 3 _ rfl)
      have v3 := keep_frozen HB1.out HG.out HGR.out (p := ⟨w.heap.size + 1 + 1 + 1 + 1, 3, none⟩) HP.out.lt (HFP.out 3)
      have d3 := keep_cell HB1.out HG.out HGR.out (HD.out 3 _ rfl)
      have t4 := keep_cell HB1.out HG.out HGR.out (HP.out 4 _ rfl)
      have v4 := keep_frozen HB1.out HG.out HGR.out (p := ⟨w.heap.size + 1 + 1 + 1 + 1, 4, none⟩) HP.out.lt (HFP.out 4)
      have d4 := keep_cell HB1.out HG.out HGR.out (HD.out 4 _ rfl)
      have t5 := keep_cell HB1.out HG.out HGR.out (HP.out 5 _ rfl)
      have v5 := keep_frozen HB1.out HG.out HGR.out (p := ⟨w.heap.size + 1 + 1 + 1 + 1, 5, none⟩) HP.out.lt (HFP.out 5)
      have d5 := keep_cell HB1.out HG.out HGR.out (HD.out 5 _ rfl)
      have hql := HQ.out.lt
      have hpl := HP.out.lt
      have hdl := HD.out.lt
      have nd : ¬ w.heap.size + 1 + 1 + 1 + 1 + 1 = w.heap.size + 1 + 1 + 1 := by omega
      have k0 := cell_set3 d0 (B := w.heap.size + 1 + 1 + 1) nd (.int .i64 r) (.int .i64 c) (.slice (some ⟨h, 0, none⟩) n n)
      have k1 := cell_set3 d1 (B := w.heap.size + 1 + 1 + 1) nd (.int .i64 r) (.int .i64 c) (.slice (some ⟨h, 0, none⟩) n n)
      have k2 := cell_set3 d2 (B := w.heap.size + 1 + 1 + 1) nd (.int .i64 r) (.int .i64 c) (.slice (some ⟨h, 0, none⟩) n n)
      have k3 := cell_set3 d3 (B := w.heap.size + 1 + 1 + 1) nd (.int .i64 r) (.int .i64 c) (.slice (some ⟨h, 0, none⟩) n n)
      have k4 := cell_set3 d4 (B := w.heap.size + 1 + 1 + 1) nd (.int .i64 r) (.int .i64 c) (.slice (some ⟨h, 0, none⟩) n n)
      have k5 := cell_set3 d5 (B := w.heap.size + 1 + 1 + 1) nd (.int .i64 r) (.int .i64 c) (.slice (some ⟨h, 0, none⟩) n n)
      have HIN := hide hin
      have HQL := hide (And.intro hql (And.intro hpl hdl))
      clear hin hql hpl hdl
      go_wp2
      clear jx jg j0 hi hxi0 hxi1 hlt
      go_region
      all_goals go_wp2
      all_goals
        have n3 : w.heap.size + 1 + 1 + 1 ≠ h := by have := HQL.out.1; have := HG.out; omega
        have n6 : w.heap.size + 1 + 1 + 1 + 1 ≠ h := by have := HQL.out.2.1; have := HG.out; omega
        have hrw := HRO.out
        rw [HIN.out, fillF_end] at hrw
        refine bodyPost_ret (v := .tuple #[.agg #[.int .i64 r, .int .i64 c, .slice (some ⟨h, 0, none⟩) n n], .agg #[.int .i64 0, .int .i64 0, .slice none 0 0, .int .i64 0, .int .i64 0, .slice none 0 0]]) (by simp [results, Tryd.results32, go_sem, q0, q1, q2, t0, t1, t2, t3, t4, t5]) rfl ⟨_, _, rfl, ⟨_, by rw [HMR.out.1, HMR.out.2], ?_⟩, ?_, ?_, fresh_at (by have := HWV.out.size; have := HG.out; omega) _ _ _, ?_⟩
        · exact RowAt.isTab (e := 3) (RowAt.drew ((((((((((hrw.other ⟨w.heap.size + 1 + 1 + 1, 0, none⟩ _ n3.symm).other ⟨w.heap.size + 1 + 1 + 1, 1, none⟩ _ n3.symm).other ⟨w.heap.size + 1 + 1 + 1, 2, none⟩ _ n3.symm).other ⟨w.heap.size + 1 + 1 + 1 + 1, 0, none⟩ _ n6.symm).other ⟨w.heap.size + 1 + 1 + 1 + 1, 1, none⟩ _ n6.symm).other ⟨w.heap.size + 1 + 1 + 1 + 1, 2, none⟩ _ n6.symm).other ⟨w.heap.size + 1 + 1 + 1 + 1, 3, none⟩ _ n6.symm).other ⟨w.heap.size + 1 + 1 + 1 + 1, 4, none⟩ _ n6.symm).other ⟨w.heap.size + 1 + 1 + 1 + 1, 5, none⟩ _ n6.symm))) (by unfold maxLen; omega)
        · exact isTwo_no _
        · exact below_dr (below9 (keep_below HWV.out HB1.out HG.out HGR.out) (B := w.heap.size + 1 + 1 + 1) (C := w.heap.size + 1 + 1 + 1 + 1) (by omega) (by omega) _ _ _ _ _ _ _ _ _)
        · exact fresh2_no _ _ _ _ _
set_option maxHeartbeats 8000000 in
set_option maxRecDepth 100000 in
theorem rback_shift (l : Ly) {xa : Option Addr} {xn xk : Nat} {ya : Option Addr} {yn yk : Nat} (x g : Mx) (vx vg : Value) (w : World) (hk : l.k = 4) (hE : backE l x g = 0) (hx : IsMx w vx x) (hg : IsMx w vg g) :
    Calls Tryd.prog 32 #[.agg #[.int .i64 4, .int .i64 l.w.rows, .int .i64 l.w.cols, .slice xa xn xk, .int .i64 l.b.rows, .int .i64 l.b.cols, .slice ya yn yk], vx, vg] w (RefBack w (backX l x g) (gradW l x g) (gradB l x g)) := by
  obtain ⟨sx, rfl, hsx⟩ := hx
  obtain ⟨za, zn, zk, rfl⟩ := hsx.shape
  obtain ⟨sg, rfl, hsg⟩ := hg
  obtain ⟨ga, gn, gk, rfl⟩ := hsg.shape
  obtain ⟨wr, e1⟩ : ∃ r, l.w.rows = r := ⟨_, rfl⟩
  obtain ⟨wc, e2⟩ : ∃ r, l.w.cols = r := ⟨_, rfl⟩
  obtain ⟨br, e3⟩ : ∃ r, l.b.rows = r := ⟨_, rfl⟩
  obtain ⟨bc, e4⟩ : ∃ r, l.b.cols = r := ⟨_, rfl⟩
  obtain ⟨r, e5⟩ : ∃ r, x.rows = r := ⟨_, rfl⟩
  obtain ⟨c, e6⟩ : ∃ r, x.cols = r := ⟨_, rfl⟩
  obtain ⟨r', e7⟩ : ∃ r, g.rows = r := ⟨_, rfl⟩
  obtain ⟨c', e8⟩ : ∃ r, g.cols = r := ⟨_, rfl⟩
  obtain ⟨hgo, hfg, s1, s2, _⟩ := backE_zero hE
  obtain ⟨_, hfx, _⟩ := goE_zero hgo
  obtain ⟨R, C, gx⟩ := good_of hfx
  obtain ⟨Rg, Cg, gg⟩ := good_of hfg
  have eg : givesL l x.cols = x.cols := by unfold givesL; rw [if_neg (by omega)]
  have gg := gg.same (R' := R) (C' := C) (by have := gg.r; have := gx.r; omega) (by have := gg.c; have := gx.c; omega)
  obtain ⟨n, hn⟩ : ∃ n, R * C = n := ⟨_, rfl⟩
  have hn576 : n ≤ 576 := by have := Nat.mul_le_mul gx.hR gx.hC; omega
  have hX : backX l x g = ⟨R, C, tab n (fun q => cellAt g q)⟩ := by
    unfold backX backG
    rw [if_pos hE, if_neg (by omega), if_neg (by omega), if_neg (by omega)]
    skip
    rw [each_eq gg, hn]
  have hW : gradW l x g = noMx := by unfold gradW; rw [if_pos hE, if_neg (by omega), if_neg (by omega)]
  have hB : gradB l x g = sumsX g := by unfold gradB; rw [if_pos hE, if_pos (.inr hk)]
  rw [hX, hW, hB]
  have hzn : n = zn := by obtain ⟨_, _, e, _⟩ := hsx; injection e with _ e _; rw [e, gx.l, hn]
  have hgn : n = gn := by obtain ⟨_, _, e, _⟩ := hsg; injection e with _ e _; rw [e, gg.l, hn]
  subst hzn hgn
  have HLX := hide (show x.cells.length = n by rw [gx.l, hn])
  have HLG := hide (show g.cells.length = n by rw [gg.l, hn])
  have HN := hide hn
  have HCL := hide (fun W (h : Below w.heap.size w W) => ref_sums W (va := .agg #[.int .i64 g.rows, .int .i64 g.cols, .slice ga n gk]) (a := g) ⟨_, rfl, hsg.below h⟩ hfg)
  obtain ⟨q, hq⟩ : ∃ q, sumsX g = q := ⟨_, rfl⟩
  rw [hq] at HCL ⊢
  rw [e7, e8] at HCL
  have HMR := hide (show r = (R : Int) ∧ c = (C : Int) by rw [← e5, ← e6]; exact ⟨gx.r, gx.c⟩)
  have HSX := hide hsx
  have HSG := hide hsg
  rw [e1, e2, e3, e4, e5, e6, e7, e8]
  obtain ⟨V0, hV⟩ : ∃ V, V = ((((((w.alloc (.cells #[.int .i64 4, .int .i64 wr, .int .i64 wc, .slice xa xn xk, .int .i64 br, .int .i64 bc, .slice ya yn yk] 55)).alloc (.cells #[.int .i64 r, .int .i64 c, .slice za n zk] 25)).alloc (.cells #[.int .i64 r', .int .i64 c', .slice ga n gk] 25)).alloc (.cells #[.int .i64 0, .int .i64 0, .slice none 0 0] 25)).alloc (.cells #[.int .i64 0, .int .i64 0, .slice none 0 0, .int .i64 0, .int .i64 0, .slice none 0 0] 57)).alloc (.cells #[.int .i64 0, .int .i64 0, .slice none 0 0, .int .i64 0, .int .i64 0, .slice none 0 0] 57)) := ⟨_, rfl⟩
  have HV := hide hV
  have H0W : Hid (Below w.heap.size w V0) := by rw [hV]; exact hide (below_next (below_next (below_next (below_next (below_next (below_one _ _) (below_one _ _)) (below_one _ _)) (below_one _ _)) (below_one _ _)) (below_one _ _))
  have H0L : Hid (Box V0 w.heap.size [.int .i64 4, .int .i64 wr, .int .i64 wc, .slice xa xn xk, .int .i64 br, .int .i64 bc, .slice ya yn yk]) := by rw [hV]; exact hide ((((((Box.new w [.int .i64 4, .int .i64 wr, .int .i64 wc, .slice xa xn xk, .int .i64 br, .int .i64 bc, .slice ya yn yk] 55 rfl).below (below_one _ _)).below (below_one _ _)).below (below_one _ _)).below (below_one _ _)).below (below_one _ _))
  have H0X : Hid (Box V0 (w.heap.size + 1) [.int .i64 r, .int .i64 c, .slice za n zk]) := by rw [hV]; exact hide (((((Box.new _ [.int .i64 r, .int .i64 c, .slice za n zk] 25 (by simp)).below (below_one _ _)).below (below_one _ _)).below (below_one _ _)).below (below_one _ _))
  have H0G : Hid (Box V0 (w.heap.size + 1 + 1) [.int .i64 r', .int .i64 c', .slice ga n gk]) := by rw [hV]; exact hide ((((Box.new _ [.int .i64 r', .int .i64 c', .slice ga n gk] 25 (by simp)).below (below_one _ _)).below (below_one _ _)).below (below_one _ _))
  have H0Q : Hid (Box V0 (w.heap.size + 1 + 1 + 1) [.int .i64 0, .int .i64 0, .slice none 0 0]) := by rw [hV]; exact hide (((Box.new _ [.int .i64 0, .int .i64 0, .slice none 0 0] 25 (by simp)).below (below_one _ _)).below (below_one _ _))
  have H0F : Hid (Free V0 (w.heap.size + 1 + 1 + 1)) := by rw [hV]; exact hide (((Free.new _ _ 25 (by simp)).below (below_one _ _) (by simp)).below (below_one _ _) (by simp))
  have H0P : Hid (Box V0 (w.heap.size + 1 + 1 + 1 + 1) [.int .i64 0, .int .i64 0, .slice none 0 0, .int .i64 0, .int .i64 0, .slice none 0 0]) := by rw [hV]; exact hide ((Box.new _ [.int .i64 0, .int .i64 0, .slice none 0 0, .int .i64 0, .int .i64 0, .slice none 0 0] 57 (by simp)).below (below_one _ _))
  have H0E : Hid (Free V0 (w.heap.size + 1 + 1 + 1 + 1)) := by rw [hV]; exact hide ((Free.new _ _ 57 (by simp)).below (below_one _ _) (by simp))
  have H0D : Hid (Box V0 (w.heap.size + 1 + 1 + 1 + 1 + 1) [.int .i64 0, .int .i64 0, .slice none 0 0, .int .i64 0, .int .i64 0, .slice none 0 0]) := by rw [hV]; exact hide (Box.new _ [.int .i64 0, .int .i64 0, .slice none 0 0, .int .i64 0, .int .i64 0, .slice none 0 0] 57 (by simp))
  have H0I : Hid (Free V0 (w.heap.size + 1 + 1 + 1 + 1 + 1)) := by rw [hV]; exact hide (Free.new _ _ 57 (by simp))
  clear hV
  clear hsx hsg gx gg hn hk hE hgo hfg hfx eg s1 s2 hX hW hB e1 e2 e3 e4 e5 e6 e7 e8 hq
  have HBK := hide (fun W => blank_any r c n W (by rw [HMR.out.1, HMR.out.2, ← HN.out]; simp) (by omega))
  have y0 := H0G.out 0 _ rfl
  have y1 := H0G.out 1 _ rfl
  have y2 := H0G.out 2 _ rfl
  go_enter Tryd.func32, Tryd.ntmps32
  go_wp2_with fail
  rw [← HV.out]
  refine (HCL.out _ H0W.out).mono ?_
  rintro e u1 ⟨qa, qn, qk, rfl, hm, hb, hf⟩
  have t3 := (H0D.out.below hb) 3 _ rfl
  have t4 := (H0D.out.below hb) 4 _ rfl
  have t5 := (H0D.out.below hb) 5 _ rfl
  have v3 := (H0I.out.below hb H0D.out.lt) 3
  have v4 := (H0I.out.below hb H0D.out.lt) 4
  have v5 := (H0I.out.below hb H0D.out.lt) 5
  obtain ⟨V, hV⟩ : ∃ V, V = (((u1.setCell ⟨w.heap.size + 1 + 1 + 1 + 1 + 1, 3, none⟩ (.int .i64 q.rows)).setCell ⟨w.heap.size + 1 + 1 + 1 + 1 + 1, 4, none⟩ (.int .i64 q.cols)).setCell ⟨w.heap.size + 1 + 1 + 1 + 1 + 1, 5, none⟩ (.slice qa qn qk)) := ⟨_, rfl⟩
  have HV1 := hide hV
  have HWV : Hid (Below w.heap.size w V) := by rw [hV]; exact hide ((((below_next H0W.out hb).setCell (show w.heap.size ≤ w.heap.size + 1 + 1 + 1 + 1 + 1 by omega) _).setCell (show w.heap.size ≤ w.heap.size + 1 + 1 + 1 + 1 + 1 by omega) _).setCell (show w.heap.size ≤ w.heap.size + 1 + 1 + 1 + 1 + 1 by omega) _)
  have HBL : Hid (Box V w.heap.size [.int .i64 4, .int .i64 wr, .int .i64 wc, .slice xa xn xk, .int .i64 br, .int .i64 bc, .slice ya yn yk]) := by rw [hV]; exact hide ((H0L.out.below hb).set345 (by omega) _ _ _)
  have HBX : Hid (Box V (w.heap.size + 1) [.int .i64 r, .int .i64 c, .slice za n zk]) := by rw [hV]; exact hide ((H0X.out.below hb).set345 (by omega) _ _ _)
  have HBG : Hid (Box V (w.heap.size + 1 + 1) [.int .i64 r', .int .i64 c', .slice ga n gk]) := by rw [hV]; exact hide ((H0G.out.below hb).set345 (by omega) _ _ _)
  have HQ : Hid (Box V (w.heap.size + 1 + 1 + 1) [.int .i64 0, .int .i64 0, .slice none 0 0]) := by rw [hV]; exact hide ((H0Q.out.below hb).set345 (by omega) _ _ _)
  have HFR : Hid (Free V (w.heap.size + 1 + 1 + 1)) := by rw [hV]; exact hide ((H0F.out.below hb H0Q.out.lt).set345 _ _ _ _)
  have HP : Hid (Box V (w.heap.size + 1 + 1 + 1 + 1) [.int .i64 0, .int .i64 0, .slice none 0 0, .int .i64 0, .int .i64 0, .slice none 0 0]) := by rw [hV]; exact hide ((H0P.out.below hb).set345 (by omega) _ _ _)
  have HFP : Hid (Free V (w.heap.size + 1 + 1 + 1 + 1)) := by rw [hV]; exact hide ((H0E.out.below hb H0P.out.lt).set345 _ _ _ _)
  have HD : Hid (Box V (w.heap.size + 1 + 1 + 1 + 1 + 1) [.int .i64 0, .int .i64 0, .slice none 0 0, .int .i64 q.rows, .int .i64 q.cols, .slice qa qn qk]) := by rw [hV]; exact hide (two_set (H0D.out.below hb) _ _ _)
  have HSI : Hid (IsInts V (.slice qa qn qk) q.cells) := by rw [hV]; exact hide (((hm.ints.freshSet hf H0D.out.lt 3 _).freshSet hf H0D.out.lt 4 _).freshSet hf H0D.out.lt 5 _)
  have HSF := hide hf
  have HN0 := hide H0W.out.size
  have HQ0 := hide H0Q.out.lt
  have HP0 := hide H0P.out.lt
  have x0 := HBX.out 0 _ rfl
  have x1 := HBX.out 1 _ rfl
  rw [hV] at x0 x1
  clear hm hb hf hV y0 y1 y2 HCL
  go_wp2_with fail
  rw [← HV1.out]
  clear t3 t4 t5 v3 v4 v5 x0 x1
  refine (HBK.out _).mono ?_
  rintro e w1 ⟨h, rfl, hh, hrow, hb1⟩
  have hglt : h < w1.heap.size := hrow.lt
  have HB1 := hide hb1
  have HG := hide hh
  have HR := hide (hrow.alloc (.cells #[.int .i64 r, .int .i64 c, .slice (some ⟨h, 0, none⟩) n n] 25))
  have HXI := hide (HSX.out.below HWV.out)
  have HGI := hide (HSG.out.below HWV.out)
  clear hb1 hh hrow HBK
  go_wp2
  go_loopw [17] (fun a wr => ∃ (i : Nat) (xi : Int), i ≤ n ∧ xi = (i : Int) ∧ a = .int .i64 xi ∧ RowAt 3 wr h (tab n (fillF (fun q => cellAt g q) i)) ∧ (w1.alloc (.cells #[.int .i64 r, .int .i64 c, .slice (some ⟨h, 0, none⟩) n n] 25)).grownBy wr (some h)) (fun a _ => n - (intOf a).toNat)
  case atStart => exact ⟨0, 0, Nat.zero_le _, rfl, rfl, by rw [← fillF_zero]; exact HR.out, World.grownBy.refl _ _⟩
  case round =>
    obtain ⟨i, xi, hi, hxi, rfl, hro, hgr⟩ := hrel
    have p2 := box_cell hglt hgr (j := 2) rfl
    have j0 := keep_cell HB1.out HG.out hgr (HBL.out 0 _ rfl)
    have jx := keep_cell HB1.out HG.out hgr (HBX.out 2 _ rfl)
    have jg := keep_cell HB1.out HG.out hgr (HBG.out 2 _ rfl)
    have HRO := hide hro
    have HGR := hide hgr
    have HXJ := hide hxi
    have hxi0 : 0 ≤ xi := by omega
    have hxi1 : xi ≤ 576 := by omega
    clear hro hgr hxi
    by_cases hlt : xi < (n : Int)
    · have hin : i < n := by have := HXJ.out; omega
      have hxn : xi.toNat = i := by have := HXJ.out; omega
      obtain ⟨z, hz⟩ : ∃ z, g.cells[i]? = some z := ⟨g.cells[i]'(by have := HLG.out; omega), List.getElem?_eq_getElem _⟩
      obtain ⟨am, capm, esm, _, _, h4m⟩ := HGI.out
      injection esm with sm1 sm2 sm3
      clear sm2 sm3
      obtain ⟨bm, om, rm, hclm⟩ := h4m.resolve_left (fun e => by rw [e] at hz; simp at hz)
      have sm := sm1.trans rm
      clear sm1 rm h4m
      subst sm
      have cz : wr.cell? ⟨bm, om + xi.toNat, none⟩ = some (.int .i64 z) := by
        rw [hxn]
        exact keep_cell HB1.out HG.out HGR.out (hclm _ _ hz)
      obtain ⟨u, dx⟩ : ∃ u, wr.cell? ⟨h, xi.toNat, none⟩ = some (.int .i64 u) := ⟨_, by rw [hxn]; exact HRO.out.cell (tab_at hin)⟩
      have fx : wr.frozen? ⟨h, xi.toNat, none⟩ = false := HRO.out.frozen _
      have HZ := hide (cellAt_some hz)
      have HXN := hide hxn
      clear hclm hz
      have HW := hide (show fillF_ok (fun q => cellAt g q) i z by show cellAt g i = z; exact HZ.out)
      clear hxn
      go_wp2
      refine region_tail 9 (by kernel_rfl) (by kernel_rfl) ?_
      simp only [List.take_succ_cons, List.take_zero, List.drop_succ_cons, List.drop_zero]
      repeat still_step
      refine wpStill_nil ?_
      go_wp2
      exact ⟨⟨i + 1, _, by omega, by have := HXJ.out; omega, rfl, by
        rw [HXN.out, ← fillF_step _ i n _ HW.out]
        exact HRO.out.set i _, grown_drew (grown_set HGR.out _ _)⟩, by have := HXJ.out; simp [intOf]; omega⟩
    · have hin : i = n := by have := HXJ.out; omega
      have p0 := box_cell hglt HGR.out (j := 0) rfl
      have p1 := box_cell hglt HGR.out (j := 1) rfl
      have q0 := keep_cell HB1.out HG.out HGR.out (HQ.out 0 _ rfl)
      have f0 := keep_frozen HB1.out HG.out HGR.out (p := ⟨w.heap.size + 1 + 1 + 1, 0, none⟩) HQ.out.lt (HFR.out 0)
      have q1 := keep_cell HB1.out HG.out HGR.out (HQ.out 1 _ rfl)
      have f1 := keep_frozen HB1.out HG.out HGR.out (p := ⟨w.heap.size + 1 + 1 + 1, 1, none⟩) HQ.out.lt (HFR.out 1)
      have q2 := keep_cell HB1.out HG.out HGR.out (HQ.out 2 _ rfl)
      have f2 := keep_frozen HB1.out HG.out HGR.out (p := ⟨w.heap.size + 1 + 1 + 1, 2, none⟩) HQ.out.lt (HFR.out 2)
      have t0 := keep_cell HB1.out HG.out HGR.out (HP.out 0 _ rfl)
      have v0 := keep_frozen HB1.out HG.out HGR.out (p := ⟨w.heap.size + 1 + 1 + 1 + 1, 0, none⟩) HP.out.lt (HFP.out 0)
      have d0 := keep_cell HB1.out HG.out HGR.out (HD.out 0 _ rfl)
      have t1 := keep_cell HB1.out HG.out HGR.out (HP.out 1 _ rfl)
      have v1 := keep_frozen HB1.out HG.out HGR.out (p := ⟨w.heap.size + 1 + 1 + 1 + 1, 1, none⟩) HP.out.lt (HFP.out 1)
      have d1 := keep_cell HB1.out HG.out HGR.out (HD.out 1 _ rfl)
      have t2 := keep_cell HB1.out HG.out HGR.out (HP.out 2 _ rfl)
      have v2 := keep_frozen HB1.out HG.out HGR.out (p := ⟨w.heap.size + 1 + 1 + 1 + 1, 2, none⟩) HP.out.lt (HFP.out 2)
      have d2 := keep_cell HB1.out HG.out HGR.out (HD.out 2 _ rfl)
      have t3 := keep_cell HB1.out HG.out HGR.out (HP.out 3 _ rfl)
      have v3 := keep_frozen HB1.out HG.out HGR.out (p := ⟨w.heap.size + 1 + 1 + 1 + 1, 3, none⟩) HP.out.lt (HFP.out 3)
      have d3 := keep_cell HB1.out HG.out HGR.out (HD.out 3 _ rfl)
      have t4 := keep_cell HB1.out HG.out HGR.out (HP.out 4 _ rfl)
      have v4 := keep_frozen HB1.out HG.out HGR.out (p := ⟨w.heap.size + 1 + 1 + 1 + 1, 4, none⟩) HP.out.lt (HFP.out 4)
      have d4 := keep_cell HB1.out HG.out HGR.out (HD.out 4 _ rfl)
      have t5 := keep_cell HB1.out HG.out HGR.out (HP.out 5 _ rfl)
      have v5 := keep_frozen HB1.out HG.out HGR.out (p := ⟨w.heap.size + 1 + 1 + 1 + 1, 5, none⟩) HP.out.lt (HFP.out 5)
      have d5 := keep_cell HB1.out HG.out HGR.out (HD.out 5 _ rfl)
      have hql := HQ.out.lt
      have hpl := HP.out.lt
      have hdl := HD.out.lt
      have nd : ¬ w.heap.size + 1 + 1 + 1 + 1 + 1 = w.heap.size + 1 + 1 + 1 := by omega
      have k0 := cell_set3 d0 (B := w.heap.size + 1 + 1 + 1) nd (.int .i64 r) (.int .i64 c) (.slice (some ⟨h, 0, none⟩) n n)
      have k1 := cell_set3 d1 (B := w.heap.size + 1 + 1 + 1) nd (.int .i64 r) (.int .i64 c) (.slice (some ⟨h, 0, none⟩) n n)
      have k2 := cell_set3 d2 (B := w.heap.size + 1 + 1 + 1) nd (.int .i64 r) (.int .i64 c) (.slice (some ⟨h, 0, none⟩) n n)
      have k3 := cell_set3 d3 (B := w.heap.size + 1 + 1 + 1) nd (.int .i64 r) (.int .i64 c) (.slice (some ⟨h, 0, none⟩) n n)
      have k4 := cell_set3 d4 (B := w.heap.size + 1 + 1 + 1) nd (.int .i64 r) (.int .i64 c) (.slice (some ⟨h, 0, none⟩) n n)
      have k5 := cell_set3 d5 (B := w.heap.size + 1 + 1 + 1) nd (.int .i64 r) (.int .i64 c) (.slice (some ⟨h, 0, none⟩) n n)
      have HIN := hide hin
      have HQL := hide (And.intro hql (And.intro hpl hdl))
      clear hin hql hpl hdl
      go_wp2
      clear jx jg j0 hi hxi0 hxi1 hlt
      go_region
      all_goals go_wp2
      all_goals
        have n3 : w.heap.size + 1 + 1 + 1 ≠ h := by have := HQL.out.1; have := HG.out; omega
        have n6 : w.heap.size + 1 + 1 + 1 + 1 ≠ h := by have := HQL.out.2.1; have := HG.out; omega
        have hrw := HRO.out
        rw [HIN.out, fillF_end] at hrw
        refine bodyPost_ret (v := .tuple #[.agg #[.int .i64 r, .int .i64 c, .slice (some ⟨h, 0, none⟩) n n], .agg #[.int .i64 0, .int .i64 0, .slice none 0 0, .int .i64 q.rows, .int .i64 q.cols, .slice qa qn qk]]) (by simp [results, Tryd.results32, go_sem, q0, q1, q2, t0, t1, t2, t3, t4, t5]) rfl ⟨_, _, rfl, ⟨_, by rw [HMR.out.1, HMR.out.2], ?_⟩, ?_, ?_, fresh_at (by have := HWV.out.size; have := HG.out; omega) _ _ _, ?_⟩
        · exact RowAt.isTab (e := 3) (RowAt.drew ((((((((((hrw.other ⟨w.heap.size + 1 + 1 + 1, 0, none⟩ _ n3.symm).other ⟨w.heap.size + 1 + 1 + 1, 1, none⟩ _ n3.symm).other ⟨w.heap.size + 1 + 1 + 1, 2, none⟩ _ n3.symm).other ⟨w.heap.size + 1 + 1 + 1 + 1, 0, none⟩ _ n6.symm).other ⟨w.heap.size + 1 + 1 + 1 + 1, 1, none⟩ _ n6.symm).other ⟨w.heap.size + 1 + 1 + 1 + 1, 2, none⟩ _ n6.symm).other ⟨w.heap.size + 1 + 1 + 1 + 1, 3, none⟩ _ n6.symm).other ⟨w.heap.size + 1 + 1 + 1 + 1, 4, none⟩ _ n6.symm).other ⟨w.heap.size + 1 + 1 + 1 + 1, 5, none⟩ _ n6.symm))) (by unfold maxLen; omega)
        · refine ⟨_, _, rfl, IsInts.nil _, ?_⟩
          exact (HSI.out.keep HB1.out HG.out HGR.out).above HSF.out (above9 (B := w.heap.size + 1 + 1 + 1) (C := w.heap.size + 1 + 1 + 1 + 1) HQ0.out HP0.out wr (.int .i64 r) (.int .i64 c) (.slice (some ⟨h, 0, none⟩) n n) (.int .i64 0) (.int .i64 0) (.slice none 0 0) (.int .i64 q.rows) (.int .i64 q.cols) (.slice qa qn qk)).drew
        · exact below_dr (below9 (keep_below HWV.out HB1.out HG.out HGR.out) (B := w.heap.size + 1 + 1 + 1) (C := w.heap.size + 1 + 1 + 1 + 1) (by omega) (by omega) _ _ _ _ _ _ _ _ _)
        · exact fresh2_of (fresh_no _ _ _) (fresh_mono HSF.out HN0.out)
end Go.Proofs.YtbkkhdekjgabfadDoor
/- What BackOf of the document's answer comes to at the kind Linear: what goes back, and the Grad. -/
namespace Go.Proofs.YtbkkhdekjgabfadDoor
open Go.RowKit
theorem two_set0 {w : World} {B : Nat} {a0 a1 a2 a3 a4 a5 : Value} (h : Box w B [a0, a1, a2, a3, a4, a5]) (x y z : Value) : Box (((w.setCell ⟨B, 0, none⟩ x).setCell ⟨B, 1, none⟩ y).setCell ⟨B, 2, none⟩ z) B [x, y, z, a3, a4, a5] := by
  have o : ∀ (u : World) (i j : Nat) (v : Value), i ≠ j → (u.setCell ⟨B, i, none⟩ v).cell? ⟨B, j, none⟩ = u.cell? ⟨B, j, none⟩ := fun u i j v hij => cell_at_other u B i j v hij
  intro j v hv
  match j, hv with
  | 3, hv => simp at hv; subst hv; rw [o _ 2 3 _ (by decide), o _ 1 3 _ (by decide), o _ 0 3 _ (by decide)]; exact h 3 _ rfl
  | 4, hv => simp at hv; subst hv; rw [o _ 2 4 _ (by decide), o _ 1 4 _ (by decide), o _ 0 4 _ (by decide)]; exact h 4 _ rfl
  | 5, hv => simp at hv; subst hv; rw [o _ 2 5 _ (by decide), o _ 1 5 _ (by decide), o _ 0 5 _ (by decide)]; exact h 5 _ rfl
  | 0, hv => simp at hv; subst hv; rw [o _ 2 0 _ (by decide), o _ 1 0 _ (by decide)]; exact World.cell?_setCell_same _ _ _ (h 0 _ rfl)
  | 1, hv => simp at hv; subst hv; rw [o _ 2 1 _ (by decide)]; exact World.cell?_setCell_same _ _ _ ((o _ 0 1 _ (by decide)).trans (h 1 _ rfl))
  | 2, hv => simp at hv; subst hv; exact World.cell?_setCell_same _ _ _ ((o _ 1 2 _ (by decide)).trans ((o _ 0 2 _ (by decide)).trans (h 2 _ rfl)))
theorem above345 {n B : Nat} (hB : B < n) (u : World) (x0 x1 x2 : Value) : Above n u (((u.setCell ⟨B, 3, none⟩ x0).setCell ⟨B, 4, none⟩ x1).setCell ⟨B, 5, none⟩ x2) := (((Above.refl n u).set hB 3 x0).set hB 4 x1).set hB 5 x2
theorem below_set345 {V u : World} {B : Nat} (h : Below V.heap.size V u) (hB : V.heap.size ≤ B) (x y z : Value) : Below V.heap.size V (((u.setCell ⟨B, 3, none⟩ x).setCell ⟨B, 4, none⟩ y).setCell ⟨B, 5, none⟩ z) := ((h.setCell hB _).setCell hB _).setCell hB _
set_option maxHeartbeats 8000000 in
set_option maxRecDepth 100000 in
theorem rback_linear (l : Ly) {xa : Option Addr} {xn xk : Nat} {ya : Option Addr} {yn yk : Nat} (x g : Mx) (vx vg : Value) (w : World) (hk : l.k = 1) (hE : backE l x g = 0) (hs : IsInts w (.slice xa xn xk) l.w.cells) (hx : IsMx w vx x) (hg : IsMx w vg g) :
    Calls Tryd.prog 32 #[.agg #[.int .i64 1, .int .i64 l.w.rows, .int .i64 l.w.cols, .slice xa xn xk, .int .i64 l.b.rows, .int .i64 l.b.cols, .slice ya yn yk], vx, vg] w (RefBack w (backX l x g) (gradW l x g) (gradB l x g)) := by
  obtain ⟨sx, rfl, hsx⟩ := hx
  obtain ⟨za, zn, zk, rfl⟩ := hsx.shape
  obtain ⟨sg, rfl, hsg⟩ := hg
  obtain ⟨ga, gn, gk, rfl⟩ := hsg.shape
  obtain ⟨wr, e1⟩ : ∃ r, l.w.rows = r := ⟨_, rfl⟩
  obtain ⟨wc, e2⟩ : ∃ r, l.w.cols = r := ⟨_, rfl⟩
  obtain ⟨br, e3⟩ : ∃ r, l.b.rows = r := ⟨_, rfl⟩
  obtain ⟨bc, e4⟩ : ∃ r, l.b.cols = r := ⟨_, rfl⟩
  obtain ⟨r, e5⟩ : ∃ r, x.rows = r := ⟨_, rfl⟩
  obtain ⟨c, e6⟩ : ∃ r, x.cols = r := ⟨_, rfl⟩
  obtain ⟨r', e7⟩ : ∃ r, g.rows = r := ⟨_, rfl⟩
  obtain ⟨c', e8⟩ : ∃ r, g.cols = r := ⟨_, rfl⟩
  obtain ⟨hgo, hfg, s1, s2, s3⟩ := backE_zero hE
  obtain ⟨hl, hfx, htk⟩ := goE_zero hgo
  obtain ⟨R, Cx, gx⟩ := good_of hfx
  obtain ⟨Rg, Cg, gg⟩ := good_of hfg
  obtain ⟨Rw, C, gw, h2⟩ : ∃ Rw C, Good l.w Rw C ∧ Rw ≤ 12 := by
    cases lyG_of hl with
    | lin Rw Cw _ gw _ _ h2 _ => exact ⟨Rw, Cw, gw, h2⟩
    | relu hk' _ _ => omega
    | scale hk' _ _ => omega
    | shift _ hk' _ _ _ => omega
  have hC : Cx = Rw := by have := takes_lin hk htk; have := gw.r; have := gx.c; omega
  subst hC
  have eg : givesL l x.cols = l.w.cols := by unfold givesL; rw [if_pos hk]
  have gg := gg.same (R' := R) (C' := C) (by have := gg.r; have := gx.r; omega) (by have := gg.c; have := gw.c; omega)
  have hR : R ≤ 12 := by have := gx.r; omega
  have hX : backX l x g = mulX g (turnX l.w) := by unfold backX backG; rw [if_pos hE, if_pos hk]
  have hW : gradW l x g = mulX (turnX x) g := by unfold gradW; rw [if_pos hE, if_pos hk]
  have hB : gradB l x g = sumsX g := by unfold gradB; rw [if_pos hE, if_pos (.inl hk)]
  rw [hX, hW, hB]
  have HC1 := hide (fun W (h : Below w.heap.size w W) => ref_turn W (va := .agg #[.int .i64 l.w.rows, .int .i64 l.w.cols, .slice xa xn xk]) (a := l.w) ⟨_, rfl, hs.below h⟩ (gw.turn0 h2) gw.fault)
  have HC2 := hide (fun W (h : Below w.heap.size w W) => ref_turn W (va := .agg #[.int .i64 x.rows, .int .i64 x.cols, .slice za zn zk]) (a := x) ⟨_, rfl, hsx.below h⟩ (gx.turn0 hR) hfx)
  have HC3 := hide (fun W v (h : Below w.heap.size w W) (ht : IsMx W v (turnX x)) => ref_mul W (va := v) (vb := .agg #[.int .i64 g.rows, .int .i64 g.cols, .slice ga gn gk]) (a := turnX x) (b := g) ht ⟨_, rfl, hsg.below h⟩ ((gx.turn hR).mul0 gg))
  have HC4 := hide (fun W (h : Below w.heap.size w W) => ref_sums W (va := .agg #[.int .i64 g.rows, .int .i64 g.cols, .slice ga gn gk]) (a := g) ⟨_, rfl, hsg.below h⟩ hfg)
  have HC5 := hide (fun W v (h : Below w.heap.size w W) (ht : IsMx W v (turnX l.w)) => ref_mul W (va := .agg #[.int .i64 g.rows, .int .i64 g.cols, .slice ga gn gk]) (vb := v) (a := g) (b := turnX l.w) ⟨_, rfl, hsg.below h⟩ ht (gg.mul0 (gw.turn h2)))
  obtain ⟨tw, htw⟩ : ∃ q, turnX l.w = q := ⟨_, rfl⟩
  obtain ⟨tx, htx⟩ : ∃ q, turnX x = q := ⟨_, rfl⟩
  rw [htw] at HC1 HC5 ⊢
  rw [htx] at HC2 HC3 ⊢
  obtain ⟨p, hp⟩ : ∃ q, mulX tx g = q := ⟨_, rfl⟩
  obtain ⟨q, hq⟩ : ∃ q, sumsX g = q := ⟨_, rfl⟩
  obtain ⟨t, ht⟩ : ∃ q, mulX g tw = q := ⟨_, rfl⟩
  rw [hp] at HC3 ⊢
  rw [hq] at HC4 ⊢
  rw [ht] at HC5 ⊢
  rw [e1, e2] at HC1
  rw [e5, e6] at HC2
  rw [e7, e8] at HC3 HC4 HC5
  rw [e1, e2, e3, e4, e5, e6, e7, e8]
  obtain ⟨V0, hV⟩ : ∃ V, V = ((((((w.alloc (.cells #[.int .i64 1, .int .i64 wr, .int .i64 wc, .slice xa xn xk, .int .i64 br, .int .i64 bc, .slice ya yn yk] 55)).alloc (.cells #[.int .i64 r, .int .i64 c, .slice za zn zk] 25)).alloc (.cells #[.int .i64 r', .int .i64 c', .slice ga gn gk] 25)).alloc (.cells #[.int .i64 0, .int .i64 0, .slice none 0 0] 25)).alloc (.cells #[.int .i64 0, .int .i64 0, .slice none 0 0, .int .i64 0, .int .i64 0, .slice none 0 0] 57)).alloc (.cells #[.int .i64 0, .int .i64 0, .slice none 0 0, .int .i64 0, .int .i64 0, .slice none 0 0] 57)) := ⟨_, rfl⟩
  have HV := hide hV
  have H0W : Hid (Below w.heap.size w V0) := by rw [hV]; exact hide (below_next (below_next (below_next (below_next (below_next (below_one _ _) (below_one _ _)) (below_one _ _)) (below_one _ _)) (below_one _ _)) (below_one _ _))
  have H0L : Hid (Box V0 w.heap.size [.int .i64 1, .int .i64 wr, .int .i64 wc, .slice xa xn xk, .int .i64 br, .int .i64 bc, .slice ya yn yk]) := by rw [hV]; exact hide ((((((Box.new w [.int .i64 1, .int .i64 wr, .int .i64 wc, .slice xa xn xk, .int .i64 br, .int .i64 bc, .slice ya yn yk] 55 rfl).below (below_one _ _)).below (below_one _ _)).below (below_one _ _)).below (below_one _ _)).below (below_one _ _))
  have H0X : Hid (Box V0 (w.heap.size + 1) [.int .i64 r, .int .i64 c, .slice za zn zk]) := by rw [hV]; exact hide (((((Box.new _ [.int .i64 r, .int .i64 c, .slice za zn zk] 25 (by simp)).below (below_one _ _)).below (below_one _ _)).below (below_one _ _)).below (below_one _ _))
  have H0G : Hid (Box V0 (w.heap.size + 1 + 1) [.int .i64 r', .int .i64 c', .slice ga gn gk]) := by rw [hV]; exact hide ((((Box.new _ [.int .i64 r', .int .i64 c', .slice ga gn gk] 25 (by simp)).below (below_one _ _)).below (below_one _ _)).below (below_one _ _))
  have H0Q : Hid (Box V0 (w.heap.size + 1 + 1 + 1) [.int .i64 0, .int .i64 0, .slice none 0 0]) := by rw [hV]; exact hide (((Box.new _ [.int .i64 0, .int .i64 0, .slice none 0 0] 25 (by simp)).below (below_one _ _)).below (below_one _ _))
  have H0F : Hid (Free V0 (w.heap.size + 1 + 1 + 1)) := by rw [hV]; exact hide (((Free.new _ _ 25 (by simp)).below (below_one _ _) (by simp)).below (below_one _ _) (by simp))
  have H0P : Hid (Box V0 (w.heap.size + 1 + 1 + 1 + 1) [.int .i64 0, .int .i64 0, .slice none 0 0, .int .i64 0, .int .i64 0, .slice none 0 0]) := by rw [hV]; exact hide ((Box.new _ [.int .i64 0, .int .i64 0, .slice none 0 0, .int .i64 0, .int .i64 0, .slice none 0 0] 57 (by simp)).below (below_one _ _))
  have H0E : Hid (Free V0 (w.heap.size + 1 + 1 + 1 + 1)) := by rw [hV]; exact hide ((Free.new _ _ 57 (by simp)).below (below_one _ _) (by simp))
  have H0D : Hid (Box V0 (w.heap.size + 1 + 1 + 1 + 1 + 1) [.int .i64 0, .int .i64 0, .slice none 0 0, .int .i64 0, .int .i64 0, .slice none 0 0]) := by rw [hV]; exact hide (Box.new _ [.int .i64 0, .int .i64 0, .slice none 0 0, .int .i64 0, .int .i64 0, .slice none 0 0] 57 (by simp))
  have H0I : Hid (Free V0 (w.heap.size + 1 + 1 + 1 + 1 + 1)) := by rw [hV]; exact hide (Free.new _ _ 57 (by simp))
  clear hV
  clear hs hsx hsg gx gg gw hk hE hgo hl hfg hfx htk eg s1 s2 s3 h2 hR hX hW hB htw htx hp hq ht e1 e2 e3 e4 e5 e6 e7 e8
  have d1 := H0L.out 1 _ rfl
  have d2 := H0L.out 2 _ rfl
  have d3 := H0L.out 3 _ rfl
  go_enter Tryd.func32, Tryd.ntmps32
  go_wp2_with fail
  rw [← HV.out]
  refine (HC1.out _ H0W.out).mono ?_
  rintro e u1 ⟨wa, wn, wk, rfl, hm, hb, hf⟩
  have D1 := below_next hb (below_one u1 (.cells #[.int .i64 tw.rows, .int .i64 tw.cols, .slice wa wn wk] 25))
  have HU1 := hide (below_next H0W.out D1)
  have HBW := hide (Box.new u1 [.int .i64 tw.rows, .int .i64 tw.cols, .slice wa wn wk] 25 rfl)
  have HMW := hide (hm.below (below_one u1 (.cells #[.int .i64 tw.rows, .int .i64 tw.cols, .slice wa wn wk] 25)))
  have HFW := hide hf
  have HNW := hide hb.size
  have HD1 := hide D1
  have x0 := (H0X.out.below D1) 0 _ rfl
  have x1 := (H0X.out.below D1) 1 _ rfl
  have x2 := (H0X.out.below D1) 2 _ rfl
  clear hm hb hf D1 d1 d2 d3 HC1
  go_wp2_with fail
  refine (HC2.out _ HU1.out).mono ?_
  rintro e u2 ⟨ta, tn, tk, rfl, hm, hb, hf⟩
  have D := below_next hb (below_one u2 (.cells #[.int .i64 tx.rows, .int .i64 tx.cols, .slice ta tn tk] 25))
  have HU2 := hide (below_next HU1.out D)
  have HD2 := hide (below_next HD1.out D)
  replace HBW := hide (HBW.out.below D)
  replace HMW := hide (HMW.out.below D)
  have HBT := hide (Box.new u2 [.int .i64 tx.rows, .int .i64 tx.cols, .slice ta tn tk] 25 rfl)
  have HMT := hide (hm.below (below_one u2 (.cells #[.int .i64 tx.rows, .int .i64 tx.cols, .slice ta tn tk] 25)))
  clear hm hb hf D x0 x1 x2 HC2 HU1 HD1
  have a0 := HBT.out 0 _ rfl
  have a1 := HBT.out 1 _ rfl
  have a2 := HBT.out 2 _ rfl
  have y0 := (H0G.out.below HD2.out) 0 _ rfl
  have y1 := (H0G.out.below HD2.out) 1 _ rfl
  have y2 := (H0G.out.below HD2.out) 2 _ rfl
  go_wp2_with fail
  refine (HC3.out _ _ HU2.out HMT.out).mono ?_
  rintro e u3 ⟨pa, pn, pk, rfl, hm, hb, hf⟩
  have HF3 := hide (fresh_mono hf HD2.out.size)
  have D := below_next HD2.out hb
  have t0 := (H0D.out.below D) 0 _ rfl
  have t1 := (H0D.out.below D) 1 _ rfl
  have t2 := (H0D.out.below D) 2 _ rfl
  have v0 := (H0I.out.below D H0D.out.lt) 0
  have v1 := (H0I.out.below D H0D.out.lt) 1
  have v2 := (H0I.out.below D H0D.out.lt) 2
  obtain ⟨V3, hV⟩ : ∃ V, V = (((u3.setCell ⟨w.heap.size + 1 + 1 + 1 + 1 + 1, 0, none⟩ (.int .i64 p.rows)).setCell ⟨w.heap.size + 1 + 1 + 1 + 1 + 1, 1, none⟩ (.int .i64 p.cols)).setCell ⟨w.heap.size + 1 + 1 + 1 + 1 + 1, 2, none⟩ (.slice pa pn pk)) := ⟨_, rfl⟩
  have HV3 := hide hV
  have HNZ := hide H0D.out.lt
  have hne : ¬ u1.heap.size = w.heap.size + 1 + 1 + 1 + 1 + 1 := by have := HNW.out; have := HNZ.out; omega
  have HA := above3 (B := w.heap.size + 1 + 1 + 1 + 1 + 1) HNZ.out u3 (.int .i64 p.rows) (.int .i64 p.cols) (.slice pa pn pk)
  rw [← hV] at HA
  have HW3 : Hid (Below w.heap.size w V3) := by rw [hV]; exact hide (below_set3 (below_next HU2.out hb) (by omega) _ _ _)
  have HG3 : Hid (Box V3 (w.heap.size + 1 + 1) [.int .i64 r', .int .i64 c', .slice ga gn gk]) := by rw [hV]; exact hide ((H0G.out.below D).set3 (by omega) _ _ _)
  have HQ3 : Hid (Box V3 (w.heap.size + 1 + 1 + 1) [.int .i64 0, .int .i64 0, .slice none 0 0]) := by rw [hV]; exact hide ((H0Q.out.below D).set3 (by omega) _ _ _)
  have HFQ3 : Hid (Free V3 (w.heap.size + 1 + 1 + 1)) := by rw [hV]; exact hide ((H0F.out.below D H0Q.out.lt).set3 _ _ _ _)
  have HP3 : Hid (Box V3 (w.heap.size + 1 + 1 + 1 + 1) [.int .i64 0, .int .i64 0, .slice none 0 0, .int .i64 0, .int .i64 0, .slice none 0 0]) := by rw [hV]; exact hide ((H0P.out.below D).set3 (by omega) _ _ _)
  have HFP3 : Hid (Free V3 (w.heap.size + 1 + 1 + 1 + 1)) := by rw [hV]; exact hide ((H0E.out.below D H0P.out.lt).set3 _ _ _ _)
  have HD3 : Hid (Box V3 (w.heap.size + 1 + 1 + 1 + 1 + 1) [.int .i64 p.rows, .int .i64 p.cols, .slice pa pn pk, .int .i64 0, .int .i64 0, .slice none 0 0]) := by rw [hV]; exact hide (two_set0 (H0D.out.below D) _ _ _)
  have HFD3 : Hid (Free V3 (w.heap.size + 1 + 1 + 1 + 1 + 1)) := by rw [hV]; exact hide ((H0I.out.below D H0D.out.lt).set3 _ _ _ _)
  have HBW3 : Hid (Box V3 u1.heap.size [.int .i64 tw.rows, .int .i64 tw.cols, .slice wa wn wk]) := by rw [hV]; exact hide ((HBW.out.below hb).set3 hne _ _ _)
  have HMW3 := hide ((HMW.out.below hb).above HFW.out HA)
  have HMP3 := hide (hm.ints.above HF3.out HA)
  have HZ3 : Hid (V0.heap.size ≤ V3.heap.size) := by rw [hV]; exact hide (by simpa using D.size)
  have m0 := HG3.out 0 _ rfl
  have m1 := HG3.out 1 _ rfl
  have m2 := HG3.out 2 _ rfl
  rw [hV] at m0 m1 m2
  clear hm hb hf D HA hV hne a0 a1 a2 y0 y1 y2 HC3 HBT HMT HBW HMW HU2 HD2
  go_wp2_with fail
  rw [← HV3.out]
  clear t0 t1 t2 v0 v1 v2 m0 m1 m2
  refine (HC4.out _ HW3.out).mono ?_
  rintro e u4 ⟨qa, qn, qk, rfl, hm, hb, hf⟩
  have HF4 := hide (fresh_mono hf HZ3.out)
  have t3 := (HD3.out.below hb) 3 _ rfl
  have t4 := (HD3.out.below hb) 4 _ rfl
  have t5 := (HD3.out.below hb) 5 _ rfl
  have v3 := (HFD3.out.below hb HD3.out.lt) 3
  have v4 := (HFD3.out.below hb HD3.out.lt) 4
  have v5 := (HFD3.out.below hb HD3.out.lt) 5
  obtain ⟨V4, hV⟩ : ∃ V, V = (((u4.setCell ⟨w.heap.size + 1 + 1 + 1 + 1 + 1, 3, none⟩ (.int .i64 q.rows)).setCell ⟨w.heap.size + 1 + 1 + 1 + 1 + 1, 4, none⟩ (.int .i64 q.cols)).setCell ⟨w.heap.size + 1 + 1 + 1 + 1 + 1, 5, none⟩ (.slice qa qn qk)) := ⟨_, rfl⟩
  have HV4 := hide hV
  have hne : u1.heap.size ≠ w.heap.size + 1 + 1 + 1 + 1 + 1 := by have := HNW.out; have := HNZ.out; omega
  have HA := above345 (B := w.heap.size + 1 + 1 + 1 + 1 + 1) HNZ.out u4 (.int .i64 q.rows) (.int .i64 q.cols) (.slice qa qn qk)
  rw [← hV] at HA
  have HW4 : Hid (Below w.heap.size w V4) := by rw [hV]; exact hide (below_set345 (below_next HW3.out hb) (by omega) _ _ _)
  have HG4 : Hid (Box V4 (w.heap.size + 1 + 1) [.int .i64 r', .int .i64 c', .slice ga gn gk]) := by rw [hV]; exact hide ((HG3.out.below hb).set345 (by omega) _ _ _)
  have HQ4 : Hid (Box V4 (w.heap.size + 1 + 1 + 1) [.int .i64 0, .int .i64 0, .slice none 0 0]) := by rw [hV]; exact hide ((HQ3.out.below hb).set345 (by omega) _ _ _)
  have HFQ4 : Hid (Free V4 (w.heap.size + 1 + 1 + 1)) := by rw [hV]; exact hide ((HFQ3.out.below hb HQ3.out.lt).set345 _ _ _ _)
  have HP4 : Hid (Box V4 (w.heap.size + 1 + 1 + 1 + 1) [.int .i64 0, .int .i64 0, .slice none 0 0, .int .i64 0, .int .i64 0, .slice none 0 0]) := by rw [hV]; exact hide ((HP3.out.below hb).set345 (by omega) _ _ _)
  have HFP4 : Hid (Free V4 (w.heap.size + 1 + 1 + 1 + 1)) := by rw [hV]; exact hide ((HFP3.out.below hb HP3.out.lt).set345 _ _ _ _)
  have HD4 : Hid (Box V4 (w.heap.size + 1 + 1 + 1 + 1 + 1) [.int .i64 p.rows, .int .i64 p.cols, .slice pa pn pk, .int .i64 q.rows, .int .i64 q.cols, .slice qa qn qk]) := by rw [hV]; exact hide (two_set (HD3.out.below hb) _ _ _)
  have HBW4 : Hid (Box V4 u1.heap.size [.int .i64 tw.rows, .int .i64 tw.cols, .slice wa wn wk]) := by rw [hV]; exact hide ((HBW3.out.below hb).set345 hne _ _ _)
  have HMW4 := hide ((HMW3.out.below hb).above HFW.out HA)
  have HMP4 := hide ((HMP3.out.below hb).above HF3.out HA)
  have HMQ4 := hide (hm.ints.above HF4.out HA)
  have HZ4 : Hid (V0.heap.size ≤ V4.heap.size) := by rw [hV]; exact hide (by simpa using Nat.le_trans HZ3.out hb.size)
  have m0 := HG4.out 0 _ rfl
  have m1 := HG4.out 1 _ rfl
  have m2 := HG4.out 2 _ rfl
  have a0 := HBW4.out 0 _ rfl
  have a1 := HBW4.out 1 _ rfl
  have a2 := HBW4.out 2 _ rfl
  rw [hV] at m0 m1 m2 a0 a1 a2
  clear hm hb hf HA hV hne HC4 HG3 HQ3 HFQ3 HP3 HFP3 HD3 HFD3 HBW3 HMW3 HMP3 HZ3 HW3
  go_wp2_with fail
  rw [← HV4.out]
  clear t3 t4 t5 v3 v4 v5 m0 m1 m2 a0 a1 a2
  refine (HC5.out _ _ HW4.out HMW4.out).mono ?_
  rintro e u5 ⟨ja, jn, jk, rfl, hm, hb, hf⟩
  have HF5 := hide (fresh_mono hf HZ4.out)
  have D := below_next hb (below_one u5 (.cells #[.int .i64 t.rows, .int .i64 t.cols, .slice ja jn jk] 25))
  obtain ⟨U, hU⟩ : ∃ U, U = u5.alloc (.cells #[.int .i64 t.rows, .int .i64 t.cols, .slice ja jn jk] 25) := ⟨_, rfl⟩
  have HUS := hide hU
  have HWU : Hid (Below w.heap.size w U) := by rw [hU]; exact hide (below_next HW4.out D)
  have HTO : Hid (Box U u5.heap.size [.int .i64 t.rows, .int .i64 t.cols, .slice ja jn jk]) := by rw [hU]; exact hide (Box.new u5 _ 25 rfl)
  have HMO : Hid (IsMx U (.agg #[.int .i64 t.rows, .int .i64 t.cols, .slice ja jn jk]) t) := by rw [hU]; exact hide (hm.below (below_one _ _))
  have HMPU : Hid (IsInts U (.slice pa pn pk) p.cells) := by rw [hU]; exact hide (HMP4.out.below D)
  have HMQU : Hid (IsInts U (.slice qa qn qk) q.cells) := by rw [hU]; exact hide (HMQ4.out.below D)
  have HQU : Hid (Box U (w.heap.size + 1 + 1 + 1) [.int .i64 0, .int .i64 0, .slice none 0 0]) := by rw [hU]; exact hide (HQ4.out.below D)
  have HFQU : Hid (Free U (w.heap.size + 1 + 1 + 1)) := by rw [hU]; exact hide (HFQ4.out.below D HQ4.out.lt)
  have HPU : Hid (Box U (w.heap.size + 1 + 1 + 1 + 1) [.int .i64 0, .int .i64 0, .slice none 0 0, .int .i64 0, .int .i64 0, .slice none 0 0]) := by rw [hU]; exact hide (HP4.out.below D)
  have HFPU : Hid (Free U (w.heap.size + 1 + 1 + 1 + 1)) := by rw [hU]; exact hide (HFP4.out.below D HP4.out.lt)
  have HDU : Hid (Box U (w.heap.size + 1 + 1 + 1 + 1 + 1) [.int .i64 p.rows, .int .i64 p.cols, .slice pa pn pk, .int .i64 q.rows, .int .i64 q.cols, .slice qa qn qk]) := by rw [hU]; exact hide (HD4.out.below D)
  have HLQ := hide H0Q.out.lt
  have HLP := hide H0P.out.lt
  clear hm hb hf D hU HC5
  have p0 := HTO.out 0 _ rfl
  have p1 := HTO.out 1 _ rfl
  have p2 := HTO.out 2 _ rfl
  have q0 := HQU.out 0 _ rfl
  have q1 := HQU.out 1 _ rfl
  have q2 := HQU.out 2 _ rfl
  have t0 := HPU.out 0 _ rfl
  have t1 := HPU.out 1 _ rfl
  have t2 := HPU.out 2 _ rfl
  have t3 := HPU.out 3 _ rfl
  have t4 := HPU.out 4 _ rfl
  have t5 := HPU.out 5 _ rfl
  have d0 := HDU.out 0 _ rfl
  have d1 := HDU.out 1 _ rfl
  have d2 := HDU.out 2 _ rfl
  have d3 := HDU.out 3 _ rfl
  have d4 := HDU.out 4 _ rfl
  have d5 := HDU.out 5 _ rfl
  have f0 := HFQU.out 0
  have f1 := HFQU.out 1
  have f2 := HFQU.out 2
  have v0 := HFPU.out 0
  have v1 := HFPU.out 1
  have v2 := HFPU.out 2
  have v3 := HFPU.out 3
  have v4 := HFPU.out 4
  have v5 := HFPU.out 5
  have nd : ¬ w.heap.size + 1 + 1 + 1 + 1 + 1 = w.heap.size + 1 + 1 + 1 := by omega
  have k0 := cell_set3 d0 (B := w.heap.size + 1 + 1 + 1) nd (.int .i64 t.rows) (.int .i64 t.cols) (.slice ja jn jk)
  have k1 := cell_set3 d1 (B := w.heap.size + 1 + 1 + 1) nd (.int .i64 t.rows) (.int .i64 t.cols) (.slice ja jn jk)
  have k2 := cell_set3 d2 (B := w.heap.size + 1 + 1 + 1) nd (.int .i64 t.rows) (.int .i64 t.cols) (.slice ja jn jk)
  have k3 := cell_set3 d3 (B := w.heap.size + 1 + 1 + 1) nd (.int .i64 t.rows) (.int .i64 t.cols) (.slice ja jn jk)
  have k4 := cell_set3 d4 (B := w.heap.size + 1 + 1 + 1) nd (.int .i64 t.rows) (.int .i64 t.cols) (.slice ja jn jk)
  have k5 := cell_set3 d5 (B := w.heap.size + 1 + 1 + 1) nd (.int .i64 t.rows) (.int .i64 t.cols) (.slice ja jn jk)
  go_wp2
  rw [← HUS.out]
  go_region
  all_goals go_wp2
  all_goals
    have HA := above9 (B := w.heap.size + 1 + 1 + 1) (C := w.heap.size + 1 + 1 + 1 + 1) HLQ.out HLP.out U (.int .i64 t.rows) (.int .i64 t.cols) (.slice ja jn jk) (.int .i64 p.rows) (.int .i64 p.cols) (.slice pa pn pk) (.int .i64 q.rows) (.int .i64 q.cols) (.slice qa qn qk)
    refine bodyPost_ret (v := .tuple #[.agg #[.int .i64 t.rows, .int .i64 t.cols, .slice ja jn jk], .agg #[.int .i64 p.rows, .int .i64 p.cols, .slice pa pn pk, .int .i64 q.rows, .int .i64 q.cols, .slice qa qn qk]]) (by simp [results, Tryd.results32, go_sem, q0, q1, q2, t0, t1, t2, t3, t4, t5]) rfl ⟨_, _, rfl, HMO.out.above HF5.out HA.drew, two_of (HMPU.out.above HF3.out HA.drew) (HMQU.out.above HF4.out HA.drew), ?_, fresh_mono HF5.out H0W.out.size, fresh2_of (fresh_mono HF3.out H0W.out.size) (fresh_mono HF4.out H0W.out.size)⟩
    exact below_dr (below9 HWU.out (B := w.heap.size + 1 + 1 + 1) (C := w.heap.size + 1 + 1 + 1 + 1) (by omega) (by omega) _ _ _ _ _ _ _ _ _)
end Go.Proofs.YtbkkhdekjgabfadDoor
/- What BackOf of the document's answer comes to at the kind Scale: what goes back, and the Grad. -/
namespace Go.Proofs.YtbkkhdekjgabfadDoor
open Go.RowKit
theorem below_drN {n : Nat} {w u : World} (h : Below n w u) (k : Nat) : Below n w (u.drewN k) := ⟨h.os, h.tape, h.output, h.size, h.block⟩
set_option maxHeartbeats 8000000 in
set_option maxRecDepth 100000 in
theorem rback_scale (l : Ly) {xa : Option Addr} {xn xk : Nat} {ya : Option Addr} {yn yk : Nat} (x g : Mx) (vx vg : Value) (w : World) (hk : l.k = 3) (hE : backE l x g = 0) (hs : IsInts w (.slice xa xn xk) l.w.cells) (hx : IsMx w vx x) (hg : IsMx w vg g) :
    Calls Tryd.prog 32 #[.agg #[.int .i64 3, .int .i64 l.w.rows, .int .i64 l.w.cols, .slice xa xn xk, .int .i64 l.b.rows, .int .i64 l.b.cols, .slice ya yn yk], vx, vg] w (RefBack w (backX l x g) (gradW l x g) (gradB l x g)) := by
  obtain ⟨sx, rfl, hsx⟩ := hx
  obtain ⟨za, zn, zk, rfl⟩ := hsx.shape
  obtain ⟨sg, rfl, hsg⟩ := hg
  obtain ⟨ga, gn, gk, rfl⟩ := hsg.shape
  obtain ⟨wr, e1⟩ : ∃ r, l.w.rows = r := ⟨_, rfl⟩
  obtain ⟨wc, e2⟩ : ∃ r, l.w.cols = r := ⟨_, rfl⟩
  obtain ⟨br, e3⟩ : ∃ r, l.b.rows = r := ⟨_, rfl⟩
  obtain ⟨bc, e4⟩ : ∃ r, l.b.cols = r := ⟨_, rfl⟩
  obtain ⟨r, e5⟩ : ∃ r, x.rows = r := ⟨_, rfl⟩
  obtain ⟨c, e6⟩ : ∃ r, x.cols = r := ⟨_, rfl⟩
  obtain ⟨r', e7⟩ : ∃ r, g.rows = r := ⟨_, rfl⟩
  obtain ⟨c', e8⟩ : ∃ r, g.cols = r := ⟨_, rfl⟩
  obtain ⟨hgo, hfg, s1, s2, _⟩ := backE_zero hE
  obtain ⟨hl, hfx, _⟩ := goE_zero hgo
  obtain ⟨R, C, gx⟩ := good_of hfx
  obtain ⟨Rg, Cg, gg⟩ := good_of hfg
  obtain ⟨gw⟩ : Nonempty (PLift (Good l.w 1 1)) := by
    cases lyG_of hl with
    | lin _ _ hk' _ _ _ _ _ => omega
    | relu hk' _ _ => omega
    | scale _ gw _ => exact ⟨⟨gw⟩⟩
    | shift _ hk' _ _ _ => omega
  have gw := gw.down
  have eg : givesL l x.cols = x.cols := by unfold givesL; rw [if_neg (by omega)]
  have gg := gg.same (R' := R) (C' := C) (by have := gg.r; have := gx.r; omega) (by have := gg.c; have := gx.c; omega)
  obtain ⟨y, hy⟩ : ∃ y, cellAt l.w 0 = y := ⟨_, rfl⟩
  obtain ⟨N, eN⟩ : ∃ N, x.cells.length = N := ⟨_, rfl⟩
  have hX : backX l x g = timesX g y := by unfold backX backG; rw [if_pos hE, if_neg (by omega), if_neg (by omega), if_pos hk, hy]
  have hW : gradW l x g = ⟨1, 1, [sumP x g N]⟩ := by unfold gradW; rw [if_pos hE, if_neg (by omega), if_pos hk, eN]
  have hB : gradB l x g = noMx := by unfold gradB; rw [if_pos hE, if_neg (by omega)]
  have HT := hide (fun W (h : Below w.heap.size w W) => ref_times y W (va := .agg #[.int .i64 g.rows, .int .i64 g.cols, .slice ga gn gk]) (a := g) ⟨_, rfl, hsg.below h⟩ hfg)
  obtain ⟨t, ht⟩ : ∃ t, timesX g y = t := ⟨_, rfl⟩
  rw [hX, hW, hB, ht]
  rw [ht, e7, e8] at HT
  have hN : N ≤ 576 := by rw [← eN]; have := gx.l; have := Nat.mul_le_mul gx.hR gx.hC; omega
  have egN : g.cells.length = N := by rw [← eN, gx.l, gg.l]
  have hw0 : l.w.cells[0]? = some y := by rw [← hy]; unfold cellAt; rw [List.getElem?_eq_getElem (by have := gw.l; omega)]; rfl
  have hwl := gw.l
  obtain ⟨aa, cap, esv, h2, h3, h4⟩ := hs
  injection esv with q1 q2 q3
  obtain ⟨b, off, rfl, hcl⟩ := h4.resolve_left (fun e => by rw [e] at hw0; simp at hw0)
  have h0 : w.cell? ⟨b, off, none⟩ = some (.int .i64 y) := hcl 0 y hw0
  have q2' : xn = 1 := by omega
  subst q1 q2'
  have HBL := hide (World.block_lt_of_cell? w _ h0)
  have HB0 := hide h0
  have HSX := hide hsx
  have HSG := hide hsg
  have hzn : N = zn := by obtain ⟨_, _, e, _⟩ := hsx; injection e with _ e _; omega
  have hgn : N = gn := by obtain ⟨_, _, e, _⟩ := hsg; injection e with _ e _; omega
  subst hzn hgn
  rw [e1, e2, e3, e4, e5, e6, e7, e8]
  obtain ⟨V0, hV⟩ : ∃ V, V = ((((((w.alloc (.cells #[.int .i64 3, .int .i64 wr, .int .i64 wc, .slice (some ⟨b, off, none⟩) 1 xk, .int .i64 br, .int .i64 bc, .slice ya yn yk] 55)).alloc (.cells #[.int .i64 r, .int .i64 c, .slice za N zk] 25)).alloc (.cells #[.int .i64 r', .int .i64 c', .slice ga N gk] 25)).alloc (.cells #[.int .i64 0, .int .i64 0, .slice none 0 0] 25)).alloc (.cells #[.int .i64 0, .int .i64 0, .slice none 0 0, .int .i64 0, .int .i64 0, .slice none 0 0] 57)).alloc (.cells #[.int .i64 0, .int .i64 0, .slice none 0 0, .int .i64 0, .int .i64 0, .slice none 0 0] 57)) := ⟨_, rfl⟩
  have HV := hide hV
  have H0W : Hid (Below w.heap.size w V0) := by rw [hV]; exact hide (below_next (below_next (below_next (below_next (below_next (below_one _ _) (below_one _ _)) (below_one _ _)) (below_one _ _)) (below_one _ _)) (below_one _ _))
  have H0L : Hid (Box V0 w.heap.size [.int .i64 3, .int .i64 wr, .int .i64 wc, .slice (some ⟨b, off, none⟩) 1 xk, .int .i64 br, .int .i64 bc, .slice ya yn yk]) := by rw [hV]; exact hide ((((((Box.new w [.int .i64 3, .int .i64 wr, .int .i64 wc, .slice (some ⟨b, off, none⟩) 1 xk, .int .i64 br, .int .i64 bc, .slice ya yn yk] 55 rfl).below (below_one _ _)).below (below_one _ _)).below (below_one _ _)).below (below_one _ _)).below (below_one _ _))
  have H0X : Hid (Box V0 (w.heap.size + 1) [.int .i64 r, .int .i64 c, .slice za N zk]) := by rw [hV]; exact hide (((((Box.new _ [.int .i64 r, .int .i64 c, .slice za N zk] 25 (by simp)).below (below_one _ _)).below (below_one _ _)).below (below_one _ _)).below (below_one _ _))
  have H0G : Hid (Box V0 (w.heap.size + 1 + 1) [.int .i64 r', .int .i64 c', .slice ga N gk]) := by rw [hV]; exact hide ((((Box.new _ [.int .i64 r', .int .i64 c', .slice ga N gk] 25 (by simp)).below (below_one _ _)).below (below_one _ _)).below (below_one _ _))
  have H0Q : Hid (Box V0 (w.heap.size + 1 + 1 + 1) [.int .i64 0, .int .i64 0, .slice none 0 0]) := by rw [hV]; exact hide (((Box.new _ [.int .i64 0, .int .i64 0, .slice none 0 0] 25 (by simp)).below (below_one _ _)).below (below_one _ _))
  have H0F : Hid (Free V0 (w.heap.size + 1 + 1 + 1)) := by rw [hV]; exact hide (((Free.new _ _ 25 (by simp)).below (below_one _ _) (by simp)).below (below_one _ _) (by simp))
  have H0P : Hid (Box V0 (w.heap.size + 1 + 1 + 1 + 1) [.int .i64 0, .int .i64 0, .slice none 0 0, .int .i64 0, .int .i64 0, .slice none 0 0]) := by rw [hV]; exact hide ((Box.new _ [.int .i64 0, .int .i64 0, .slice none 0 0, .int .i64 0, .int .i64 0, .slice none 0 0] 57 (by simp)).below (below_one _ _))
  have H0E : Hid (Free V0 (w.heap.size + 1 + 1 + 1 + 1)) := by rw [hV]; exact hide ((Free.new _ _ 57 (by simp)).below (below_one _ _) (by simp))
  have H0D : Hid (Box V0 (w.heap.size + 1 + 1 + 1 + 1 + 1) [.int .i64 0, .int .i64 0, .slice none 0 0, .int .i64 0, .int .i64 0, .slice none 0 0]) := by rw [hV]; exact hide (Box.new _ [.int .i64 0, .int .i64 0, .slice none 0 0, .int .i64 0, .int .i64 0, .slice none 0 0] 57 (by simp))
  have H0I : Hid (Free V0 (w.heap.size + 1 + 1 + 1 + 1 + 1)) := by rw [hV]; exact hide (Free.new _ _ 57 (by simp))
  clear hV
  have HEN := hide (And.intro eN egN)
  clear hsx hsg e1 e2 e3 e4 e5 e6 e7 e8 ht hy gx gg gw hw0 hwl h2 h3 h4 hcl h0 q2 q3 eN egN hk hE hgo hl hfg hfx eg s1 s2 hX hW hB
  have d0 := H0L.out 0 _ rfl
  go_enter Tryd.func32, Tryd.ntmps32
  go_wp2
  rw [← HV.out]
  clear d0
  go_loopw [12, 13] (fun s a wr => ∃ (i : Nat) (xi : Int), i ≤ N ∧ xi = (i : Int) ∧ a = .int .i64 xi ∧ s = .int .i64 (sumP x g i) ∧ Below V0.heap.size V0 wr) (fun _ a _ => N - (intOf a).toNat)
  case atStart => exact ⟨0, 0, Nat.zero_le _, rfl, rfl, rfl, Below.refl _ _⟩
  case round =>
    obtain ⟨i, xi, hi, hxi, rfl, rfl, hbw⟩ := hrel
    have HXI := hide hxi
    have HBR := hide hbw
    have hxi0 : 0 ≤ xi := by omega
    have hxi1 : xi ≤ 576 := by omega
    have x2 := (H0X.out.below hbw) 2 _ rfl
    have y2 := (H0G.out.below hbw) 2 _ rfl
    clear hxi hbw
    by_cases hlt : xi < (N : Int)
    · have HXX := hide (HSX.out.below (below_next H0W.out HBR.out))
      have HGG := hide (HSG.out.below (below_next H0W.out HBR.out))
      have hin : i < N := by have := HXI.out; omega
      have hxn : xi.toNat = i := by have := HXI.out; omega
      obtain ⟨ex, hex⟩ : ∃ e, x.cells[i]? = some e := ⟨x.cells[i]'(by have := HEN.out.1; omega), List.getElem?_eq_getElem _⟩
      obtain ⟨ey, hey⟩ : ∃ e, g.cells[i]? = some e := ⟨g.cells[i]'(by have := HEN.out.2; omega), List.getElem?_eq_getElem _⟩
      obtain ⟨ax, cx, esx, _, _, h4x⟩ := HXX.out
      obtain ⟨ag, cg, esg, _, _, h4g⟩ := HGG.out
      injection esx with sx1 sx2 sx3
      injection esg with sg1 sg2 sg3
      clear sx2 sx3 sg2 sg3
      obtain ⟨bx, ox, rfl, hclx⟩ := h4x.resolve_left (fun e => by rw [e] at hex; simp at hex)
      obtain ⟨bg, og, rfl, hclg⟩ := h4g.resolve_left (fun e => by rw [e] at hey; simp at hey)
      subst sx1 sg1
      have c0 : wr.cell? ⟨bx, ox + xi.toNat, none⟩ = some (.int .i64 ex) := by rw [hxn]; exact hclx i ex hex
      have c1 : wr.cell? ⟨bg, og + xi.toNat, none⟩ = some (.int .i64 ey) := by rw [hxn]; exact hclg i ey hey
      have HS := hide (sumP_step hex hey)
      clear hclx hclg h4x h4g hex hey hxn HXX HGG
      go_wp2
      go_quiet ((go_at_call 53; refine Calls.quiet_of_same (rmul_any _ _ _)))
      go_wp2_with (first | (go_at_call 47; refine (radd_any _ _ _).mono ?_; rintro e w' ⟨rfl, rfl⟩))
      go_roundw
      case rel => exact ⟨i + 1, _, by omega, by have := HXI.out; omega, rfl, by rw [← HS.out], below_drN HBR.out _⟩
      case measure => have := HXI.out; simp [intOf]; omega
    · have hiN : i = N := by have := HXI.out; omega
      obtain ⟨z, hz⟩ : ∃ z, sumP x g N = z := ⟨_, rfl⟩
      rw [hiN, hz]
      have HZ := hide hz
      have D := below_next HBR.out (below_one wr (.cells #[.int .i64 z] 3))
      have t0 := (H0D.out.below D) 0 _ rfl
      have t1 := (H0D.out.below D) 1 _ rfl
      have t2 := (H0D.out.below D) 2 _ rfl
      have v0 := (H0I.out.below D H0D.out.lt) 0
      have v1 := (H0I.out.below D H0D.out.lt) 1
      have v2 := (H0I.out.below D H0D.out.lt) 2
      obtain ⟨V, hV⟩ : ∃ V, V = ((((wr.alloc (.cells #[.int .i64 z] 3)).setCell ⟨w.heap.size + 1 + 1 + 1 + 1 + 1, 0, none⟩ (.int .i64 1)).setCell ⟨w.heap.size + 1 + 1 + 1 + 1 + 1, 1, none⟩ (.int .i64 1)).setCell ⟨w.heap.size + 1 + 1 + 1 + 1 + 1, 2, none⟩ (.slice (some ⟨wr.heap.size, 0, none⟩) 1 1)) := ⟨_, rfl⟩
      have HV1 := hide hV
      have HA := above3 (B := w.heap.size + 1 + 1 + 1 + 1 + 1) H0D.out.lt (wr.alloc (.cells #[.int .i64 z] 3)) (.int .i64 1) (.int .i64 1) (.slice (some ⟨wr.heap.size, 0, none⟩) 1 1)
      rw [← hV] at HA
      have HOF := hide (show Fresh V0.heap.size (.agg #[.int .i64 1, .int .i64 1, .slice (some ⟨wr.heap.size, 0, none⟩) 1 1]) from fresh_at HBR.out.size _ _ _)
      have HON := hide ((one_ints wr z).above HOF.out HA)
      have HWV : Hid (Below w.heap.size w V) := by rw [hV]; exact hide (below_set3 (below_next H0W.out D) (by omega) _ _ _)
      have HLV := hide ((H0L.out.below D).set3 (B' := w.heap.size + 1 + 1 + 1 + 1 + 1) (by omega) (.int .i64 1) (.int .i64 1) (.slice (some ⟨wr.heap.size, 0, none⟩) 1 1))
      rw [← hV] at HLV
      have HGV : Hid (Box V (w.heap.size + 1 + 1) [.int .i64 r', .int .i64 c', .slice ga N gk]) := by rw [hV]; exact hide ((H0G.out.below D).set3 (by omega) _ _ _)
      have HQV : Hid (Box V (w.heap.size + 1 + 1 + 1) [.int .i64 0, .int .i64 0, .slice none 0 0]) := by rw [hV]; exact hide ((H0Q.out.below D).set3 (by omega) _ _ _)
      have HFQ : Hid (Free V (w.heap.size + 1 + 1 + 1)) := by rw [hV]; exact hide ((H0F.out.below D H0Q.out.lt).set3 _ _ _ _)
      have HPV : Hid (Box V (w.heap.size + 1 + 1 + 1 + 1) [.int .i64 0, .int .i64 0, .slice none 0 0, .int .i64 0, .int .i64 0, .slice none 0 0]) := by rw [hV]; exact hide ((H0P.out.below D).set3 (by omega) _ _ _)
      have HFP : Hid (Free V (w.heap.size + 1 + 1 + 1 + 1)) := by rw [hV]; exact hide ((H0E.out.below D H0P.out.lt).set3 _ _ _ _)
      have HDV : Hid (Box V (w.heap.size + 1 + 1 + 1 + 1 + 1) [.int .i64 1, .int .i64 1, .slice (some ⟨wr.heap.size, 0, none⟩) 1 1, .int .i64 0, .int .i64 0, .slice none 0 0]) := by rw [hV]; exact hide (two_set0 (H0D.out.below D) _ _ _)
      have HZV : Hid (V0.heap.size ≤ V.heap.size) := by rw [hV]; exact hide (by simpa using D.size)
      have HLQ := hide H0Q.out.lt
      have HLP := hide H0P.out.lt
      clear hz hiN D HA hV hi y2
      go_wp2
      rw [← HV1.out]
      clear t0 t1 t2 v0 v1 v2 x2 hlt hxi0 hxi1
      have g0 := cell_below HWV.out HB0.out
      have d3 := HLV.out 3 _ rfl
      have y0 := HGV.out 0 _ rfl
      have y1 := HGV.out 1 _ rfl
      have y2 := HGV.out 2 _ rfl
      have hv0 : ¬ w.heap.size = V.heap.size := by have := HLV.out.lt; omega
      have hv2 : ¬ w.heap.size + 1 + 1 = V.heap.size := by have := HGV.out.lt; omega
      have hvb : ¬ b = V.heap.size := by have := HLV.out.lt; have := HBL.out; omega
      have HBD := hide (below_dr HWV.out)
      have HBE := hide (below_dr (below_next HWV.out (below_one V (.cells #[.int .i64 0, .int .i64 0, .slice none 0 0] 25))))
      go_region_held3 (fun W' => W'.cell? ⟨w.heap.size + 1 + 1, 0, none⟩ = some (.int .i64 r') ∧ W'.cell? ⟨w.heap.size + 1 + 1, 1, none⟩ = some (.int .i64 c') ∧ W'.cell? ⟨w.heap.size + 1 + 1, 2, none⟩ = some (.slice ga N gk) ∧ W'.cell? ⟨w.heap.size, 3, none⟩ = some (.slice (some ⟨b, off, none⟩) 1 xk) ∧ W'.cell? ⟨b, off, none⟩ = some (.int .i64 y)) ((first | go_keep | (refine ⟨?_, ?_, ?_, ?_, ?_⟩ <;> first | assumption | go_keep)))
        (first
          | (go_at_call 45; refine (HT.out _ HBE.out).mono ?_; rintro e w2 ⟨ta, tn, tk, rfl, hm, hb2, hf⟩; have HN := hide hm; have hc2 := below_next (below_dr (Below.refl _ (V.alloc (.cells #[.int .i64 0, .int .i64 0, .slice none 0 0] 25)))) hb2; have HB2 := hide (below_next (below_one V (.cells #[.int .i64 0, .int .i64 0, .slice none 0 0] 25)) hc2); have HTF := hide (show Fresh V.heap.size (.agg #[.int .i64 t.rows, .int .i64 t.cols, .slice ta tn tk]) from fresh_mono hf (below_one V (.cells #[.int .i64 0, .int .i64 0, .slice none 0 0] 25)).size); have HTG := hide (show Fresh (V.heap.size + 1) (.agg #[.int .i64 t.rows, .int .i64 t.cols, .slice ta tn tk]) from fresh_mono hf (Nat.le_of_eq (World.size_alloc V (.cells #[.int .i64 0, .int .i64 0, .slice none 0 0] 25)).symm)); have HZB := hide ((Box.new V [.int .i64 0, .int .i64 0, .slice none 0 0] 25 rfl).below hc2); have HZF := hide ((Free.new V #[.int .i64 0, .int .i64 0, .slice none 0 0] 25 rfl).below hc2 (Nat.lt_of_lt_of_eq (Nat.lt_succ_self _) (World.size_alloc _ _).symm)); clear hc2; have z0 := HZB.out 0 _ rfl; have z1 := HZB.out 1 _ rfl; have z2 := HZB.out 2 _ rfl; have z3 := HZF.out 0; have z4 := HZF.out 1; have z5 := HZF.out 2; have i0 := cell_below HB2.out y0; have j0 := cell_set3 i0 (B := V.heap.size) hv2 (.int .i64 t.rows) (.int .i64 t.cols) (.slice ta tn tk); have i1 := cell_below HB2.out y1; have j1 := cell_set3 i1 (B := V.heap.size) hv2 (.int .i64 t.rows) (.int .i64 t.cols) (.slice ta tn tk); have i2 := cell_below HB2.out y2; have j2 := cell_set3 i2 (B := V.heap.size) hv2 (.int .i64 t.rows) (.int .i64 t.cols) (.slice ta tn tk); have i3 := cell_below HB2.out d3; have j3 := cell_set3 i3 (B := V.heap.size) hv0 (.int .i64 t.rows) (.int .i64 t.cols) (.slice ta tn tk); have i4 := cell_below HB2.out g0; have j4 := cell_set3 i4 (B := V.heap.size) hvb (.int .i64 t.rows) (.int .i64 t.cols) (.slice ta tn tk); clear hb2 hm hf)
          | (go_at_call 45; refine (HT.out _ HBD.out).mono ?_; rintro e w2 ⟨ta, tn, tk, rfl, hm, hb2, hf⟩; have HN := hide hm; have HTF := hide (show Fresh V.heap.size (.agg #[.int .i64 t.rows, .int .i64 t.cols, .slice ta tn tk]) from hf); have HB2 := hide (show Below V.heap.size V w2 from (show Below V.heap.size V V.drew from ⟨rfl, rfl, rfl, Nat.le_refl _, fun _ _ => rfl⟩).trans hb2); have i0 := cell_below HB2.out y0; have j0 := fun o => cell_past i0 o; have i1 := cell_below HB2.out y1; have j1 := fun o => cell_past i1 o; have i2 := cell_below HB2.out y2; have j2 := fun o => cell_past i2 o; have i3 := cell_below HB2.out d3; have j3 := fun o => cell_past i3 o; have i4 := cell_below HB2.out g0; have j4 := fun o => cell_past i4 o; clear hb2 hm hf))
      · obtain ⟨U, hU⟩ : ∃ U, U = w2.alloc (.cells #[.int .i64 t.rows, .int .i64 t.cols, .slice ta tn tk] 25) := ⟨_, rfl⟩
        rw [← hU]
        have HUB : Hid (Below V.heap.size V U) := by rw [hU]; exact hide (below_next HB2.out (below_one _ _))
        have HTB : Hid (Box U w2.heap.size [.int .i64 t.rows, .int .i64 t.cols, .slice ta tn tk]) := by rw [hU]; exact hide (Box.new w2 _ 25 rfl)
        have p0 := HTB.out 0 _ rfl
        have p1 := HTB.out 1 _ rfl
        have p2 := HTB.out 2 _ rfl
        have HTI : Hid (IsInts U (.slice ta tn tk) t.cells) := by rw [hU]; exact hide (HN.out.below (below_one _ _)).ints
        clear hU HTB i0 i1 i2 i3 i4 j0 j1 j2 j3 j4 d3 y0 y1 y2 g0 hv0 hv2 hvb HT
        have HWU := hide (below_next HWV.out HUB.out)
        have HOI := hide (HON.out.below HUB.out)
        have q0 := (HQV.out.below HUB.out) 0 _ rfl
        have q1 := (HQV.out.below HUB.out) 1 _ rfl
        have q2 := (HQV.out.below HUB.out) 2 _ rfl
        have t0 := (HPV.out.below HUB.out) 0 _ rfl
        have t1 := (HPV.out.below HUB.out) 1 _ rfl
        have t2 := (HPV.out.below HUB.out) 2 _ rfl
        have t3 := (HPV.out.below HUB.out) 3 _ rfl
        have t4 := (HPV.out.below HUB.out) 4 _ rfl
        have t5 := (HPV.out.below HUB.out) 5 _ rfl
        have d0 := (HDV.out.below HUB.out) 0 _ rfl
        have d1 := (HDV.out.below HUB.out) 1 _ rfl
        have d2 := (HDV.out.below HUB.out) 2 _ rfl
        have d3 := (HDV.out.below HUB.out) 3 _ rfl
        have d4 := (HDV.out.below HUB.out) 4 _ rfl
        have d5 := (HDV.out.below HUB.out) 5 _ rfl
        have f0 := (HFQ.out.below HUB.out HQV.out.lt) 0
        have f1 := (HFQ.out.below HUB.out HQV.out.lt) 1
        have f2 := (HFQ.out.below HUB.out HQV.out.lt) 2
        have v0 := (HFP.out.below HUB.out HPV.out.lt) 0
        have v1 := (HFP.out.below HUB.out HPV.out.lt) 1
        have v2 := (HFP.out.below HUB.out HPV.out.lt) 2
        have v3 := (HFP.out.below HUB.out HPV.out.lt) 3
        have v4 := (HFP.out.below HUB.out HPV.out.lt) 4
        have v5 := (HFP.out.below HUB.out HPV.out.lt) 5
        have nd : ¬ w.heap.size + 1 + 1 + 1 + 1 + 1 = w.heap.size + 1 + 1 + 1 := by omega
        have k0 := cell_set3 d0 (B := w.heap.size + 1 + 1 + 1) nd (.int .i64 t.rows) (.int .i64 t.cols) (.slice ta tn tk)
        have k1 := cell_set3 d1 (B := w.heap.size + 1 + 1 + 1) nd (.int .i64 t.rows) (.int .i64 t.cols) (.slice ta tn tk)
        have k2 := cell_set3 d2 (B := w.heap.size + 1 + 1 + 1) nd (.int .i64 t.rows) (.int .i64 t.cols) (.slice ta tn tk)
        have k3 := cell_set3 d3 (B := w.heap.size + 1 + 1 + 1) nd (.int .i64 t.rows) (.int .i64 t.cols) (.slice ta tn tk)
        have k4 := cell_set3 d4 (B := w.heap.size + 1 + 1 + 1) nd (.int .i64 t.rows) (.int .i64 t.cols) (.slice ta tn tk)
        have k5 := cell_set3 d5 (B := w.heap.size + 1 + 1 + 1) nd (.int .i64 t.rows) (.int .i64 t.cols) (.slice ta tn tk)
        go_wp2
        go_region
        all_goals go_wp2
        all_goals
          have HA := above9 (B := w.heap.size + 1 + 1 + 1) (C := w.heap.size + 1 + 1 + 1 + 1) HLQ.out HLP.out U (.int .i64 t.rows) (.int .i64 t.cols) (.slice ta tn tk) (.int .i64 1) (.int .i64 1) (.slice (some ⟨wr.heap.size, 0, none⟩) 1 1) (.int .i64 0) (.int .i64 0) (.slice none 0 0)
          refine bodyPost_ret (v := .tuple #[.agg #[.int .i64 t.rows, .int .i64 t.cols, .slice ta tn tk], .agg #[.int .i64 1, .int .i64 1, .slice (some ⟨wr.heap.size, 0, none⟩) 1 1, .int .i64 0, .int .i64 0, .slice none 0 0]]) (by simp [results, Tryd.results32, go_sem, q0, q1, q2, t0, t1, t2, t3, t4, t5]) rfl ⟨_, _, rfl, ⟨_, rfl, HTI.out.above (fresh_mono HTF.out HZV.out) HA.drew⟩, ⟨_, _, rfl, ?_, IsInts.nil _⟩, ?_, fresh_mono HTF.out HWV.out.size, fresh2_of (fresh_mono HOF.out H0W.out.size) (fresh_no _ _ _)⟩
          · show IsInts _ _ [sumP x g N]
            rw [HZ.out]
            exact HOI.out.above HOF.out HA.drew
          · exact below_dr (below9 HWU.out (B := w.heap.size + 1 + 1 + 1) (C := w.heap.size + 1 + 1 + 1 + 1) (by omega) (by omega) _ _ _ _ _ _ _ _ _)
      · obtain ⟨U, hU⟩ : ∃ U, U = (((w2.setCell ⟨V.heap.size, 0, none⟩ (.int .i64 t.rows)).setCell ⟨V.heap.size, 1, none⟩ (.int .i64 t.cols)).setCell ⟨V.heap.size, 2, none⟩ (.slice ta tn tk)) := ⟨_, rfl⟩
        rw [← hU]
        have HUB : Hid (Below V.heap.size V U) := by rw [hU]; exact hide (below_set3 HB2.out (Nat.le_refl _) _ _ _)
        have hmt := (Mut.set (w := w2) (B := V.heap.size) ⟨⟨z0, z1, z2⟩, HZF.out⟩ t.rows t.cols (.slice ta tn tk)).t
        rw [← hU] at hmt
        obtain ⟨p0, p1, p2⟩ := hmt
        have HTI : Hid (IsInts U (.slice ta tn tk) t.cells) := by rw [hU]; exact hide (HN.out.set3 HTG.out (Nat.lt_succ_self _) _ _ _).ints
        clear hU z0 z1 z2 z3 z4 z5 HZB HZF HTG i0 i1 i2 i3 i4 j0 j1 j2 j3 j4 d3 y0 y1 y2 g0 hv0 hv2 hvb HT
        have HWU := hide (below_next HWV.out HUB.out)
        have HOI := hide (HON.out.below HUB.out)
        have q0 := (HQV.out.below HUB.out) 0 _ rfl
        have q1 := (HQV.out.below HUB.out) 1 _ rfl
        have q2 := (HQV.out.below HUB.out) 2 _ rfl
        have t0 := (HPV.out.below HUB.out) 0 _ rfl
        have t1 := (HPV.out.below HUB.out) 1 _ rfl
        have t2 := (HPV.out.below HUB.out) 2 _ rfl
        have t3 := (HPV.out.below HUB.out) 3 _ rfl
        have t4 := (HPV.out.below HUB.out) 4 _ rfl
        have t5 := (HPV.out.below HUB.out) 5 _ rfl
        have d0 := (HDV.out.below HUB.out) 0 _ rfl
        have d1 := (HDV.out.below HUB.out) 1 _ rfl
        have d2 := (HDV.out.below HUB.out) 2 _ rfl
        have d3 := (HDV.out.below HUB.out) 3 _ rfl
        have d4 := (HDV.out.below HUB.out) 4 _ rfl
        have d5 := (HDV.out.below HUB.out) 5 _ rfl
        have f0 := (HFQ.out.below HUB.out HQV.out.lt) 0
        have f1 := (HFQ.out.below HUB.out HQV.out.lt) 1
        have f2 := (HFQ.out.below HUB.out HQV.out.lt) 2
        have v0 := (HFP.out.below HUB.out HPV.out.lt) 0
        have v1 := (HFP.out.below HUB.out HPV.out.lt) 1
        have v2 := (HFP.out.below HUB.out HPV.out.lt) 2
        have v3 := (HFP.out.below HUB.out HPV.out.lt) 3
        have v4 := (HFP.out.below HUB.out HPV.out.lt) 4
        have v5 := (HFP.out.below HUB.out HPV.out.lt) 5
        have nd : ¬ w.heap.size + 1 + 1 + 1 + 1 + 1 = w.heap.size + 1 + 1 + 1 := by omega
        have k0 := cell_set3 d0 (B := w.heap.size + 1 + 1 + 1) nd (.int .i64 t.rows) (.int .i64 t.cols) (.slice ta tn tk)
        have k1 := cell_set3 d1 (B := w.heap.size + 1 + 1 + 1) nd (.int .i64 t.rows) (.int .i64 t.cols) (.slice ta tn tk)
        have k2 := cell_set3 d2 (B := w.heap.size + 1 + 1 + 1) nd (.int .i64 t.rows) (.int .i64 t.cols) (.slice ta tn tk)
        have k3 := cell_set3 d3 (B := w.heap.size + 1 + 1 + 1) nd (.int .i64 t.rows) (.int .i64 t.cols) (.slice ta tn tk)
        have k4 := cell_set3 d4 (B := w.heap.size + 1 + 1 + 1) nd (.int .i64 t.rows) (.int .i64 t.cols) (.slice ta tn tk)
        have k5 := cell_set3 d5 (B := w.heap.size + 1 + 1 + 1) nd (.int .i64 t.rows) (.int .i64 t.cols) (.slice ta tn tk)
        go_wp2
        go_region
        all_goals go_wp2
        all_goals
          have HA := above9 (B := w.heap.size + 1 + 1 + 1) (C := w.heap.size + 1 + 1 + 1 + 1) HLQ.out HLP.out U (.int .i64 t.rows) (.int .i64 t.cols) (.slice ta tn tk) (.int .i64 1) (.int .i64 1) (.slice (some ⟨wr.heap.size, 0, none⟩) 1 1) (.int .i64 0) (.int .i64 0) (.slice none 0 0)
          refine bodyPost_ret (v := .tuple #[.agg #[.int .i64 t.rows, .int .i64 t.cols, .slice ta tn tk], .agg #[.int .i64 1, .int .i64 1, .slice (some ⟨wr.heap.size, 0, none⟩) 1 1, .int .i64 0, .int .i64 0, .slice none 0 0]]) (by simp [results, Tryd.results32, go_sem, q0, q1, q2, t0, t1, t2, t3, t4, t5]) rfl ⟨_, _, rfl, ⟨_, rfl, HTI.out.above (fresh_mono HTF.out HZV.out) HA.drew⟩, ⟨_, _, rfl, ?_, IsInts.nil _⟩, ?_, fresh_mono HTF.out HWV.out.size, fresh2_of (fresh_mono HOF.out H0W.out.size) (fresh_no _ _ _)⟩
          · show IsInts _ _ [sumP x g N]
            rw [HZ.out]
            exact HOI.out.above HOF.out HA.drew
          · exact below_dr (below9 HWU.out (B := w.heap.size + 1 + 1 + 1) (C := w.heap.size + 1 + 1 + 1 + 1) (by omega) (by omega) _ _ _ _ _ _ _ _ _)
theorem rback_any (v vx vg : Value) (l : Ly) (x g : Mx) (w : World) (hv : IsLy w v l) (hx : IsMx w vx x) (hg : IsMx w vg g) (hE : backE l x g = 0) : Calls Tryd.prog 32 #[v, vx, vg] w (RefBack w (backX l x g) (gradW l x g) (gradB l x g)) := by
  obtain ⟨s, t, rfl, hs, ht⟩ := hv
  obtain ⟨xa, xn, xk, rfl⟩ := hs.shape
  obtain ⟨ya, yn, yk, rfl⟩ := ht.shape
  cases lyG_of (goE_zero (backE_zero hE).1).1 with
  | lin _ _ hk _ _ _ _ _ => rw [hk]; exact rback_linear l x g vx vg w hk hE hs hx hg
  | relu hk _ _ => rw [hk]; exact rback_relu l x g vx vg w hk hE hx hg
  | scale hk _ _ => rw [hk]; exact rback_scale l x g vx vg w hk hE hs hx hg
  | shift _ hk _ _ _ => rw [hk]; exact rback_shift l x g vx vg w hk hE hx hg
end Go.Proofs.YtbkkhdekjgabfadDoor
