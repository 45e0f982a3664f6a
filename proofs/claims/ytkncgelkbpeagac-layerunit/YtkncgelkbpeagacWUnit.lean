/- The walk of the law LayerUnit: a layer that does nothing gives back what goes back. No condition. -/
import Derived.Test.YtkncgelkbpeagacLFact
import Derived.Test.YtkncgelkbpeagacLyUnit
import Derived.Test.YtkncgelkbpeagacThree
import Derived.Deep.CutRange
namespace Go.Proofs.Ytkncgelkbpeagac
open Go.RowKit
def Cells3 (u : World) (B : Nat) (x y z : Value) : Prop := u.cell? ⟨B, 0, none⟩ = some x ∧ u.cell? ⟨B, 1, none⟩ = some y ∧ u.cell? ⟨B, 2, none⟩ = some z
theorem cells3_of {u : World} {B : Nat} {x y z : Value} (h : Box u B [x, y, z]) : Cells3 u B x y z := ⟨h 0 _ rfl, h 1 _ rfl, h 2 _ rfl⟩
theorem set_three {w : World} {B : Nat} {a0 a1 a2 : Value} (h : Box w B [a0, a1, a2]) (x y z : Value) : Box (((w.setCell ⟨B, 0, none⟩ x).setCell ⟨B, 1, none⟩ y).setCell ⟨B, 2, none⟩ z) B [x, y, z] := by
  have o : ∀ (u : World) (i j : Nat) (v : Value), i ≠ j → (u.setCell ⟨B, i, none⟩ v).cell? ⟨B, j, none⟩ = u.cell? ⟨B, j, none⟩ := fun u i j v hij => cell_at_other u B i j v hij
  intro j v hv
  match j, hv with
  | 0, hv => simp at hv; subst hv; rw [o _ 2 0 _ (by decide), o _ 1 0 _ (by decide)]; exact World.cell?_setCell_same _ _ _ (h 0 _ rfl)
  | 1, hv => simp at hv; subst hv; rw [o _ 2 1 _ (by decide)]; exact World.cell?_setCell_same _ _ _ ((o _ 0 1 _ (by decide)).trans (h 1 _ rfl))
  | 2, hv => simp at hv; subst hv; exact World.cell?_setCell_same _ _ _ ((o _ 1 2 _ (by decide)).trans ((o _ 0 2 _ (by decide)).trans (h 2 _ rfl)))
theorem box_set6 {w : World} {B B' : Nat} {cs : List Value} (h : Box w B cs) (hne : B ≠ B') (y0 y1 y2 y3 y4 y5 : Value) : Box ((((((w.setCell ⟨B', 0, none⟩ y0).setCell ⟨B', 1, none⟩ y1).setCell ⟨B', 2, none⟩ y2).setCell ⟨B', 3, none⟩ y3).setCell ⟨B', 4, none⟩ y4).setCell ⟨B', 5, none⟩ y5) B cs := (((((h.other hne y0).other hne y1).other hne y2).other hne y3).other hne y4).other hne y5
theorem size_set6 (w : World) (B : Nat) (y0 y1 y2 y3 y4 y5 : Value) : ((((((w.setCell ⟨B, 0, none⟩ y0).setCell ⟨B, 1, none⟩ y1).setCell ⟨B, 2, none⟩ y2).setCell ⟨B, 3, none⟩ y3).setCell ⟨B, 4, none⟩ y4).setCell ⟨B, 5, none⟩ y5).heap.size = w.heap.size := by simp
theorem szd1 (w : World) (a : Obj) : w.heap.size + 1 ≤ (w.alloc a).drew.heap.size := by show _ ≤ (w.alloc a).heap.size; rw [World.size_alloc]; exact Nat.le_refl _
theorem szd2 (w : World) (a b : Obj) : w.heap.size + 2 ≤ ((w.alloc a).alloc b).drew.heap.size := by show _ ≤ ((w.alloc a).alloc b).heap.size; rw [World.size_alloc, World.size_alloc]; exact Nat.le_refl _
theorem abv_drew {n : Nat} {w u : World} (h : Above n w u) : Above n w u.drew := h
theorem abv_alloc {n : Nat} {w u : World} {o : Obj} (h : Above n w u) : Above n w (u.alloc o) := fun p x hp hx => cell_past (h p x hp hx) o
theorem abv_low {n B q : Nat} {w u : World} {x : Value} (h : Above n w u) (hB : B < n) : Above n w (u.setCell ⟨B, q, none⟩ x) := h.set hB q x
theorem abv_high {n B q : Nat} {w u : World} {x : Value} (h : Above n w u) (hB : w.heap.size ≤ B) : Above n w (u.setCell ⟨B, q, none⟩ x) := fun p y hp hy => cell_other (h p y hp hy) (by have := World.block_lt_of_cell? w _ hy; omega) q x
theorem bel_set {V u : World} {B q : Nat} {x : Value} (h : Below V.heap.size V u) (hB : V.heap.size ≤ B) : Below V.heap.size V (u.setCell ⟨B, q, none⟩ x) := h.setCell hB _
theorem cell_other' {u : World} {p : Addr} {x y : Value} {B q : Nat} (h : u.cell? p = some x) (hne : ¬ p.block = B) : (u.setCell ⟨B, q, none⟩ y).cell? p = some x := cell_other h hne q y
theorem bel_alloc {V u : World} {o : Obj} (h : Below V.heap.size V u) : Below V.heap.size V (u.alloc o) := below_next h (below_one _ _)
theorem bel_drew {V u : World} (h : Below V.heap.size V u) : Below V.heap.size V u.drew := below_dr h
theorem isMx_alloc' {u : World} {o : Obj} {v : Value} {m : Mx} (h : IsMx u v m) : IsMx (u.alloc o) v m := h.below (below_one _ _)
theorem isMx_set' {n B q : Nat} {u : World} {v x : Value} {m : Mx} (hf : Fresh n v) (h : IsMx u v m) (hB : B < n) : IsMx (u.setCell ⟨B, q, none⟩ x) v m := h.set hf hB q x
theorem BackErr.fresh_any {w : World} {m a b : Mx} {k : Int} {e : Ending} {w' : World} (h : BackErr w m a b k e w') : ∀ v d x, e = .returned (.tuple #[v, d, x]) → Fresh w.heap.size v := by
  intro v d x he
  obtain ⟨v', d', rfl, _, _, _, hf, _⟩ := h
  have : v' = v := by simp at he; exact he.1
  rw [← this]; exact hf
theorem Box.grown {w w' : World} {B g : Nat} {cs : List Value} (h : Box w B cs) (hg : w.grownBy w' (some g)) (hne : ¬ B = g) : Box w' B cs := fun j x hx => hg.cell (h j x hx) (fun e => hne (Option.some.inj e))
set_option maxHeartbeats 16000000 in
set_option maxRecDepth 100000 in
theorem unit_walk (v0 v1 : Value) (m0 m1 : Mx) (w : World) (w0 : IsMx w v0 m0) (w1 : IsMx w v1 m1) : Calls Try.prog 5 #[v0, v1] w fun e w' => e = .returned (.bool true) ∧ Below w.heap.size w w' := by
  obtain ⟨sm0, rfl, hm0⟩ := w0
  obtain ⟨xa, xn, xk, rfl⟩ := hm0.shape
  obtain ⟨r, er⟩ : ∃ r, m0.rows = r := ⟨_, rfl⟩
  obtain ⟨c, ec⟩ : ∃ r, m0.cols = r := ⟨_, rfl⟩
  have Mm0 := hide (show IsMx w (.agg #[.int .i64 r, .int .i64 c, .slice xa xn xk]) m0 from ⟨_, by rw [er, ec], hm0⟩)
  obtain ⟨sm1, rfl, hm1⟩ := w1
  obtain ⟨ha, hn, hk, rfl⟩ := hm1.shape
  obtain ⟨r', er'⟩ : ∃ r, m1.rows = r := ⟨_, rfl⟩
  obtain ⟨c', ec'⟩ : ∃ r, m1.cols = r := ⟨_, rfl⟩
  have Mm1 := hide (show IsMx w (.agg #[.int .i64 r', .int .i64 c', .slice ha hn hk]) m1 from ⟨_, by rw [er', ec'], hm1⟩)
  have HEQ := hide (And.intro er (And.intro ec (And.intro er' ec')))
  have P0 := Mm0
  have P1 := Mm1
  rw [er, ec, er', ec']
  clear hm0 hm1 er ec er' ec' 
  have WW := hide (Below.refl w.heap.size w)
  have C := hide (Below.refl w.heap.size w)
  have D := below_next C.out (below_one w (.cells #[.int .i64 r, .int .i64 c, .slice xa xn xk] 24))
  replace Mm0 := hide (Mm0.out.below D)
  replace Mm1 := hide (Mm1.out.below D)
  replace WW := hide (below_next WW.out D)
  replace C := hide (Below.refl (w.alloc (.cells #[.int .i64 r, .int .i64 c, .slice xa xn xk] 24)).heap.size (w.alloc (.cells #[.int .i64 r, .int .i64 c, .slice xa xn xk] 24)))
  clear D
  have Bx := hide (Box.new w [.int .i64 r, .int .i64 c, .slice xa xn xk] 24 (B := w.heap.size) (by simp))
  have D := below_next C.out (below_one (w.alloc (.cells #[.int .i64 r, .int .i64 c, .slice xa xn xk] 24)) (.cells #[.int .i64 r', .int .i64 c', .slice ha hn hk] 24))
  replace Mm0 := hide (Mm0.out.below D)
  replace Mm1 := hide (Mm1.out.below D)
  replace Bx := hide (Bx.out.below D)
  replace WW := hide (below_next WW.out D)
  replace C := hide (Below.refl ((w.alloc (.cells #[.int .i64 r, .int .i64 c, .slice xa xn xk] 24)).alloc (.cells #[.int .i64 r', .int .i64 c', .slice ha hn hk] 24)).heap.size ((w.alloc (.cells #[.int .i64 r, .int .i64 c, .slice xa xn xk] 24)).alloc (.cells #[.int .i64 r', .int .i64 c', .slice ha hn hk] 24)))
  clear D
  have Bg := hide (Box.new (w.alloc (.cells #[.int .i64 r, .int .i64 c, .slice xa xn xk] 24)) [.int .i64 r', .int .i64 c', .slice ha hn hk] 24 (B := w.heap.size + 1) (by simp))
  go_enter Try.func5, Try.ntmps5
  have HX := hide (lfact_any ((w.alloc (.cells #[.int .i64 r, .int .i64 c, .slice xa xn xk] 24)).alloc (.cells #[.int .i64 r', .int .i64 c', .slice ha hn hk] 24)))
  go_wp2_with fail
  refine HX.out.mono ?_
  rintro e ww1 ⟨rfl, hb⟩
  replace C := hide (below_next C.out hb)
  clear HX hb 
  by_cases hc1 : c < 1
  · skip
    have zx0 := (Bx.out.below C.out) 0 _ rfl
    have zx1 := (Bx.out.below C.out) 1 _ rfl
    have zx2 := (Bx.out.below C.out) 2 _ rfl
    go_wp2
    go_ret
    exact ⟨rfl, below_next WW.out C.out⟩
  · by_cases hc2 : 12 < c
    · skip
      have zx0 := (Bx.out.below C.out) 0 _ rfl
      have zx1 := (Bx.out.below C.out) 1 _ rfl
      have zx2 := (Bx.out.below C.out) 2 _ rfl
      go_wp2
      go_ret
      exact ⟨rfl, below_next WW.out C.out⟩
    · skip
      have HX := hide (check_any _ m0 _ (Mm0.out.below C.out))
      have zx0 := (Bx.out.below C.out) 0 _ rfl
      have zx1 := (Bx.out.below C.out) 1 _ rfl
      have zx2 := (Bx.out.below C.out) 2 _ rfl
      go_wp2_with fail
      refine HX.out.mono ?_
      rintro e ww2 ⟨rfl, hb⟩
      replace C := hide (below_next C.out hb)
      clear HX hb zx0 zx1 zx2
      by_cases hE : fault m0 = 0
      · rw [err_eq hE]
        have CH := C
        have NX := hide (Nat.lt_of_lt_of_le (World.block_lt_of_cell? _ _ (Bx.out 0 _ rfl)) CH.out.size)
        have NG := hide (Nat.lt_of_lt_of_le (World.block_lt_of_cell? _ _ (Bg.out 0 _ rfl)) CH.out.size)
        have WWS := hide (below_next WW.out CH.out).size
        have zx0 := (Bx.out.below CH.out) 0 _ rfl
        have zx1 := (Bx.out.below CH.out) 1 _ rfl
        have zx2 := (Bx.out.below CH.out) 2 _ rfl
        clear C
        obtain ⟨R, C, gx⟩ := good_of hE
        have hc : c = (C : Int) := by rw [← HEQ.out.2.1]; exact gx.c
        have hC1 : 1 ≤ C := by omega
        have hC2 : C ≤ 12 := by omega
        obtain ⟨n, hn⟩ : ∃ n, C * C = n := ⟨_, rfl⟩
        have hn576 : n ≤ 576 := by have := Nat.mul_le_mul hC2 hC2; omega
        have HBk := hide (fun W => blank_any c c n W (by rw [hc, ← hn]; simp) (by omega))
        have HG := hide (And.intro gx (And.intro hc hn))
        clear hE gx hc hn
        go_wp2_with fail
        refine (HBk.out _).mono ?_
        rintro e w3 ⟨g, rfl, hg, hrow, hb3⟩
        have hlt := hrow.lt
        obtain ⟨o, ho⟩ : ∃ o, o = Obj.cells #[.int .i64 c, .int .i64 c, .slice (some ⟨g, 0, none⟩) n n] 24 := ⟨_, rfl⟩
        obtain ⟨W0, hW0⟩ : ∃ W0, W0 = w3.alloc o := ⟨_, rfl⟩
        have D := below_next (below_next CH.out hb3) (below_one w3 o)
        rw [← hW0] at D
        replace Bx := hide (Bx.out.below D)
        replace Bg := hide (Bg.out.below D)
        have hgB := hg
        have WW0 := hide (below_next WW.out D)
        have HRW : Hid (RowAt 3 W0 g (tab n (fun _ => 0))) := by rw [hW0]; exact hide (hrow.alloc o)
        have Bw : Hid (Box W0 w3.heap.size [.int .i64 c, .int .i64 c, .slice (some ⟨g, 0, none⟩) n n]) := by rw [hW0, ho]; exact hide (Box.new w3 _ 24 rfl)
        have HLT := hide (And.intro hg (And.intro hlt NX.out))
        have HLG := NG
        clear D hrow hb3 hg hlt hgB HBk zx0 zx1 zx2
        go_wp2_with fail
        rw [← ho, ← hW0]
        clear hW0 ho
        go_loopw [8] (fun a wr => ∃ (i : Nat) (xi : Int), i ≤ C ∧ xi = (i : Int) ∧ a = .int .i64 xi ∧ RowAt 3 wr g (tab n (unitF C i)) ∧ W0.grownBy wr (some g)) (fun a _ => C - (intOf a).toNat)
        case atStart => exact ⟨0, 0, Nat.zero_le _, rfl, rfl, by rw [← unitF_zero]; exact HRW.out, World.grownBy.refl _ _⟩
        case round =>
          obtain ⟨i, xi, hi, hxi, rfl, hro, hgr⟩ := hrel
          have nx : ¬ w.heap.size = g := by have := HLT.out.1; have := HLT.out.2.2; omega
          have nw : ¬ w3.heap.size = g := by have := HLT.out.2.1; omega
          have BX := hide (Bx.out.grown hgr nx)
          have BW := hide (Bw.out.grown hgr nw)
          have j1 := BX.out 1 _ rfl
          have p2 := BW.out 2 _ rfl
          have HRO := hide hro
          have HGR := hide hgr
          have HXI := hide hxi
          have hxi0 : 0 ≤ xi := by omega
          have hxi1 : xi ≤ 24 := by omega
          clear hro hgr hxi nx nw
          by_cases hlt : xi < c
          · have hiC : i < C := by have := HXI.out; have := HG.out.2.1; omega
            have hidx := idx_lt hiC hiC
            obtain ⟨y, dx⟩ : ∃ y, wr.cell? ⟨g, (xi * c + xi).toNat, none⟩ = some (.int .i64 y) := ⟨_, by rw [idx_nat HXI.out HXI.out HG.out.2.1]; exact HRO.out.cell (tab_at (by have := HG.out.2.2; omega))⟩
            have fx : wr.frozen? ⟨g, (xi * c + xi).toNat, none⟩ = false := HRO.out.frozen _
            have t1 := mul_bds HXI.out HG.out.2.1 (by omega) (by omega)
            have t3 : xi * c + xi < (n : Int) := by rw [mul_cast_idx HXI.out HXI.out HG.out.2.1]; have := HG.out.2.2; omega
            have u1' := wrap_in (x := xi * c) (by omega) (by omega)
            have u2' := wrap_in (x := xi * c + xi) (by omega) (by omega)
            have g1 : 0 ≤ xi * c + xi := by omega
            go_wp2
            go_roundw
            case rel => exact ⟨i + 1, _, by omega, by have := HXI.out; omega, rfl, by
              rw [idx_nat HXI.out HXI.out HG.out.2.1]
              have h := HRO.out.set (i * C + i) 256
              rw [← HG.out.2.2, unitF_step C i hiC, HG.out.2.2] at h
              exact h, grown_set HGR.out _ _⟩
            case measure => have := HXI.out; simp [intOf]; omega
          · have hiC : i = C := by have := HXI.out; have := HG.out.2.1; omega
            have hU : IsMx wr (.agg #[.int .i64 c, .int .i64 c, .slice (some ⟨g, 0, none⟩) n n]) (unitM C) := by
              refine ⟨_, by rw [HG.out.2.1]; rfl, ?_⟩
              have hrow := HRO.out
              rw [hiC] at hrow
              show IsInts wr _ (tab (C * C) (unitF C C))
              rw [HG.out.2.2]
              exact hrow.isTab (by unfold maxLen; omega)
            have WR := hide (WW0.out.grown HGR.out (by have := WW0.out.size; omega) (fun k hk => by have := Option.some.inj hk; have := HLT.out.1; have := WWS.out; omega))
            have MU := hide hU
            have ng : ¬ w.heap.size + 1 = g := by have := HLT.out.1; have := HLG.out; omega
            have BG := hide (Bg.out.grown HGR.out ng)
            clear hU hiC ng j1 p2 Bx Bg Bw HRW WW0 HRO HGR HXI
            have Bx := BX
            have Bg := BG
            have Bw := BW
            have Mm0 := hide (P0.out.below WR.out)
            have Mm1 := hide (P1.out.below WR.out)
            have WW := WR
            have CC := hide (Below.refl wr.heap.size wr)
            clear BX BG BW WR
            have HZB := hide (blank_any 1 c C wr (by rw [HG.out.2.1]; simp) (by omega))
            have zx1 := Bx.out 1 _ rfl
            go_wp2_with fail
            refine HZB.out.mono ?_
            rintro e vv1 ⟨g2, rfl, hg2, hrow2, hb⟩
            have hzm : IsMx vv1 (.agg #[.int .i64 1, .int .i64 c, .slice (some ⟨g2, 0, none⟩) C C]) (zeroM C) := ⟨_, by rw [HG.out.2.1]; rfl, hrow2.isTab (by unfold maxLen; omega)⟩
            replace CC := hide hb
            clear HZB hb hrow2 hg2 zx1
            have MZ := hide (hzm.below (below_one vv1 (.cells #[.int .i64 1, .int .i64 c, .slice (some ⟨g2, 0, none⟩) C C] 24)))
            have D := below_next CC.out (below_one vv1 (.cells #[.int .i64 1, .int .i64 c, .slice (some ⟨g2, 0, none⟩) C C] 24))
            replace Bx := hide (Bx.out.below D)
            replace Bg := hide (Bg.out.below D)
            replace Bw := hide (Bw.out.below D)
            replace Mm0 := hide (Mm0.out.below D)
            replace Mm1 := hide (Mm1.out.below D)
            replace MU := hide (MU.out.below D)
            replace WW := hide (below_next WW.out D)
            replace CC := hide (Below.refl (vv1.alloc (.cells #[.int .i64 1, .int .i64 c, .slice (some ⟨g2, 0, none⟩) C C] 24)).heap.size (vv1.alloc (.cells #[.int .i64 1, .int .i64 c, .slice (some ⟨g2, 0, none⟩) C C] 24)))
            clear D
            have Bz := hide (Box.new vv1 [.int .i64 1, .int .i64 c, .slice (some ⟨g2, 0, none⟩) C C] 24 (B := vv1.heap.size) (by simp))
            clear hzm
            have BwN := Bw
            have h256 := ints_newB (vv1.alloc (.cells #[.int .i64 1, .int .i64 c, .slice (some ⟨g2, 0, none⟩) C C] 24)) [256] (by decide) 3 (B := vv1.heap.size + 1) (by simp)
            have D := below_next CC.out (below_one (vv1.alloc (.cells #[.int .i64 1, .int .i64 c, .slice (some ⟨g2, 0, none⟩) C C] 24)) (.cells #[.int .i64 256] 3))
            replace Bx := hide (Bx.out.below D)
            replace Bg := hide (Bg.out.below D)
            replace Bw := hide (Bw.out.below D)
            replace Mm0 := hide (Mm0.out.below D)
            replace Mm1 := hide (Mm1.out.below D)
            replace MU := hide (MU.out.below D)
            replace Bz := hide (Bz.out.below D)
            replace MZ := hide (MZ.out.below D)
            replace WW := hide (below_next WW.out D)
            replace CC := hide (Below.refl ((vv1.alloc (.cells #[.int .i64 1, .int .i64 c, .slice (some ⟨g2, 0, none⟩) C C] 24)).alloc (.cells #[.int .i64 256] 3)).heap.size ((vv1.alloc (.cells #[.int .i64 1, .int .i64 c, .slice (some ⟨g2, 0, none⟩) C C] 24)).alloc (.cells #[.int .i64 256] 3)))
            clear D
            have M2 := hide (show IsInts ((vv1.alloc (.cells #[.int .i64 1, .int .i64 c, .slice (some ⟨g2, 0, none⟩) C C] 24)).alloc (.cells #[.int .i64 256] 3)) (.slice (some ⟨vv1.heap.size + 1, 0, none⟩) 1 1) [256] from h256)
            clear h256
            have D := below_next CC.out (below_one ((vv1.alloc (.cells #[.int .i64 1, .int .i64 c, .slice (some ⟨g2, 0, none⟩) C C] 24)).alloc (.cells #[.int .i64 256] 3)) (.cells #[.int .i64 1, .int .i64 c, .int .i64 c, .slice (some ⟨g, 0, none⟩) n n, .int .i64 1, .int .i64 c, .slice (some ⟨g2, 0, none⟩) C C, .int .i64 3, .int .i64 1, .int .i64 1, .slice (some ⟨vv1.heap.size + 1, 0, none⟩) 1 1, .int .i64 0, .int .i64 0, .slice none 0 0, .int .i64 4, .int .i64 0, .int .i64 0, .slice none 0 0, .int .i64 1, .int .i64 c, .slice (some ⟨g2, 0, none⟩) C C] 26))
            replace Bx := hide (Bx.out.below D)
            replace Bg := hide (Bg.out.below D)
            replace Bw := hide (Bw.out.below D)
            replace Mm0 := hide (Mm0.out.below D)
            replace Mm1 := hide (Mm1.out.below D)
            replace MU := hide (MU.out.below D)
            replace Bz := hide (Bz.out.below D)
            replace MZ := hide (MZ.out.below D)
            replace M2 := hide (M2.out.below D)
            replace WW := hide (below_next WW.out D)
            replace CC := hide (Below.refl (((vv1.alloc (.cells #[.int .i64 1, .int .i64 c, .slice (some ⟨g2, 0, none⟩) C C] 24)).alloc (.cells #[.int .i64 256] 3)).alloc (.cells #[.int .i64 1, .int .i64 c, .int .i64 c, .slice (some ⟨g, 0, none⟩) n n, .int .i64 1, .int .i64 c, .slice (some ⟨g2, 0, none⟩) C C, .int .i64 3, .int .i64 1, .int .i64 1, .slice (some ⟨vv1.heap.size + 1, 0, none⟩) 1 1, .int .i64 0, .int .i64 0, .slice none 0 0, .int .i64 4, .int .i64 0, .int .i64 0, .slice none 0 0, .int .i64 1, .int .i64 c, .slice (some ⟨g2, 0, none⟩) C C] 26)).heap.size (((vv1.alloc (.cells #[.int .i64 1, .int .i64 c, .slice (some ⟨g2, 0, none⟩) C C] 24)).alloc (.cells #[.int .i64 256] 3)).alloc (.cells #[.int .i64 1, .int .i64 c, .int .i64 c, .slice (some ⟨g, 0, none⟩) n n, .int .i64 1, .int .i64 c, .slice (some ⟨g2, 0, none⟩) C C, .int .i64 3, .int .i64 1, .int .i64 1, .slice (some ⟨vv1.heap.size + 1, 0, none⟩) 1 1, .int .i64 0, .int .i64 0, .slice none 0 0, .int .i64 4, .int .i64 0, .int .i64 0, .slice none 0 0, .int .i64 1, .int .i64 c, .slice (some ⟨g2, 0, none⟩) C C] 26)))
            clear D
            have Bq := hide (Box.new ((vv1.alloc (.cells #[.int .i64 1, .int .i64 c, .slice (some ⟨g2, 0, none⟩) C C] 24)).alloc (.cells #[.int .i64 256] 3)) [.int .i64 1, .int .i64 c, .int .i64 c, .slice (some ⟨g, 0, none⟩) n n, .int .i64 1, .int .i64 c, .slice (some ⟨g2, 0, none⟩) C C, .int .i64 3, .int .i64 1, .int .i64 1, .slice (some ⟨vv1.heap.size + 1, 0, none⟩) 1 1, .int .i64 0, .int .i64 0, .slice none 0 0, .int .i64 4, .int .i64 0, .int .i64 0, .slice none 0 0, .int .i64 1, .int .i64 c, .slice (some ⟨g2, 0, none⟩) C C] 26 (B := vv1.heap.size + 1 + 1) (by simp))
            obtain ⟨W2, hW2⟩ : ∃ W2, W2 = (((vv1.alloc (.cells #[.int .i64 1, .int .i64 c, .slice (some ⟨g2, 0, none⟩) C C] 24)).alloc (.cells #[.int .i64 256] 3)).alloc (.cells #[.int .i64 1, .int .i64 c, .int .i64 c, .slice (some ⟨g, 0, none⟩) n n, .int .i64 1, .int .i64 c, .slice (some ⟨g2, 0, none⟩) C C, .int .i64 3, .int .i64 1, .int .i64 1, .slice (some ⟨vv1.heap.size + 1, 0, none⟩) 1 1, .int .i64 0, .int .i64 0, .slice none 0 0, .int .i64 4, .int .i64 0, .int .i64 0, .slice none 0 0, .int .i64 1, .int .i64 c, .slice (some ⟨g2, 0, none⟩) C C] 26)) := ⟨_, rfl⟩
            rw [← hW2] at Bx Bg Bw Mm0 Mm1 MU Bz MZ M2 Bq WW CC
            obtain ⟨bl, hbl⟩ : ∃ bl, bl = vv1.heap.size + 1 + 1 := ⟨_, rfl⟩
            rw [← hbl] at Bq
            have HLY : Hid (∀ i, i < 3 → ∃ (k a1 a2 b1 b2 : Int) (sa : Option Addr) (sn sk : Nat) (ta : Option Addr) (tn tk : Nat), IsLy W2 (.agg #[.int .i64 k, .int .i64 a1, .int .i64 a2, .slice sa sn sk, .int .i64 b1, .int .i64 b2, .slice ta tn tk]) (unitL C i) ∧
                W2.cell? ⟨bl, i * 7, none⟩ = some (.int .i64 k) ∧ W2.cell? ⟨bl, i * 7 + 1, none⟩ = some (.int .i64 a1) ∧ W2.cell? ⟨bl, i * 7 + 2, none⟩ = some (.int .i64 a2) ∧ W2.cell? ⟨bl, i * 7 + 3, none⟩ = some (.slice sa sn sk) ∧ W2.cell? ⟨bl, i * 7 + 4, none⟩ = some (.int .i64 b1) ∧ W2.cell? ⟨bl, i * 7 + 5, none⟩ = some (.int .i64 b2) ∧ W2.cell? ⟨bl, i * 7 + 6, none⟩ = some (.slice ta tn tk)) := by
              refine hide (fun i hi => ?_)
              match i, hi with
              | 0, _ => exact ⟨_, _, _, _, _, _, _, _, _, _, _, ⟨_, _, by rw [HG.out.2.1]; rfl, MU.out.ints, MZ.out.ints⟩, Bq.out 0 _ rfl, Bq.out 1 _ rfl, Bq.out 2 _ rfl, Bq.out 3 _ rfl, Bq.out 4 _ rfl, Bq.out 5 _ rfl, Bq.out 6 _ rfl⟩
              | 1, _ => exact ⟨_, _, _, _, _, _, _, _, _, _, _, ⟨_, _, rfl, M2.out, IsInts.nil _⟩, Bq.out 7 _ rfl, Bq.out 8 _ rfl, Bq.out 9 _ rfl, Bq.out 10 _ rfl, Bq.out 11 _ rfl, Bq.out 12 _ rfl, Bq.out 13 _ rfl⟩
              | 2, _ => exact ⟨_, _, _, _, _, _, _, _, _, _, _, ⟨_, _, by rw [HG.out.2.1]; rfl, IsInts.nil _, MZ.out.ints⟩, Bq.out 14 _ rfl, Bq.out 15 _ rfl, Bq.out 16 _ rfl, Bq.out 17 _ rfl, Bq.out 18 _ rfl, Bq.out 19 _ rfl, Bq.out 20 _ rfl⟩
            have zw0 := BwN.out 0 _ rfl
            have zw1 := BwN.out 1 _ rfl
            have zw2 := BwN.out 2 _ rfl
            go_wp2
            rw [← hbl, ← hW2]
            clear hW2 hbl zw0 zw1 zw2 BwN
            go_loopw [11] (fun a wr => ∃ (i : Nat) (xi : Int), i ≤ 3 ∧ xi = (i : Int) ∧ a = .int .i64 xi ∧ Below W2.heap.size W2 wr) (fun a _ => 3 - (intOf a).toNat)
            case atStart => exact ⟨0, 0, Nat.zero_le _, rfl, rfl, Below.refl _ _⟩
            case round =>
              obtain ⟨i, xi, hi, hxi, rfl, hbw⟩ := hrel
              have HBW := hide hbw
              have HXI := hide hxi
              have hxi0 : 0 ≤ xi := by omega
              have hxi1 : xi ≤ 3 := by omega
              clear hxi hbw
              by_cases hlt : xi < 3
              · have hi3 : i < 3 := by have := HXI.out; omega
                have hxn : xi.toNat = i := by have := HXI.out; omega
                obtain ⟨k, a1, a2, b1, b2, sa, sn, sk, ta, tn, tk, hly, k0, k1, k2, k3, k4, k5, k6⟩ := HLY.out i hi3
                rw [← hxn] at k0 k1 k2 k3 k4 k5 k6
                have hgo := unit_go HG.out.1 hC1 hC2 i
                have hbk := unit_back (g := m1) HG.out.1 hC2 i
                obtain ⟨U, hU⟩ : ∃ U, unitL C i = U := ⟨_, rfl⟩
                rw [hU] at hly hgo hbk
                have HLW := hide (hly.below HBW.out)
                have HT := hide (fun W (h : Below wr.heap.size wr W) => lgo_any _ U m0 _ W (HLW.out.below h) ((Mm0.out.below HBW.out).below h))
                rw [hgo.1, hgo.2] at HT
                have HBK := hide hbk
                have HKK := hide (And.intro k0 (And.intro k1 (And.intro k2 (And.intro k3 (And.intro k4 (And.intro k5 k6))))))
                have HSB : Hid (∀ W', Below wr.heap.size wr W' → (fun W' => W'.cell? ⟨bl, xi.toNat * 7, none⟩ = some (.int .i64 k) ∧ W'.cell? ⟨bl, xi.toNat * 7 + 1, none⟩ = some (.int .i64 a1) ∧ W'.cell? ⟨bl, xi.toNat * 7 + 2, none⟩ = some (.int .i64 a2) ∧ W'.cell? ⟨bl, xi.toNat * 7 + 3, none⟩ = some (.slice sa sn sk) ∧ W'.cell? ⟨bl, xi.toNat * 7 + 4, none⟩ = some (.int .i64 b1) ∧ W'.cell? ⟨bl, xi.toNat * 7 + 5, none⟩ = some (.int .i64 b2) ∧ W'.cell? ⟨bl, xi.toNat * 7 + 6, none⟩ = some (.slice ta tn tk) ∧ W'.cell? ⟨w.heap.size, 0, none⟩ = some (.int .i64 r) ∧ W'.cell? ⟨w.heap.size, 1, none⟩ = some (.int .i64 c) ∧ W'.cell? ⟨w.heap.size, 2, none⟩ = some (.slice xa xn xk)) W') := hide (fun W' h => by
                  have h' := below_next HBW.out h
                  obtain ⟨k0, k1, k2, k3, k4, k5, k6⟩ := HKK.out
                  exact ⟨cell_below h' k0, cell_below h' k1, cell_below h' k2, cell_below h' k3, cell_below h' k4, cell_below h' k5, cell_below h' k6, (Bx.out.below h') 0 _ rfl, (Bx.out.below h') 1 _ rfl, (Bx.out.below h') 2 _ rfl⟩)
                obtain ⟨y0, y1, y2, y3, y4, y5, y6, x0, x1, x2⟩ := HSB.out wr (Below.refl _ _)
                clear hly hgo hbk hU k0 k1 k2 k3 k4 k5 k6 hxn
                have HT3 := hide (HT.out (wr.alloc (.cells #[.int .i64 0, .int .i64 0, .slice none 0 0] 24)).drew (bel_drew (bel_alloc (Below.refl wr.heap.size wr))))
                have HT0 := hide (HT.out wr.drew (bel_drew (Below.refl wr.heap.size wr)))
                go_wp2
                go_cut [12, 13] from 64 to 105 (fun a b wx => ∃ (Bk : Nat) (qa : Option Addr) (qn qk : Nat), a = .pointer (some ⟨Bk, 0, none⟩) ∧ b = .nilIface ∧ IsMx wx (.agg #[.int .i64 r, .int .i64 c, .slice qa qn qk]) m0 ∧ wx.cell? ⟨Bk, 0, none⟩ = some (.int .i64 r) ∧ wx.cell? ⟨Bk, 1, none⟩ = some (.int .i64 c) ∧ wx.cell? ⟨Bk, 2, none⟩ = some (.slice qa qn qk) ∧ Below wr.heap.size wr wx)
                case first =>
                  go_region_held3 (fun W' => W'.cell? ⟨bl, xi.toNat * 7, none⟩ = some (.int .i64 k) ∧ W'.cell? ⟨bl, xi.toNat * 7 + 1, none⟩ = some (.int .i64 a1) ∧ W'.cell? ⟨bl, xi.toNat * 7 + 2, none⟩ = some (.int .i64 a2) ∧ W'.cell? ⟨bl, xi.toNat * 7 + 3, none⟩ = some (.slice sa sn sk) ∧ W'.cell? ⟨bl, xi.toNat * 7 + 4, none⟩ = some (.int .i64 b1) ∧ W'.cell? ⟨bl, xi.toNat * 7 + 5, none⟩ = some (.int .i64 b2) ∧ W'.cell? ⟨bl, xi.toNat * 7 + 6, none⟩ = some (.slice ta tn tk) ∧ W'.cell? ⟨w.heap.size, 0, none⟩ = some (.int .i64 r) ∧ W'.cell? ⟨w.heap.size, 1, none⟩ = some (.int .i64 c) ∧ W'.cell? ⟨w.heap.size, 2, none⟩ = some (.slice xa xn xk)) ((refine HSB.out _ ?_; repeat' (first | with_reducible exact Below.refl _ _ | with_reducible exact HB2.out | with_reducible refine bel_drew ?_ | with_reducible refine bel_alloc ?_ | with_reducible refine bel_set ?_ ?_ | exact Nat.le_refl _ | exact Nat.le_succ _ | exact HB2.out.size | exact Nat.le_succ_of_le HB2.out.size | (have hsz := HB2.out.size; simp only [World.size_alloc] at hsz ⊢; omega))))
                    (first
                      | (go_at_call 7; guard_target = Calls _ _ _ (World.drew (World.alloc wr (Obj.cells #[_, _, _] _))) _; refine HT3.out.mono ?_; intro e w2 h; have hfr := h.fresh_any; obtain ⟨qa, qn, qk, rfl, hm, hb2⟩ := h.any; rw [HEQ.out.1, HEQ.out.2.1] at hm hfr ⊢; rw [err_eq rfl] at hfr ⊢; have hc2 := below_next (below_dr (Below.refl _ (wr.alloc (.cells #[.int .i64 0, .int .i64 0, .slice none 0 0] 24)))) hb2; have HB2 := hide (show Below wr.heap.size wr w2 from (below_next (below_one wr (.cells #[.int .i64 0, .int .i64 0, .slice none 0 0] 24)) hc2)); have ZB3 := hide ((Box.new wr [.int .i64 0, .int .i64 0, .slice none 0 0] 24 (B := wr.heap.size) rfl).below hc2); have ZB3l := hide (Box.new wr [.int .i64 0, .int .i64 0, .slice none 0 0] 24 (B := wr.heap.size) rfl).lt; have ZF3 := hide ((Free.new wr #[.int .i64 0, .int .i64 0, .slice none 0 0] 24 (B := wr.heap.size) rfl).below hc2 ZB3l.out); have z30 := ZB3.out 0 _ rfl; have f30 := ZF3.out 0; have z31 := ZB3.out 1 _ rfl; have f31 := ZF3.out 1; have z32 := ZB3.out 2 _ rfl; have f32 := ZF3.out 2; have lt3 := ZB3.out.lt; have ne3 : ¬ wr.heap.size = w2.heap.size := Nat.ne_of_lt lt3; have en3 : ¬ w2.heap.size = wr.heap.size := (Nat.ne_of_lt lt3).symm; have HN := hide hm; have HF := hide (show Fresh (wr.heap.size + 1) (.agg #[.int .i64 r, .int .i64 c, .slice qa qn qk]) from fresh_mono (hfr _ _ rfl) (szd1 _ _)); clear h hfr hb2 hc2 hm)
                      | (go_at_call 7; guard_target = Calls _ _ _ (World.drew wr) _; refine HT0.out.mono ?_; intro e w2 h; have hfr := h.fresh_any; obtain ⟨qa, qn, qk, rfl, hm, hb2⟩ := h.any; rw [HEQ.out.1, HEQ.out.2.1] at hm hfr ⊢; rw [err_eq rfl] at hfr ⊢; have hc2 := below_next (below_dr (Below.refl _ wr)) hb2; have HB2 := hide (show Below wr.heap.size wr w2 from hc2); have HN := hide hm; have HF := hide (show Fresh (wr.heap.size) (.agg #[.int .i64 r, .int .i64 c, .slice qa qn qk]) from fresh_mono (hfr _ _ rfl) (Nat.le_refl _)); clear h hfr hb2 hc2 hm))
                  all_goals go_wp2
                  all_goals go_meet
                  all_goals
                    refine ⟨_, qa, qn, qk, rfl, rfl, ?_, ?_, ?_, ?_, ?_⟩
                    · repeat' (first | exact HN.out | refine isMx_alloc' ?_ | refine isMx_set' HF.out ?_ ?_ | omega)
                    · first | go_keep | (repeat' (first | exact (Mut.set (w := w2) ⟨⟨z30, z31, z32⟩, ZF3.out⟩ _ _ (.slice qa qn qk)).t.1 | refine cell_past ?_ _ | refine cell_other' ?_ ?_ | assumption | omega))
                    · first | go_keep | (repeat' (first | exact (Mut.set (w := w2) ⟨⟨z30, z31, z32⟩, ZF3.out⟩ _ _ (.slice qa qn qk)).t.2.1 | refine cell_past ?_ _ | refine cell_other' ?_ ?_ | assumption | omega))
                    · first | go_keep | (repeat' (first | exact (Mut.set (w := w2) ⟨⟨z30, z31, z32⟩, ZF3.out⟩ _ _ (.slice qa qn qk)).t.2.2 | refine cell_past ?_ _ | refine cell_other' ?_ ?_ | assumption | omega))
                    · repeat' (first | with_reducible exact Below.refl _ _ | with_reducible exact HB2.out | with_reducible refine bel_drew ?_ | with_reducible refine bel_alloc ?_ | with_reducible refine bel_set ?_ ?_ | exact Nat.le_refl _ | exact Nat.le_succ _ | exact HB2.out.size | exact Nat.le_succ_of_le HB2.out.size | (have hsz := HB2.out.size; simp only [World.size_alloc] at hsz ⊢; omega))
                case rest =>
                  obtain ⟨Bk, qa, qn, qk, rfl, rfl, hmx, c0, c1, c2, hbc⟩ := hcut
                  have HBC := hide hbc
                  have HMX := hide hmx
                  obtain ⟨_, _, _, _, _, _, _, x0, x1, x2⟩ := HSB.out wc hbc
                  have HX := hide (matrices_any _ _ m0 m0 wc hmx (Mm0.out.below (below_next HBW.out hbc)))
                  clear hbc hmx HT HT0 HT3
                  go_wp2_with fail
                  refine HX.out.mono ?_
                  rintro e w4 ⟨rfl, hb4⟩
                  rw [sameM_refl]
                  have HB4 := hide (below_next HBC.out hb4)
                  clear HX hb4 c0 c1 c2 x0 x1 x2 HMX HBC
                  obtain ⟨tq, hto⟩ : ∃ q, backX U m0 m1 = q := ⟨_, rfl⟩
                  obtain ⟨da, hda⟩ : ∃ q, gradW U m0 m1 = q := ⟨_, rfl⟩
                  obtain ⟨db, hdb⟩ : ∃ q, gradB U m0 m1 = q := ⟨_, rfl⟩
                  obtain ⟨j, hj⟩ : ∃ q, backE U m0 m1 = q := ⟨_, rfl⟩
                  have HT := hide (fun W (h : Below w4.heap.size w4 W) => lback_any _ U m0 m1 _ _ W (HLW.out.below (below_next HB4.out h)) (Mm0.out.below (below_next (below_next HBW.out HB4.out) h)) (Mm1.out.below (below_next (below_next HBW.out HB4.out) h)))
                  rw [hto, hda, hdb, hj] at HT
                  have HTO := hide (And.intro hto hj)
                  have HSC : Hid (∀ W', Below w4.heap.size w4 W' → (fun W' => W'.cell? ⟨bl, xi.toNat * 7, none⟩ = some (.int .i64 k) ∧ W'.cell? ⟨bl, xi.toNat * 7 + 1, none⟩ = some (.int .i64 a1) ∧ W'.cell? ⟨bl, xi.toNat * 7 + 2, none⟩ = some (.int .i64 a2) ∧ W'.cell? ⟨bl, xi.toNat * 7 + 3, none⟩ = some (.slice sa sn sk) ∧ W'.cell? ⟨bl, xi.toNat * 7 + 4, none⟩ = some (.int .i64 b1) ∧ W'.cell? ⟨bl, xi.toNat * 7 + 5, none⟩ = some (.int .i64 b2) ∧ W'.cell? ⟨bl, xi.toNat * 7 + 6, none⟩ = some (.slice ta tn tk) ∧ W'.cell? ⟨w.heap.size, 0, none⟩ = some (.int .i64 r) ∧ W'.cell? ⟨w.heap.size, 1, none⟩ = some (.int .i64 c) ∧ W'.cell? ⟨w.heap.size, 2, none⟩ = some (.slice xa xn xk) ∧ W'.cell? ⟨w.heap.size + 1, 0, none⟩ = some (.int .i64 r') ∧ W'.cell? ⟨w.heap.size + 1, 1, none⟩ = some (.int .i64 c') ∧ W'.cell? ⟨w.heap.size + 1, 2, none⟩ = some (.slice ha hn hk)) W') := hide (fun W' h => by
                    have h' := below_next HB4.out h
                    obtain ⟨k0, k1, k2, k3, k4, k5, k6, x0, x1, x2⟩ := HSB.out _ h'
                    have h'' := below_next HBW.out h'
                    exact ⟨k0, k1, k2, k3, k4, k5, k6, x0, x1, x2, (Bg.out.below h'') 0 _ rfl, (Bg.out.below h'') 1 _ rfl, (Bg.out.below h'') 2 _ rfl⟩)
                  obtain ⟨y0, y1, y2, y3, y4, y5, y6, x0, x1, x2, g0, g1, g2⟩ := HSC.out w4 (Below.refl _ _)
                  clear hto hda hdb hj
                  have HT36 := hide (HT.out ((w4.alloc (.cells #[.int .i64 0, .int .i64 0, .slice none 0 0] 24)).alloc (.cells #[.int .i64 0, .int .i64 0, .slice none 0 0, .int .i64 0, .int .i64 0, .slice none 0 0] 38)).drew (bel_drew (bel_alloc (bel_alloc (Below.refl w4.heap.size w4)))))
                  have HT63 := hide (HT.out ((w4.alloc (.cells #[.int .i64 0, .int .i64 0, .slice none 0 0, .int .i64 0, .int .i64 0, .slice none 0 0] 38)).alloc (.cells #[.int .i64 0, .int .i64 0, .slice none 0 0] 24)).drew (bel_drew (bel_alloc (bel_alloc (Below.refl w4.heap.size w4)))))
                  have HT3 := hide (HT.out (w4.alloc (.cells #[.int .i64 0, .int .i64 0, .slice none 0 0] 24)).drew (bel_drew (bel_alloc (Below.refl w4.heap.size w4))))
                  have HT6 := hide (HT.out (w4.alloc (.cells #[.int .i64 0, .int .i64 0, .slice none 0 0, .int .i64 0, .int .i64 0, .slice none 0 0] 38)).drew (bel_drew (bel_alloc (Below.refl w4.heap.size w4))))
                  have HT0 := hide (HT.out w4.drew (bel_drew (Below.refl w4.heap.size w4)))
                  go_wp2
                  go_cut [13, 15] from 64 to 105 (fun b a wx => ∃ (Bk : Nat) (qa : Option Addr) (qn qk : Nat), b = errV j ∧ a = .pointer (some ⟨Bk, 0, none⟩) ∧ IsMx wx (.agg #[.int .i64 tq.rows, .int .i64 tq.cols, .slice qa qn qk]) tq ∧ wx.cell? ⟨Bk, 0, none⟩ = some (.int .i64 tq.rows) ∧ wx.cell? ⟨Bk, 1, none⟩ = some (.int .i64 tq.cols) ∧ wx.cell? ⟨Bk, 2, none⟩ = some (.slice qa qn qk) ∧ Below w4.heap.size w4 wx)
                  case first =>
                    go_region_held3 (fun W' => W'.cell? ⟨bl, xi.toNat * 7, none⟩ = some (.int .i64 k) ∧ W'.cell? ⟨bl, xi.toNat * 7 + 1, none⟩ = some (.int .i64 a1) ∧ W'.cell? ⟨bl, xi.toNat * 7 + 2, none⟩ = some (.int .i64 a2) ∧ W'.cell? ⟨bl, xi.toNat * 7 + 3, none⟩ = some (.slice sa sn sk) ∧ W'.cell? ⟨bl, xi.toNat * 7 + 4, none⟩ = some (.int .i64 b1) ∧ W'.cell? ⟨bl, xi.toNat * 7 + 5, none⟩ = some (.int .i64 b2) ∧ W'.cell? ⟨bl, xi.toNat * 7 + 6, none⟩ = some (.slice ta tn tk) ∧ W'.cell? ⟨w.heap.size, 0, none⟩ = some (.int .i64 r) ∧ W'.cell? ⟨w.heap.size, 1, none⟩ = some (.int .i64 c) ∧ W'.cell? ⟨w.heap.size, 2, none⟩ = some (.slice xa xn xk) ∧ W'.cell? ⟨w.heap.size + 1, 0, none⟩ = some (.int .i64 r') ∧ W'.cell? ⟨w.heap.size + 1, 1, none⟩ = some (.int .i64 c') ∧ W'.cell? ⟨w.heap.size + 1, 2, none⟩ = some (.slice ha hn hk)) ((refine HSC.out _ ?_; repeat' (first | with_reducible exact Below.refl _ _ | with_reducible exact HB2.out | with_reducible refine bel_drew ?_ | with_reducible refine bel_alloc ?_ | with_reducible refine bel_set ?_ ?_ | exact Nat.le_refl _ | exact Nat.le_succ _ | exact HB2.out.size | exact Nat.le_succ_of_le HB2.out.size | (have hsz := HB2.out.size; simp only [World.size_alloc] at hsz ⊢; omega))))
                      (first
                        | (go_at_call 12; guard_target = Calls _ _ _ (World.drew (World.alloc (World.alloc w4 (Obj.cells #[_, _, _] _)) (Obj.cells #[_, _, _, _, _, _] _))) _; refine HT36.out.mono ?_; intro e w2 h; have hfr := h.fresh_any; obtain ⟨qa, qn, qk, ua, un, uk, va, vn, vk, rfl, hm, hs1, hs2, hb2⟩ := h.any; clear hs1 hs2; have hc2 := below_next (below_dr (Below.refl _ ((w4.alloc (.cells #[.int .i64 0, .int .i64 0, .slice none 0 0] 24)).alloc (.cells #[.int .i64 0, .int .i64 0, .slice none 0 0, .int .i64 0, .int .i64 0, .slice none 0 0] 38)))) hb2; have HB2 := hide (show Below w4.heap.size w4 w2 from (below_next (below_one w4 (.cells #[.int .i64 0, .int .i64 0, .slice none 0 0] 24)) (below_next (below_one (w4.alloc (.cells #[.int .i64 0, .int .i64 0, .slice none 0 0] 24)) (.cells #[.int .i64 0, .int .i64 0, .slice none 0 0, .int .i64 0, .int .i64 0, .slice none 0 0] 38)) hc2))); have ZB3 := hide ((Box.new w4 [.int .i64 0, .int .i64 0, .slice none 0 0] 24 (B := w4.heap.size) rfl).below (below_next (below_one (w4.alloc (.cells #[.int .i64 0, .int .i64 0, .slice none 0 0] 24)) (.cells #[.int .i64 0, .int .i64 0, .slice none 0 0, .int .i64 0, .int .i64 0, .slice none 0 0] 38)) hc2)); have ZB3l := hide (Box.new w4 [.int .i64 0, .int .i64 0, .slice none 0 0] 24 (B := w4.heap.size) rfl).lt; have ZF3 := hide ((Free.new w4 #[.int .i64 0, .int .i64 0, .slice none 0 0] 24 (B := w4.heap.size) rfl).below (below_next (below_one (w4.alloc (.cells #[.int .i64 0, .int .i64 0, .slice none 0 0] 24)) (.cells #[.int .i64 0, .int .i64 0, .slice none 0 0, .int .i64 0, .int .i64 0, .slice none 0 0] 38)) hc2) ZB3l.out); have z30 := ZB3.out 0 _ rfl; have f30 := ZF3.out 0; have z31 := ZB3.out 1 _ rfl; have f31 := ZF3.out 1; have z32 := ZB3.out 2 _ rfl; have f32 := ZF3.out 2; have lt3 := ZB3.out.lt; have ne3 : ¬ w4.heap.size = w2.heap.size := Nat.ne_of_lt lt3; have en3 : ¬ w2.heap.size = w4.heap.size := (Nat.ne_of_lt lt3).symm; have ZB6 := hide ((Box.new (w4.alloc (.cells #[.int .i64 0, .int .i64 0, .slice none 0 0] 24)) [.int .i64 0, .int .i64 0, .slice none 0 0, .int .i64 0, .int .i64 0, .slice none 0 0] 38 (B := w4.heap.size + 1) (World.size_alloc _ _)).below hc2); have ZB6l := hide (Box.new (w4.alloc (.cells #[.int .i64 0, .int .i64 0, .slice none 0 0] 24)) [.int .i64 0, .int .i64 0, .slice none 0 0, .int .i64 0, .int .i64 0, .slice none 0 0] 38 (B := w4.heap.size + 1) (World.size_alloc _ _)).lt; have ZF6 := hide ((Free.new (w4.alloc (.cells #[.int .i64 0, .int .i64 0, .slice none 0 0] 24)) #[.int .i64 0, .int .i64 0, .slice none 0 0, .int .i64 0, .int .i64 0, .slice none 0 0] 38 (B := w4.heap.size + 1) (World.size_alloc _ _)).below hc2 ZB6l.out); have z60 := ZB6.out 0 _ rfl; have f60 := ZF6.out 0; have z61 := ZB6.out 1 _ rfl; have f61 := ZF6.out 1; have z62 := ZB6.out 2 _ rfl; have f62 := ZF6.out 2; have z63 := ZB6.out 3 _ rfl; have f63 := ZF6.out 3; have z64 := ZB6.out 4 _ rfl; have f64 := ZF6.out 4; have z65 := ZB6.out 5 _ rfl; have f65 := ZF6.out 5; have lt6 := ZB6.out.lt; have ne6 : ¬ w4.heap.size + 1 = w2.heap.size := Nat.ne_of_lt lt6; have en6 : ¬ w2.heap.size = w4.heap.size + 1 := (Nat.ne_of_lt lt6).symm; have ne1 : ¬ w4.heap.size = w4.heap.size + 1 := (Nat.succ_ne_self _).symm; have ne2 : ¬ w4.heap.size + 1 = w4.heap.size := Nat.succ_ne_self _; have sz0 := cell_set3 z60 (B := w4.heap.size) ne2 (.int .i64 tq.rows) (.int .i64 tq.cols) (.slice qa qn qk); have sz1 := cell_set3 z61 (B := w4.heap.size) ne2 (.int .i64 tq.rows) (.int .i64 tq.cols) (.slice qa qn qk); have sz2 := cell_set3 z62 (B := w4.heap.size) ne2 (.int .i64 tq.rows) (.int .i64 tq.cols) (.slice qa qn qk); have sz3 := cell_set3 z63 (B := w4.heap.size) ne2 (.int .i64 tq.rows) (.int .i64 tq.cols) (.slice qa qn qk); have sz4 := cell_set3 z64 (B := w4.heap.size) ne2 (.int .i64 tq.rows) (.int .i64 tq.cols) (.slice qa qn qk); have sz5 := cell_set3 z65 (B := w4.heap.size) ne2 (.int .i64 tq.rows) (.int .i64 tq.cols) (.slice qa qn qk); have HEa : Hid (Cells3 (((((((((w2.setCell ⟨w4.heap.size, 0, none⟩ (.int .i64 tq.rows)).setCell ⟨w4.heap.size, 1, none⟩ (.int .i64 tq.cols)).setCell ⟨w4.heap.size, 2, none⟩ (.slice qa qn qk)).setCell ⟨w4.heap.size + 1, 0, none⟩ (.int .i64 da.rows)).setCell ⟨w4.heap.size + 1, 1, none⟩ (.int .i64 da.cols)).setCell ⟨w4.heap.size + 1, 2, none⟩ (.slice ua un uk)).setCell ⟨w4.heap.size + 1, 3, none⟩ (.int .i64 db.rows)).setCell ⟨w4.heap.size + 1, 4, none⟩ (.int .i64 db.cols)).setCell ⟨w4.heap.size + 1, 5, none⟩ (.slice va vn vk)) (w4.heap.size) (.int .i64 tq.rows) (.int .i64 tq.cols) (.slice qa qn qk)) := hide (cells3_of (box_set6 (set_three ZB3.out _ _ _) ne1 _ _ _ _ _ _)); have HEb := HEa; have HN := hide hm; have HF := hide (show Fresh (w4.heap.size + 2) (.agg #[.int .i64 tq.rows, .int .i64 tq.cols, .slice qa qn qk]) from fresh_mono (hfr _ _ _ rfl) (szd2 _ _ _)); clear h hfr hb2 hc2 hm)
                        | (go_at_call 12; guard_target = Calls _ _ _ (World.drew (World.alloc (World.alloc w4 (Obj.cells #[_, _, _, _, _, _] _)) (Obj.cells #[_, _, _] _))) _; refine HT63.out.mono ?_; intro e w2 h; have hfr := h.fresh_any; obtain ⟨qa, qn, qk, ua, un, uk, va, vn, vk, rfl, hm, hs1, hs2, hb2⟩ := h.any; clear hs1 hs2; have hc2 := below_next (below_dr (Below.refl _ ((w4.alloc (.cells #[.int .i64 0, .int .i64 0, .slice none 0 0, .int .i64 0, .int .i64 0, .slice none 0 0] 38)).alloc (.cells #[.int .i64 0, .int .i64 0, .slice none 0 0] 24)))) hb2; have HB2 := hide (show Below w4.heap.size w4 w2 from (below_next (below_one w4 (.cells #[.int .i64 0, .int .i64 0, .slice none 0 0, .int .i64 0, .int .i64 0, .slice none 0 0] 38)) (below_next (below_one (w4.alloc (.cells #[.int .i64 0, .int .i64 0, .slice none 0 0, .int .i64 0, .int .i64 0, .slice none 0 0] 38)) (.cells #[.int .i64 0, .int .i64 0, .slice none 0 0] 24)) hc2))); have ZB6 := hide ((Box.new w4 [.int .i64 0, .int .i64 0, .slice none 0 0, .int .i64 0, .int .i64 0, .slice none 0 0] 38 (B := w4.heap.size) rfl).below (below_next (below_one (w4.alloc (.cells #[.int .i64 0, .int .i64 0, .slice none 0 0, .int .i64 0, .int .i64 0, .slice none 0 0] 38)) (.cells #[.int .i64 0, .int .i64 0, .slice none 0 0] 24)) hc2)); have ZB6l := hide (Box.new w4 [.int .i64 0, .int .i64 0, .slice none 0 0, .int .i64 0, .int .i64 0, .slice none 0 0] 38 (B := w4.heap.size) rfl).lt; have ZF6 := hide ((Free.new w4 #[.int .i64 0, .int .i64 0, .slice none 0 0, .int .i64 0, .int .i64 0, .slice none 0 0] 38 (B := w4.heap.size) rfl).below (below_next (below_one (w4.alloc (.cells #[.int .i64 0, .int .i64 0, .slice none 0 0, .int .i64 0, .int .i64 0, .slice none 0 0] 38)) (.cells #[.int .i64 0, .int .i64 0, .slice none 0 0] 24)) hc2) ZB6l.out); have z60 := ZB6.out 0 _ rfl; have f60 := ZF6.out 0; have z61 := ZB6.out 1 _ rfl; have f61 := ZF6.out 1; have z62 := ZB6.out 2 _ rfl; have f62 := ZF6.out 2; have z63 := ZB6.out 3 _ rfl; have f63 := ZF6.out 3; have z64 := ZB6.out 4 _ rfl; have f64 := ZF6.out 4; have z65 := ZB6.out 5 _ rfl; have f65 := ZF6.out 5; have lt6 := ZB6.out.lt; have ne6 : ¬ w4.heap.size = w2.heap.size := Nat.ne_of_lt lt6; have en6 : ¬ w2.heap.size = w4.heap.size := (Nat.ne_of_lt lt6).symm; have ZB3 := hide ((Box.new (w4.alloc (.cells #[.int .i64 0, .int .i64 0, .slice none 0 0, .int .i64 0, .int .i64 0, .slice none 0 0] 38)) [.int .i64 0, .int .i64 0, .slice none 0 0] 24 (B := w4.heap.size + 1) (World.size_alloc _ _)).below hc2); have ZB3l := hide (Box.new (w4.alloc (.cells #[.int .i64 0, .int .i64 0, .slice none 0 0, .int .i64 0, .int .i64 0, .slice none 0 0] 38)) [.int .i64 0, .int .i64 0, .slice none 0 0] 24 (B := w4.heap.size + 1) (World.size_alloc _ _)).lt; have ZF3 := hide ((Free.new (w4.alloc (.cells #[.int .i64 0, .int .i64 0, .slice none 0 0, .int .i64 0, .int .i64 0, .slice none 0 0] 38)) #[.int .i64 0, .int .i64 0, .slice none 0 0] 24 (B := w4.heap.size + 1) (World.size_alloc _ _)).below hc2 ZB3l.out); have z30 := ZB3.out 0 _ rfl; have f30 := ZF3.out 0; have z31 := ZB3.out 1 _ rfl; have f31 := ZF3.out 1; have z32 := ZB3.out 2 _ rfl; have f32 := ZF3.out 2; have lt3 := ZB3.out.lt; have ne3 : ¬ w4.heap.size + 1 = w2.heap.size := Nat.ne_of_lt lt3; have en3 : ¬ w2.heap.size = w4.heap.size + 1 := (Nat.ne_of_lt lt3).symm; have ne1 : ¬ w4.heap.size + 1 = w4.heap.size := Nat.succ_ne_self _; have ne2 : ¬ w4.heap.size = w4.heap.size + 1 := (Nat.succ_ne_self _).symm; have sz0 := cell_set3 z60 (B := w4.heap.size + 1) ne2 (.int .i64 tq.rows) (.int .i64 tq.cols) (.slice qa qn qk); have sz1 := cell_set3 z61 (B := w4.heap.size + 1) ne2 (.int .i64 tq.rows) (.int .i64 tq.cols) (.slice qa qn qk); have sz2 := cell_set3 z62 (B := w4.heap.size + 1) ne2 (.int .i64 tq.rows) (.int .i64 tq.cols) (.slice qa qn qk); have sz3 := cell_set3 z63 (B := w4.heap.size + 1) ne2 (.int .i64 tq.rows) (.int .i64 tq.cols) (.slice qa qn qk); have sz4 := cell_set3 z64 (B := w4.heap.size + 1) ne2 (.int .i64 tq.rows) (.int .i64 tq.cols) (.slice qa qn qk); have sz5 := cell_set3 z65 (B := w4.heap.size + 1) ne2 (.int .i64 tq.rows) (.int .i64 tq.cols) (.slice qa qn qk); have HEa : Hid (Cells3 (((((((((w2.setCell ⟨w4.heap.size + 1, 0, none⟩ (.int .i64 tq.rows)).setCell ⟨w4.heap.size + 1, 1, none⟩ (.int .i64 tq.cols)).setCell ⟨w4.heap.size + 1, 2, none⟩ (.slice qa qn qk)).setCell ⟨w4.heap.size, 0, none⟩ (.int .i64 da.rows)).setCell ⟨w4.heap.size, 1, none⟩ (.int .i64 da.cols)).setCell ⟨w4.heap.size, 2, none⟩ (.slice ua un uk)).setCell ⟨w4.heap.size, 3, none⟩ (.int .i64 db.rows)).setCell ⟨w4.heap.size, 4, none⟩ (.int .i64 db.cols)).setCell ⟨w4.heap.size, 5, none⟩ (.slice va vn vk)) (w4.heap.size + 1) (.int .i64 tq.rows) (.int .i64 tq.cols) (.slice qa qn qk)) := hide (cells3_of (box_set6 (set_three ZB3.out _ _ _) ne1 _ _ _ _ _ _)); have HEb := HEa; have HN := hide hm; have HF := hide (show Fresh (w4.heap.size + 2) (.agg #[.int .i64 tq.rows, .int .i64 tq.cols, .slice qa qn qk]) from fresh_mono (hfr _ _ _ rfl) (szd2 _ _ _)); clear h hfr hb2 hc2 hm)
                        | (go_at_call 12; guard_target = Calls _ _ _ (World.drew (World.alloc w4 (Obj.cells #[_, _, _] _))) _; refine HT3.out.mono ?_; intro e w2 h; have hfr := h.fresh_any; obtain ⟨qa, qn, qk, ua, un, uk, va, vn, vk, rfl, hm, hs1, hs2, hb2⟩ := h.any; clear hs1 hs2; have hc2 := below_next (below_dr (Below.refl _ (w4.alloc (.cells #[.int .i64 0, .int .i64 0, .slice none 0 0] 24)))) hb2; have HB2 := hide (show Below w4.heap.size w4 w2 from (below_next (below_one w4 (.cells #[.int .i64 0, .int .i64 0, .slice none 0 0] 24)) hc2)); have ZB3 := hide ((Box.new w4 [.int .i64 0, .int .i64 0, .slice none 0 0] 24 (B := w4.heap.size) rfl).below hc2); have ZB3l := hide (Box.new w4 [.int .i64 0, .int .i64 0, .slice none 0 0] 24 (B := w4.heap.size) rfl).lt; have ZF3 := hide ((Free.new w4 #[.int .i64 0, .int .i64 0, .slice none 0 0] 24 (B := w4.heap.size) rfl).below hc2 ZB3l.out); have z30 := ZB3.out 0 _ rfl; have f30 := ZF3.out 0; have z31 := ZB3.out 1 _ rfl; have f31 := ZF3.out 1; have z32 := ZB3.out 2 _ rfl; have f32 := ZF3.out 2; have lt3 := ZB3.out.lt; have ne3 : ¬ w4.heap.size = w2.heap.size := Nat.ne_of_lt lt3; have en3 : ¬ w2.heap.size = w4.heap.size := (Nat.ne_of_lt lt3).symm; have yz30 := fun o => cell_past z30 o; have yf30 := fun o => (World.frozen?_alloc_old w2 o ⟨w4.heap.size, 0, none⟩ ne3).trans f30; have yz31 := fun o => cell_past z31 o; have yf31 := fun o => (World.frozen?_alloc_old w2 o ⟨w4.heap.size, 1, none⟩ ne3).trans f31; have yz32 := fun o => cell_past z32 o; have yf32 := fun o => (World.frozen?_alloc_old w2 o ⟨w4.heap.size, 2, none⟩ ne3).trans f32; have HEa : Hid (Cells3 ((((w2.setCell ⟨w4.heap.size, 0, none⟩ (.int .i64 tq.rows)).setCell ⟨w4.heap.size, 1, none⟩ (.int .i64 tq.cols)).setCell ⟨w4.heap.size, 2, none⟩ (.slice qa qn qk)).alloc (.cells #[.int .i64 da.rows, .int .i64 da.cols, .slice ua un uk, .int .i64 db.rows, .int .i64 db.cols, .slice va vn vk] 38)) (w4.heap.size) (.int .i64 tq.rows) (.int .i64 tq.cols) (.slice qa qn qk)) := hide (cells3_of ((set_three ZB3.out _ _ _).below (below_one _ _))); have HEb := HEa; have HN := hide hm; have HF := hide (show Fresh (w4.heap.size + 1) (.agg #[.int .i64 tq.rows, .int .i64 tq.cols, .slice qa qn qk]) from fresh_mono (hfr _ _ _ rfl) (szd1 _ _)); clear h hfr hb2 hc2 hm)
                        | (go_at_call 12; guard_target = Calls _ _ _ (World.drew (World.alloc w4 (Obj.cells #[_, _, _, _, _, _] _))) _; refine HT6.out.mono ?_; intro e w2 h; have hfr := h.fresh_any; obtain ⟨qa, qn, qk, ua, un, uk, va, vn, vk, rfl, hm, hs1, hs2, hb2⟩ := h.any; clear hs1 hs2; have hc2 := below_next (below_dr (Below.refl _ (w4.alloc (.cells #[.int .i64 0, .int .i64 0, .slice none 0 0, .int .i64 0, .int .i64 0, .slice none 0 0] 38)))) hb2; have HB2 := hide (show Below w4.heap.size w4 w2 from (below_next (below_one w4 (.cells #[.int .i64 0, .int .i64 0, .slice none 0 0, .int .i64 0, .int .i64 0, .slice none 0 0] 38)) hc2)); have ZB6 := hide ((Box.new w4 [.int .i64 0, .int .i64 0, .slice none 0 0, .int .i64 0, .int .i64 0, .slice none 0 0] 38 (B := w4.heap.size) rfl).below hc2); have ZB6l := hide (Box.new w4 [.int .i64 0, .int .i64 0, .slice none 0 0, .int .i64 0, .int .i64 0, .slice none 0 0] 38 (B := w4.heap.size) rfl).lt; have ZF6 := hide ((Free.new w4 #[.int .i64 0, .int .i64 0, .slice none 0 0, .int .i64 0, .int .i64 0, .slice none 0 0] 38 (B := w4.heap.size) rfl).below hc2 ZB6l.out); have z60 := ZB6.out 0 _ rfl; have f60 := ZF6.out 0; have z61 := ZB6.out 1 _ rfl; have f61 := ZF6.out 1; have z62 := ZB6.out 2 _ rfl; have f62 := ZF6.out 2; have z63 := ZB6.out 3 _ rfl; have f63 := ZF6.out 3; have z64 := ZB6.out 4 _ rfl; have f64 := ZF6.out 4; have z65 := ZB6.out 5 _ rfl; have f65 := ZF6.out 5; have lt6 := ZB6.out.lt; have ne6 : ¬ w4.heap.size = w2.heap.size := Nat.ne_of_lt lt6; have en6 : ¬ w2.heap.size = w4.heap.size := (Nat.ne_of_lt lt6).symm; have yz60 := fun o => cell_past z60 o; have yf60 := fun o => (World.frozen?_alloc_old w2 o ⟨w4.heap.size, 0, none⟩ ne6).trans f60; have yz61 := fun o => cell_past z61 o; have yf61 := fun o => (World.frozen?_alloc_old w2 o ⟨w4.heap.size, 1, none⟩ ne6).trans f61; have yz62 := fun o => cell_past z62 o; have yf62 := fun o => (World.frozen?_alloc_old w2 o ⟨w4.heap.size, 2, none⟩ ne6).trans f62; have yz63 := fun o => cell_past z63 o; have yf63 := fun o => (World.frozen?_alloc_old w2 o ⟨w4.heap.size, 3, none⟩ ne6).trans f63; have yz64 := fun o => cell_past z64 o; have yf64 := fun o => (World.frozen?_alloc_old w2 o ⟨w4.heap.size, 4, none⟩ ne6).trans f64; have yz65 := fun o => cell_past z65 o; have yf65 := fun o => (World.frozen?_alloc_old w2 o ⟨w4.heap.size, 5, none⟩ ne6).trans f65; have HEa : Hid (Cells3 (((((((w2.setCell ⟨w4.heap.size, 0, none⟩ (.int .i64 da.rows)).setCell ⟨w4.heap.size, 1, none⟩ (.int .i64 da.cols)).setCell ⟨w4.heap.size, 2, none⟩ (.slice ua un uk)).setCell ⟨w4.heap.size, 3, none⟩ (.int .i64 db.rows)).setCell ⟨w4.heap.size, 4, none⟩ (.int .i64 db.cols)).setCell ⟨w4.heap.size, 5, none⟩ (.slice va vn vk)).alloc (.cells #[.int .i64 tq.rows, .int .i64 tq.cols, .slice qa qn qk] 24)) w2.heap.size (.int .i64 tq.rows) (.int .i64 tq.cols) (.slice qa qn qk)) := hide (cells3_of (Box.new ((((((w2.setCell ⟨w4.heap.size, 0, none⟩ (.int .i64 da.rows)).setCell ⟨w4.heap.size, 1, none⟩ (.int .i64 da.cols)).setCell ⟨w4.heap.size, 2, none⟩ (.slice ua un uk)).setCell ⟨w4.heap.size, 3, none⟩ (.int .i64 db.rows)).setCell ⟨w4.heap.size, 4, none⟩ (.int .i64 db.cols)).setCell ⟨w4.heap.size, 5, none⟩ (.slice va vn vk)) [.int .i64 tq.rows, .int .i64 tq.cols, .slice qa qn qk] 24 (size_set6 _ _ _ _ _ _ _ _))); have HEb := HEa; have HN := hide hm; have HF := hide (show Fresh (w4.heap.size + 1) (.agg #[.int .i64 tq.rows, .int .i64 tq.cols, .slice qa qn qk]) from fresh_mono (hfr _ _ _ rfl) (szd1 _ _)); clear h hfr hb2 hc2 hm)
                        | (go_at_call 12; guard_target = Calls _ _ _ (World.drew w4) _; refine HT0.out.mono ?_; intro e w2 h; have hfr := h.fresh_any; obtain ⟨qa, qn, qk, ua, un, uk, va, vn, vk, rfl, hm, hs1, hs2, hb2⟩ := h.any; clear hs1 hs2; have hc2 := below_next (below_dr (Below.refl _ w4)) hb2; have HB2 := hide (show Below w4.heap.size w4 w2 from hc2); have HEa : Hid (Cells3 ((w2.alloc (.cells #[.int .i64 tq.rows, .int .i64 tq.cols, .slice qa qn qk] 24)).alloc (.cells #[.int .i64 da.rows, .int .i64 da.cols, .slice ua un uk, .int .i64 db.rows, .int .i64 db.cols, .slice va vn vk] 38)) w2.heap.size (.int .i64 tq.rows) (.int .i64 tq.cols) (.slice qa qn qk)) := hide (cells3_of ((Box.new w2 [.int .i64 tq.rows, .int .i64 tq.cols, .slice qa qn qk] 24 rfl).below (below_one _ _))); have HEb : Hid (Cells3 ((w2.alloc (.cells #[.int .i64 da.rows, .int .i64 da.cols, .slice ua un uk, .int .i64 db.rows, .int .i64 db.cols, .slice va vn vk] 38)).alloc (.cells #[.int .i64 tq.rows, .int .i64 tq.cols, .slice qa qn qk] 24)) (w2.heap.size + 1) (.int .i64 tq.rows) (.int .i64 tq.cols) (.slice qa qn qk)) := hide (cells3_of (Box.new (w2.alloc (.cells #[.int .i64 da.rows, .int .i64 da.cols, .slice ua un uk, .int .i64 db.rows, .int .i64 db.cols, .slice va vn vk] 38)) [.int .i64 tq.rows, .int .i64 tq.cols, .slice qa qn qk] 24 (World.size_alloc _ _))); have HN := hide hm; have HF := hide (show Fresh (w4.heap.size) (.agg #[.int .i64 tq.rows, .int .i64 tq.cols, .slice qa qn qk]) from fresh_mono (hfr _ _ _ rfl) (Nat.le_refl _)); clear h hfr hb2 hc2 hm))
                    all_goals go_wp2
                    all_goals go_meet
                    all_goals
                      obtain ⟨a0, a1, a2⟩ := HEa.out
                      obtain ⟨b0, b1, b2⟩ := HEb.out
                      refine ⟨_, qa, qn, qk, rfl, rfl, ?_, ?_, ?_, ?_, ?_⟩
                      · (refine HN.out.above HF.out ?_; repeat' (first | with_reducible exact Above.refl _ _ | with_reducible refine abv_drew ?_ | with_reducible refine abv_alloc ?_ | with_reducible refine abv_low ?_ (by omega) | with_reducible refine abv_high ?_ (by first | exact Nat.le_refl _ | exact Nat.le_succ _ | omega)))
                      · first | with_reducible exact a0 | with_reducible exact b0
                      · first | with_reducible exact a1 | with_reducible exact b1
                      · first | with_reducible exact a2 | with_reducible exact b2
                      · repeat' (first | with_reducible exact Below.refl _ _ | with_reducible exact HB2.out | with_reducible refine bel_drew ?_ | with_reducible refine bel_alloc ?_ | with_reducible refine bel_set ?_ ?_ | exact Nat.le_refl _ | exact Nat.le_succ _ | exact HB2.out.size | exact Nat.le_succ_of_le HB2.out.size | (have hsz := HB2.out.size; simp only [World.size_alloc] at hsz ⊢; omega))
                  case rest =>
                    obtain ⟨Bk, qa, qn, qk, rfl, rfl, hmx, c0, c1, c2, hbc⟩ := hcut
                    have HBC := hide (below_next HB4.out hbc)
                    have HMX := hide hmx
                    obtain ⟨_, _, _, _, _, _, _, _, _, _, g0, g1, g2⟩ := HSC.out wc hbc
                    by_cases hj : j = 0
                    · rw [err_eq hj]
                      obtain rfl : tq = m1 := by rw [← HTO.out.1]; exact HBK.out (by rw [HTO.out.2]; exact hj)
                      have HX := hide (matrices_any _ _ tq tq wc hmx (Mm1.out.below (below_next HBW.out HBC.out)))
                      clear hbc hmx hj HT
                      go_wp2_with fail
                      refine HX.out.mono ?_
                      rintro e w6 ⟨rfl, hb6⟩
                      rw [sameM_refl]
                      have HB6 := hide (below_next (below_next HBW.out HBC.out) hb6)
                      clear HX hb6 c0 c1 c2 g0 g1 g2
                      go_wp2
                      go_roundw
                      case rel => exact ⟨i + 1, _, by omega, by have := HXI.out; omega, rfl, HB6.out⟩
                      case measure => have := HXI.out; simp [intOf]; omega
                    · rw [err_ne hj]
                      clear hbc hmx hj HT
                      go_wp2
                      go_roundw
                      case rel => exact ⟨i + 1, _, by omega, by have := HXI.out; omega, rfl, below_next HBW.out HBC.out⟩
                      case measure => have := HXI.out; simp [intOf]; omega
              · go_wp2
                go_ret
                exact ⟨rfl, below_next WW.out HBW.out⟩
      · rw [err_ne hE]
        clear hE
        go_wp2
        go_ret
        exact ⟨rfl, below_next WW.out C.out⟩
end Go.Proofs.Ytkncgelkbpeagac
