/- What both of package step comes to: a matrix in new memory of what a function value gives of two matrices, cell by cell; and what its two closures give. Condition: the second has as many cells as the first, not more than 576. -/
import Derived.Test.YtjmmplpecmnlnadDoorLBox
import Derived.Test.YtjmmplpecmnlnadDoorStep
import Derived.Test.YtjmmplpecmnlnadDoorReg
namespace Go.Proofs.YtjmmplpecmnlnadDoor
open Go.RowKit
/-- What is asked of the function value: number K, captured cap. -/
def GivesB (K : Nat) (cap : Array Value) (f : Int → Int → Int) (w : World) : Prop :=
  ∀ (W : World) (x y : Int), Below w.heap.size w W → Calls Tryd.prog K (#[.int .i64 x, .int .i64 y] ++ cap) W fun e w' => e = .returned (.int .i64 (f x y)) ∧ Below W.heap.size W w'
theorem GivesB.below {K : Nat} {cap : Array Value} {f : Int → Int → Int} {w w' : World} (h : GivesB K cap f w) (hb : Below w.heap.size w w') : GivesB K cap f w' := fun W x y h' => h W x y (below_next hb h')
set_option maxHeartbeats 1600000 in
set_option maxRecDepth 100000 in
theorem stpboth_any (K : Nat) (cap : Array Value) (eg : ∀ args w, (callFunc K args).run Tryd.prog w = .ok (.enter K args) w) (m d : Mx) (sa : Option Addr) (sn sk : Nat) (ta : Option Addr) (tn tk : Nat) (f : Int → Int → Int) (w : World) (hs : IsInts w (.slice sa sn sk) m.cells) (ht : IsInts w (.slice ta tn tk) d.cells) (hl : d.cells.length = m.cells.length) (hn : m.cells.length ≤ 576) (hG : GivesB K cap f w) :
    Calls Tryd.prog 71 #[.agg #[.int .i64 m.rows, .int .i64 m.cols, .slice sa sn sk], .agg #[.int .i64 d.rows, .int .i64 d.cols, .slice ta tn tk], .func (.func K) #[] cap] w fun e w' =>
      ∃ a n k, e = .returned (.agg #[.int .i64 m.rows, .int .i64 m.cols, .slice a n k]) ∧ NewInts w.heap.size w' (.slice a n k) (tab m.cells.length (fun q => f (cellAt m q) (cellAt d q))) ∧ Below w.heap.size w w' := by
  obtain ⟨r, er⟩ : ∃ r, m.rows = r := ⟨_, rfl⟩
  obtain ⟨c, ec⟩ : ∃ c, m.cols = c := ⟨_, rfl⟩
  obtain ⟨N, eN⟩ : ∃ N, m.cells.length = N := ⟨_, rfl⟩
  obtain ⟨g, eg'⟩ : ∃ g : Nat → Int, (fun q => f (cellAt m q) (cellAt d q)) = g := ⟨_, rfl⟩
  rw [er, ec, eN, eg']
  rw [eN] at hn hl
  have HGQ := hide (fun q => (congrFun eg' q : f (cellAt m q) (cellAt d q) = g q))
  have HG := hide hG
  have HN := hide eN
  have HL := hide hl
  obtain ⟨_, _, e1, h2, h3, h4⟩ := hs
  injection e1 with e11 e12 e13
  rw [eN] at e12 h2
  replace e12 := e12.symm
  subst e11 e12 e13
  have H4 := hide h4
  obtain ⟨_, _, e2, h2', h3', h4'⟩ := ht
  injection e2 with e21 e22 e23
  rw [hl] at e22
  replace e22 := e22.symm
  subst e21 e22 e23
  have H4' := hide h4'
  have hmk := run_mk0 (N : Int) N rfl (by omega)
  obtain ⟨W1, hW1⟩ : ∃ W1, W1 = ((w.alloc (.cells #[.int .i64 r, .int .i64 c, .slice sa N sk] 25)).alloc (.cells #[.int .i64 d.rows, .int .i64 d.cols, .slice ta N tk] 25)).alloc (.cells #[.int .i64 0, .int .i64 0, .slice none 0 0] 25) := ⟨_, rfl⟩
  have HW1 := hide hW1
  have hW1s : W1.heap.size = w.heap.size + 3 := by rw [hW1]; simp
  have hW1b : Below w.heap.size w W1 := by rw [hW1]; exact below_next (below_next (below_one _ _) (below_one _ _)) (below_one _ _)
  have hown0 : Own (W1.alloc (.cells (zeros N) 3)) (w.heap.size + 3) (.slice (some ⟨W1.heap.size, 0, none⟩) 0 N) 0 g := World.ownsRow_made _ _ _ (by omega) (by unfold maxLen; omega) (zeros_size N)
  have HXA : Hid (Box W1 w.heap.size [.int .i64 r, .int .i64 c, .slice sa N sk]) := by rw [hW1]; exact hide (((Box.new w [.int .i64 r, .int .i64 c, .slice sa N sk] 25 rfl).below (below_one _ _)).below (below_one _ _))
  have HXB : Hid (Box W1 (w.heap.size + 1) [.int .i64 d.rows, .int .i64 d.cols, .slice ta N tk]) := by rw [hW1]; exact hide ((Box.new _ [.int .i64 d.rows, .int .i64 d.cols, .slice ta N tk] 25 (by simp)).below (below_one _ _))
  have HXZ : Hid (Box W1 (w.heap.size + 1 + 1) [.int .i64 0, .int .i64 0, .slice none 0 0]) := by rw [hW1]; exact hide (Box.new _ [.int .i64 0, .int .i64 0, .slice none 0 0] 25 (by simp))
  have HXF : Hid (Free W1 (w.heap.size + 1 + 1)) := by rw [hW1]; exact hide (Free.new _ _ _ (by simp))
  have HO := hide hown0
  have HB := hide hW1b
  have HS := hide hW1s
  have a2 := HXA.out 2 _ rfl
  have p2 := cell_past a2 (.cells (zeros N) 3)
  clear hW1 hown0 hW1b hG er ec eN eg' hl h2 h3 h4 h2' h3' h4'
  go_enter Tryd.func71, Tryd.ntmps71
  go_wp2_with fail
  rw [← HW1.out]
  clear HW1
  go_wp2
  have hgoal := HO.out
  rw [hW1s] at hgoal
  have HO1 := hide hgoal
  clear hgoal hW1s hmk p2 a2
  go_loopw [7, 17] (fun v a wr => ∃ (i : Nat) (xi : Int), i ≤ N ∧ xi = (i : Int) ∧ a = .int .i64 xi ∧ Own wr (w.heap.size + 3) v i g ∧ Below (w.heap.size + 3) W1 wr) (fun _ a _ => N - (intOf a).toNat)
  case atStart => exact ⟨0, 0, Nat.zero_le _, rfl, rfl, HO1.out, (Below.refl _ _).alloc (by have := HS.out; omega) _⟩
  case round =>
    obtain ⟨i, xi, hi, hxi, rfl, hro, hbw⟩ := hrel
    have HRO := hide hro
    have HBW := hide hbw
    have HXI := hide hxi
    have hxi0 : 0 ≤ xi := by omega
    have hxi1 : xi ≤ 576 := by omega
    clear hro hbw hxi
    have HWR := hide (show Below W1.heap.size W1 wr by rw [HS.out]; exact HBW.out)
    by_cases hlt : xi < (N : Int)
    · have hin : i < N := by have := HXI.out; omega
      obtain ⟨x, hx⟩ : ∃ x, m.cells[i]? = some x := ⟨m.cells[i]'(by have := HN.out; omega), List.getElem?_eq_getElem _⟩
      obtain ⟨y, hy⟩ : ∃ y, d.cells[i]? = some y := ⟨d.cells[i]'(by have := HL.out; omega), List.getElem?_eq_getElem _⟩
      obtain ⟨b, off, rfl, hcl⟩ := H4.out.resolve_left (fun e => by rw [e] at hx; simp at hx)
      obtain ⟨b', off', rfl, hcl'⟩ := H4'.out.resolve_left (fun e => by rw [e] at hy; simp at hy)
      have cx : wr.cell? ⟨b, off + xi.toNat, none⟩ = some (.int .i64 x) := by
        rw [show xi.toNat = i by have := HXI.out; omega]
        exact cell_below (below_next HB.out HWR.out) (hcl i x hx)
      have cy : wr.cell? ⟨b', off' + xi.toNat, none⟩ = some (.int .i64 y) := by
        rw [show xi.toNat = i by have := HXI.out; omega]
        exact cell_below (below_next HB.out HWR.out) (hcl' i y hy)
      have q2 := (HXB.out.below HWR.out) 2 _ rfl
      have hcall := HG.out wr x y (below_next HB.out HWR.out)
      have hgi : f x y = g i := by rw [← HGQ.out i, cellAt_some hx, cellAt_some hy]
      rw [hgi] at hcall
      obtain ⟨e0, ei, hz0, hz1, hz2⟩ := info_parts infoInt
      have HE := hide (And.intro ei (And.intro hz0 (And.intro hz1 hz2)))
      clear ei hz0 hz1 hz2 hcl hx hcl' hy hgi
      go_wp2_with (first
        | (at_builtin; refine wpList_append_own _ rfl _ _ 23 rfl (w.heap.size + 3) 3 e0 (.int .i64 0) 1 8 Tryd.underlying23 HE.out.1 HE.out.2.1 HE.out.2.2.1 HE.out.2.2.2 rfl (by decide) _ _ _ rfl ((HRO.out.below hb1).alloc _) ⟨w1.heap.size, 0, none⟩ 1 1 [.int .i64 (g i)] rfl rfl ?c1 ?c2 ?c3 ?c4 ?c5 ?_)
        | (go_at_fn K; refine hcall.mono ?_; rintro e w1 ⟨rfl, hb1⟩))
      case c1 =>
        intro k u hk
        match k, hk with
        | 0, hk => simp at hk; subst hk; simp [Addr.add]
      case c2 => intro u hu; simp at hu; subst hu; rfl
      case c3 => unfold maxLen; omega
      case c4 => omega
      case c5 => have := HBW.out.size; have := hb1.size; have := HS.out; simp; omega
      intro v' w' hown' hgrow _
      have hown2 : Own w' (w.heap.size + 3) v' (i + 1) g := by
        show w'.ownsRow _ _ _ _ _ _
        rw [tab_succ, List.map_append]
        exact hown'
      have hbel2 : Below (w.heap.size + 3) W1 w' := by
        have s1 := HBW.out.size
        have s2 := HS.out
        have s3 := hb1.size
        exact ((HBW.out.trans (hb1.mono (by omega))).alloc (by omega) _).grown hgrow (by simp; omega) (fun k hk => (World.ownsRow.lt HRO.out k hk).1)
      have HO2 := hide hown2
      have HB2 := hide hbel2
      clear hown' hgrow hown2 hbel2 hcall
      go_wp2
      go_roundw
      case rel => exact ⟨i + 1, _, by omega, by have := HXI.out; omega, rfl, HO2.out, HB2.out⟩
      case measure => have := HXI.out; simp [intOf]; omega
    · have hiN : i = N := by have := HXI.out; omega
      have a0 := (HXA.out.below HWR.out) 0 _ rfl
      have a1 := (HXA.out.below HWR.out) 1 _ rfl
      have p0 := (HXZ.out.below HWR.out) 0 _ rfl
      have p1 := (HXZ.out.below HWR.out) 1 _ rfl
      have p2 := (HXZ.out.below HWR.out) 2 _ rfl
      have z0 := (HXF.out.below HWR.out HXZ.out.lt) 0
      have z1 := (HXF.out.below HWR.out HXZ.out.lt) 1
      have z2 := (HXF.out.below HWR.out HXZ.out.lt) 2
      have hI := HRO.out.isInts (by rw [hiN]; unfold maxLen; omega)
      obtain ⟨ra, rn, rc, rfl⟩ := hI.shape
      have HIR := hide hiN
      clear hI hiN
      go_wp2
      refine bodyPost_ret (v := .agg #[.int .i64 r, .int .i64 c, .slice ra rn rc]) (by simp [results, Tryd.results71, go_sem, p0, p1, p2]) rfl ⟨ra, rn, rc, rfl, ?_, ?_⟩
      · have h := World.ownsRow.kept (row := some (w.heap.size + 1 + 1)) HRO.out (grown_set (grown_set (grown_set (World.grownBy.refl wr (some (w.heap.size + 1 + 1))) 0 (.int .i64 r)) 1 (.int .i64 c)) 2 (.slice ra rn rc)) (by
          cases e : (Value.slice ra rn rc).ownBlock with
          | none => exact .inl rfl
          | some k => exact .inr (fun e' => by have := (World.ownsRow.lt HRO.out k e).1; have := Option.some.inj e'; omega))
        have h' := Own.newInts (f := g) h (by rw [HIR.out]; unfold maxLen; omega)
        rw [HIR.out] at h'
        obtain ⟨a, cap, h1, h2, h3, h4⟩ := h'
        exact ⟨a, cap, h1, h2, h3, h4.imp id (fun ⟨b, off, e, hb, hc⟩ => ⟨b, off, e, by omega, hc⟩)⟩
      · exact below_sets (below_sets (below_sets (below_next HB.out HWR.out) (by omega) _ _) (by omega) _ _) (by omega) _ _
/-- What the closures give. -/
theorem stpup_gives (B : Nat) (ke : Int) (w : World) (hB : w.cell? ⟨B, 0, none⟩ = some (.int .i64 ke)) : GivesB 68 #[.pointer (some ⟨B, 0, none⟩)] (fun v d => ad (ml v ke) d) w := by
  intro W x y hb
  have k0 := cell_below hb hB
  clear hb hB
  go_enter Tryd.func68, Tryd.ntmps68
  go_wp2_with (first | (go_at_call 70; refine (mul_any _ _ _).mono ?_; rintro e w1 ⟨rfl, rfl⟩) | (go_at_call 69; refine (add_any _ _ _).mono ?_; rintro e w1 ⟨rfl, rfl⟩))
  go_ret
  exact ⟨rfl, Below.refl _ _⟩
theorem stpturn_gives (B : Nat) (le : Int) (w : World) (hB : w.cell? ⟨B, 0, none⟩ = some (.int .i64 le)) : GivesB 72 #[.pointer (some ⟨B, 0, none⟩)] (fun x v => sb x (ml v le)) w := by
  intro W x y hb
  have k0 := cell_below hb hB
  clear hb hB
  go_enter Tryd.func72, Tryd.ntmps72
  go_wp2_with (first | (go_at_call 70; refine (mul_any _ _ _).mono ?_; rintro e w1 ⟨rfl, rfl⟩) | (go_at_call 73; refine (sub_any _ _ _).mono ?_; rintro e w1 ⟨rfl, rfl⟩))
  go_ret
  exact ⟨rfl, Below.refl _ _⟩
end Go.Proofs.YtjmmplpecmnlnadDoor
/- What speedUp and turn of package step come to: the new speed of a layer, and the new layer. Condition: all that go together have one size. -/
namespace Go.Proofs.YtjmmplpecmnlnadDoor
open Go.RowKit
theorem beln_drew {n : Nat} {V u : World} (h : Below n V u) : Below n V u.drew := below_dr h
theorem beln_set {n B q : Nat} {V u : World} {x : Value} (h : Below n V u) (hB : n ≤ B) : Below n V (u.setCell ⟨B, q, none⟩ x) := h.setCell hB _
/-- What both comes to, by the matrix that it gives. -/
def UpOne (w : World) (X : Mx) (e : Ending) (w' : World) : Prop := ∃ a n k, e = .returned (.agg #[.int .i64 X.rows, .int .i64 X.cols, .slice a n k]) ∧ IsInts w' (.slice a n k) X.cells ∧ Below w.heap.size w w' ∧ Fresh w.heap.size (.agg #[.int .i64 X.rows, .int .i64 X.cols, .slice a n k])
theorem UpOne.of {w w' : World} {e : Ending} {m X : Mx} {zs : List Int} (h : ∃ a n k, e = .returned (.agg #[.int .i64 m.rows, .int .i64 m.cols, .slice a n k]) ∧ NewInts w.heap.size w' (.slice a n k) zs ∧ Below w.heap.size w w') (hX : ⟨m.rows, m.cols, zs⟩ = X) : UpOne w X e w' := by
  subst hX
  obtain ⟨a, n, k, h1, h2, h3⟩ := h
  exact ⟨a, n, k, h1, h2.isInts, h3, h2.fresh (Nat.le_refl _) _ _⟩
theorem good576 {a : Mx} {R C : Nat} (g : Good a R C) : a.cells.length ≤ 576 := by
  have := Nat.mul_le_mul g.hR g.hC
  rw [g.l]; omega
set_option maxHeartbeats 8000000 in
set_option maxRecDepth 100000 in
theorem speedup_any (p q : Mx × Mx) (X1 X2 : Mx) (ke : Int) {R C R2 C2 : Nat} (g1 : Good p.1 R C) (g2 : Good q.1 R C) (g3 : Good p.2 R2 C2) (g4 : Good q.2 R2 C2) (e1 : spdX p.1 q.1 ke = X1) (e2 : spdX p.2 q.2 ke = X2) (sa : Option Addr) (sn sk : Nat) (ta : Option Addr) (tn tk : Nat) (xa : Option Addr) (xn xk : Nat) (ya : Option Addr) (yn yk : Nat) (w : World) (hi1 : IsInts w (.slice sa sn sk) p.1.cells) (hi2 : IsInts w (.slice xa xn xk) q.1.cells) (hi3 : IsInts w (.slice ta tn tk) p.2.cells) (hi4 : IsInts w (.slice ya yn yk) q.2.cells) :
    Calls Tryd.prog 46 #[.agg #[.int .i64 p.1.rows, .int .i64 p.1.cols, .slice sa sn sk, .int .i64 p.2.rows, .int .i64 p.2.cols, .slice ta tn tk], .agg #[.int .i64 q.1.rows, .int .i64 q.1.cols, .slice xa xn xk, .int .i64 q.2.rows, .int .i64 q.2.cols, .slice ya yn yk], .int .i64 ke] w fun e w' => ∃ pa pn pk qa qn qk, e = .returned (.agg #[.int .i64 X1.rows, .int .i64 X1.cols, .slice pa pn pk, .int .i64 X2.rows, .int .i64 X2.cols, .slice qa qn qk]) ∧ IsInts w' (.slice pa pn pk) X1.cells ∧ IsInts w' (.slice qa qn qk) X2.cells ∧ Fresh w.heap.size (.agg #[.int .i64 X1.rows, .int .i64 X1.cols, .slice pa pn pk]) ∧ Fresh w.heap.size (.agg #[.int .i64 X2.rows, .int .i64 X2.cols, .slice qa qn qk]) ∧ Below w.heap.size w w' := by
  have hl1 : q.1.cells.length = p.1.cells.length := g2.l.trans g1.l.symm
  have hl2 : q.2.cells.length = p.2.cells.length := g4.l.trans g3.l.symm
  have hn1 := good576 g1
  have hn2 := good576 g3
  rw [spd_eq g1 g2, ← g1.l] at e1
  rw [spd_eq g3 g4, ← g3.l] at e2
  have eg := enters_of (f := 68) Tryd.func68 (by kernel_rfl) rfl
  obtain ⟨V, hV⟩ : ∃ V, V = ((((w.alloc (.cells #[.int .i64 p.1.rows, .int .i64 p.1.cols, .slice sa sn sk, .int .i64 p.2.rows, .int .i64 p.2.cols, .slice ta tn tk] 57)).alloc (.cells #[.int .i64 q.1.rows, .int .i64 q.1.cols, .slice xa xn xk, .int .i64 q.2.rows, .int .i64 q.2.cols, .slice ya yn yk] 57)).alloc (.cells #[.int .i64 ke] 3)).alloc (.cells #[.int .i64 0, .int .i64 0, .slice none 0 0, .int .i64 0, .int .i64 0, .slice none 0 0] 57)) := ⟨_, rfl⟩
  have HV := hide hV
  have HWV : Hid (Below w.heap.size w V) := by rw [hV]; exact hide (bel_alloc (bel_alloc (bel_alloc (bel_alloc (Below.refl _ _)))))
  have HVS : Hid (V.heap.size = w.heap.size + 4) := by rw [hV]; exact hide (by simp)
  have HX0 : Hid (Box V (w.heap.size) [.int .i64 p.1.rows, .int .i64 p.1.cols, .slice sa sn sk, .int .i64 p.2.rows, .int .i64 p.2.cols, .slice ta tn tk]) := by rw [hV]; exact hide ((Box.new w [.int .i64 p.1.rows, .int .i64 p.1.cols, .slice sa sn sk, .int .i64 p.2.rows, .int .i64 p.2.cols, .slice ta tn tk] 57 rfl).below (bel_alloc (bel_alloc (bel_alloc (Below.refl _ _)))))
  have HX1 : Hid (Box V (w.heap.size + 1) [.int .i64 q.1.rows, .int .i64 q.1.cols, .slice xa xn xk, .int .i64 q.2.rows, .int .i64 q.2.cols, .slice ya yn yk]) := by rw [hV]; exact hide ((Box.new _ [.int .i64 q.1.rows, .int .i64 q.1.cols, .slice xa xn xk, .int .i64 q.2.rows, .int .i64 q.2.cols, .slice ya yn yk] 57 (by simp)).below (bel_alloc (bel_alloc (Below.refl _ _))))
  have HX2 : Hid (Box V (w.heap.size + 1 + 1) [.int .i64 ke]) := by rw [hV]; exact hide ((Box.new _ [.int .i64 ke] 3 (by simp)).below (bel_alloc (Below.refl _ _)))
  have HXZ : Hid (Box V (w.heap.size + 1 + 1 + 1) [.int .i64 0, .int .i64 0, .slice none 0 0, .int .i64 0, .int .i64 0, .slice none 0 0]) := by rw [hV]; exact hide (Box.new _ [.int .i64 0, .int .i64 0, .slice none 0 0, .int .i64 0, .int .i64 0, .slice none 0 0] 57 (by simp))
  have HXF : Hid (Free V (w.heap.size + 1 + 1 + 1)) := by rw [hV]; exact hide (Free.new _ _ _ (by simp))
  have HG := hide (stpup_gives (w.heap.size + 1 + 1) ke V (HX2.out 0 _ rfl))
  have HSB : Hid (∀ W', Below (w.heap.size + 2) V W' → (fun W' => W'.cell? ⟨w.heap.size, 0, none⟩ = some (.int .i64 p.1.rows) ∧ W'.cell? ⟨w.heap.size, 1, none⟩ = some (.int .i64 p.1.cols) ∧ W'.cell? ⟨w.heap.size, 2, none⟩ = some (.slice sa sn sk) ∧ W'.cell? ⟨w.heap.size, 3, none⟩ = some (.int .i64 p.2.rows) ∧ W'.cell? ⟨w.heap.size, 4, none⟩ = some (.int .i64 p.2.cols) ∧ W'.cell? ⟨w.heap.size, 5, none⟩ = some (.slice ta tn tk) ∧ W'.cell? ⟨w.heap.size + 1, 0, none⟩ = some (.int .i64 q.1.rows) ∧ W'.cell? ⟨w.heap.size + 1, 1, none⟩ = some (.int .i64 q.1.cols) ∧ W'.cell? ⟨w.heap.size + 1, 2, none⟩ = some (.slice xa xn xk) ∧ W'.cell? ⟨w.heap.size + 1, 3, none⟩ = some (.int .i64 q.2.rows) ∧ W'.cell? ⟨w.heap.size + 1, 4, none⟩ = some (.int .i64 q.2.cols) ∧ W'.cell? ⟨w.heap.size + 1, 5, none⟩ = some (.slice ya yn yk)) W') := hide (fun W' h => ⟨(h.cell (p := ⟨w.heap.size, 0, none⟩) (by simp only []; omega)).trans (HX0.out 0 _ rfl), (h.cell (p := ⟨w.heap.size, 1, none⟩) (by simp only []; omega)).trans (HX0.out 1 _ rfl), (h.cell (p := ⟨w.heap.size, 2, none⟩) (by simp only []; omega)).trans (HX0.out 2 _ rfl), (h.cell (p := ⟨w.heap.size, 3, none⟩) (by simp only []; omega)).trans (HX0.out 3 _ rfl), (h.cell (p := ⟨w.heap.size, 4, none⟩) (by simp only []; omega)).trans (HX0.out 4 _ rfl), (h.cell (p := ⟨w.heap.size, 5, none⟩) (by simp only []; omega)).trans (HX0.out 5 _ rfl), (h.cell (p := ⟨w.heap.size + 1, 0, none⟩) (by simp only []; omega)).trans (HX1.out 0 _ rfl), (h.cell (p := ⟨w.heap.size + 1, 1, none⟩) (by simp only []; omega)).trans (HX1.out 1 _ rfl), (h.cell (p := ⟨w.heap.size + 1, 2, none⟩) (by simp only []; omega)).trans (HX1.out 2 _ rfl), (h.cell (p := ⟨w.heap.size + 1, 3, none⟩) (by simp only []; omega)).trans (HX1.out 3 _ rfl), (h.cell (p := ⟨w.heap.size + 1, 4, none⟩) (by simp only []; omega)).trans (HX1.out 4 _ rfl), (h.cell (p := ⟨w.heap.size + 1, 5, none⟩) (by simp only []; omega)).trans (HX1.out 5 _ rfl)⟩)
  have HC1 := hide ((stpboth_any _ _ eg p.1 q.1 sa sn sk xa xn xk _ V.drew (hi1.below (bel_drew HWV.out)) (hi2.below (bel_drew HWV.out)) hl1 hn1 (HG.out.below (bel_drew (Below.refl _ _)))).mono (fun e w' hh => show UpOne V.drew X1 e w' from UpOne.of hh e1))
  have HC2 := hide (fun W (h : Below V.heap.size V W) => (stpboth_any _ _ eg p.2 q.2 ta tn tk ya yn yk _ W (hi3.below (below_next HWV.out h)) (hi4.below (below_next HWV.out h)) hl2 hn2 (HG.out.below h)).mono (fun e w' hh => show UpOne W X2 e w' from UpOne.of hh e2))
  obtain ⟨lm0, lm1, lm2, lm3, lm4, lm5, lm6, lm7, lm8, lm9, lm10, lm11⟩ := HSB.out V (Below.refl _ _)
  have HER := hide (And.intro e1 e2)
  clear hV hi1 hi2 hi3 hi4 hl1 hl2 hn1 hn2 e1 e2 g1 g2 g3 g4
  go_enter Tryd.func46, Tryd.ntmps46
  go_wp2_with fail
  rw [← HV.out]
  clear HV
  go_wp2
  go_region_held3 (fun W' => W'.cell? ⟨w.heap.size, 0, none⟩ = some (.int .i64 p.1.rows) ∧ W'.cell? ⟨w.heap.size, 1, none⟩ = some (.int .i64 p.1.cols) ∧ W'.cell? ⟨w.heap.size, 2, none⟩ = some (.slice sa sn sk) ∧ W'.cell? ⟨w.heap.size, 3, none⟩ = some (.int .i64 p.2.rows) ∧ W'.cell? ⟨w.heap.size, 4, none⟩ = some (.int .i64 p.2.cols) ∧ W'.cell? ⟨w.heap.size, 5, none⟩ = some (.slice ta tn tk) ∧ W'.cell? ⟨w.heap.size + 1, 0, none⟩ = some (.int .i64 q.1.rows) ∧ W'.cell? ⟨w.heap.size + 1, 1, none⟩ = some (.int .i64 q.1.cols) ∧ W'.cell? ⟨w.heap.size + 1, 2, none⟩ = some (.slice xa xn xk) ∧ W'.cell? ⟨w.heap.size + 1, 3, none⟩ = some (.int .i64 q.2.rows) ∧ W'.cell? ⟨w.heap.size + 1, 4, none⟩ = some (.int .i64 q.2.cols) ∧ W'.cell? ⟨w.heap.size + 1, 5, none⟩ = some (.slice ya yn yk)) ((refine HSB.out _ ?_; repeat' (first | with_reducible exact Below.refl _ _ | with_reducible exact HB2.out | with_reducible exact HB1.out | with_reducible refine beln_drew ?_ | with_reducible refine beln_set ?_ ?_ | exact Nat.le_succ _)))
    (first
      | (go_at_call 71; refine HC3.out.mono ?_; rintro e w2 ⟨qa, qn, qk, rfl, hq, hb2, hf2⟩; have HQ := hide hq; have HB2a := hide (show Below V.heap.size V w2 from below_next HB1a.out hb2); have HB2b := hide hb2; have HB2 := hide (show Below (w.heap.size + 2) V w2 from HB2a.out.mono (by rw [HVS.out]; omega)); have HF2 := hide (fresh_mono hf2 HB1a.out.size); have t0 := (HXZ.out.below HB2a.out) 0 _ rfl; have f0 := (HXF.out.below HB2a.out HXZ.out.lt) 0; have t1 := (HXZ.out.below HB2a.out) 1 _ rfl; have f1 := (HXF.out.below HB2a.out HXZ.out.lt) 1; have t2 := (HXZ.out.below HB2a.out) 2 _ rfl; have f2 := (HXF.out.below HB2a.out HXZ.out.lt) 2; have t3 := (HXZ.out.below HB2a.out) 3 _ rfl; have f3 := (HXF.out.below HB2a.out HXZ.out.lt) 3; have t4 := (HXZ.out.below HB2a.out) 4 _ rfl; have f4 := (HXF.out.below HB2a.out HXZ.out.lt) 4; have t5 := (HXZ.out.below HB2a.out) 5 _ rfl; have f5 := (HXF.out.below HB2a.out HXZ.out.lt) 5; clear hq hb2 hf2)
      | (go_at_call 71; guard_target = Calls _ _ _ (World.drew V) _; refine HC1.out.mono ?_; rintro e w1 ⟨pa, pn, pk, rfl, hp, hb1, hf1⟩; have HP := hide hp; have HB1a := hide (show Below V.heap.size V w1 from below_next (bel_drew (Below.refl _ _)) hb1); have HB1 := hide (show Below (w.heap.size + 2) V w1 from HB1a.out.mono (by rw [HVS.out]; omega)); have HF1 := hide (show Fresh V.heap.size _ from hf1); have HC3 := hide (HC2.out w1 HB1a.out); clear hp hb1 hf1))
  have HI1 := hide (show IsInts ((((((w2.setCell ⟨w.heap.size + 1 + 1 + 1, 0, none⟩ (.int .i64 X1.rows)).setCell ⟨w.heap.size + 1 + 1 + 1, 1, none⟩ (.int .i64 X1.cols)).setCell ⟨w.heap.size + 1 + 1 + 1, 2, none⟩ (.slice pa pn pk)).setCell ⟨w.heap.size + 1 + 1 + 1, 3, none⟩ (.int .i64 X2.rows)).setCell ⟨w.heap.size + 1 + 1 + 1, 4, none⟩ (.int .i64 X2.cols)).setCell ⟨w.heap.size + 1 + 1 + 1, 5, none⟩ (.slice qa qn qk)) (.slice pa pn pk) X1.cells from IsInts.aboveF (HP.out.below HB2b.out) HF1.out ((abv_low (abv_low (abv_low (abv_low (abv_low (abv_low (Above.refl _ _) (by have := HVS.out; omega)) (by have := HVS.out; omega)) (by have := HVS.out; omega)) (by have := HVS.out; omega)) (by have := HVS.out; omega)) (by have := HVS.out; omega))))
  have HI2 := hide (show IsInts ((((((w2.setCell ⟨w.heap.size + 1 + 1 + 1, 0, none⟩ (.int .i64 X1.rows)).setCell ⟨w.heap.size + 1 + 1 + 1, 1, none⟩ (.int .i64 X1.cols)).setCell ⟨w.heap.size + 1 + 1 + 1, 2, none⟩ (.slice pa pn pk)).setCell ⟨w.heap.size + 1 + 1 + 1, 3, none⟩ (.int .i64 X2.rows)).setCell ⟨w.heap.size + 1 + 1 + 1, 4, none⟩ (.int .i64 X2.cols)).setCell ⟨w.heap.size + 1 + 1 + 1, 5, none⟩ (.slice qa qn qk)) (.slice qa qn qk) X2.cells from IsInts.aboveF HQ.out HF2.out ((abv_low (abv_low (abv_low (abv_low (abv_low (abv_low (Above.refl _ _) (by have := HVS.out; omega)) (by have := HVS.out; omega)) (by have := HVS.out; omega)) (by have := HVS.out; omega)) (by have := HVS.out; omega)) (by have := HVS.out; omega))))
  have HBE := hide (show Below w.heap.size w ((((((w2.setCell ⟨w.heap.size + 1 + 1 + 1, 0, none⟩ (.int .i64 X1.rows)).setCell ⟨w.heap.size + 1 + 1 + 1, 1, none⟩ (.int .i64 X1.cols)).setCell ⟨w.heap.size + 1 + 1 + 1, 2, none⟩ (.slice pa pn pk)).setCell ⟨w.heap.size + 1 + 1 + 1, 3, none⟩ (.int .i64 X2.rows)).setCell ⟨w.heap.size + 1 + 1 + 1, 4, none⟩ (.int .i64 X2.cols)).setCell ⟨w.heap.size + 1 + 1 + 1, 5, none⟩ (.slice qa qn qk)) from bel_set (bel_set (bel_set (bel_set (bel_set (bel_set (below_next HWV.out HB2a.out) (by omega)) (by omega)) (by omega)) (by omega)) (by omega)) (by omega))
  go_wp2
  exact bodyPost_ret (v := .agg #[.int .i64 X1.rows, .int .i64 X1.cols, .slice pa pn pk, .int .i64 X2.rows, .int .i64 X2.cols, .slice qa qn qk]) (by simp [results, Tryd.results46, go_sem, t0, t1, t2, t3, t4, t5]) rfl ⟨pa, pn, pk, qa, qn, qk, rfl, HI1.out, HI2.out, fresh_mono HF1.out HWV.out.size, fresh_mono HF2.out HWV.out.size, HBE.out⟩
set_option maxHeartbeats 8000000 in
set_option maxRecDepth 100000 in
theorem stpturn_any (l : Ly) (s1 s2 X1 X2 : Mx) (le : Int) {R C R2 C2 : Nat} (g1 : Good l.w R C) (g2 : Good s1 R C) (g3 : Good l.b R2 C2) (g4 : Good s2 R2 C2) (e1 : newX l.w s1 le = X1) (e2 : newX l.b s2 le = X2) (sa : Option Addr) (sn sk : Nat) (ta : Option Addr) (tn tk : Nat) (xa : Option Addr) (xn xk : Nat) (ya : Option Addr) (yn yk : Nat) (w : World) (hi1 : IsInts w (.slice sa sn sk) l.w.cells) (hi2 : IsInts w (.slice xa xn xk) s1.cells) (hi3 : IsInts w (.slice ta tn tk) l.b.cells) (hi4 : IsInts w (.slice ya yn yk) s2.cells) :
    Calls Tryd.prog 47 #[.agg #[.int .i64 l.k, .int .i64 l.w.rows, .int .i64 l.w.cols, .slice sa sn sk, .int .i64 l.b.rows, .int .i64 l.b.cols, .slice ta tn tk], .agg #[.int .i64 s1.rows, .int .i64 s1.cols, .slice xa xn xk, .int .i64 s2.rows, .int .i64 s2.cols, .slice ya yn yk], .int .i64 le] w fun e w' => ∃ pa pn pk qa qn qk, e = .returned (.agg #[.int .i64 l.k, .int .i64 X1.rows, .int .i64 X1.cols, .slice pa pn pk, .int .i64 X2.rows, .int .i64 X2.cols, .slice qa qn qk]) ∧ IsInts w' (.slice pa pn pk) X1.cells ∧ IsInts w' (.slice qa qn qk) X2.cells ∧ Fresh w.heap.size (.agg #[.int .i64 X1.rows, .int .i64 X1.cols, .slice pa pn pk]) ∧ Fresh w.heap.size (.agg #[.int .i64 X2.rows, .int .i64 X2.cols, .slice qa qn qk]) ∧ Below w.heap.size w w' := by
  have hl1 : s1.cells.length = l.w.cells.length := g2.l.trans g1.l.symm
  have hl2 : s2.cells.length = l.b.cells.length := g4.l.trans g3.l.symm
  have hn1 := good576 g1
  have hn2 := good576 g3
  rw [new_eq g1 g2, ← g1.l] at e1
  rw [new_eq g3 g4, ← g3.l] at e2
  have eg := enters_of (f := 72) Tryd.func72 (by kernel_rfl) rfl
  obtain ⟨V, hV⟩ : ∃ V, V = ((((w.alloc (.cells #[.int .i64 l.k, .int .i64 l.w.rows, .int .i64 l.w.cols, .slice sa sn sk, .int .i64 l.b.rows, .int .i64 l.b.cols, .slice ta tn tk] 55)).alloc (.cells #[.int .i64 s1.rows, .int .i64 s1.cols, .slice xa xn xk, .int .i64 s2.rows, .int .i64 s2.cols, .slice ya yn yk] 57)).alloc (.cells #[.int .i64 le] 3)).alloc (.cells #[.int .i64 0, .int .i64 0, .int .i64 0, .slice none 0 0, .int .i64 0, .int .i64 0, .slice none 0 0] 55)) := ⟨_, rfl⟩
  have HV := hide hV
  have HWV : Hid (Below w.heap.size w V) := by rw [hV]; exact hide (bel_alloc (bel_alloc (bel_alloc (bel_alloc (Below.refl _ _)))))
  have HVS : Hid (V.heap.size = w.heap.size + 4) := by rw [hV]; exact hide (by simp)
  have HX0 : Hid (Box V (w.heap.size) [.int .i64 l.k, .int .i64 l.w.rows, .int .i64 l.w.cols, .slice sa sn sk, .int .i64 l.b.rows, .int .i64 l.b.cols, .slice ta tn tk]) := by rw [hV]; exact hide ((Box.new w [.int .i64 l.k, .int .i64 l.w.rows, .int .i64 l.w.cols, .slice sa sn sk, .int .i64 l.b.rows, .int .i64 l.b.cols, .slice ta tn tk] 55 rfl).below (bel_alloc (bel_alloc (bel_alloc (Below.refl _ _)))))
  have HX1 : Hid (Box V (w.heap.size + 1) [.int .i64 s1.rows, .int .i64 s1.cols, .slice xa xn xk, .int .i64 s2.rows, .int .i64 s2.cols, .slice ya yn yk]) := by rw [hV]; exact hide ((Box.new _ [.int .i64 s1.rows, .int .i64 s1.cols, .slice xa xn xk, .int .i64 s2.rows, .int .i64 s2.cols, .slice ya yn yk] 57 (by simp)).below (bel_alloc (bel_alloc (Below.refl _ _))))
  have HX2 : Hid (Box V (w.heap.size + 1 + 1) [.int .i64 le]) := by rw [hV]; exact hide ((Box.new _ [.int .i64 le] 3 (by simp)).below (bel_alloc (Below.refl _ _)))
  have HXZ : Hid (Box V (w.heap.size + 1 + 1 + 1) [.int .i64 0, .int .i64 0, .int .i64 0, .slice none 0 0, .int .i64 0, .int .i64 0, .slice none 0 0]) := by rw [hV]; exact hide (Box.new _ [.int .i64 0, .int .i64 0, .int .i64 0, .slice none 0 0, .int .i64 0, .int .i64 0, .slice none 0 0] 55 (by simp))
  have HXF : Hid (Free V (w.heap.size + 1 + 1 + 1)) := by rw [hV]; exact hide (Free.new _ _ _ (by simp))
  have HG := hide (stpturn_gives (w.heap.size + 1 + 1) le V (HX2.out 0 _ rfl))
  have HSB : Hid (∀ W', Below (w.heap.size + 2) V W' → (fun W' => W'.cell? ⟨w.heap.size, 0, none⟩ = some (.int .i64 l.k) ∧ W'.cell? ⟨w.heap.size, 1, none⟩ = some (.int .i64 l.w.rows) ∧ W'.cell? ⟨w.heap.size, 2, none⟩ = some (.int .i64 l.w.cols) ∧ W'.cell? ⟨w.heap.size, 3, none⟩ = some (.slice sa sn sk) ∧ W'.cell? ⟨w.heap.size, 4, none⟩ = some (.int .i64 l.b.rows) ∧ W'.cell? ⟨w.heap.size, 5, none⟩ = some (.int .i64 l.b.cols) ∧ W'.cell? ⟨w.heap.size, 6, none⟩ = some (.slice ta tn tk) ∧ W'.cell? ⟨w.heap.size + 1, 0, none⟩ = some (.int .i64 s1.rows) ∧ W'.cell? ⟨w.heap.size + 1, 1, none⟩ = some (.int .i64 s1.cols) ∧ W'.cell? ⟨w.heap.size + 1, 2, none⟩ = some (.slice xa xn xk) ∧ W'.cell? ⟨w.heap.size + 1, 3, none⟩ = some (.int .i64 s2.rows) ∧ W'.cell? ⟨w.heap.size + 1, 4, none⟩ = some (.int .i64 s2.cols) ∧ W'.cell? ⟨w.heap.size + 1, 5, none⟩ = some (.slice ya yn yk)) W') := hide (fun W' h => ⟨(h.cell (p := ⟨w.heap.size, 0, none⟩) (by simp only []; omega)).trans (HX0.out 0 _ rfl), (h.cell (p := ⟨w.heap.size, 1, none⟩) (by simp only []; omega)).trans (HX0.out 1 _ rfl), (h.cell (p := ⟨w.heap.size, 2, none⟩) (by simp only []; omega)).trans (HX0.out 2 _ rfl), (h.cell (p := ⟨w.heap.size, 3, none⟩) (by simp only []; omega)).trans (HX0.out 3 _ rfl), (h.cell (p := ⟨w.heap.size, 4, none⟩) (by simp only []; omega)).trans (HX0.out 4 _ rfl), (h.cell (p := ⟨w.heap.size, 5, none⟩) (by simp only []; omega)).trans (HX0.out 5 _ rfl), (h.cell (p := ⟨w.heap.size, 6, none⟩) (by simp only []; omega)).trans (HX0.out 6 _ rfl), (h.cell (p := ⟨w.heap.size + 1, 0, none⟩) (by simp only []; omega)).trans (HX1.out 0 _ rfl), (h.cell (p := ⟨w.heap.size + 1, 1, none⟩) (by simp only []; omega)).trans (HX1.out 1 _ rfl), (h.cell (p := ⟨w.heap.size + 1, 2, none⟩) (by simp only []; omega)).trans (HX1.out 2 _ rfl), (h.cell (p := ⟨w.heap.size + 1, 3, none⟩) (by simp only []; omega)).trans (HX1.out 3 _ rfl), (h.cell (p := ⟨w.heap.size + 1, 4, none⟩) (by simp only []; omega)).trans (HX1.out 4 _ rfl), (h.cell (p := ⟨w.heap.size + 1, 5, none⟩) (by simp only []; omega)).trans (HX1.out 5 _ rfl)⟩)
  have HC1 := hide ((stpboth_any _ _ eg l.w s1 sa sn sk xa xn xk _ V.drew (hi1.below (bel_drew HWV.out)) (hi2.below (bel_drew HWV.out)) hl1 hn1 (HG.out.below (bel_drew (Below.refl _ _)))).mono (fun e w' hh => show UpOne V.drew X1 e w' from UpOne.of hh e1))
  have HC2 := hide (fun W (h : Below V.heap.size V W) => (stpboth_any _ _ eg l.b s2 ta tn tk ya yn yk _ W (hi3.below (below_next HWV.out h)) (hi4.below (below_next HWV.out h)) hl2 hn2 (HG.out.below h)).mono (fun e w' hh => show UpOne W X2 e w' from UpOne.of hh e2))
  obtain ⟨lm0, lm1, lm2, lm3, lm4, lm5, lm6, lm7, lm8, lm9, lm10, lm11, lm12⟩ := HSB.out V (Below.refl _ _)
  have HER := hide (And.intro e1 e2)
  clear hV hi1 hi2 hi3 hi4 hl1 hl2 hn1 hn2 e1 e2 g1 g2 g3 g4
  go_enter Tryd.func47, Tryd.ntmps47
  go_wp2_with fail
  rw [← HV.out]
  clear HV
  go_wp2
  go_region_held3 (fun W' => W'.cell? ⟨w.heap.size, 0, none⟩ = some (.int .i64 l.k) ∧ W'.cell? ⟨w.heap.size, 1, none⟩ = some (.int .i64 l.w.rows) ∧ W'.cell? ⟨w.heap.size, 2, none⟩ = some (.int .i64 l.w.cols) ∧ W'.cell? ⟨w.heap.size, 3, none⟩ = some (.slice sa sn sk) ∧ W'.cell? ⟨w.heap.size, 4, none⟩ = some (.int .i64 l.b.rows) ∧ W'.cell? ⟨w.heap.size, 5, none⟩ = some (.int .i64 l.b.cols) ∧ W'.cell? ⟨w.heap.size, 6, none⟩ = some (.slice ta tn tk) ∧ W'.cell? ⟨w.heap.size + 1, 0, none⟩ = some (.int .i64 s1.rows) ∧ W'.cell? ⟨w.heap.size + 1, 1, none⟩ = some (.int .i64 s1.cols) ∧ W'.cell? ⟨w.heap.size + 1, 2, none⟩ = some (.slice xa xn xk) ∧ W'.cell? ⟨w.heap.size + 1, 3, none⟩ = some (.int .i64 s2.rows) ∧ W'.cell? ⟨w.heap.size + 1, 4, none⟩ = some (.int .i64 s2.cols) ∧ W'.cell? ⟨w.heap.size + 1, 5, none⟩ = some (.slice ya yn yk)) ((refine HSB.out _ ?_; repeat' (first | with_reducible exact Below.refl _ _ | with_reducible exact HB2.out | with_reducible exact HB1.out | with_reducible refine beln_drew ?_ | with_reducible refine beln_set ?_ ?_ | exact Nat.le_succ _)))
    (first
      | (go_at_call 71; refine HC3.out.mono ?_; rintro e w2 ⟨qa, qn, qk, rfl, hq, hb2, hf2⟩; have HQ := hide hq; have HB2a := hide (show Below V.heap.size V w2 from below_next HB1a.out hb2); have HB2b := hide hb2; have HB2 := hide (show Below (w.heap.size + 2) V w2 from HB2a.out.mono (by rw [HVS.out]; omega)); have HF2 := hide (fresh_mono hf2 HB1a.out.size); have t0 := (HXZ.out.below HB2a.out) 0 _ rfl; have f0 := (HXF.out.below HB2a.out HXZ.out.lt) 0; have t1 := (HXZ.out.below HB2a.out) 1 _ rfl; have f1 := (HXF.out.below HB2a.out HXZ.out.lt) 1; have t2 := (HXZ.out.below HB2a.out) 2 _ rfl; have f2 := (HXF.out.below HB2a.out HXZ.out.lt) 2; have t3 := (HXZ.out.below HB2a.out) 3 _ rfl; have f3 := (HXF.out.below HB2a.out HXZ.out.lt) 3; have t4 := (HXZ.out.below HB2a.out) 4 _ rfl; have f4 := (HXF.out.below HB2a.out HXZ.out.lt) 4; have t5 := (HXZ.out.below HB2a.out) 5 _ rfl; have f5 := (HXF.out.below HB2a.out HXZ.out.lt) 5; have t6 := (HXZ.out.below HB2a.out) 6 _ rfl; have f6 := (HXF.out.below HB2a.out HXZ.out.lt) 6; clear hq hb2 hf2)
      | (go_at_call 71; guard_target = Calls _ _ _ (World.drew V) _; refine HC1.out.mono ?_; rintro e w1 ⟨pa, pn, pk, rfl, hp, hb1, hf1⟩; have HP := hide hp; have HB1a := hide (show Below V.heap.size V w1 from below_next (bel_drew (Below.refl _ _)) hb1); have HB1 := hide (show Below (w.heap.size + 2) V w1 from HB1a.out.mono (by rw [HVS.out]; omega)); have HF1 := hide (show Fresh V.heap.size _ from hf1); have HC3 := hide (HC2.out w1 HB1a.out); clear hp hb1 hf1))
  have HI1 := hide (show IsInts (((((((w2.setCell ⟨w.heap.size + 1 + 1 + 1, 0, none⟩ (.int .i64 l.k)).setCell ⟨w.heap.size + 1 + 1 + 1, 1, none⟩ (.int .i64 X1.rows)).setCell ⟨w.heap.size + 1 + 1 + 1, 2, none⟩ (.int .i64 X1.cols)).setCell ⟨w.heap.size + 1 + 1 + 1, 3, none⟩ (.slice pa pn pk)).setCell ⟨w.heap.size + 1 + 1 + 1, 4, none⟩ (.int .i64 X2.rows)).setCell ⟨w.heap.size + 1 + 1 + 1, 5, none⟩ (.int .i64 X2.cols)).setCell ⟨w.heap.size + 1 + 1 + 1, 6, none⟩ (.slice qa qn qk)) (.slice pa pn pk) X1.cells from IsInts.aboveF (HP.out.below HB2b.out) HF1.out ((abv_low (abv_low (abv_low (abv_low (abv_low (abv_low (abv_low (Above.refl _ _) (by have := HVS.out; omega)) (by have := HVS.out; omega)) (by have := HVS.out; omega)) (by have := HVS.out; omega)) (by have := HVS.out; omega)) (by have := HVS.out; omega)) (by have := HVS.out; omega))))
  have HI2 := hide (show IsInts (((((((w2.setCell ⟨w.heap.size + 1 + 1 + 1, 0, none⟩ (.int .i64 l.k)).setCell ⟨w.heap.size + 1 + 1 + 1, 1, none⟩ (.int .i64 X1.rows)).setCell ⟨w.heap.size + 1 + 1 + 1, 2, none⟩ (.int .i64 X1.cols)).setCell ⟨w.heap.size + 1 + 1 + 1, 3, none⟩ (.slice pa pn pk)).setCell ⟨w.heap.size + 1 + 1 + 1, 4, none⟩ (.int .i64 X2.rows)).setCell ⟨w.heap.size + 1 + 1 + 1, 5, none⟩ (.int .i64 X2.cols)).setCell ⟨w.heap.size + 1 + 1 + 1, 6, none⟩ (.slice qa qn qk)) (.slice qa qn qk) X2.cells from IsInts.aboveF HQ.out HF2.out ((abv_low (abv_low (abv_low (abv_low (abv_low (abv_low (abv_low (Above.refl _ _) (by have := HVS.out; omega)) (by have := HVS.out; omega)) (by have := HVS.out; omega)) (by have := HVS.out; omega)) (by have := HVS.out; omega)) (by have := HVS.out; omega)) (by have := HVS.out; omega))))
  have HBE := hide (show Below w.heap.size w (((((((w2.setCell ⟨w.heap.size + 1 + 1 + 1, 0, none⟩ (.int .i64 l.k)).setCell ⟨w.heap.size + 1 + 1 + 1, 1, none⟩ (.int .i64 X1.rows)).setCell ⟨w.heap.size + 1 + 1 + 1, 2, none⟩ (.int .i64 X1.cols)).setCell ⟨w.heap.size + 1 + 1 + 1, 3, none⟩ (.slice pa pn pk)).setCell ⟨w.heap.size + 1 + 1 + 1, 4, none⟩ (.int .i64 X2.rows)).setCell ⟨w.heap.size + 1 + 1 + 1, 5, none⟩ (.int .i64 X2.cols)).setCell ⟨w.heap.size + 1 + 1 + 1, 6, none⟩ (.slice qa qn qk)) from bel_set (bel_set (bel_set (bel_set (bel_set (bel_set (bel_set (below_next HWV.out HB2a.out) (by omega)) (by omega)) (by omega)) (by omega)) (by omega)) (by omega)) (by omega))
  go_wp2
  exact bodyPost_ret (v := .agg #[.int .i64 l.k, .int .i64 X1.rows, .int .i64 X1.cols, .slice pa pn pk, .int .i64 X2.rows, .int .i64 X2.cols, .slice qa qn qk]) (by simp [results, Tryd.results47, go_sem, t0, t1, t2, t3, t4, t5, t6]) rfl ⟨pa, pn, pk, qa, qn, qk, rfl, HI1.out, HI2.out, fresh_mono HF1.out HWV.out.size, fresh_mono HF2.out HWV.out.size, HBE.out⟩
end Go.Proofs.YtjmmplpecmnlnadDoor
