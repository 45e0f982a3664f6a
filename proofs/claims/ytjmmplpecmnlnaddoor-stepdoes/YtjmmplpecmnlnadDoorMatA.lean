/- What fill of package mat comes to: a matrix in new memory of what a function value gives, cell by cell. Condition: the function gives f i j at each cell, and turns nothing old. -/
import Derived.Test.YtjmmplpecmnlnadDoorMCheckAll
import Derived.Test.YtjmmplpecmnlnadDoorRBlank
import Derived.Test.YtjmmplpecmnlnadDoorPlain
import Derived.Laws.AppendOwn
import Derived.Shelf.Abstract
import Derived.Deep.RegionHeld3
namespace Go.Proofs.YtjmmplpecmnlnadDoor
open Go.RowKit
/-- What is asked of the function value: number K, captured cap. -/
def Gives (K : Nat) (cap : Array Value) (R C : Nat) (f : Nat → Nat → Int) (w : World) : Prop :=
  ∀ (W : World) (i j : Nat) (xi xj : Int), xi = (i : Int) → xj = (j : Int) → i < R → j < C → Below w.heap.size w W → Calls Tryd.prog K (#[.int .i64 xi, .int .i64 xj] ++ cap) W fun e w' => e = .returned (.int .i64 (f i j)) ∧ Below W.heap.size W w'
theorem run_mk0 (L : Int) (n : Nat) (hL : L = (n : Int)) (hn : n ≤ 82944) (W : World) : (Instr.makeSlice 23 (.int .i64 0) (.int .i64 L)).run Tryd.prog W = .ok (.slice (some ⟨W.heap.size, 0, none⟩) 0 n) (W.alloc (.cells (zeros n) 3)) := by
  obtain ⟨i0, hi, hz0, hz1, hz2⟩ := info_parts infoInt
  subst hL
  have hr := run_make (P := Tryd.prog) W 23 3 i0 (.int .i64 0) Tryd.underlying23 hi hz0 .i64 .i64 (0 : Int) (n : Int) (by omega) (by omega) (by rw [hz2]; omega) (by omega)
  simpa [zeros, hz1, Value.cells] using hr
theorem tab_succ (n : Nat) (f : Nat → Int) : tab (n + 1) f = tab n f ++ [f n] := by simp [tab, List.range_succ]
theorem zeros_size (n : Nat) : (zeros n).size = n * 1 := by
  unfold zeros; rw [← Array.length_toList, toList_madeCells_one]; simp
/-- The row that is being filled. -/
def Own (w : World) (base : Nat) (v : Value) (n : Nat) (f : Nat → Int) : Prop := w.ownsRow base 3 1 v n ((tab n f).map (Value.int .i64))
/-- A slice value that reads as these ints, in a block that was not there ahead of base. -/
def NewInts (base : Nat) (w : World) (v : Value) (zs : List Int) : Prop :=
  ∃ (a : Option Addr) (cap : Nat), v = .slice a zs.length cap ∧ zs.length ≤ cap ∧ cap ≤ maxLen ∧ (zs = [] ∨ ∃ b off, a = some ⟨b, off, none⟩ ∧ base ≤ b ∧ ∀ i x, zs[i]? = some x → w.cell? ⟨b, off + i, none⟩ = some (.int .i64 x))
theorem NewInts.isInts {base : Nat} {w : World} {v : Value} {zs : List Int} (h : NewInts base w v zs) : IsInts w v zs := by
  obtain ⟨a, cap, h1, h2, h3, h4⟩ := h
  exact ⟨a, cap, h1, h2, h3, h4.imp id (fun ⟨b, off, e, _, hc⟩ => ⟨b, off, e, hc⟩)⟩
theorem NewInts.set {base : Nat} {w : World} {v : Value} {zs : List Int} (h : NewInts base w v zs) {B : Nat} (hB : B < base) (q : Nat) (u : Value) : NewInts base (w.setCell ⟨B, q, none⟩ u) v zs := by
  obtain ⟨a, cap, h1, h2, h3, h4⟩ := h
  refine ⟨a, cap, h1, h2, h3, h4.imp id (fun ⟨b, off, e, hb, hc⟩ => ⟨b, off, e, hb, fun i x hx => cell_other (hc i x hx) (by show b ≠ B; omega) q u⟩)⟩
theorem NewInts.shape {base : Nat} {w : World} {v : Value} {zs : List Int} (h : NewInts base w v zs) : ∃ a n cap, v = .slice a n cap := by
  obtain ⟨a, cap, h1, _⟩ := h; exact ⟨a, _, cap, h1⟩
theorem Own.newInts {w : World} {base : Nat} {v : Value} {n : Nat} {f : Nat → Int} (h : Own w base v n f) (hm : n ≤ maxLen) : NewInts base w v (tab n f) := by
  have hc := fun g e => World.ownsRow.cells h (g := g) e
  obtain ⟨h1, h2⟩ := h
  rcases h2 with ⟨rfl, rfl⟩ | ⟨g, cap, cur, rfl, hg, _, h3, h4, _, _⟩
  · exact ⟨none, 0, rfl, Nat.le_refl _, Nat.zero_le _, .inl rfl⟩
  · refine ⟨some ⟨g, 0, none⟩, cap, by rw [tab_len], by rw [tab_len]; exact h3, h4, .inr ⟨g, 0, rfl, hg, fun i x hx => ?_⟩⟩
    have := hc g rfl i (.int .i64 x) (by simp [hx])
    rw [Addr.add_lit] at this; exact this
theorem Own.isInts {w : World} {base : Nat} {v : Value} {n : Nat} {f : Nat → Int} (h : Own w base v n f) (hm : n ≤ maxLen) : IsInts w v (tab n f) := by
  have hc := fun g e => World.ownsRow.cells h (g := g) e
  obtain ⟨h1, h2⟩ := h
  rcases h2 with ⟨rfl, rfl⟩ | ⟨g, cap, cur, rfl, _, _, h3, h4, _, _⟩
  · exact IsInts.nil w
  · refine ⟨some ⟨g, 0, none⟩, cap, by rw [tab_len], by rw [tab_len]; exact h3, h4, .inr ⟨g, 0, rfl, fun i x hx => ?_⟩⟩
    have := hc g rfl i (.int .i64 x) (by simp [hx])
    rw [Addr.add_lit] at this; exact this
theorem Own.alloc {w : World} {base : Nat} {v : Value} {n : Nat} {f : Nat → Int} (h : Own w base v n f) (o : Obj) : Own (w.alloc o) base v n f := World.ownsRow.alloc h o
theorem Own.below {w w' : World} {base : Nat} {v : Value} {n : Nat} {f : Nat → Int} (h : Own w base v n f) (hb : Below w.heap.size w w') : Own w' base v n f := by
  refine World.ownsRow.kept (row := none) h ⟨hb.os, hb.tape, hb.output, hb.size, fun k hk _ => hb.block k hk⟩ ?_
  cases e : v.ownBlock with
  | none => exact .inl rfl
  | some k => exact .inr (by simp)
set_option maxHeartbeats 1600000 in
set_option maxRecDepth 100000 in
theorem fill_any (K : Nat) (cap : Array Value) (eg : ∀ args w, (callFunc K args).run Tryd.prog w = .ok (.enter K args) w) (R C : Nat) (r c : Int) (hr : r = (R : Int)) (hc : c = (C : Int)) (hR : R ≤ 24) (hC : C ≤ 24) (f : Nat → Nat → Int) (w : World) (hG : Gives K cap R C f w) :
    Calls Tryd.prog 81 #[.int .i64 r, .int .i64 c, .func (.func K) #[] cap] w fun e w' =>
      ∃ a n k, e = .returned (.agg #[.int .i64 r, .int .i64 c, .slice a n k]) ∧ NewInts w.heap.size w' (.slice a n k) (tab (R * C) (fun q => f (q / C) (q % C))) ∧ Below w.heap.size w w' := by
  have HG := hide hG
  have Hr := hide hr
  have Hc := hide hc
  have t1 := mul_bds hr hc hR hC
  have u1 := wrap_in (x := r * c) (by omega) (by omega)
  obtain ⟨N, hN⟩ : ∃ N, R * C = N := ⟨_, rfl⟩
  have hN576 : N ≤ 576 := by have := Nat.mul_le_mul hR hC; omega
  have hmk := run_mk0 (r * c) N (by rw [hr, hc, ← hN]; simp) (by omega)
  have HN := hide hN
  clear hG hr hc hN
  obtain ⟨W1, hW1⟩ : ∃ W1, W1 = w.alloc (.cells #[.int .i64 0, .int .i64 0, .slice none 0 0] 25) := ⟨_, rfl⟩
  have hW1s : W1.heap.size = w.heap.size + 1 := by rw [hW1]; simp
  have hW1b : Below w.heap.size w W1 := by rw [hW1]; exact below_one _ _
  have hown0 : Own (W1.alloc (.cells (zeros N) 3)) (w.heap.size + 1) (.slice (some ⟨W1.heap.size, 0, none⟩) 0 N) 0 (fun q => f (q / C) (q % C)) := World.ownsRow_made _ _ _ (by omega) (by unfold maxLen; omega) (zeros_size N)
  have q0 : W1.cell? ⟨w.heap.size, 0, none⟩ = some (.int .i64 0) := by rw [hW1]; simp
  have q1 : W1.cell? ⟨w.heap.size, 1, none⟩ = some (.int .i64 0) := by rw [hW1]; simp
  have q2 : W1.cell? ⟨w.heap.size, 2, none⟩ = some (.slice none 0 0) := by rw [hW1]; simp
  have qf : ∀ j, W1.frozen? ⟨w.heap.size, j, none⟩ = false := fun j => by rw [hW1]; simp
  have HQ := hide (And.intro q0 (And.intro q1 q2))
  have HQF := hide qf
  have HO := hide hown0
  have HB := hide hW1b
  have HS := hide hW1s
  clear q0 q1 q2 qf hown0 hW1b
  go_enter Tryd.func81, Tryd.ntmps81
  go_wp2_with fail
  rw [← hW1]
  clear hW1
  go_wp2
  have hgoal := HO.out
  rw [hW1s] at hgoal
  have HO1 := hide hgoal
  clear hgoal hW1s hmk
  go_loopw [7, 15] (fun v a wr => ∃ (i : Nat) (xi : Int), i ≤ R ∧ xi = (i : Int) ∧ a = .int .i64 xi ∧ Own wr (w.heap.size + 1) v (i * C) (fun q => f (q / C) (q % C)) ∧ Below (w.heap.size + 1) W1 wr) (fun _ a _ => R - (intOf a).toNat)
  case atStart => exact ⟨0, 0, Nat.zero_le _, rfl, rfl, by rw [Nat.zero_mul]; exact HO1.out, (Below.refl _ _).alloc (by have := HS.out; omega) _⟩
  case round =>
    obtain ⟨i, xi, hi, hxi, rfl, hro, hbw⟩ := hrel
    have HRO := hide hro
    have HBW := hide hbw
    have HXI := hide hxi
    have hxi0 : 0 ≤ xi := by omega
    have hxi1 : xi ≤ 24 := by omega
    clear hro hbw hxi
    by_cases hlt : xi < r
    · have hiR : i < R := by have := HXI.out; have := Hr.out; omega
      go_wp2
      go_loopw [7, 19] (fun v a wr => ∃ (j : Nat) (xj : Int), j ≤ C ∧ xj = (j : Int) ∧ a = .int .i64 xj ∧ Own wr (w.heap.size + 1) v (i * C + j) (fun q => f (q / C) (q % C)) ∧ Below (w.heap.size + 1) W1 wr) (fun _ a _ => C - (intOf a).toNat)
      case atStart => exact ⟨0, 0, Nat.zero_le _, rfl, rfl, HRO.out, HBW.out⟩
      case round =>
        obtain ⟨j, xj, hj, hxj, rfl, hro, hbw⟩ := hrel
        have HRO2 := hide hro
        have HBW2 := hide hbw
        have HXJ := hide hxj
        have hxj0 : 0 ≤ xj := by omega
        have hxj1 : xj ≤ 24 := by omega
        clear hro hbw hxj
        by_cases hjc : xj < c
        · have hjC : j < C := by have := HXJ.out; have := Hc.out; omega
          have hcall := HG.out wr i j xi xj HXI.out HXJ.out hiR hjC (HB.out.trans (HBW2.out.mono (by omega)))
          have hidx := idx_lt hiR hjC
          obtain ⟨e0, ei, hz0, hz1, hz2⟩ := info_parts infoInt
          have HE := hide (And.intro ei (And.intro hz0 (And.intro hz1 hz2)))
          clear ei hz0 hz1 hz2
          go_wp2_with (first
            | (at_builtin; refine wpList_append_own _ rfl _ _ 23 rfl (w.heap.size + 1) 3 e0 (.int .i64 0) 1 8 Tryd.underlying23 HE.out.1 HE.out.2.1 HE.out.2.2.1 HE.out.2.2.2 rfl (by decide) _ _ _ rfl ((HRO2.out.below hb1).alloc _) ⟨w1.heap.size, 0, none⟩ 1 1 [.int .i64 (f i j)] rfl rfl ?c1 ?c2 ?c3 ?c4 ?c5 ?_)
            | (go_at_fn K; refine hcall.mono ?_; rintro e w1 ⟨rfl, hb1⟩))
          case c1 =>
            intro k u hk
            match k, hk with
            | 0, hk => simp at hk; subst hk; simp [Addr.add]
          case c2 => intro u hu; simp at hu; subst hu; rfl
          case c3 => have := HN.out; unfold maxLen; omega
          case c4 => have := HN.out; omega
          case c5 => have := HBW2.out.size; have := hb1.size; have := HS.out; simp; omega
          intro v' w' hown' hgrow _
          have hown2 : Own w' (w.heap.size + 1) v' (i * C + (j + 1)) (fun q => f (q / C) (q % C)) := by
            obtain ⟨e1, e2⟩ := at_div (R := C) (i := j) (j := i) hjC
            show w'.ownsRow _ _ _ _ _ _
            rw [← Nat.add_assoc, tab_succ, List.map_append]
            simp only [e1, e2]
            exact hown'
          have hbel2 : Below (w.heap.size + 1) W1 w' := by
            have s1 := HBW2.out.size
            have s2 := HS.out
            have s3 := hb1.size
            exact ((HBW2.out.trans (hb1.mono (by omega))).alloc (by omega) _).grown hgrow (by simp; omega) (fun k hk => (World.ownsRow.lt HRO2.out k hk).1)
          have HO2 := hide hown2
          have HB2 := hide hbel2
          clear hown' hgrow hown2 hbel2 hcall
          go_wp2
          go_roundw
          case rel => exact ⟨j + 1, _, by omega, by have := HXJ.out; omega, rfl, HO2.out, HB2.out⟩
          case measure => have := HXJ.out; simp [intOf]; omega
        · go_wp2
          go_roundw
          case rel => exact ⟨i + 1, _, by omega, by have := HXI.out; omega, rfl, by have h := HRO2.out; rw [show j = C by have := HXJ.out; have := Hc.out; omega, ← Nat.succ_mul] at h; exact h, HBW2.out⟩
          case measure => have := HXI.out; simp [intOf]; omega
    · have hiR : i = R := by have := HXI.out; have := Hr.out; omega
      have p0 := (HBW.out.cell (p := ⟨w.heap.size, 0, none⟩) (by simp)).trans HQ.out.1
      have p1 := (HBW.out.cell (p := ⟨w.heap.size, 1, none⟩) (by simp)).trans HQ.out.2.1
      have p2 := (HBW.out.cell (p := ⟨w.heap.size, 2, none⟩) (by simp)).trans HQ.out.2.2
      have z0 := (HBW.out.frozen (p := ⟨w.heap.size, 0, none⟩) (by simp)).trans (HQF.out 0)
      have z1 := (HBW.out.frozen (p := ⟨w.heap.size, 1, none⟩) (by simp)).trans (HQF.out 1)
      have z2 := (HBW.out.frozen (p := ⟨w.heap.size, 2, none⟩) (by simp)).trans (HQF.out 2)
      have hI := HRO.out.isInts (by rw [hiR]; have := HN.out; unfold maxLen; omega)
      obtain ⟨sa, sn, sc, rfl⟩ := hI.shape
      have HI := hide hI
      have HIR := hide hiR
      clear hI hiR
      go_wp2
      refine bodyPost_ret (v := .agg #[.int .i64 r, .int .i64 c, .slice sa sn sc]) (by simp [results, Tryd.results81, go_sem, p0, p1, p2]) rfl ⟨sa, sn, sc, rfl, ?_, ?_⟩
      · have h := World.ownsRow.kept (row := some w.heap.size) HRO.out (grown_set (grown_set (grown_set (World.grownBy.refl wr (some w.heap.size)) 0 (.int .i64 r)) 1 (.int .i64 c)) 2 (.slice sa sn sc)) (by
          cases e : (Value.slice sa sn sc).ownBlock with
          | none => exact .inl rfl
          | some k => exact .inr (fun e' => by have := (World.ownsRow.lt HRO.out k e).1; have := Option.some.inj e'; omega))
        have h' := Own.newInts (f := fun q => f (q / C) (q % C)) h (by rw [HIR.out]; have := HN.out; unfold maxLen; omega)
        rw [HIR.out] at h'
        obtain ⟨a, cap, h1, h2, h3, h4⟩ := h'
        exact ⟨a, cap, h1, h2, h3, h4.imp id (fun ⟨b, off, e, hb, hc⟩ => ⟨b, off, e, by omega, hc⟩)⟩
      · exact (((HB.out.trans (HBW.out.mono (by omega))).setCell (by simp) _).setCell (by simp) _).setCell (by simp) _
end Go.Proofs.YtjmmplpecmnlnadDoor
/- What at of package mat and the closures that read one matrix come to. -/
namespace Go.Proofs.YtjmmplpecmnlnadDoor
open Go.RowKit
theorem idx_cell {m : Mx} {R C i j : Nat} (hl : m.cells.length = R * C) (hi : i < R) (hj : j < C) : m.cells[i * C + j]? = some ((m.cells[i * C + j]?).getD 0) := by
  have := idx_lt hi hj
  rw [List.getElem?_eq_getElem (by omega)]; rfl
set_option maxHeartbeats 400000 in
theorem at_any (v : Value) (m : Mx) (R C i j : Nat) (xi xj : Int) (w : World) (hv : IsMx w v m) (hc : m.cols = (C : Int)) (hR : R ≤ 24) (hC : C ≤ 24) (hl : m.cells.length = R * C) (hxi : xi = (i : Int)) (hxj : xj = (j : Int)) (hi : i < R) (hj : j < C) :
    Calls Tryd.prog 83 #[v, .int .i64 xi, .int .i64 xj] w fun e w' => e = .returned (.int .i64 ((m.cells[i * C + j]?).getD 0)) ∧ Below w.heap.size w w' := by
  obtain ⟨s, rfl, hs⟩ := hv
  have hx := idx_cell hl hi hj
  have hidx := idx_lt hi hj
  obtain ⟨x, ex⟩ : ∃ x, (m.cells[i * C + j]?).getD 0 = x := ⟨_, rfl⟩
  rw [ex] at hx ⊢
  have hn576 := Nat.mul_le_mul hR hC
  obtain ⟨aa, cap, rfl, h2, h3, h4⟩ := hs
  obtain ⟨b, off, rfl, hcl⟩ := h4.resolve_left (fun e => by rw [e] at hx; simp at hx)
  obtain ⟨c, ec⟩ : ∃ c, m.cols = c := ⟨_, rfl⟩
  obtain ⟨r, er⟩ : ∃ r, m.rows = r := ⟨_, rfl⟩
  rw [ec] at hc
  rw [ec, er]
  have cx : ∀ o, (w.alloc o).cell? ⟨b, off + (xi * c + xj).toNat, none⟩ = some (.int .i64 x) := fun o => by
    rw [idx_nat hxi hxj hc]; exact cell_past (hcl _ _ hx) o
  obtain ⟨N, hN⟩ : ∃ N, m.cells.length = N := ⟨_, rfl⟩
  have t3 : xi * c + xj < (N : Int) := by rw [mul_cast_idx hxi hxj hc]; omega
  have t1 := mul_bds hxi hc (by omega) hC
  have u1 := wrap_in (x := xi * c) (by omega) (by omega)
  have u2 := wrap_in (x := xi * c + xj) (by omega) (by omega)
  have g1 : 0 ≤ xi * c + xj := by omega
  rw [hN] at h2 ⊢
  have hN' : N ≤ 576 := by omega
  clear hx ex hcl h4 hl hxi hxj hc hidx hN hn576 ec er
  go_enter Tryd.func83, Tryd.ntmps83
  go_wp2
  go_ret
  exact ⟨rfl, below_one _ _⟩
/-- A variable that holds a matrix. -/
def BoxMx (w : World) (B : Nat) (m : Mx) : Prop := ∃ s, w.cell? ⟨B, 0, none⟩ = some (.int .i64 m.rows) ∧ w.cell? ⟨B, 1, none⟩ = some (.int .i64 m.cols) ∧ w.cell? ⟨B, 2, none⟩ = some s ∧ IsInts w s m.cells
theorem BoxMx.below {w w' : World} {B : Nat} {m : Mx} (h : BoxMx w B m) (hb : Below w.heap.size w w') : BoxMx w' B m := by
  obtain ⟨s, h0, h1, h2, h3⟩ := h
  exact ⟨s, cell_below hb h0, cell_below hb h1, cell_below hb h2, h3.below hb⟩
set_option maxHeartbeats 400000 in
theorem turn_gives (B : Nat) (m : Mx) (R C : Nat) (w : World) (hB : BoxMx w B m) (hc : m.cols = (C : Int)) (hR : R ≤ 24) (hC : C ≤ 24) (hl : m.cells.length = R * C) :
    Gives 126 #[.pointer (some ⟨B, 0, none⟩)] C R (fun i j => (m.cells[j * C + i]?).getD 0) w := by
  intro W i j xi xj hxi hxj hi hj hb
  obtain ⟨s, d0, d1, d2, hs⟩ := hB.below hb
  obtain ⟨sa, sn, sc, rfl⟩ := hs.shape
  have hm : IsMx W (.agg #[.int .i64 m.rows, .int .i64 m.cols, .slice sa sn sc]) m := ⟨_, rfl, hs⟩
  have HC := hide (at_any _ m R C j i xj xi W hm hc hR hC hl hxj hxi hj hi)
  clear hs hm hb hB hl hc hxi hxj
  go_enter Tryd.func126, Tryd.ntmps126
  go_wp2_with (go_at_call 83; refine HC.out.mono ?_; rintro e w1 ⟨rfl, hb1⟩)
  go_ret
  exact ⟨rfl, hb1⟩
set_option maxHeartbeats 400000 in
theorem rows_gives (B F : Nat) (m : Mx) (R C f n : Nat) (xf : Int) (w : World) (hB : BoxMx w B m) (hF : w.cell? ⟨F, 0, none⟩ = some (.int .i64 xf)) (hxf : xf = (f : Int)) (hc : m.cols = (C : Int)) (hR : R ≤ 24) (hC : C ≤ 24) (hl : m.cells.length = R * C) (hfn : f + n ≤ R) :
    Gives 82 #[.pointer (some ⟨B, 0, none⟩), .pointer (some ⟨F, 0, none⟩)] n C (fun i j => (m.cells[(f + i) * C + j]?).getD 0) w := by
  intro W i j xi xj hxi hxj hi hj hb
  obtain ⟨s, d0, d1, d2, hs⟩ := hB.below hb
  have d3 := cell_below hb hF
  obtain ⟨sa, sn, sc, rfl⟩ := hs.shape
  have hm : IsMx W (.agg #[.int .i64 m.rows, .int .i64 m.cols, .slice sa sn sc]) m := ⟨_, rfl, hs⟩
  have HC := hide (at_any _ m R C (f + i) j (xf + xi) xj W hm hc hR hC hl (by omega) hxj (by omega) hj)
  have u1 := wrap_in (x := xf + xi) (by omega) (by omega)
  have b0 : 0 ≤ xf ∧ xf ≤ 24 := by omega
  have b1 : 0 ≤ xi ∧ xi ≤ 24 := by omega
  clear hs hm hb hB hl hc hxi hxj hF hxf
  go_enter Tryd.func82, Tryd.ntmps82
  go_wp2_with (go_at_call 83; refine HC.out.mono ?_; rintro e w1 ⟨rfl, hb1⟩)
  go_ret
  exact ⟨rfl, hb1⟩
set_option maxHeartbeats 800000 in
set_option maxRecDepth 100000 in
theorem mul_gives (A B : Nat) (m k : Mx) (Ra Ca Cb : Nat) (w : World) (hA : BoxMx w A m) (hB : BoxMx w B k) (hc : m.cols = (Ca : Int)) (hc' : k.cols = (Cb : Int)) (hRa : Ra ≤ 24) (hCa : Ca ≤ 24) (hCb : Cb ≤ 24) (hl : m.cells.length = Ra * Ca) (hl' : k.cells.length = Ca * Cb) :
    Gives 123 #[.pointer (some ⟨A, 0, none⟩), .pointer (some ⟨B, 0, none⟩)] Ra Cb (fun i j => dot m.cells k.cells Ca Cb i j Ca) w := by
  intro W i j xi xj hxi hxj hi hj hb
  have hA1 := hA.below hb
  have hB1 := hB.below hb
  obtain ⟨s, d0, d1, d2, hs⟩ := hA1
  obtain ⟨sa, sn, sc, rfl⟩ := hs.shape
  have hm : IsMx W (.agg #[.int .i64 m.rows, .int .i64 m.cols, .slice sa sn sc]) m := ⟨_, rfl, hs⟩
  obtain ⟨t, e0, e1, e2, ht⟩ := hB1
  obtain ⟨ta, tn, tc, rfl⟩ := ht.shape
  have hk : IsMx W (.agg #[.int .i64 k.rows, .int .i64 k.cols, .slice ta tn tc]) k := ⟨_, rfl, ht⟩
  have HC := hide (fun W' (h : Below W.heap.size W W') (l : Nat) (xl : Int) (hxl : xl = (l : Int)) (hlt : l < Ca) => at_any _ m Ra Ca i l xi xl W' (hm.below h) hc hRa hCa hl hxi hxl hi hlt)
  have HD := hide (fun W' (h : Below W.heap.size W W') (l : Nat) (xl : Int) (hxl : xl = (l : Int)) (hlt : l < Ca) => at_any _ k Ca Cb l j xl xj W' (hk.below h) hc' hCa hCb hl' hxl hxj hlt hj)
  have HA := hide (And.intro d0 (And.intro d1 d2))
  have HB := hide (And.intro e0 (And.intro e1 e2))
  obtain ⟨c, ec⟩ : ∃ c, m.cols = c := ⟨_, rfl⟩
  have hcc : c = (Ca : Int) := by rw [← ec]; exact hc
  have HCC := hide hcc
  rw [ec] at HC HA d1
  clear hs hm hb hA hB hl hc hxi hxj hk ht hl' hc' ec hcc
  go_enter Tryd.func123, Tryd.ntmps123
  go_wp2
  go_loopw [7, 11] (fun v a wr => ∃ (l : Nat) (xl : Int), l ≤ Ca ∧ xl = (l : Int) ∧ a = .int .i64 xl ∧ v = .int .i64 (dot m.cells k.cells Ca Cb i j l) ∧ Below W.heap.size W wr) (fun _ a _ => Ca - (intOf a).toNat)
  case atStart => exact ⟨0, 0, Nat.zero_le _, rfl, rfl, rfl, Below.refl _ _⟩
  case round =>
    obtain ⟨l, xl, hl, hxl, rfl, rfl, hbw⟩ := hrel
    have HBW := hide hbw
    have HXL := hide hxl
    have hxl0 : 0 ≤ xl := by omega
    have hxl1 : xl ≤ 24 := by omega
    have a0 := cell_below hbw HA.out.1
    have a1 := cell_below hbw HA.out.2.1
    have a2 := cell_below hbw HA.out.2.2
    have b0 := cell_below hbw HB.out.1
    have b1 := cell_below hbw HB.out.2.1
    have b2 := cell_below hbw HB.out.2.2
    clear hbw hxl d0 d1 d2 e0 e1 e2
    by_cases hlt : xl < c
    · have hlC : l < Ca := by have := HXL.out; have := HCC.out; omega
      have HB0 := hide (show Below W.heap.size W wr.drew from ⟨HBW.out.os, HBW.out.tape, HBW.out.output, HBW.out.size, HBW.out.block⟩)
      go_wp2
      go_region_held3 (fun W' => W'.cell? ⟨A, 0, none⟩ = some (.int .i64 m.rows) ∧ W'.cell? ⟨A, 1, none⟩ = some (.int .i64 c) ∧ W'.cell? ⟨A, 2, none⟩ = some (.slice sa sn sc) ∧ W'.cell? ⟨B, 0, none⟩ = some (.int .i64 k.rows) ∧ W'.cell? ⟨B, 1, none⟩ = some (.int .i64 k.cols) ∧ W'.cell? ⟨B, 2, none⟩ = some (.slice ta tn tc)) (go_keep)
        (first
          | (go_at_call 83; refine (HD.out _ HB1.out l xl HXL.out hlC).mono ?_; rintro e w2 ⟨rfl, hb2⟩; have HB2 := hide (HB1.out.trans (hb2.mono HB1.out.size)); have h0 := cell_below HB2.out HA.out.1; have h1 := cell_below HB2.out HA.out.2.1; have h2 := cell_below HB2.out HA.out.2.2; have i0 := cell_below HB2.out HB.out.1; have i1 := cell_below HB2.out HB.out.2.1; have i2 := cell_below HB2.out HB.out.2.2; clear hb2)
          | (go_at_call 83; refine (HC.out _ HB0.out l xl HXL.out hlC).mono ?_; rintro e w1 ⟨rfl, hb1⟩; have HB1 := hide (HB0.out.trans (hb1.mono HB0.out.size)); have f0 := cell_below HB1.out HA.out.1; have f1 := cell_below HB1.out HA.out.2.1; have f2 := cell_below HB1.out HA.out.2.2; have g0 := cell_below HB1.out HB.out.1; have g1 := cell_below HB1.out HB.out.2.1; have g2 := cell_below HB1.out HB.out.2.2; clear hb1)
          | (go_at_call 69; refine (add_any _ _ _).mono ?_; rintro e w3 ⟨rfl, rfl⟩)
          | (go_at_call 70; refine (mul_any _ _ _).mono ?_; rintro e w3 ⟨rfl, rfl⟩))
      go_wp2
      go_roundw
      case rel => exact ⟨l + 1, _, by omega, by have := HXL.out; omega, rfl, rfl, HB2.out⟩
      case measure => have := HXL.out; simp [intOf]; omega
    · go_wp2
      go_ret
      exact ⟨ret_int (by rw [show l = Ca by have := HXL.out; have := HCC.out; omega]), HBW.out⟩
end Go.Proofs.YtjmmplpecmnlnadDoor
/- What Mul, Turn and Rows of package mat come to. -/
namespace Go.Proofs.YtjmmplpecmnlnadDoor
open Go.RowKit
/-- A matrix that Check takes, by its plain numbers. -/
structure Good (m : Mx) (R C : Nat) : Prop where
  r : m.rows = (R : Int)
  c : m.cols = (C : Int)
  hR : R ≤ 24
  hC : C ≤ 12
  l : m.cells.length = R * C
  e : m.cells.all inEnds = true
theorem good_of {m : Mx} (h : fault m = 0) : ∃ R C, Good m R C := by
  unfold fault at h
  by_cases h1 : okSides m = false
  · rw [if_pos h1] at h; cases h
  · rw [if_neg h1] at h
    by_cases h2 : (m.cells.length : Int) ≠ m.rows * m.cols
    · rw [if_pos h2] at h; cases h
    · rw [if_neg h2] at h
      by_cases h3 : m.cells.all inEnds = false
      · rw [if_pos h3] at h; cases h
      · simp [okSides] at h1
        have hr : m.rows = (m.rows.toNat : Int) := by omega
        have hc : m.cols = (m.cols.toNat : Int) := by omega
        refine ⟨m.rows.toNat, m.cols.toNat, hr, hc, by omega, by omega, ?_, by simpa using h3⟩
        have : (m.cells.length : Int) = m.rows * m.cols := by simpa using h2
        rw [hr, hc] at this
        have e : ((m.rows.toNat : Int) * (m.cols.toNat : Int)) = ((m.rows.toNat * m.cols.toNat : Nat) : Int) := by simp
        rw [e] at this
        omega
theorem Good.fault {m : Mx} {R C : Nat} (h : Good m R C) : fault m = 0 := by
  obtain ⟨r, c, hR, hC, l, e⟩ := h
  rw [← fault_none (m := m) (by simp [okSides]; omega) (by rw [l, r, c]; simp) e]
theorem mxs_two {w : World} {a b : Mx} {sa sb : Value} (ha : IsInts w sa a.cells) (hb : IsInts w sb b.cells) (t : TypeId) :
    IsMxs (w.alloc (.cells #[.int .i64 a.rows, .int .i64 a.cols, sa, .int .i64 b.rows, .int .i64 b.cols, sb] t)) (.slice (some ⟨w.heap.size, 0, none⟩) 2 2) [a, b] := by
  refine ⟨_, 2, rfl, Nat.le_refl _, by unfold maxLen; omega, .inr ⟨w.heap.size, 0, rfl, fun i m hm => ?_⟩⟩
  match i, hm with
  | 0, hm => simp at hm; subst hm; exact ⟨sa, by simp, by simp, by simp, ha.below (below_one _ _)⟩
  | 1, hm => simp at hm; subst hm; exact ⟨sb, by simp, by simp, by simp, hb.below (below_one _ _)⟩
theorem mxs_one {w : World} {a : Mx} {sa : Value} (ha : IsInts w sa a.cells) (t : TypeId) :
    IsMxs (w.alloc (.cells #[.int .i64 a.rows, .int .i64 a.cols, sa] t)) (.slice (some ⟨w.heap.size, 0, none⟩) 1 1) [a] := by
  refine ⟨_, 1, rfl, Nat.le_refl _, by unfold maxLen; omega, .inr ⟨w.heap.size, 0, rfl, fun i m hm => ?_⟩⟩
  match i, hm with
  | 0, hm => simp at hm; subst hm; exact ⟨sa, by simp, by simp, by simp, ha.below (below_one _ _)⟩
def noMx : Mx := ⟨0, 0, []⟩
theorem isMx_no (w : World) : IsMx w (.agg #[.int .i64 0, .int .i64 0, .slice none 0 0]) noMx := ⟨_, rfl, IsInts.nil w⟩
theorem box_of {w : World} {m : Mx} {s : Value} (h : IsInts w s m.cells) (t : TypeId) : BoxMx (w.alloc (.cells #[.int .i64 m.rows, .int .i64 m.cols, s] t)) w.heap.size m :=
  ⟨s, by simp, by simp, by simp, h.below (below_one _ _)⟩
theorem box_new (V : World) (cs : Array Value) (t : TypeId) {B j : Nat} {x : Value} (hB : V.heap.size = B) (h : cs[j]? = some x) : (V.alloc (.cells cs t)).cell? ⟨B, j, none⟩ = some x := by
  subst hB; exact (World.cell?_alloc_at _ _ _ _ rfl).trans h
theorem box_free (V : World) (cs : Array Value) (t : TypeId) {B : Nat} (hB : V.heap.size = B) (j : Nat) : (V.alloc (.cells cs t)).frozen? ⟨B, j, none⟩ = false := by
  subst hB; simp
/-- The box of a result, in a world where nothing old has turned since. -/
structure ResBox (w : World) (B : Nat) : Prop where
  c0 : w.cell? ⟨B, 0, none⟩ = some (.int .i64 0)
  c1 : w.cell? ⟨B, 1, none⟩ = some (.int .i64 0)
  c2 : w.cell? ⟨B, 2, none⟩ = some (.slice none 0 0)
  f : ∀ j, w.frozen? ⟨B, j, none⟩ = false
theorem ResBox.new (V : World) (t : TypeId) {B : Nat} (hB : V.heap.size = B) : ResBox (V.alloc (.cells #[.int .i64 0, .int .i64 0, .slice none 0 0] t)) B :=
  ⟨box_new V _ t hB rfl, box_new V _ t hB rfl, box_new V _ t hB rfl, box_free V _ t hB⟩
theorem ResBox.below {w w' : World} {B : Nat} (h : ResBox w B) (hb : Below w.heap.size w w') : ResBox w' B := by
  have hlt := World.block_lt_of_cell? w _ h.c0
  exact ⟨cell_below hb h.c0, cell_below hb h.c1, cell_below hb h.c2, fun j => (hb.frozen (p := ⟨B, j, none⟩) hlt).trans (h.f j)⟩
theorem eqF {x y : Int} (h : x = y) : (x != y) = false := by simp [h]
theorem eqT {x y : Int} (h : ¬ x = y) : (x != y) = true := by simp [h]
/-- What Mul says. -/
def mulE (a b : Mx) : Int := if faults [a, b] ≠ 0 then faults [a, b] else if a.cols ≠ b.rows then 2 else 0
/-- What Mul gives. -/
def mulX (a b : Mx) : Mx := if mulE a b = 0 then ⟨a.rows, b.cols, tab (a.rows.toNat * b.cols.toNat) (fun q => dot a.cells b.cells a.cols.toNat b.cols.toNat (q / b.cols.toNat) (q % b.cols.toNat) a.cols.toNat)⟩ else noMx
theorem mulX_no {a b : Mx} (h : mulE a b ≠ 0) : mulX a b = noMx := by unfold mulX; rw [if_neg h]
theorem mulX_yes {a b : Mx} {Ra Ca Cb : Nat} (h : mulE a b = 0) (e1 : a.rows = (Ra : Int)) (e2 : a.cols = (Ca : Int)) (e3 : b.cols = (Cb : Int)) : mulX a b = ⟨Ra, Cb, tab (Ra * Cb) (fun q => dot a.cells b.cells Ca Cb (q / Cb) (q % Cb) Ca)⟩ := by
  unfold mulX; rw [if_pos h, e1, e2, e3]; simp
theorem faults_two {a b : Mx} (h : faults [a, b] = 0) : fault a = 0 ∧ fault b = 0 := by
  unfold faults at h
  by_cases h1 : fault a = 0
  · rw [if_pos h1] at h
    unfold faults at h
    by_cases h2 : fault b = 0
    · exact ⟨h1, h2⟩
    · rw [if_neg h2] at h; exact absurd h h2
  · rw [if_neg h1] at h; exact absurd h h1
theorem faults_one (a : Mx) : faults [a] = fault a := by
  unfold faults; split
  · rename_i h; rw [h]; rfl
  · rfl
theorem NewInts.fresh {base B : Nat} {w : World} {s : Value} {zs : List Int} (h : NewInts base w s zs) (hB : B ≤ base) (r c : Value) : Fresh B (.agg #[r, c, s]) := by
  obtain ⟨a, cap, rfl, _, _, h4⟩ := h
  intro r' c' x n k e
  simp at e
  rcases h4 with h0 | ⟨b, off, ha, hb, _⟩
  · left; rw [← e.2.2.2.1, h0]; rfl
  · right
    have e3 := e.2.2.1
    rw [ha] at e3
    have := Option.some.inj e3
    rw [← this]
    exact Nat.le_trans hB hb
/-- What a call that gives a matrix and an error comes to; the matrix lies in new memory. -/
def MxErr (w : World) (m : Mx) (k : Int) (e : Ending) (w' : World) : Prop := ∃ v', e = .returned (.tuple #[v', errV k]) ∧ IsMx w' v' m ∧ Below w.heap.size w w' ∧ Fresh w.heap.size v'
set_option maxHeartbeats 800000 in
theorem mmul_any (va vb : Value) (ma mb : Mx) (w : World) (hva : IsMx w va ma) (hvb : IsMx w vb mb) :
    Calls Tryd.prog 119 #[va, vb] w (MxErr w (mulX ma mb) (mulE ma mb)) := by
  obtain ⟨sa, rfl, hsa⟩ := hva
  obtain ⟨sb, rfl, hsb⟩ := hvb
  have b0 := below_one w (.cells #[.int .i64 ma.rows, .int .i64 ma.cols, sa] 25)
  have b1 := b0.trans ((below_one _ (.cells #[.int .i64 mb.rows, .int .i64 mb.cols, sb] 25)).mono b0.size)
  have b2 := b1.trans ((below_one _ (.cells #[.int .i64 0, .int .i64 0, .slice none 0 0] 25)).mono b1.size)
  have hmx := mxs_two (hsa.below b2) (hsb.below b2) 25
  have hch := checks_any _ _ _ hmx
  have HCH := hide hch
  clear hmx hch
  obtain ⟨W2, hW2⟩ : ∃ W2, W2 = ((w.alloc (.cells #[.int .i64 ma.rows, .int .i64 ma.cols, sa] 25)).alloc (.cells #[.int .i64 mb.rows, .int .i64 mb.cols, sb] 25)).alloc (.cells #[.int .i64 0, .int .i64 0, .slice none 0 0] 25) := ⟨_, rfl⟩
  have A0 : BoxMx W2 w.heap.size ma := by
    have h := box_of hsa 25
    rw [hW2]; exact (h.below (below_one _ _)).below (below_one _ _)
  have A1 : BoxMx W2 (w.heap.size + 1) mb := by
    have h := box_of (hsb.below b0) 25
    rw [hW2]; have := h.below (below_one _ (.cells #[.int .i64 0, .int .i64 0, .slice none 0 0] 25)); simpa using this
  have hW2s : W2.heap.size = w.heap.size + 3 := by rw [hW2]; simp
  have hW2b : Below w.heap.size w W2 := by rw [hW2]; exact b2
  have hQ : ResBox W2 (w.heap.size + 1 + 1) := by rw [hW2]; exact ResBox.new _ _ (by simp)
  rw [← hW2] at HCH
  have HQ := hide hQ
  have HW2 := hide hW2
  have HA0 := hide A0
  have HA1 := hide A1
  have HS := hide hW2s
  have HB := hide hW2b
  clear b0 b1 b2 hsa hsb A0 A1 hQ hW2s hW2b hW2
  go_enter Tryd.func119, Tryd.ntmps119
  go_wp2_with fail
  rw [← HW2.out]
  have h := HCH.out
  rw [HS.out] at h
  refine h.mono ?_
  clear h
  rintro e w3 ⟨rfl, hb3⟩
  have hb := (below_one W2 _).trans (hb3.mono (by simp))
  have HB3 := hide hb
  have p := HQ.out.below hb
  have p0 := p.c0
  have p1 := p.c1
  have p2 := p.c2
  have p3 := p.f 0
  have p4 := p.f 1
  have p5 := p.f 2
  clear hb hb3 p HCH HQ
  have HW := hide (HB.out.trans (HB3.out.mono HB.out.size))
  have ret0 : ∀ (t u : Value), Below w.heap.size w (((w3.setCell ⟨w.heap.size + 1 + 1, 0, none⟩ t).setCell ⟨w.heap.size + 1 + 1, 1, none⟩ u).setCell ⟨w.heap.size + 1 + 1, 2, none⟩ (.slice none 0 0)) := fun t u => ((HW.out.setCell (by simp; omega) _).setCell (by simp; omega) _).setCell (by simp; omega) _
  have HRT := hide ret0
  clear ret0
  by_cases hf : faults [ma, mb] = 0
  · rw [err_eq hf]
    obtain ⟨fa, fb⟩ := faults_two hf
    obtain ⟨Ra, Ca, ga⟩ := good_of fa
    obtain ⟨Rb, Cb, gb⟩ := good_of fb
    obtain ⟨s0, d0, d1, d2, hi0⟩ := HA0.out.below HB3.out
    obtain ⟨t0, e0, e1, e2, hi1⟩ := HA1.out.below HB3.out
    by_cases hs : ma.cols = mb.rows
    · have hE : mulE ma mb = 0 := by unfold mulE; rw [if_neg (by simp [hf]), if_neg (by simp [hs])]
      have HE := hide hE
      have hb' := eqF hs
      have eg := enters_of (f := 123) Tryd.func123 (by kernel_rfl) rfl
      have hCb : Ca = Rb := by have := ga.c; have := gb.r; omega
      have hg := mul_gives w.heap.size (w.heap.size + 1) ma mb Ra Ca Cb w3 (HA0.out.below HB3.out) (HA1.out.below HB3.out) ga.c gb.c ga.hR (by have := ga.hC; omega) (by have := gb.hC; omega) ga.l (by rw [hCb]; exact gb.l)
      have hfl := fill_any _ _ eg Ra Cb ma.rows mb.cols ga.r gb.c ga.hR (by have := gb.hC; omega) _ w3 hg
      have HF := hide hfl
      have HG := hide (And.intro ga gb)
      clear hg hfl eg hs hE hf ga gb fa fb hi0 hi1
      go_wp2_with fail
      refine HF.out.mono ?_
      rintro e w4 ⟨xa, xn, xc, rfl, hnew, hb4⟩
      have HN := hide hnew
      have HB4 := hide hb4
      have o0 := cell_below hb4 p0
      have o1 := cell_below hb4 p1
      have o2 := cell_below hb4 p2
      have hlt : w.heap.size + 1 + 1 < w3.heap.size := World.block_lt_of_cell? w3 _ p0
      have o3 := (hb4.frozen (p := ⟨w.heap.size + 1 + 1, 0, none⟩) hlt).trans p3
      have o4 := (hb4.frozen (p := ⟨w.heap.size + 1 + 1, 1, none⟩) hlt).trans p4
      have o5 := (hb4.frozen (p := ⟨w.heap.size + 1 + 1, 2, none⟩) hlt).trans p5
      have HLT := hide hlt
      clear hnew hb4 hlt p0 p1 p2 p3 p4 p5 d0 d1 d2 e0 e1 e2
      go_wp2
      refine bodyPost_ret (v := .tuple #[.agg #[.int .i64 ma.rows, .int .i64 mb.cols, .slice xa xn xc], .nilIface]) (by simp [results, Tryd.results119, go_sem, o0, o1, o2]) rfl ⟨_, by rw [HE.out]; rfl, ?_, ?_, HN.out.fresh HW.out.size _ _⟩
      · rw [mulX_yes HE.out HG.out.1.r HG.out.1.c HG.out.2.c]
        exact ⟨_, by rw [HG.out.1.r, HG.out.2.c], (((HN.out.set HLT.out _ _).set HLT.out _ _).set HLT.out _ _).isInts⟩
      · exact (((HW.out.trans (HB4.out.mono HW.out.size)).setCell (by simp; omega) _).setCell (by simp; omega) _).setCell (by simp; omega) _
    · have hE : mulE ma mb = 2 := by unfold mulE; rw [if_neg (by simp [hf]), if_pos (by simp [hs])]
      have HE := hide hE
      have hb' := eqT hs
      clear hs hE hf ga gb fa fb hi0 hi1
      go_wp2
      refine bodyPost_ret (v := .tuple #[.agg #[.int .i64 0, .int .i64 0, .slice none 0 0], .iface 30 (.int .i64 2)]) (by simp [results, Tryd.results119, go_sem, p0, p1, p2]) rfl ⟨_, by rw [HE.out]; rfl, by rw [mulX_no (by rw [HE.out]; decide)]; exact isMx_no _, HRT.out _ _, fresh_no _ _ _⟩
  · have hE : mulE ma mb = faults [ma, mb] := by unfold mulE; rw [if_pos hf]
    have HE := hide (And.intro hE hf)
    rw [err_ne hf]
    obtain ⟨k, hk⟩ : ∃ k, faults [ma, mb] = k := ⟨_, rfl⟩
    rw [hk] at HE ⊢
    clear hE hf hk
    go_wp2
    refine bodyPost_ret (v := .tuple #[.agg #[.int .i64 0, .int .i64 0, .slice none 0 0], .iface 30 (.int .i64 k)]) (by simp [results, Tryd.results119, go_sem, p0, p1, p2]) rfl ⟨_, by rw [HE.out.1, err_ne HE.out.2], by rw [mulX_no (by rw [HE.out.1]; exact HE.out.2)]; exact isMx_no _, HRT.out _ _, fresh_no _ _ _⟩
end Go.Proofs.YtjmmplpecmnlnadDoor
/- What the closures of Add, Times and Sums of package mat come to. -/
namespace Go.Proofs.YtjmmplpecmnlnadDoor
open Go.RowKit
set_option maxHeartbeats 400000 in
theorem add_gives (A B : Nat) (m k : Mx) (R C : Nat) (w : World) (hA : BoxMx w A m) (hB : BoxMx w B k) (hc : m.cols = (C : Int)) (hc' : k.cols = (C : Int)) (hR : R ≤ 24) (hC : C ≤ 24) (hl : m.cells.length = R * C) (hl' : k.cells.length = R * C) :
    Gives 86 #[.pointer (some ⟨A, 0, none⟩), .pointer (some ⟨B, 0, none⟩)] R C (fun i j => ad ((m.cells[i * C + j]?).getD 0) ((k.cells[i * C + j]?).getD 0)) w := by
  intro W i j xi xj hxi hxj hi hj hb
  obtain ⟨s, d0, d1, d2, hs⟩ := hA.below hb
  obtain ⟨t, e0, e1, e2, ht⟩ := hB.below hb
  obtain ⟨sa, sn, sc, rfl⟩ := hs.shape
  obtain ⟨ta, tn, tc, rfl⟩ := ht.shape
  have hm : IsMx W (.agg #[.int .i64 m.rows, .int .i64 m.cols, .slice sa sn sc]) m := ⟨_, rfl, hs⟩
  have hk : IsMx W (.agg #[.int .i64 k.rows, .int .i64 k.cols, .slice ta tn tc]) k := ⟨_, rfl, ht⟩
  have HC := hide (fun W' (h : Below W.heap.size W W') => at_any _ m R C i j xi xj W' (hm.below h) hc hR hC hl hxi hxj hi hj)
  have HD := hide (fun W' (h : Below W.heap.size W W') => at_any _ k R C i j xi xj W' (hk.below h) hc' hR hC hl' hxi hxj hi hj)
  have HA := hide (And.intro d0 (And.intro d1 d2))
  have HB := hide (And.intro e0 (And.intro e1 e2))
  have HB0 := hide (show Below W.heap.size W W.drew from ⟨rfl, rfl, rfl, Nat.le_refl _, fun _ _ => rfl⟩)
  clear hs hm hb hB hl hc hxi hxj hA hk ht hl' hc'
  go_enter Tryd.func86, Tryd.ntmps86
  go_wp2_with fail
  go_region_held3 (fun W' => W'.cell? ⟨A, 0, none⟩ = some (.int .i64 m.rows) ∧ W'.cell? ⟨A, 1, none⟩ = some (.int .i64 m.cols) ∧ W'.cell? ⟨A, 2, none⟩ = some (.slice sa sn sc) ∧ W'.cell? ⟨B, 0, none⟩ = some (.int .i64 k.rows) ∧ W'.cell? ⟨B, 1, none⟩ = some (.int .i64 k.cols) ∧ W'.cell? ⟨B, 2, none⟩ = some (.slice ta tn tc)) (go_keep)
    (first
      | (go_at_call 83; refine (HD.out _ HB1.out).mono ?_; rintro e w2 ⟨rfl, hb2⟩; have HB2 := hide (HB1.out.trans (hb2.mono HB1.out.size)); have h0 := cell_below HB2.out HA.out.1; have h1 := cell_below HB2.out HA.out.2.1; have h2 := cell_below HB2.out HA.out.2.2; have i0 := cell_below HB2.out HB.out.1; have i1 := cell_below HB2.out HB.out.2.1; have i2 := cell_below HB2.out HB.out.2.2; clear hb2)
      | (go_at_call 83; refine (HC.out _ HB0.out).mono ?_; rintro e w1 ⟨rfl, hb1⟩; have HB1 := hide (HB0.out.trans (hb1.mono HB0.out.size)); have f0 := cell_below HB1.out HA.out.1; have f1 := cell_below HB1.out HA.out.2.1; have f2 := cell_below HB1.out HA.out.2.2; have g0 := cell_below HB1.out HB.out.1; have g1 := cell_below HB1.out HB.out.2.1; have g2 := cell_below HB1.out HB.out.2.2; clear hb1)
      | (go_at_call 69; refine (add_any _ _ _).mono ?_; rintro e w3 ⟨rfl, rfl⟩))
  go_wp2
  go_ret
  exact ⟨rfl, HB2.out⟩
set_option maxHeartbeats 400000 in
theorem times_gives (A X : Nat) (m : Mx) (x : Int) (R C : Nat) (w : World) (hA : BoxMx w A m) (hX : w.cell? ⟨X, 0, none⟩ = some (.int .i64 x)) (hc : m.cols = (C : Int)) (hR : R ≤ 24) (hC : C ≤ 24) (hl : m.cells.length = R * C) :
    Gives 139 #[.pointer (some ⟨A, 0, none⟩), .pointer (some ⟨X, 0, none⟩)] R C (fun i j => ml ((m.cells[i * C + j]?).getD 0) x) w := by
  intro W i j xi xj hxi hxj hi hj hb
  obtain ⟨s, d0, d1, d2, hs⟩ := hA.below hb
  have d3 := cell_below hb hX
  obtain ⟨sa, sn, sc, rfl⟩ := hs.shape
  have hm : IsMx W (.agg #[.int .i64 m.rows, .int .i64 m.cols, .slice sa sn sc]) m := ⟨_, rfl, hs⟩
  have HC := hide (fun W' (h : Below W.heap.size W W') => at_any _ m R C i j xi xj W' (hm.below h) hc hR hC hl hxi hxj hi hj)
  have HA := hide (And.intro d0 (And.intro d1 (And.intro d2 d3)))
  have HB0 := hide (show Below W.heap.size W W.drew from ⟨rfl, rfl, rfl, Nat.le_refl _, fun _ _ => rfl⟩)
  clear hs hm hb hl hc hxi hxj hA hX
  go_enter Tryd.func139, Tryd.ntmps139
  go_wp2_with fail
  go_region_held3 (fun W' => W'.cell? ⟨A, 0, none⟩ = some (.int .i64 m.rows) ∧ W'.cell? ⟨A, 1, none⟩ = some (.int .i64 m.cols) ∧ W'.cell? ⟨A, 2, none⟩ = some (.slice sa sn sc) ∧ W'.cell? ⟨X, 0, none⟩ = some (.int .i64 x)) (go_keep)
    (first
      | (go_at_call 83; refine (HC.out _ HB0.out).mono ?_; rintro e w1 ⟨rfl, hb1⟩; have HB1 := hide (HB0.out.trans (hb1.mono HB0.out.size)); have f0 := cell_below HB1.out HA.out.1; have f1 := cell_below HB1.out HA.out.2.1; have f2 := cell_below HB1.out HA.out.2.2.1; have f3 := cell_below HB1.out HA.out.2.2.2; clear hb1)
      | (go_at_call 70; refine (mul_any _ _ _).mono ?_; rintro e w3 ⟨rfl, rfl⟩))
  go_wp2
  go_ret
  exact ⟨rfl, HB1.out⟩
set_option maxHeartbeats 800000 in
set_option maxRecDepth 100000 in
theorem sums_gives (A : Nat) (m : Mx) (R C : Nat) (w : World) (hA : BoxMx w A m) (hr : m.rows = (R : Int)) (hc : m.cols = (C : Int)) (hR : R ≤ 24) (hC : C ≤ 24) (hl : m.cells.length = R * C) :
    Gives 127 #[.pointer (some ⟨A, 0, none⟩)] 1 C (fun _ j => colS m.cells C j R) w := by
  intro W i j xi xj hxi hxj hi hj hb
  have hA1 := hA.below hb
  obtain ⟨s, d0, d1, d2, hs⟩ := hA1
  obtain ⟨sa, sn, sc, rfl⟩ := hs.shape
  have hm : IsMx W (.agg #[.int .i64 m.rows, .int .i64 m.cols, .slice sa sn sc]) m := ⟨_, rfl, hs⟩
  have HC := hide (fun W' (h : Below W.heap.size W W') (l : Nat) (xl : Int) (hxl : xl = (l : Int)) (hlt : l < R) => at_any _ m R C l j xl xj W' (hm.below h) hc hR hC hl hxl hxj hlt hj)
  have HA := hide (And.intro d0 (And.intro d1 d2))
  obtain ⟨r, er⟩ : ∃ r, m.rows = r := ⟨_, rfl⟩
  have hrr : r = (R : Int) := by rw [← er]; exact hr
  have HRR := hide hrr
  rw [er] at HC HA d0
  clear hs hm hb hA hl hc hxi hxj hr er hrr
  go_enter Tryd.func127, Tryd.ntmps127
  go_wp2
  go_loopw [6, 10] (fun v a wr => ∃ (l : Nat) (xl : Int), l ≤ R ∧ xl = (l : Int) ∧ a = .int .i64 xl ∧ v = .int .i64 (colS m.cells C j l) ∧ Below W.heap.size W wr) (fun _ a _ => R - (intOf a).toNat)
  case atStart => exact ⟨0, 0, Nat.zero_le _, rfl, rfl, rfl, Below.refl _ _⟩
  case round =>
    obtain ⟨l, xl, hl, hxl, rfl, rfl, hbw⟩ := hrel
    have HBW := hide hbw
    have HXL := hide hxl
    have hxl0 : 0 ≤ xl := by omega
    have hxl1 : xl ≤ 24 := by omega
    have a0 := cell_below hbw HA.out.1
    have a1 := cell_below hbw HA.out.2.1
    have a2 := cell_below hbw HA.out.2.2
    clear hbw hxl d0 d1 d2
    by_cases hlt : xl < r
    · have hlR : l < R := by have := HXL.out; have := HRR.out; omega
      go_wp2_with fail
      refine (HC.out _ HBW.out l xl HXL.out hlR).mono ?_
      rintro e w1 ⟨rfl, hb1⟩
      have HB1 := hide (HBW.out.trans (hb1.mono HBW.out.size))
      clear hb1
      go_wp2_with (go_at_call 69; refine (add_any _ _ _).mono ?_; rintro e w3 ⟨rfl, rfl⟩)
      go_roundw
      case rel => exact ⟨l + 1, _, by omega, by have := HXL.out; omega, rfl, rfl, HB1.out⟩
      case measure => have := HXL.out; simp [intOf]; omega
    · go_wp2
      go_ret
      exact ⟨ret_int (by rw [show l = R by have := HXL.out; have := HRR.out; omega]), HBW.out⟩
end Go.Proofs.YtjmmplpecmnlnadDoor
/- What Add, Times and Sums of package mat come to. -/
namespace Go.Proofs.YtjmmplpecmnlnadDoor
open Go.RowKit
/-- What Add says. -/
def addE (a b : Mx) : Int := if faults [a, b] ≠ 0 then faults [a, b] else if a.rows ≠ b.rows ∨ a.cols ≠ b.cols then 2 else 0
/-- What Add gives. -/
def addX (a b : Mx) : Mx := if addE a b = 0 then ⟨a.rows, a.cols, tab (a.rows.toNat * a.cols.toNat) (fun q => ad ((a.cells[q]?).getD 0) ((b.cells[q]?).getD 0))⟩ else noMx
theorem addX_no {a b : Mx} (h : addE a b ≠ 0) : addX a b = noMx := by unfold addX; rw [if_neg h]
set_option maxHeartbeats 800000 in
theorem madd_any (va vb : Value) (ma mb : Mx) (w : World) (hva : IsMx w va ma) (hvb : IsMx w vb mb) :
    Calls Tryd.prog 66 #[va, vb] w (MxErr w (addX ma mb) (addE ma mb)) := by
  obtain ⟨sa, rfl, hsa⟩ := hva
  obtain ⟨sb, rfl, hsb⟩ := hvb
  have b0 := below_one w (.cells #[.int .i64 ma.rows, .int .i64 ma.cols, sa] 25)
  have b1 := b0.trans ((below_one _ (.cells #[.int .i64 mb.rows, .int .i64 mb.cols, sb] 25)).mono b0.size)
  have b2 := b1.trans ((below_one _ (.cells #[.int .i64 0, .int .i64 0, .slice none 0 0] 25)).mono b1.size)
  have hmx := mxs_two (hsa.below b2) (hsb.below b2) 25
  have hch := checks_any _ _ _ hmx
  have HCH := hide hch
  clear hmx hch
  obtain ⟨W2, hW2⟩ : ∃ W2, W2 = (((w.alloc (.cells #[.int .i64 ma.rows, .int .i64 ma.cols, sa] 25)).alloc (.cells #[.int .i64 mb.rows, .int .i64 mb.cols, sb] 25)).alloc (.cells #[.int .i64 0, .int .i64 0, .slice none 0 0] 25)) := ⟨_, rfl⟩
  have A0 : BoxMx W2 (w.heap.size) ma := by
    have h := box_of (hsa) 25
    rw [hW2]
    have h := h.below (below_one _ (.cells #[.int .i64 mb.rows, .int .i64 mb.cols, sb] 25))
    have h := h.below (below_one _ (.cells #[.int .i64 0, .int .i64 0, .slice none 0 0] 25))
    simpa using h
  have A1 : BoxMx W2 (w.heap.size + 1) mb := by
    have h := box_of (hsb.below b0) 25
    rw [hW2]
    have h := h.below (below_one _ (.cells #[.int .i64 0, .int .i64 0, .slice none 0 0] 25))
    simpa using h
  have hW2s : W2.heap.size = w.heap.size + 3 := by rw [hW2]; simp
  have hW2b : Below w.heap.size w W2 := by rw [hW2]; exact b2
  have hQ : ResBox W2 (w.heap.size + 1 + 1) := by rw [hW2]; exact ResBox.new _ _ (by simp)
  rw [← hW2] at HCH
  have HQ := hide hQ
  have HW2 := hide hW2
  have HA0 := hide A0
  have HA1 := hide A1
  have HS := hide hW2s
  have HB := hide hW2b
  clear b0 b1 b2 hsa hsb A0 A1 hQ hW2s hW2b hW2
  go_enter Tryd.func66, Tryd.ntmps66
  go_wp2_with fail
  rw [← HW2.out]
  have h := HCH.out
  rw [HS.out] at h
  refine h.mono ?_
  clear h
  rintro e w3 ⟨rfl, hb3⟩
  have hb := (below_one W2 _).trans (hb3.mono (by simp))
  have HB3 := hide hb
  have p := HQ.out.below hb
  have p0 := p.c0
  have p1 := p.c1
  have p2 := p.c2
  have p3 := p.f 0
  have p4 := p.f 1
  have p5 := p.f 2
  clear hb hb3 p HCH HQ
  have HW := hide (HB.out.trans (HB3.out.mono HB.out.size))
  have ret0 : ∀ (t u : Value), Below w.heap.size w (((w3.setCell ⟨w.heap.size + 1 + 1, 0, none⟩ t).setCell ⟨w.heap.size + 1 + 1, 1, none⟩ u).setCell ⟨w.heap.size + 1 + 1, 2, none⟩ (.slice none 0 0)) := fun t u => ((HW.out.setCell (by first | (simp; done) | (simp; omega)) _).setCell (by first | (simp; done) | (simp; omega)) _).setCell (by first | (simp; done) | (simp; omega)) _
  have HRT := hide ret0
  clear ret0
  by_cases hf : faults [ma, mb] = 0
  · rw [err_eq hf]
    obtain ⟨fa, fb⟩ := faults_two hf
    obtain ⟨Ra, Ca, ga⟩ := good_of fa
    obtain ⟨Rb, Cb, gb⟩ := good_of fb
    have ra1 := ga.r
    have ra2 := ga.hR
    have ra3 := ga.c
    have ra4 := ga.hC
    have ka1 : 0 ≤ ma.rows := by omega
    have ka2 : ma.rows ≤ 24 := by omega
    have ka3 : 0 ≤ ma.cols := by omega
    have ka4 : ma.cols ≤ 12 := by omega
    have rb1 := gb.r
    have rb2 := gb.hR
    have rb3 := gb.c
    have rb4 := gb.hC
    obtain ⟨s0, d00, d01, d02, hi0⟩ := HA0.out.below HB3.out
    obtain ⟨s1, d10, d11, d12, hi1⟩ := HA1.out.below HB3.out
    by_cases hs1 : ma.rows = mb.rows
    · have g1 := eqF hs1
      by_cases hs2 : ma.cols = mb.cols
      · have g2 := eqF hs2
        have HE := hide (show addE ma mb = 0 from by unfold addE; rw [if_neg (by simp [hf]), if_neg (by simp [hs1, hs2])])
        have eg := enters_of (f := 86) Tryd.func86 (by kernel_rfl) rfl
        have e1 : Ra = Rb := by omega
        have e2 : Ca = Cb := by omega
        subst e1 e2
        have hg := add_gives w.heap.size (w.heap.size + 1) ma mb Ra Ca w3 (HA0.out.below HB3.out) (HA1.out.below HB3.out) ga.c gb.c ga.hR (by omega) ga.l gb.l
        clear hs1 hs2
        have HF := hide (fill_any _ _ eg Ra Ca ma.rows ma.cols ga.r ga.c ga.hR (by omega) _ w3 hg)
        have HG := hide (And.intro ga gb)
        clear hg eg hf ga ra1 ra2 ra3 ra4 gb fa fb rb1 rb2 rb3 rb4 hi0 hi1
        go_wp2_with fail
        refine HF.out.mono ?_
        rintro e w4 ⟨xa, xn, xc, rfl, hnew, hb4⟩
        have HN := hide hnew
        have HB4 := hide hb4
        have o0 := cell_below hb4 p0
        have o1 := cell_below hb4 p1
        have o2 := cell_below hb4 p2
        have hlt : w.heap.size + 1 + 1 < w3.heap.size := World.block_lt_of_cell? w3 _ p0
        have o3 := (hb4.frozen (p := ⟨w.heap.size + 1 + 1, 0, none⟩) hlt).trans p3
        have o4 := (hb4.frozen (p := ⟨w.heap.size + 1 + 1, 1, none⟩) hlt).trans p4
        have o5 := (hb4.frozen (p := ⟨w.heap.size + 1 + 1, 2, none⟩) hlt).trans p5
        have HLT := hide hlt
        clear hnew hb4 hlt p0 p1 p2 p3 p4 p5 d00 d01 d02 d10 d11 d12
        go_wp2
        refine bodyPost_ret (v := .tuple #[.agg #[.int .i64 (ma.rows), .int .i64 (ma.cols), .slice xa xn xc], .nilIface]) (by simp [results, Tryd.results66, go_sem, o0, o1, o2]) rfl ⟨_, by rw [HE.out]; rfl, ?_, ?_, HN.out.fresh HW.out.size _ _⟩
        · have HI := (((HN.out.set HLT.out 0 (.int .i64 (ma.rows))).set HLT.out 1 (.int .i64 (ma.cols))).set HLT.out 2 (.slice xa xn xc)).isInts
          unfold addX
          rw [if_pos HE.out]
          refine ⟨_, rfl, ?_⟩
          simp only [cell_num] at HI
          rw [HG.out.1.r, HG.out.1.c] at HI ⊢
          exact HI
        · exact (((HW.out.trans (HB4.out.mono HW.out.size)).setCell (by first | (simp; done) | (simp; omega)) _).setCell (by first | (simp; done) | (simp; omega)) _).setCell (by first | (simp; done) | (simp; omega)) _
      · have g2 := eqT hs2
        have HE := hide (show addE ma mb = 2 from by unfold addE; rw [if_neg (by simp [hf]), if_pos (.inr hs2)])
        clear hf ga ra1 ra2 ra3 ra4 gb fa fb rb1 rb2 rb3 rb4 hi0 hi1
        clear hs1 hs2
        go_wp2
        refine bodyPost_ret (v := .tuple #[.agg #[.int .i64 0, .int .i64 0, .slice none 0 0], .iface 30 (.int .i64 2)]) (by simp [results, Tryd.results66, go_sem, p0, p1, p2]) rfl ⟨_, by rw [HE.out]; rfl, by rw [addX_no (by rw [HE.out]; decide)]; exact isMx_no _, HRT.out _ _, fresh_no _ _ _⟩
    · have g1 := eqT hs1
      have HE := hide (show addE ma mb = 2 from by unfold addE; rw [if_neg (by simp [hf]), if_pos (.inl hs1)])
      clear hf ga ra1 ra2 ra3 ra4 gb fa fb rb1 rb2 rb3 rb4 hi0 hi1
      clear hs1
      go_wp2
      refine bodyPost_ret (v := .tuple #[.agg #[.int .i64 0, .int .i64 0, .slice none 0 0], .iface 30 (.int .i64 2)]) (by simp [results, Tryd.results66, go_sem, p0, p1, p2]) rfl ⟨_, by rw [HE.out]; rfl, by rw [addX_no (by rw [HE.out]; decide)]; exact isMx_no _, HRT.out _ _, fresh_no _ _ _⟩
  · have hE : addE ma mb = faults [ma, mb] := by unfold addE; rw [if_pos hf]
    have HE := hide (And.intro hE hf)
    rw [err_ne hf]
    obtain ⟨k, hk⟩ : ∃ k, faults [ma, mb] = k := ⟨_, rfl⟩
    rw [hk] at HE ⊢
    clear hE hf hk
    go_wp2
    refine bodyPost_ret (v := .tuple #[.agg #[.int .i64 0, .int .i64 0, .slice none 0 0], .iface 30 (.int .i64 k)]) (by simp [results, Tryd.results66, go_sem, p0, p1, p2]) rfl ⟨_, by rw [HE.out.1, err_ne HE.out.2], by rw [addX_no (by rw [HE.out.1]; exact HE.out.2)]; exact isMx_no _, HRT.out _ _, fresh_no _ _ _⟩
/-- What Times and Sums say. -/
def timesE (a : Mx) : Int := if fault a ≠ 0 then fault a else 0
/-- What Times gives. -/
def timesX (a : Mx) (x : Int) : Mx := if timesE a = 0 then ⟨a.rows, a.cols, tab (a.rows.toNat * a.cols.toNat) (fun q => ml ((a.cells[q]?).getD 0) x)⟩ else noMx
theorem timesX_no {a : Mx} {x : Int} (h : timesE a ≠ 0) : timesX a x = noMx := by unfold timesX; rw [if_neg h]
set_option maxHeartbeats 800000 in
theorem mtimes_any (va : Value) (ma : Mx) (x : Int) (w : World) (hva : IsMx w va ma) :
    Calls Tryd.prog 138 #[va, .int .i64 x] w (MxErr w (timesX ma x) (timesE ma)) := by
  obtain ⟨sa, rfl, hsa⟩ := hva
  have b0 := below_one w (.cells #[.int .i64 ma.rows, .int .i64 ma.cols, sa] 25)
  have b1 := b0.trans ((below_one _ (.cells #[.int .i64 x] 3)).mono b0.size)
  have b2 := b1.trans ((below_one _ (.cells #[.int .i64 0, .int .i64 0, .slice none 0 0] 25)).mono b1.size)
  have hmx := mxs_one (hsa.below b2) 25
  have hch := checks_any _ _ _ hmx
  rw [faults_one] at hch
  have HCH := hide hch
  clear hmx hch
  obtain ⟨W2, hW2⟩ : ∃ W2, W2 = (((w.alloc (.cells #[.int .i64 ma.rows, .int .i64 ma.cols, sa] 25)).alloc (.cells #[.int .i64 x] 3)).alloc (.cells #[.int .i64 0, .int .i64 0, .slice none 0 0] 25)) := ⟨_, rfl⟩
  have A0 : BoxMx W2 (w.heap.size) ma := by
    have h := box_of (hsa) 25
    rw [hW2]
    have h := h.below (below_one _ (.cells #[.int .i64 x] 3))
    have h := h.below (below_one _ (.cells #[.int .i64 0, .int .i64 0, .slice none 0 0] 25))
    simpa using h
  have A1 : W2.cell? ⟨w.heap.size + 1, 0, none⟩ = some (.int .i64 x) := by
    have h := box_new (w.alloc (.cells #[.int .i64 ma.rows, .int .i64 ma.cols, sa] 25)) #[.int .i64 x] 3 (B := w.heap.size + 1) (j := 0) (x := .int .i64 x) (by simp) rfl
    rw [hW2]
    have h := cell_past h (.cells #[.int .i64 0, .int .i64 0, .slice none 0 0] 25)
    exact h
  have hW2s : W2.heap.size = w.heap.size + 3 := by rw [hW2]; simp
  have hW2b : Below w.heap.size w W2 := by rw [hW2]; exact b2
  have hQ : ResBox W2 (w.heap.size + 1 + 1) := by rw [hW2]; exact ResBox.new _ _ (by simp)
  rw [← hW2] at HCH
  have HQ := hide hQ
  have HW2 := hide hW2
  have HA0 := hide A0
  have HA1 := hide A1
  have HS := hide hW2s
  have HB := hide hW2b
  clear b0 b1 b2 hsa A0 A1 hQ hW2s hW2b hW2
  go_enter Tryd.func138, Tryd.ntmps138
  go_wp2_with fail
  rw [← HW2.out]
  have h := HCH.out
  rw [HS.out] at h
  refine h.mono ?_
  clear h
  rintro e w3 ⟨rfl, hb3⟩
  have hb := (below_one W2 _).trans (hb3.mono (by simp))
  have HB3 := hide hb
  have p := HQ.out.below hb
  have p0 := p.c0
  have p1 := p.c1
  have p2 := p.c2
  have p3 := p.f 0
  have p4 := p.f 1
  have p5 := p.f 2
  clear hb hb3 p HCH HQ
  have HW := hide (HB.out.trans (HB3.out.mono HB.out.size))
  have ret0 : ∀ (t u : Value), Below w.heap.size w (((w3.setCell ⟨w.heap.size + 1 + 1, 0, none⟩ t).setCell ⟨w.heap.size + 1 + 1, 1, none⟩ u).setCell ⟨w.heap.size + 1 + 1, 2, none⟩ (.slice none 0 0)) := fun t u => ((HW.out.setCell (by first | (simp; done) | (simp; omega)) _).setCell (by first | (simp; done) | (simp; omega)) _).setCell (by first | (simp; done) | (simp; omega)) _
  have HRT := hide ret0
  clear ret0
  by_cases hf : fault ma = 0
  · rw [err_eq hf]
    obtain ⟨Ra, Ca, ga⟩ := good_of hf
    have ra1 := ga.r
    have ra2 := ga.hR
    have ra3 := ga.c
    have ra4 := ga.hC
    have ka1 : 0 ≤ ma.rows := by omega
    have ka2 : ma.rows ≤ 24 := by omega
    have ka3 : 0 ≤ ma.cols := by omega
    have ka4 : ma.cols ≤ 12 := by omega
    obtain ⟨s0, d00, d01, d02, hi0⟩ := HA0.out.below HB3.out
    have d10 := cell_below HB3.out HA1.out
    have HE := hide (show timesE ma = 0 from by unfold timesE; rw [if_neg (by simp [hf])])
    have eg := enters_of (f := 139) Tryd.func139 (by kernel_rfl) rfl
    have hg := times_gives w.heap.size (w.heap.size + 1) ma x Ra Ca w3 (HA0.out.below HB3.out) (cell_below HB3.out HA1.out) ga.c ga.hR (by omega) ga.l
    have HF := hide (fill_any _ _ eg Ra Ca ma.rows ma.cols ga.r ga.c ga.hR (by omega) _ w3 hg)
    have HG := hide (And.intro ga trivial)
    clear hg eg hf ga ra1 ra2 ra3 ra4 hi0
    go_wp2_with fail
    refine HF.out.mono ?_
    rintro e w4 ⟨xa, xn, xc, rfl, hnew, hb4⟩
    have HN := hide hnew
    have HB4 := hide hb4
    have o0 := cell_below hb4 p0
    have o1 := cell_below hb4 p1
    have o2 := cell_below hb4 p2
    have hlt : w.heap.size + 1 + 1 < w3.heap.size := World.block_lt_of_cell? w3 _ p0
    have o3 := (hb4.frozen (p := ⟨w.heap.size + 1 + 1, 0, none⟩) hlt).trans p3
    have o4 := (hb4.frozen (p := ⟨w.heap.size + 1 + 1, 1, none⟩) hlt).trans p4
    have o5 := (hb4.frozen (p := ⟨w.heap.size + 1 + 1, 2, none⟩) hlt).trans p5
    have HLT := hide hlt
    clear hnew hb4 hlt p0 p1 p2 p3 p4 p5 d00 d01 d02 d10
    go_wp2
    refine bodyPost_ret (v := .tuple #[.agg #[.int .i64 (ma.rows), .int .i64 (ma.cols), .slice xa xn xc], .nilIface]) (by simp [results, Tryd.results138, go_sem, o0, o1, o2]) rfl ⟨_, by rw [HE.out]; rfl, ?_, ?_, HN.out.fresh HW.out.size _ _⟩
    · have HI := (((HN.out.set HLT.out 0 (.int .i64 (ma.rows))).set HLT.out 1 (.int .i64 (ma.cols))).set HLT.out 2 (.slice xa xn xc)).isInts
      unfold timesX
      rw [if_pos HE.out]
      refine ⟨_, rfl, ?_⟩
      simp only [cell_num] at HI
      rw [HG.out.1.r, HG.out.1.c] at HI ⊢
      exact HI
    · exact (((HW.out.trans (HB4.out.mono HW.out.size)).setCell (by first | (simp; done) | (simp; omega)) _).setCell (by first | (simp; done) | (simp; omega)) _).setCell (by first | (simp; done) | (simp; omega)) _
  · have hE : timesE ma = fault ma := by unfold timesE; rw [if_pos hf]
    have HE := hide (And.intro hE hf)
    rw [err_ne hf]
    obtain ⟨k, hk⟩ : ∃ k, fault ma = k := ⟨_, rfl⟩
    rw [hk] at HE ⊢
    clear hE hf hk
    go_wp2
    refine bodyPost_ret (v := .tuple #[.agg #[.int .i64 0, .int .i64 0, .slice none 0 0], .iface 30 (.int .i64 k)]) (by simp [results, Tryd.results138, go_sem, p0, p1, p2]) rfl ⟨_, by rw [HE.out.1, err_ne HE.out.2], by rw [timesX_no (by rw [HE.out.1]; exact HE.out.2)]; exact isMx_no _, HRT.out _ _, fresh_no _ _ _⟩
/-- What Sums gives. -/
def sumsX (a : Mx) : Mx := if timesE a = 0 then ⟨1, a.cols, tab a.cols.toNat (fun q => colS a.cells a.cols.toNat q a.rows.toNat)⟩ else noMx
theorem sumsX_no {a : Mx} (h : timesE a ≠ 0) : sumsX a = noMx := by unfold sumsX; rw [if_neg h]
set_option maxHeartbeats 800000 in
theorem msums_any (va : Value) (ma : Mx) (w : World) (hva : IsMx w va ma) :
    Calls Tryd.prog 122 #[va] w (MxErr w (sumsX ma) (timesE ma)) := by
  obtain ⟨sa, rfl, hsa⟩ := hva
  have b0 := below_one w (.cells #[.int .i64 ma.rows, .int .i64 ma.cols, sa] 25)
  have b1 := b0.trans ((below_one _ (.cells #[.int .i64 0, .int .i64 0, .slice none 0 0] 25)).mono b0.size)
  have hmx := mxs_one (hsa.below b1) 25
  have hch := checks_any _ _ _ hmx
  rw [faults_one] at hch
  have HCH := hide hch
  clear hmx hch
  obtain ⟨W2, hW2⟩ : ∃ W2, W2 = ((w.alloc (.cells #[.int .i64 ma.rows, .int .i64 ma.cols, sa] 25)).alloc (.cells #[.int .i64 0, .int .i64 0, .slice none 0 0] 25)) := ⟨_, rfl⟩
  have A0 : BoxMx W2 (w.heap.size) ma := by
    have h := box_of (hsa) 25
    rw [hW2]
    have h := h.below (below_one _ (.cells #[.int .i64 0, .int .i64 0, .slice none 0 0] 25))
    simpa using h
  have hW2s : W2.heap.size = w.heap.size + 2 := by rw [hW2]; simp
  have hW2b : Below w.heap.size w W2 := by rw [hW2]; exact b1
  have hQ : ResBox W2 (w.heap.size + 1) := by rw [hW2]; exact ResBox.new _ _ (by simp)
  rw [← hW2] at HCH
  have HQ := hide hQ
  have HW2 := hide hW2
  have HA0 := hide A0
  have HS := hide hW2s
  have HB := hide hW2b
  clear b0 b1 hsa A0 hQ hW2s hW2b hW2
  go_enter Tryd.func122, Tryd.ntmps122
  go_wp2_with fail
  rw [← HW2.out]
  have h := HCH.out
  rw [HS.out] at h
  refine h.mono ?_
  clear h
  rintro e w3 ⟨rfl, hb3⟩
  have hb := (below_one W2 _).trans (hb3.mono (by simp))
  have HB3 := hide hb
  have p := HQ.out.below hb
  have p0 := p.c0
  have p1 := p.c1
  have p2 := p.c2
  have p3 := p.f 0
  have p4 := p.f 1
  have p5 := p.f 2
  clear hb hb3 p HCH HQ
  have HW := hide (HB.out.trans (HB3.out.mono HB.out.size))
  have ret0 : ∀ (t u : Value), Below w.heap.size w (((w3.setCell ⟨w.heap.size + 1, 0, none⟩ t).setCell ⟨w.heap.size + 1, 1, none⟩ u).setCell ⟨w.heap.size + 1, 2, none⟩ (.slice none 0 0)) := fun t u => ((HW.out.setCell (by first | (simp; done) | (simp; omega)) _).setCell (by first | (simp; done) | (simp; omega)) _).setCell (by first | (simp; done) | (simp; omega)) _
  have HRT := hide ret0
  clear ret0
  by_cases hf : fault ma = 0
  · rw [err_eq hf]
    obtain ⟨Ra, Ca, ga⟩ := good_of hf
    have ra1 := ga.r
    have ra2 := ga.hR
    have ra3 := ga.c
    have ra4 := ga.hC
    have ka1 : 0 ≤ ma.rows := by omega
    have ka2 : ma.rows ≤ 24 := by omega
    have ka3 : 0 ≤ ma.cols := by omega
    have ka4 : ma.cols ≤ 12 := by omega
    obtain ⟨s0, d00, d01, d02, hi0⟩ := HA0.out.below HB3.out
    have HE := hide (show timesE ma = 0 from by unfold timesE; rw [if_neg (by simp [hf])])
    have eg := enters_of (f := 127) Tryd.func127 (by kernel_rfl) rfl
    have hg := sums_gives w.heap.size ma Ra Ca w3 (HA0.out.below HB3.out) ga.r ga.c ga.hR (by omega) ga.l
    have HF := hide (fill_any _ _ eg 1 Ca 1 ma.cols rfl ga.c (by omega) (by omega) _ w3 hg)
    have HG := hide (And.intro ga trivial)
    clear hg eg hf ga ra1 ra2 ra3 ra4 hi0
    go_wp2_with fail
    refine HF.out.mono ?_
    rintro e w4 ⟨xa, xn, xc, rfl, hnew, hb4⟩
    have HN := hide hnew
    have HB4 := hide hb4
    have o0 := cell_below hb4 p0
    have o1 := cell_below hb4 p1
    have o2 := cell_below hb4 p2
    have hlt : w.heap.size + 1 < w3.heap.size := World.block_lt_of_cell? w3 _ p0
    have o3 := (hb4.frozen (p := ⟨w.heap.size + 1, 0, none⟩) hlt).trans p3
    have o4 := (hb4.frozen (p := ⟨w.heap.size + 1, 1, none⟩) hlt).trans p4
    have o5 := (hb4.frozen (p := ⟨w.heap.size + 1, 2, none⟩) hlt).trans p5
    have HLT := hide hlt
    clear hnew hb4 hlt p0 p1 p2 p3 p4 p5 d00 d01 d02
    go_wp2
    refine bodyPost_ret (v := .tuple #[.agg #[.int .i64 (1), .int .i64 (ma.cols), .slice xa xn xc], .nilIface]) (by simp [results, Tryd.results122, go_sem, o0, o1, o2]) rfl ⟨_, by rw [HE.out]; rfl, ?_, ?_, HN.out.fresh HW.out.size _ _⟩
    · have HI := (((HN.out.set HLT.out 0 (.int .i64 (1))).set HLT.out 1 (.int .i64 (ma.cols))).set HLT.out 2 (.slice xa xn xc)).isInts
      unfold sumsX
      rw [if_pos HE.out]
      refine ⟨_, rfl, ?_⟩
      have e : tab (1 * Ca) (fun q => colS ma.cells Ca (q % Ca) Ra) = tab Ca (fun q => colS ma.cells Ca q Ra) := by
        rw [Nat.one_mul]; exact tab_congr (fun q hq => by rw [Nat.mod_eq_of_lt hq])
      rw [e] at HI
      rw [HG.out.1.c] at HI ⊢
      rw [HG.out.1.r]
      exact HI
    · exact (((HW.out.trans (HB4.out.mono HW.out.size)).setCell (by first | (simp; done) | (simp; omega)) _).setCell (by first | (simp; done) | (simp; omega)) _).setCell (by first | (simp; done) | (simp; omega)) _
  · have hE : timesE ma = fault ma := by unfold timesE; rw [if_pos hf]
    have HE := hide (And.intro hE hf)
    rw [err_ne hf]
    obtain ⟨k, hk⟩ : ∃ k, fault ma = k := ⟨_, rfl⟩
    rw [hk] at HE ⊢
    clear hE hf hk
    go_wp2
    refine bodyPost_ret (v := .tuple #[.agg #[.int .i64 0, .int .i64 0, .slice none 0 0], .iface 30 (.int .i64 k)]) (by simp [results, Tryd.results122, go_sem, p0, p1, p2]) rfl ⟨_, by rw [HE.out.1, err_ne HE.out.2], by rw [sumsX_no (by rw [HE.out.1]; exact HE.out.2)]; exact isMx_no _, HRT.out _ _, fresh_no _ _ _⟩
end Go.Proofs.YtjmmplpecmnlnadDoor
/- What Turn and Rows of package mat come to. -/
namespace Go.Proofs.YtjmmplpecmnlnadDoor
open Go.RowKit
/-- What Turn says. -/
def turnE (a : Mx) : Int := if fault a ≠ 0 then fault a else if 12 < a.rows then 1 else 0
/-- What Turn gives. -/
def turnX (a : Mx) : Mx := if turnE a = 0 then ⟨a.cols, a.rows, tab (a.cols.toNat * a.rows.toNat) (fun q => (a.cells[q % a.rows.toNat * a.cols.toNat + q / a.rows.toNat]?).getD 0)⟩ else noMx
theorem turnX_no {a : Mx} (h : turnE a ≠ 0) : turnX a = noMx := by unfold turnX; rw [if_neg h]
theorem turnX_yes {a : Mx} {R C : Nat} (h : turnE a = 0) (e1 : a.rows = (R : Int)) (e2 : a.cols = (C : Int)) : turnX a = ⟨C, R, tab (C * R) (fun q => (a.cells[q % R * C + q / R]?).getD 0)⟩ := by
  unfold turnX; rw [if_pos h, e1, e2]; simp
set_option maxHeartbeats 800000 in
theorem mturn_any (va : Value) (ma : Mx) (w : World) (hva : IsMx w va ma) :
    Calls Tryd.prog 121 #[va] w (MxErr w (turnX ma) (turnE ma)) := by
  obtain ⟨sa, rfl, hsa⟩ := hva
  have b0 := below_one w (.cells #[.int .i64 ma.rows, .int .i64 ma.cols, sa] 25)
  have b1 := b0.trans ((below_one _ (.cells #[.int .i64 0, .int .i64 0, .slice none 0 0] 25)).mono b0.size)
  have hmx := mxs_one (hsa.below b1) 25
  have hch := checks_any _ _ _ hmx
  rw [faults_one] at hch
  have HCH := hide hch
  clear hmx hch
  obtain ⟨W2, hW2⟩ : ∃ W2, W2 = ((w.alloc (.cells #[.int .i64 ma.rows, .int .i64 ma.cols, sa] 25)).alloc (.cells #[.int .i64 0, .int .i64 0, .slice none 0 0] 25)) := ⟨_, rfl⟩
  have A0 : BoxMx W2 (w.heap.size) ma := by
    have h := box_of (hsa) 25
    rw [hW2]
    have h := h.below (below_one _ (.cells #[.int .i64 0, .int .i64 0, .slice none 0 0] 25))
    simpa using h
  have hW2s : W2.heap.size = w.heap.size + 2 := by rw [hW2]; simp
  have hW2b : Below w.heap.size w W2 := by rw [hW2]; exact b1
  have hQ : ResBox W2 (w.heap.size + 1) := by rw [hW2]; exact ResBox.new _ _ (by simp)
  rw [← hW2] at HCH
  have HQ := hide hQ
  have HW2 := hide hW2
  have HA0 := hide A0
  have HS := hide hW2s
  have HB := hide hW2b
  clear b0 b1 hsa A0 hQ hW2s hW2b hW2
  go_enter Tryd.func121, Tryd.ntmps121
  go_wp2_with fail
  rw [← HW2.out]
  have h := HCH.out
  rw [HS.out] at h
  refine h.mono ?_
  clear h
  rintro e w3 ⟨rfl, hb3⟩
  have hb := (below_one W2 _).trans (hb3.mono (by simp))
  have HB3 := hide hb
  have p := HQ.out.below hb
  have p0 := p.c0
  have p1 := p.c1
  have p2 := p.c2
  have p3 := p.f 0
  have p4 := p.f 1
  have p5 := p.f 2
  clear hb hb3 p HCH HQ
  have HW := hide (HB.out.trans (HB3.out.mono HB.out.size))
  have ret0 : ∀ (t u : Value), Below w.heap.size w (((w3.setCell ⟨w.heap.size + 1, 0, none⟩ t).setCell ⟨w.heap.size + 1, 1, none⟩ u).setCell ⟨w.heap.size + 1, 2, none⟩ (.slice none 0 0)) := fun t u => ((HW.out.setCell (by first | (simp; done) | (simp; omega)) _).setCell (by first | (simp; done) | (simp; omega)) _).setCell (by first | (simp; done) | (simp; omega)) _
  have HRT := hide ret0
  clear ret0
  by_cases hf : fault ma = 0
  · rw [err_eq hf]
    obtain ⟨Ra, Ca, ga⟩ := good_of hf
    have ra1 := ga.r
    have ra2 := ga.hR
    have ra3 := ga.c
    have ra4 := ga.hC
    have ka1 : 0 ≤ ma.rows := by omega
    have ka2 : ma.rows ≤ 24 := by omega
    have ka3 : 0 ≤ ma.cols := by omega
    have ka4 : ma.cols ≤ 12 := by omega
    obtain ⟨s0, d00, d01, d02, hi0⟩ := HA0.out.below HB3.out
    by_cases hs : 12 < ma.rows
    · skip
      have HE := hide (show turnE ma = 1 from by unfold turnE; rw [if_neg (by simp [hf]), if_pos hs])
      clear hf ga ra1 ra2 ra3 ra4 hi0
      go_wp2
      refine bodyPost_ret (v := .tuple #[.agg #[.int .i64 0, .int .i64 0, .slice none 0 0], .iface 30 (.int .i64 1)]) (by simp [results, Tryd.results121, go_sem, p0, p1, p2]) rfl ⟨_, by rw [HE.out]; rfl, by rw [turnX_no (by rw [HE.out]; decide)]; exact isMx_no _, HRT.out _ _, fresh_no _ _ _⟩
    · skip
      have HE := hide (show turnE ma = 0 from by unfold turnE; rw [if_neg (by simp [hf]), if_neg hs])
      have eg := enters_of (f := 126) Tryd.func126 (by kernel_rfl) rfl
      have hg := turn_gives w.heap.size ma Ra Ca w3 (HA0.out.below HB3.out) ga.c ga.hR (by omega) ga.l
      have HF := hide (fill_any _ _ eg Ca Ra ma.cols ma.rows ga.c ga.r (by omega) ga.hR _ w3 hg)
      have HG := hide (And.intro ga trivial)
      clear hg eg hf ga ra1 ra2 ra3 ra4 hi0
      go_wp2_with fail
      refine HF.out.mono ?_
      rintro e w4 ⟨xa, xn, xc, rfl, hnew, hb4⟩
      have HN := hide hnew
      have HB4 := hide hb4
      have o0 := cell_below hb4 p0
      have o1 := cell_below hb4 p1
      have o2 := cell_below hb4 p2
      have hlt : w.heap.size + 1 < w3.heap.size := World.block_lt_of_cell? w3 _ p0
      have o3 := (hb4.frozen (p := ⟨w.heap.size + 1, 0, none⟩) hlt).trans p3
      have o4 := (hb4.frozen (p := ⟨w.heap.size + 1, 1, none⟩) hlt).trans p4
      have o5 := (hb4.frozen (p := ⟨w.heap.size + 1, 2, none⟩) hlt).trans p5
      have HLT := hide hlt
      clear hnew hb4 hlt p0 p1 p2 p3 p4 p5 d00 d01 d02
      go_wp2
      refine bodyPost_ret (v := .tuple #[.agg #[.int .i64 (ma.cols), .int .i64 (ma.rows), .slice xa xn xc], .nilIface]) (by simp [results, Tryd.results121, go_sem, o0, o1, o2]) rfl ⟨_, by rw [HE.out]; rfl, ?_, ?_, HN.out.fresh HW.out.size _ _⟩
      · have HI := (((HN.out.set HLT.out 0 (.int .i64 (ma.cols))).set HLT.out 1 (.int .i64 (ma.rows))).set HLT.out 2 (.slice xa xn xc)).isInts
        rw [turnX_yes HE.out HG.out.1.r HG.out.1.c]
        exact ⟨_, by rw [HG.out.1.r, HG.out.1.c], HI⟩
      · exact (((HW.out.trans (HB4.out.mono HW.out.size)).setCell (by first | (simp; done) | (simp; omega)) _).setCell (by first | (simp; done) | (simp; omega)) _).setCell (by first | (simp; done) | (simp; omega)) _
  · have hE : turnE ma = fault ma := by unfold turnE; rw [if_pos hf]
    have HE := hide (And.intro hE hf)
    rw [err_ne hf]
    obtain ⟨k, hk⟩ : ∃ k, fault ma = k := ⟨_, rfl⟩
    rw [hk] at HE ⊢
    clear hE hf hk
    go_wp2
    refine bodyPost_ret (v := .tuple #[.agg #[.int .i64 0, .int .i64 0, .slice none 0 0], .iface 30 (.int .i64 k)]) (by simp [results, Tryd.results121, go_sem, p0, p1, p2]) rfl ⟨_, by rw [HE.out.1, err_ne HE.out.2], by rw [turnX_no (by rw [HE.out.1]; exact HE.out.2)]; exact isMx_no _, HRT.out _ _, fresh_no _ _ _⟩
/-- What Rows says. -/
def rowsE (a : Mx) (f t : Int) : Int := if fault a ≠ 0 then fault a else if f < 0 ∨ t < f ∨ a.rows < t then 1 else 0
/-- What Rows gives. -/
def rowsX (a : Mx) (f t : Int) : Mx := if rowsE a f t = 0 then ⟨t - f, a.cols, tab ((t - f).toNat * a.cols.toNat) (fun q => (a.cells[f.toNat * a.cols.toNat + q]?).getD 0)⟩ else noMx
theorem rowsX_no {a : Mx} {f t : Int} (h : rowsE a f t ≠ 0) : rowsX a f t = noMx := by unfold rowsX; rw [if_neg h]
theorem row_col {f C q : Nat} : (f + q / C) * C + q % C = f * C + q := by
  rw [Nat.add_mul, Nat.add_assoc, Nat.mul_comm (q / C), Nat.div_add_mod]
set_option maxHeartbeats 800000 in
theorem mrows_any (va : Value) (ma : Mx) (f t : Int) (w : World) (hva : IsMx w va ma) :
    Calls Tryd.prog 54 #[va, .int .i64 f, .int .i64 t] w (MxErr w (rowsX ma f t) (rowsE ma f t)) := by
  obtain ⟨sa, rfl, hsa⟩ := hva
  have b0 := below_one w (.cells #[.int .i64 ma.rows, .int .i64 ma.cols, sa] 25)
  have b1 := b0.trans ((below_one _ (.cells #[.int .i64 f] 3)).mono b0.size)
  have b2 := b1.trans ((below_one _ (.cells #[.int .i64 0, .int .i64 0, .slice none 0 0] 25)).mono b1.size)
  have hmx := mxs_one (hsa.below b2) 25
  have hch := checks_any _ _ _ hmx
  rw [faults_one] at hch
  have HCH := hide hch
  clear hmx hch
  obtain ⟨W2, hW2⟩ : ∃ W2, W2 = (((w.alloc (.cells #[.int .i64 ma.rows, .int .i64 ma.cols, sa] 25)).alloc (.cells #[.int .i64 f] 3)).alloc (.cells #[.int .i64 0, .int .i64 0, .slice none 0 0] 25)) := ⟨_, rfl⟩
  have A0 : BoxMx W2 (w.heap.size) ma := by
    have h := box_of (hsa) 25
    rw [hW2]
    have h := h.below (below_one _ (.cells #[.int .i64 f] 3))
    have h := h.below (below_one _ (.cells #[.int .i64 0, .int .i64 0, .slice none 0 0] 25))
    simpa using h
  have A1 : W2.cell? ⟨w.heap.size + 1, 0, none⟩ = some (.int .i64 f) := by
    have h := box_new (w.alloc (.cells #[.int .i64 ma.rows, .int .i64 ma.cols, sa] 25)) #[.int .i64 f] 3 (B := w.heap.size + 1) (j := 0) (x := .int .i64 f) (by simp) rfl
    rw [hW2]
    have h := cell_past h (.cells #[.int .i64 0, .int .i64 0, .slice none 0 0] 25)
    exact h
  have hW2s : W2.heap.size = w.heap.size + 3 := by rw [hW2]; simp
  have hW2b : Below w.heap.size w W2 := by rw [hW2]; exact b2
  have hQ : ResBox W2 (w.heap.size + 1 + 1) := by rw [hW2]; exact ResBox.new _ _ (by simp)
  rw [← hW2] at HCH
  have HQ := hide hQ
  have HW2 := hide hW2
  have HA0 := hide A0
  have HA1 := hide A1
  have HS := hide hW2s
  have HB := hide hW2b
  clear b0 b1 b2 hsa A0 A1 hQ hW2s hW2b hW2
  go_enter Tryd.func54, Tryd.ntmps54
  go_wp2_with fail
  rw [← HW2.out]
  have h := HCH.out
  rw [HS.out] at h
  refine h.mono ?_
  clear h
  rintro e w3 ⟨rfl, hb3⟩
  have hb := (below_one W2 _).trans (hb3.mono (by simp))
  have HB3 := hide hb
  have p := HQ.out.below hb
  have p0 := p.c0
  have p1 := p.c1
  have p2 := p.c2
  have p3 := p.f 0
  have p4 := p.f 1
  have p5 := p.f 2
  clear hb hb3 p HCH HQ
  have HW := hide (HB.out.trans (HB3.out.mono HB.out.size))
  have ret0 : ∀ (t u : Value), Below w.heap.size w (((w3.setCell ⟨w.heap.size + 1 + 1, 0, none⟩ t).setCell ⟨w.heap.size + 1 + 1, 1, none⟩ u).setCell ⟨w.heap.size + 1 + 1, 2, none⟩ (.slice none 0 0)) := fun t u => ((HW.out.setCell (by first | (simp; done) | (simp; omega)) _).setCell (by first | (simp; done) | (simp; omega)) _).setCell (by first | (simp; done) | (simp; omega)) _
  have HRT := hide ret0
  clear ret0
  by_cases hf : fault ma = 0
  · rw [err_eq hf]
    obtain ⟨Ra, Ca, ga⟩ := good_of hf
    have ra1 := ga.r
    have ra2 := ga.hR
    have ra3 := ga.c
    have ra4 := ga.hC
    have ka1 : 0 ≤ ma.rows := by omega
    have ka2 : ma.rows ≤ 24 := by omega
    have ka3 : 0 ≤ ma.cols := by omega
    have ka4 : ma.cols ≤ 12 := by omega
    obtain ⟨s0, d00, d01, d02, hi0⟩ := HA0.out.below HB3.out
    have d10 := cell_below HB3.out HA1.out
    by_cases hs : 0 ≤ f ∧ f ≤ t ∧ t ≤ ma.rows
    · obtain ⟨hs1, hs2, hs3⟩ := hs
      have hs : ¬ (f < 0 ∨ t < f ∨ ma.rows < t) := by omega
      have HE := hide (show rowsE ma f t = 0 from by unfold rowsE; rw [if_neg (by simp [hf]), if_neg hs])
      have eg := enters_of (f := 82) Tryd.func82 (by kernel_rfl) rfl
      obtain ⟨F, hF⟩ : ∃ F : Nat, f = (F : Int) := ⟨f.toNat, by omega⟩
      obtain ⟨N, hN⟩ : ∃ N : Nat, t - f = (N : Int) := ⟨(t - f).toNat, by omega⟩
      have hg := rows_gives w.heap.size (w.heap.size + 1) ma Ra Ca F N f w3 (HA0.out.below HB3.out) (cell_below HB3.out HA1.out) hF ga.c ga.hR (by omega) ga.l (by omega)
      have HFN := hide (And.intro hF hN)
      have HF0 := hide (fill_any _ _ eg N Ca (t - f) ma.cols hN ga.c (by omega) (by omega) _ w3 hg)
      clear hF hN
      have HF := HF0
      have HG := hide (And.intro ga trivial)
      clear hg eg hf ga ra1 ra2 ra3 ra4 hi0
      go_wp2_with fail
      refine HF.out.mono ?_
      rintro e w4 ⟨xa, xn, xc, rfl, hnew, hb4⟩
      have HN := hide hnew
      have HB4 := hide hb4
      have o0 := cell_below hb4 p0
      have o1 := cell_below hb4 p1
      have o2 := cell_below hb4 p2
      have hlt : w.heap.size + 1 + 1 < w3.heap.size := World.block_lt_of_cell? w3 _ p0
      have o3 := (hb4.frozen (p := ⟨w.heap.size + 1 + 1, 0, none⟩) hlt).trans p3
      have o4 := (hb4.frozen (p := ⟨w.heap.size + 1 + 1, 1, none⟩) hlt).trans p4
      have o5 := (hb4.frozen (p := ⟨w.heap.size + 1 + 1, 2, none⟩) hlt).trans p5
      have HLT := hide hlt
      clear hnew hb4 hlt p0 p1 p2 p3 p4 p5 d00 d01 d02 d10
      go_wp2
      refine bodyPost_ret (v := .tuple #[.agg #[.int .i64 (t - f), .int .i64 (ma.cols), .slice xa xn xc], .nilIface]) (by simp [results, Tryd.results54, go_sem, o0, o1, o2]) rfl ⟨_, by rw [HE.out]; rfl, ?_, ?_, HN.out.fresh HW.out.size _ _⟩
      · have HI := (((HN.out.set HLT.out 0 (.int .i64 (t - f))).set HLT.out 1 (.int .i64 (ma.cols))).set HLT.out 2 (.slice xa xn xc)).isInts
        unfold rowsX
        rw [if_pos HE.out, HFN.out.2, HFN.out.1, HG.out.1.c]
        simp only [Int.toNat_natCast]
        refine ⟨_, rfl, ?_⟩
        have e : tab (N * Ca) (fun q => (ma.cells[(F + q / Ca) * Ca + q % Ca]?).getD 0) = tab (N * Ca) (fun q => (ma.cells[F * Ca + q]?).getD 0) := tab_congr (fun q _ => by rw [row_col])
        rw [HFN.out.2, HG.out.1.c, e] at HI
        exact HI
      · exact (((HW.out.trans (HB4.out.mono HW.out.size)).setCell (by first | (simp; done) | (simp; omega)) _).setCell (by first | (simp; done) | (simp; omega)) _).setCell (by first | (simp; done) | (simp; omega)) _
    · have hs' : f < 0 ∨ t < f ∨ ma.rows < t := by omega
      have hE : rowsE ma f t = 1 := by unfold rowsE; rw [if_neg (by simp [hf]), if_pos hs']
      by_cases hs1 : f < 0
      · clear hs hs'
        have HE := hide (show rowsE ma f t = 1 from hE)
        clear hf ga ra1 ra2 ra3 ra4 hi0
        clear hE
        go_wp2
        refine bodyPost_ret (v := .tuple #[.agg #[.int .i64 0, .int .i64 0, .slice none 0 0], .iface 30 (.int .i64 1)]) (by simp [results, Tryd.results54, go_sem, p0, p1, p2]) rfl ⟨_, by rw [HE.out]; rfl, by rw [rowsX_no (by rw [HE.out]; decide)]; exact isMx_no _, HRT.out _ _, fresh_no _ _ _⟩
      · by_cases hs2 : t < f
        · clear hs hs'
          have HE := hide (show rowsE ma f t = 1 from hE)
          clear hf ga ra1 ra2 ra3 ra4 hi0
          clear hE
          go_wp2
          refine bodyPost_ret (v := .tuple #[.agg #[.int .i64 0, .int .i64 0, .slice none 0 0], .iface 30 (.int .i64 1)]) (by simp [results, Tryd.results54, go_sem, p0, p1, p2]) rfl ⟨_, by rw [HE.out]; rfl, by rw [rowsX_no (by rw [HE.out]; decide)]; exact isMx_no _, HRT.out _ _, fresh_no _ _ _⟩
        · have hs3 : ma.rows < t := by omega
          clear hs hs'
          have HE := hide (show rowsE ma f t = 1 from hE)
          clear hf ga ra1 ra2 ra3 ra4 hi0
          clear hE
          go_wp2
          refine bodyPost_ret (v := .tuple #[.agg #[.int .i64 0, .int .i64 0, .slice none 0 0], .iface 30 (.int .i64 1)]) (by simp [results, Tryd.results54, go_sem, p0, p1, p2]) rfl ⟨_, by rw [HE.out]; rfl, by rw [rowsX_no (by rw [HE.out]; decide)]; exact isMx_no _, HRT.out _ _, fresh_no _ _ _⟩
  · have hE : rowsE ma f t = fault ma := by unfold rowsE; rw [if_pos hf]
    have HE := hide (And.intro hE hf)
    rw [err_ne hf]
    obtain ⟨k, hk⟩ : ∃ k, fault ma = k := ⟨_, rfl⟩
    rw [hk] at HE ⊢
    clear hE hf hk
    go_wp2
    refine bodyPost_ret (v := .tuple #[.agg #[.int .i64 0, .int .i64 0, .slice none 0 0], .iface 30 (.int .i64 k)]) (by simp [results, Tryd.results54, go_sem, p0, p1, p2]) rfl ⟨_, by rw [HE.out.1, err_ne HE.out.2], by rw [rowsX_no (by rw [HE.out.1]; exact HE.out.2)]; exact isMx_no _, HRT.out _ _, fresh_no _ _ _⟩
end Go.Proofs.YtjmmplpecmnlnadDoor
/- Plain facts on what Mul and Turn of package mat give: what stands where, and that Check takes it. -/
namespace Go.Proofs.YtjmmplpecmnlnadDoor
theorem dot_bd (us vs : List Int) (Ca Cb i j : Nat) : ∀ k, inEnds (dot us vs Ca Cb i j k) = true
  | 0 => by simp [dot, inEnds]
  | k + 1 => by rw [ends_iff]; exact ad_bd _ _
theorem tab_ends {n : Nat} {f : Nat → Int} (h : ∀ q, q < n → inEnds (f q) = true) : (tab n f).all inEnds = true := by
  refine all_yes (fun k x hk hx => ?_)
  rw [tab_len] at hk
  rw [tab_at hk] at hx
  rw [← Option.some.inj hx]; exact h k hk
theorem tab_get {n : Nat} {f : Nat → Int} {i : Nat} (h : i < n) : ((tab n f)[i]?).getD 0 = f i := by rw [tab_at h]; rfl
theorem Good.mul0 {a b : Mx} {Ra Ca Cb : Nat} (ga : Good a Ra Ca) (gb : Good b Ca Cb) : mulE a b = 0 := by
  unfold mulE faults
  rw [ga.fault]
  have : faults [b] = 0 := by rw [faults_one, gb.fault]
  simp only [if_pos, this, ne_eq, not_true, if_false]
  rw [if_neg (by simp [ga.c, gb.r])]
theorem Good.mul {a b : Mx} {Ra Ca Cb : Nat} (ga : Good a Ra Ca) (gb : Good b Ca Cb) : Good (mulX a b) Ra Cb := by
  rw [mulX_yes (ga.mul0 gb) ga.r ga.c gb.c]
  exact ⟨rfl, rfl, ga.hR, gb.hC, tab_len _ _, tab_ends (fun q _ => dot_bd _ _ _ _ _ _ _)⟩
theorem mul_cell {a b : Mx} {Ra Ca Cb i j : Nat} (ga : Good a Ra Ca) (gb : Good b Ca Cb) (hi : i < Ra) (hj : j < Cb) : ((mulX a b).cells[i * Cb + j]?).getD 0 = dot a.cells b.cells Ca Cb i j Ca := by
  rw [mulX_yes (ga.mul0 gb) ga.r ga.c gb.c]
  obtain ⟨e1, e2⟩ := at_row (C := Cb) (i := i) (j := j) hj
  show ((tab _ _)[_]?).getD 0 = _
  rw [tab_get (idx_lt hi hj), e1, e2]
theorem Good.turn0 {a : Mx} {R C : Nat} (ga : Good a R C) (hR : R ≤ 12) : turnE a = 0 := by
  unfold turnE; rw [ga.fault, if_neg (by simp), if_neg (by rw [ga.r]; omega)]
theorem getD_ends {zs : List Int} (h : zs.all inEnds = true) (i : Nat) : inEnds ((zs[i]?).getD 0) = true := by
  rcases Nat.lt_or_ge i zs.length with hi | hi
  · rw [List.getElem?_eq_getElem hi]; exact (List.all_eq_true.1 h) _ (List.getElem_mem hi)
  · rw [List.getElem?_eq_none hi]; simp [inEnds]
theorem Good.turn {a : Mx} {R C : Nat} (ga : Good a R C) (hR : R ≤ 12) : Good (turnX a) C R := by
  rw [turnX_yes (ga.turn0 hR) ga.r ga.c]
  exact ⟨rfl, rfl, by have := ga.hC; omega, hR, tab_len _ _, tab_ends (fun q _ => getD_ends ga.e _)⟩
theorem turn_cell {a : Mx} {R C i j : Nat} (ga : Good a R C) (hR : R ≤ 12) (hi : i < R) (hj : j < C) : ((turnX a).cells[j * R + i]?).getD 0 = (a.cells[i * C + j]?).getD 0 := by
  rw [turnX_yes (ga.turn0 hR) ga.r ga.c]
  obtain ⟨e1, e2⟩ := at_div (R := R) (i := i) (j := j) hi
  show ((tab _ _)[_]?).getD 0 = _
  rw [tab_get (idx_lt hj hi), e1, e2]
theorem dot_turn {a b : Mx} {Ra Ca Cb i j : Nat} (ga : Good a Ra Ca) (gb : Good b Ca Cb) (hR : Ra ≤ 12) (hi : i < Ra) (hj : j < Cb) : ∀ k, k ≤ Ca → dot (turnX b).cells (turnX a).cells Ca Ra j i k = dot a.cells b.cells Ca Cb i j k
  | 0, _ => rfl
  | k + 1, hk => by
    have hCa : Ca ≤ 12 := ga.hC
    unfold dot
    rw [dot_turn ga gb hR hi hj k (by omega), turn_cell gb hCa (by omega) hj, turn_cell ga hR hi (by omega), ml_comm]
/-- What is multiplied and turned is what is turned and multiplied, the other way round. -/
theorem turn_mul {a b : Mx} {Ra Ca Cb : Nat} (ga : Good a Ra Ca) (gb : Good b Ca Cb) (hR : Ra ≤ 12) : turnX (mulX a b) = mulX (turnX b) (turnX a) := by
  have hCa : Ca ≤ 12 := ga.hC
  have gp := ga.mul gb
  have gx := ga.turn hR
  have gy := gb.turn hCa
  rw [turnX_yes (gp.turn0 hR) gp.r gp.c, mulX_yes (gy.mul0 gx) gy.r gy.c gx.c]
  congr 1
  refine tab_congr (fun q hq => ?_)
  have hR0 : 0 < Ra := by rcases Nat.eq_zero_or_pos Ra with h | h; (subst h; simp at hq); exact h
  have hi := Nat.mod_lt q hR0
  have hj : q / Ra < Cb := Nat.div_lt_of_lt_mul (by rw [Nat.mul_comm]; exact hq)
  rw [mul_cell ga gb hi hj, dot_turn ga gb hR hi hj Ca (Nat.le_refl _)]
open Go.RowKit
theorem below_next {w u v : World} (h : Below w.heap.size w u) (k : Below u.heap.size u v) : Below w.heap.size w v := h.trans (k.mono h.size)
theorem below_box {w u v : World} {o : Obj} (h : Below w.heap.size w u) (k : Below (u.alloc o).heap.size (u.alloc o) v) : Below w.heap.size w v := below_next (below_next h (below_one _ _)) k
/-- A call that gives a matrix and no error. -/
def GoodEnd (w : World) (m : Mx) (e : Ending) (w' : World) : Prop := ∃ a n k, e = .returned (.tuple #[.agg #[.int .i64 m.rows, .int .i64 m.cols, .slice a n k], .nilIface]) ∧ IsMx w' (.agg #[.int .i64 m.rows, .int .i64 m.cols, .slice a n k]) m ∧ Below w.heap.size w w'
/-- A call that gives an error and the empty matrix beside it. -/
def BadEnd (w : World) (j : Int) (e : Ending) (w' : World) : Prop := ∃ a n k, e = .returned (.tuple #[.agg #[.int .i64 0, .int .i64 0, .slice a n k], .iface 30 (.int .i64 j)]) ∧ IsMx w' (.agg #[.int .i64 0, .int .i64 0, .slice a n k]) noMx ∧ Below w.heap.size w w'
theorem MxErr.good {w : World} {m : Mx} {j : Int} {e : Ending} {w' : World} (h : MxErr w m j e w') (hj : j = 0) : GoodEnd w m e w' := by
  obtain ⟨v, rfl, ⟨s, rfl, hs⟩, hb, _⟩ := h
  obtain ⟨a, n, k, rfl⟩ := hs.shape
  exact ⟨a, n, k, by rw [err_eq hj], ⟨_, rfl, hs⟩, hb⟩
theorem MxErr.bad {w : World} {m : Mx} {j : Int} {e : Ending} {w' : World} (h : MxErr w m j e w') (hj : j ≠ 0) (hm : m = noMx) : BadEnd w j e w' := by
  subst hm
  obtain ⟨v, rfl, ⟨s, rfl, hs⟩, hb, _⟩ := h
  obtain ⟨a, n, k, rfl⟩ := hs.shape
  exact ⟨a, n, k, by rw [err_ne hj]; rfl, ⟨_, rfl, hs⟩, hb⟩
theorem MxErr.fresh {w : World} {m : Mx} {j : Int} {v x : Value} {w' : World} (h : MxErr w m j (.returned (.tuple #[v, x])) w') : Fresh w.heap.size v := by
  obtain ⟨v', e, _, _, hf⟩ := h
  have : v = v' := by simp at e; exact e.1
  rw [this]; exact hf
theorem IsMx.set {B : Nat} {w : World} {m : Mx} {v : Value} (h : IsMx w v m) (hf : Fresh B v) {b : Nat} (hb : b < B) (q : Nat) (u : Value) : IsMx (w.setCell ⟨b, q, none⟩ u) v m := by
  obtain ⟨s, rfl, a, cap, rfl, h2, h3, h4⟩ := h
  refine ⟨_, rfl, a, cap, rfl, h2, h3, ?_⟩
  rcases h4 with h0 | ⟨b', off, rfl, hc⟩
  · exact .inl h0
  · rcases hf _ _ _ _ _ rfl with hz | hz
    · exact .inl (List.eq_nil_of_length_eq_zero hz)
    · refine .inr ⟨b', off, rfl, fun i x hx => cell_other (hc i x hx) (by show b' ≠ b; simp only [] at hz; omega) q u⟩
theorem IsMx.ints {w : World} {m : Mx} {r c s : Value} (h : IsMx w (.agg #[r, c, s]) m) : IsInts w s m.cells := by
  obtain ⟨s', e, hs⟩ := h
  have : s = s' := by simp at e; exact e.2.2
  rw [this]; exact hs
theorem sameM_refl (m : Mx) : sameM m m = true := by unfold sameM; simp
theorem MxErr.any {w : World} {m : Mx} {j : Int} {e : Ending} {w' : World} (h : MxErr w m j e w') : ∃ a n k, e = .returned (.tuple #[.agg #[.int .i64 m.rows, .int .i64 m.cols, .slice a n k], errV j]) ∧ IsMx w' (.agg #[.int .i64 m.rows, .int .i64 m.cols, .slice a n k]) m ∧ Below w.heap.size w w' := by
  obtain ⟨v, rfl, ⟨s, rfl, hs⟩, hb, _⟩ := h
  obtain ⟨a, n, k, rfl⟩ := hs.shape
  exact ⟨a, n, k, rfl, ⟨_, rfl, hs⟩, hb⟩
theorem IsMx.set3 {B : Nat} {w : World} {m : Mx} {v : Value} (h : IsMx w v m) (hf : Fresh B v) {b : Nat} (hb : b < B) (x y z : Value) : IsMx (((w.setCell ⟨b, 0, none⟩ x).setCell ⟨b, 1, none⟩ y).setCell ⟨b, 2, none⟩ z) v m :=
  ((h.set hf hb 0 x).set hf hb 1 y).set hf hb 2 z
theorem IsMx.box {w : World} {m : Mx} {s : Value} (h : IsMx w (.agg #[.int .i64 m.rows, .int .i64 m.cols, s]) m) (t : TypeId) : BoxMx (w.alloc (.cells #[.int .i64 m.rows, .int .i64 m.cols, s] t)) w.heap.size m := by
  obtain ⟨s', e, hs⟩ := h
  have : s = s' := by simpa using e
  subst this
  exact box_of hs t
theorem BoxMx.mx {w : World} {B : Nat} {m : Mx} (h : BoxMx w B m) : ∃ a n k, w.cell? ⟨B, 0, none⟩ = some (.int .i64 m.rows) ∧ w.cell? ⟨B, 1, none⟩ = some (.int .i64 m.cols) ∧ w.cell? ⟨B, 2, none⟩ = some (.slice a n k) ∧ IsMx w (.agg #[.int .i64 m.rows, .int .i64 m.cols, .slice a n k]) m := by
  obtain ⟨s, h0, h1, h2, hs⟩ := h
  obtain ⟨a, n, k, rfl⟩ := hs.shape
  exact ⟨a, n, k, h0, h1, h2, _, rfl, hs⟩
theorem mulE_zero {a b : Mx} (h : mulE a b = 0) : ∃ Ra Ca Cb, Good a Ra Ca ∧ Good b Ca Cb := by
  unfold mulE at h
  by_cases h1 : faults [a, b] ≠ 0
  · rw [if_pos h1] at h; exact absurd h h1
  · rw [if_neg h1] at h
    obtain ⟨fa, fb⟩ := faults_two (Decidable.not_not.1 h1)
    obtain ⟨Ra, Ca, ga⟩ := good_of fa
    obtain ⟨Rb, Cb, gb⟩ := good_of fb
    by_cases h2 : a.cols ≠ b.rows
    · rw [if_pos h2] at h; cases h
    · have h3 : a.cols = b.rows := Decidable.not_not.1 h2
      have : Ca = Rb := by have := ga.c; have := gb.r; omega
      subst this
      exact ⟨Ra, Ca, Cb, ga, gb⟩
theorem Good.turn1 {a : Mx} {R C : Nat} (ga : Good a R C) (hR : 12 < R) : Go.Proofs.YtjmmplpecmnlnadDoor.turnE a = 1 := by
  unfold Go.Proofs.YtjmmplpecmnlnadDoor.turnE; rw [ga.fault, if_neg (by simp), if_pos (by rw [ga.r]; omega)]
end Go.Proofs.YtjmmplpecmnlnadDoor
