/- What MatTurn of the document's answer comes to: rows become columns. -/
import Derived.Test.YtokohpabmmcioaeDoorRBlank
import Derived.Test.YtokohpabmmcioaeDoorPlain
import Derived.Deep.RegionHeld3
import Derived.Deep.LoopGhost
import Derived.Test.YtokohpabmmcioaeDoorFixRef
import Derived.StillTailTactics
import Derived.Test.YtokohpabmmcioaeDoorMatA
namespace Go.Proofs.YtokohpabmmcioaeDoor
open Go.RowKit
/-- What stands in the turned matrix behind i rows and j cells of the next one. -/
def turnF (cs : List Int) (R C i j q : Nat) : Int := if q % R < i ∨ (q % R = i ∧ q / R < j) then (cs[q % R * C + q / R]?).getD 0 else 0
theorem turnF_step (cs : List Int) (R C i j n : Nat) (hi : i < R) (x : Int) (hx : cs[i * C + j]? = some x) : (tab n (turnF cs R C i j)).set (j * R + i) x = tab n (turnF cs R C i (j + 1)) := by
  rw [tab_set]
  refine tab_congr (fun q _ => ?_)
  obtain ⟨e1, e2⟩ := at_div (j := j) hi
  by_cases hq : q = j * R + i
  · rw [if_pos hq, hq]; unfold turnF; rw [e1, e2, if_pos (.inr ⟨rfl, by omega⟩), hx]; rfl
  · rw [if_neg hq]
    have hd := Nat.div_add_mod q R
    have hne : ¬ (q % R = i ∧ q / R = j) := fun e => hq (by rw [← hd, e.1, e.2, Nat.mul_comm])
    unfold turnF
    by_cases h : q % R < i ∨ (q % R = i ∧ q / R < j)
    · rw [if_pos h, if_pos (h.imp id (fun e => ⟨e.1, by omega⟩))]
    · rw [if_neg h, if_neg (fun e => h (e.imp id (fun e => ⟨e.1, by rcases Nat.lt_or_ge (q / R) j with k | k; exact k; exact absurd ⟨e.1, by omega⟩ hne⟩)))]
theorem turnF_row (cs : List Int) (R C i : Nat) : tab (C * R) (turnF cs R C i C) = tab (C * R) (turnF cs R C (i + 1) 0) := by
  refine tab_congr (fun q hq => ?_)
  have hd : q / R < C := Nat.div_lt_of_lt_mul (by rw [Nat.mul_comm]; exact hq)
  unfold turnF
  generalize q / R = d at *
  generalize q % R = e at *
  by_cases h : e < i + 1
  · rw [if_pos (by omega), if_pos (.inl h)]
  · rw [if_neg (by omega), if_neg (by omega)]
theorem turnF_zero (cs : List Int) (R C n : Nat) : tab n (fun _ => 0) = tab n (turnF cs R C 0 0) := by
  refine tab_congr (fun q _ => ?_); unfold turnF; rw [if_neg (fun e => e.elim (Nat.not_lt_zero _) (fun e => Nat.not_lt_zero _ e.2))]
theorem turnF_end (cs : List Int) (R C : Nat) : tab (C * R) (turnF cs R C R 0) = tab (C * R) (fun q => (cs[q % R * C + q / R]?).getD 0) := by
  refine tab_congr (fun q hq => ?_)
  have hR : 0 < R := by rcases Nat.eq_zero_or_pos R with h | h; (subst h; simp at hq); exact h
  unfold turnF; rw [if_pos (.inl (Nat.mod_lt _ hR))]
end Go.Proofs.YtokohpabmmcioaeDoor
/- What MatMul of the document's answer comes to: the product, summed up in order. -/
namespace Go.Proofs.YtokohpabmmcioaeDoor
open Go.RowKit
end Go.Proofs.YtokohpabmmcioaeDoor
/- What MatRows of the document's answer comes to: some rows of a matrix. -/
namespace Go.Proofs.YtokohpabmmcioaeDoor
open Go.RowKit
/-- What stands in the rows taken behind so many cells. -/
def rowsF (cs : List Int) (s i q : Nat) : Int := if q < i then (cs[s + q]?).getD 0 else 0
theorem rowsF_step (cs : List Int) (s i n : Nat) (x : Int) (hx : cs[s + i]? = some x) : (tab n (rowsF cs s i)).set i x = tab n (rowsF cs s (i + 1)) := by
  rw [tab_set]
  refine tab_congr (fun q _ => ?_)
  unfold rowsF
  by_cases hq : q = i
  · subst hq; rw [if_pos rfl, if_pos (by omega), hx]; rfl
  · rw [if_neg hq]
    by_cases h : q < i
    · rw [if_pos h, if_pos (by omega)]
    · rw [if_neg h, if_neg (by omega)]
theorem rowsF_zero (cs : List Int) (s n : Nat) : tab n (fun _ => 0) = tab n (rowsF cs s 0) := tab_congr (fun q _ => by unfold rowsF; rw [if_neg (by omega)])
theorem rowsF_end (cs : List Int) (s n : Nat) : tab n (rowsF cs s n) = tab n (fun q => (cs[s + q]?).getD 0) := tab_congr (fun q hq => by unfold rowsF; rw [if_pos hq])
set_option maxHeartbeats 1600000 in
set_option maxRecDepth 100000 in
theorem rrows_any (v : Value) (m : Mx) (R C : Nat) (f t : Nat) (w : World) (hv : IsMx w v m) (hc : m.cols = (C : Int)) (hR : R ≤ 24) (hC : C ≤ 24) (hl : m.cells.length = R * C) (hft : f ≤ t) (htR : t ≤ R) :
    Calls Tryd.prog 19 #[v, .int .i64 (f : Int), .int .i64 (t : Int)] w fun e w' =>
    ∃ v', e = .returned v' ∧ IsMx w' v' ⟨((t - f : Nat) : Int), C, tab ((t - f) * C) (fun q => (m.cells[f * C + q]?).getD 0)⟩ ∧ Below w.heap.size w w' ∧ Fresh w.heap.size v' := by
  obtain ⟨s, rfl, hs⟩ := hv
  obtain ⟨r, er⟩ : ∃ r, m.rows = r := ⟨_, rfl⟩
  obtain ⟨c, ec⟩ : ∃ c, m.cols = c := ⟨_, rfl⟩
  obtain ⟨n, en⟩ : ∃ n, (t - f) * C = n := ⟨_, rfl⟩
  obtain ⟨xf, exf⟩ : ∃ x, (f : Int) = x := ⟨_, rfl⟩
  obtain ⟨xt, ext⟩ : ∃ x, (t : Int) = x := ⟨_, rfl⟩
  have hn1 : n ≤ R * C - f * C := by rw [← en, ← Nat.sub_mul]; exact Nat.mul_le_mul_right C (by omega)
  have hn2 : f * C + n ≤ R * C := by have := Nat.mul_le_mul_right C (show f ≤ R by omega); omega
  have hRC := Nat.mul_le_mul hR hC
  rw [er, ec, exf, ext]
  rw [ec] at hc
  have hb := fun W => blank_any (xt - xf) c n W (by rw [hc, ← en, ← exf, ← ext, ← Int.ofNat_sub hft]; simp) (by omega)
  have HB := hide hb
  have HS := hide hs
  have HL := hide hl
  have Hc := hide hc
  have HN := hide en
  have HF := hide exf.symm
  have HT := hide ext.symm
  have HN2 := hide hn2
  have hnb : n ≤ 576 := by omega
  have hxf0 : 0 ≤ xf := by omega
  have hxt1 : xt ≤ 24 := by omega
  have hxft : xf ≤ xt := by omega
  have tb := mul_bds exf.symm hc (by omega) hC
  clear hb hs hl hc er ec en exf ext hn1 hn2 hRC
  go_enter Tryd.func19, Tryd.ntmps19
  go_wp2_with fail
  refine (HB.out _).mono ?_
  rintro e w1 ⟨g, rfl, hg, hrow, hb1⟩
  generalize hV : ((w.alloc (.cells #[.int .i64 r, .int .i64 c, s] 24)).alloc (.cells #[.int .i64 0, .int .i64 0, .slice none 0 0] 24)) = V at *
  have hVs : V.heap.size = w.heap.size + 2 := by rw [← hV]; simp
  have v0 : V.cell? ⟨w.heap.size, 1, none⟩ = some (.int .i64 c) := by rw [← hV]; exact cell_past (by simp) _
  have v1 : V.cell? ⟨w.heap.size, 2, none⟩ = some s := by rw [← hV]; exact cell_past (by simp) _
  have r0 : V.cell? ⟨w.heap.size + 1, 0, none⟩ = some (.int .i64 0) := by rw [← hV]; simp
  have r1 : V.cell? ⟨w.heap.size + 1, 1, none⟩ = some (.int .i64 0) := by rw [← hV]; simp
  have r2 : V.cell? ⟨w.heap.size + 1, 2, none⟩ = some (.slice none 0 0) := by rw [← hV]; simp
  have rf : ∀ j, V.frozen? ⟨w.heap.size + 1, j, none⟩ = false := fun j => by rw [← hV]; simp
  have hwV : Below w.heap.size w V := by rw [← hV]; exact ((Below.refl _ w).alloc (Nat.le_refl _) _).alloc (by simp) _
  have hglt : g < w1.heap.size := hrow.lt
  have HV := hide (And.intro v0 (And.intro v1 (And.intro r0 (And.intro r1 r2))))
  have HRF := hide rf
  have HWV := hide hwV
  have HB1 := hide hb1
  have HG := hide hg
  have HVS := hide hVs
  have HR := hide (hrow.alloc (.cells #[.int .i64 (xt - xf), .int .i64 c, .slice (some ⟨g, 0, none⟩) n n] 24))
  clear v0 v1 r0 r1 r2 rf hwV hb1 hg hrow hVs
  go_wp2
  clear hV
  go_loopw [8] (fun a wr => ∃ (i : Nat) (xi : Int), i ≤ n ∧ xi = (i : Int) ∧ a = .int .i64 xi ∧ RowAt 3 wr g (tab n (rowsF m.cells (f * C) i)) ∧ (w1.alloc (.cells #[.int .i64 (xt - xf), .int .i64 c, .slice (some ⟨g, 0, none⟩) n n] 24)).grownBy wr (some g)) (fun a _ => n - (intOf a).toNat)
  case atStart => exact ⟨0, 0, Nat.zero_le _, rfl, rfl, by rw [← rowsF_zero]; exact HR.out, World.grownBy.refl _ _⟩
  case round =>
    obtain ⟨i, xi, hi, hxi, rfl, hro, hgr⟩ := hrel
    have p2 := box_cell hglt hgr (j := 2) rfl
    have HRO := hide hro
    have HGR := hide hgr
    have HXI := hide hxi
    have hxi0 : 0 ≤ xi := by omega
    have hxi1 : xi ≤ 576 := by omega
    clear hro hgr hxi
    by_cases hlt : xi < (n : Int)
    · obtain ⟨x, hx⟩ : ∃ x, m.cells[f * C + i]? = some x := ⟨m.cells[f * C + i]'(by have := HL.out; have := HN2.out; have := HXI.out; omega), List.getElem?_eq_getElem _⟩
      obtain ⟨aa, cap, hsv, _, _, h4⟩ := HS.out
      obtain ⟨b, off, rfl, hcl⟩ := h4.resolve_left (fun e => by rw [e] at hx; simp at hx)
      have cx : wr.cell? ⟨b, off + (xf * c + xi).toNat, none⟩ = some (.int .i64 x) := by
        rw [idx_nat HF.out HXI.out Hc.out]
        have h0 := hcl _ _ hx
        exact keep_cell HB1.out HG.out HGR.out ((HWV.out.cell (p := ⟨b, off + (f * C + i), none⟩) (World.block_lt_of_cell? w _ h0)).trans h0)
      have dx : ∃ y, wr.cell? ⟨g, xi.toNat, none⟩ = some (.int .i64 y) := ⟨_, by rw [show xi.toNat = i by have := HXI.out; omega]; exact HRO.out.cell (tab_at (by have := HXI.out; omega))⟩
      obtain ⟨y, dx⟩ := dx
      have fx : wr.frozen? ⟨g, xi.toNat, none⟩ = false := HRO.out.frozen _
      have j1 := keep_cell HB1.out HG.out HGR.out HV.out.1
      have j2 := keep_cell HB1.out HG.out HGR.out HV.out.2.1
      subst hsv
      obtain ⟨N, hN⟩ : ∃ N, m.cells.length = N := ⟨_, rfl⟩
      rw [hN] at j2
      have HX := hide hx
      have t3 : xf * c + xi < (N : Int) := by rw [mul_cast_idx HF.out HXI.out Hc.out]; have := HL.out; have := HN2.out; have := HXI.out; omega
      have u1 := wrap_in (x := xf * c) (by omega) (by omega)
      have u2 := wrap_in (x := xf * c + xi) (by omega) (by omega)
      have g1 : 0 ≤ xf * c + xi := by omega
      clear hcl h4 hx hN
      go_wp2
      refine region_tail 14 (by kernel_rfl) (by kernel_rfl) ?_
      simp only [List.take_succ_cons, List.take_zero, List.drop_succ_cons, List.drop_zero]
      repeat still_step
      refine wpStill_nil ?_
      go_wp2
      exact ⟨⟨i + 1, _, by have := HXI.out; omega, by have := HXI.out; omega, rfl, by
        rw [show xi.toNat = i by have := HXI.out; omega, ← rowsF_step m.cells (f * C) i n x HX.out]
        exact HRO.out.set i x, grown_drew (grown_set HGR.out _ _)⟩, by have := HXI.out; simp [intOf]; omega⟩
    · have hin : i = n := by have := HXI.out; omega
      have q0 := keep_cell HB1.out HG.out HGR.out HV.out.2.2.1
      have q1 := keep_cell HB1.out HG.out HGR.out HV.out.2.2.2.1
      have q2 := keep_cell HB1.out HG.out HGR.out HV.out.2.2.2.2
      have p0 := box_cell hglt HGR.out (j := 0) rfl
      have p1 := box_cell hglt HGR.out (j := 1) rfl
      have z0 := keep_frozen HB1.out HG.out HGR.out (p := ⟨w.heap.size + 1, 0, none⟩) (by have := HVS.out; simp; omega) (HRF.out 0)
      have z1 := keep_frozen HB1.out HG.out HGR.out (p := ⟨w.heap.size + 1, 1, none⟩) (by have := HVS.out; simp; omega) (HRF.out 1)
      have z2 := keep_frozen HB1.out HG.out HGR.out (p := ⟨w.heap.size + 1, 2, none⟩) (by have := HVS.out; simp; omega) (HRF.out 2)
      have HIN := hide hin
      clear hin
      have hgw : w.heap.size + 1 ≠ g := by have := HVS.out; have := HG.out; omega
      go_wp2
      refine bodyPost_ret (v := .agg #[.int .i64 (xt - xf), .int .i64 c, .slice (some ⟨g, 0, none⟩) n n]) (by simp [results, Tryd.results19, go_sem, q0, q1, q2]) rfl ⟨_, rfl, ⟨.slice (some ⟨g, 0, none⟩) n n, by rw [Hc.out, show ((t - f : Nat) : Int) = xt - xf by have := HF.out; have := HT.out; omega], ?_⟩, ?_, fresh_at (by first | omega | (have := HVS.out; have := HG.out; omega)) _ _ _⟩
      · have h := HRO.out
        rw [HIN.out, rowsF_end] at h
        show IsInts _ _ (tab ((t - f) * C) _)
        rw [HN.out]
        exact (((h.other ⟨w.heap.size + 1, 0, none⟩ _ hgw.symm).other ⟨w.heap.size + 1, 1, none⟩ _ hgw.symm).other ⟨w.heap.size + 1, 2, none⟩ _ hgw.symm).isTab (by unfold maxLen; omega)
      · exact (((keep_below HWV.out HB1.out HG.out HGR.out).setCell (by simp) _).setCell (by simp) _).setCell (by simp) _
end Go.Proofs.YtokohpabmmcioaeDoor
/- What MatAdd and MatTimes of the document's answer come to: cell by cell. -/
namespace Go.Proofs.YtokohpabmmcioaeDoor
open Go.RowKit
end Go.Proofs.YtokohpabmmcioaeDoor
/- What MatSums of the document's answer comes to: the sum of each column, row by row. -/
namespace Go.Proofs.YtokohpabmmcioaeDoor
open Go.RowKit
def sumF (cs : List Int) (C i q : Nat) : Int := colS cs C q (if q < i % C then i / C + 1 else i / C)
theorem next_at {C i : Nat} (hC : 0 < C) : (i % C + 1 < C ∧ (i + 1) % C = i % C + 1 ∧ (i + 1) / C = i / C) ∨ (i % C + 1 = C ∧ (i + 1) % C = 0 ∧ (i + 1) / C = i / C + 1) := by
  have hd := Nat.div_add_mod i C
  have hm := Nat.mod_lt i hC
  by_cases h : i % C + 1 < C
  · left
    have e : i + 1 = (i / C) * C + (i % C + 1) := by rw [Nat.mul_comm]; omega
    refine ⟨h, ?_, ?_⟩
    · rw [e, Nat.add_comm, Nat.add_mul_mod_self_right, Nat.mod_eq_of_lt h]
    · rw [e, Nat.add_comm, Nat.add_mul_div_right _ _ hC, Nat.div_eq_of_lt h, Nat.zero_add]
  · right
    have h' : i % C + 1 = C := by omega
    have e : i + 1 = (i / C + 1) * C := by rw [Nat.add_mul, Nat.one_mul, Nat.mul_comm]; omega
    refine ⟨h', ?_, ?_⟩
    · rw [e]; exact Nat.mul_mod_left _ _
    · rw [e]; exact Nat.mul_div_cancel _ hC
theorem sumF_at (cs : List Int) (C i : Nat) : sumF cs C i (i % C) = colS cs C (i % C) (i / C) := by unfold sumF; rw [if_neg (by omega)]
theorem sumF_step (cs : List Int) (C i : Nat) (hC : 0 < C) (x : Int) (hx : cs[i]? = some x) : (tab C (sumF cs C i)).set (i % C) (ad (colS cs C (i % C) (i / C)) x) = tab C (sumF cs C (i + 1)) := by
  rw [tab_set]
  refine tab_congr (fun q hq => ?_)
  have hd := Nat.div_add_mod i C
  have hix : (i / C) * C + i % C = i := by rw [Nat.mul_comm]; exact hd
  by_cases h : q = i % C
  · rw [if_pos h]
    have e : ad (colS cs C (i % C) (i / C)) x = colS cs C (i % C) (i / C + 1) := by rw [colS, hix, hx]; rfl
    rw [e, h]
    unfold sumF
    rcases next_at (i := i) hC with ⟨_, e1, e2⟩ | ⟨_, e1, e2⟩
    · rw [e1, e2, if_pos (by omega)]
    · rw [e1, e2, if_neg (by omega)]
  · rw [if_neg h]
    unfold sumF
    rcases next_at (i := i) hC with ⟨e0, e1, e2⟩ | ⟨e0, e1, e2⟩
    · rw [e1, e2]
      generalize i % C = a at *
      by_cases k : q < a
      · rw [if_pos k, if_pos (by omega)]
      · rw [if_neg k, if_neg (by omega)]
    · rw [e1, e2]
      generalize i % C = a at *
      rw [if_pos (by omega), if_neg (by omega)]
theorem sumF_zero (cs : List Int) (C : Nat) : tab C (fun _ => 0) = tab C (sumF cs C 0) := tab_congr (fun q _ => by unfold sumF; rw [Nat.zero_mod, Nat.zero_div, if_neg (by omega), colS])
theorem sumF_end (cs : List Int) (C R : Nat) (hC : 0 < C) : tab C (sumF cs C (R * C)) = tab C (fun q => colS cs C q R) := tab_congr (fun q _ => by
  unfold sumF; rw [Nat.mul_mod_left, Nat.mul_div_cancel _ hC, if_neg (by omega)])
end Go.Proofs.YtokohpabmmcioaeDoor
/- The document's answers give what package mat gives, where it says no error. -/
namespace Go.Proofs.YtokohpabmmcioaeDoor
open Go.RowKit
/-- A call that gives a matrix, in new memory. -/
def RefEnd (w : World) (m : Mx) (e : Ending) (w' : World) : Prop := ∃ a n k, e = .returned (.agg #[.int .i64 m.rows, .int .i64 m.cols, .slice a n k]) ∧ IsMx w' (.agg #[.int .i64 m.rows, .int .i64 m.cols, .slice a n k]) m ∧ Below w.heap.size w w' ∧ Fresh w.heap.size (.agg #[.int .i64 m.rows, .int .i64 m.cols, .slice a n k])
theorem refEnd_of {w : World} {m m' : Mx} {e : Ending} {w' : World} (h : ∃ v', e = .returned v' ∧ IsMx w' v' m' ∧ Below w.heap.size w w' ∧ Fresh w.heap.size v') (hm : m = m') : RefEnd w m e w' := by
  subst hm
  obtain ⟨v, rfl, ⟨s, rfl, hs⟩, hb, hf⟩ := h
  obtain ⟨a, n, k, rfl⟩ := hs.shape
  exact ⟨a, n, k, rfl, ⟨_, rfl, hs⟩, hb, hf⟩
theorem timesE_zero {a : Mx} (hf : fault a = 0) : timesE a = 0 := by unfold timesE; rw [if_neg (by simp [hf])]
theorem ref_rows {va : Value} {a : Mx} (f t : Int) (w : World) (hva : IsMx w va a) (hE : rowsE a f t = 0) (hf : fault a = 0) (h0 : 0 ≤ f) (h1 : f ≤ t) (h2 : t ≤ a.rows) : Calls Tryd.prog 19 #[va, .int .i64 f, .int .i64 t] w (RefEnd w (rowsX a f t)) := by
  obtain ⟨R, C, ga⟩ := good_of hf
  obtain ⟨F, rfl⟩ : ∃ F : Nat, f = (F : Int) := ⟨f.toNat, by omega⟩
  obtain ⟨T, rfl⟩ : ∃ T : Nat, t = (T : Int) := ⟨t.toNat, by omega⟩
  refine (rrows_any va a R C F T w hva ga.c ga.hR (by have := ga.hC; omega) ga.l (by omega) (by have := ga.r; omega)).mono ?_
  intro e w' h
  refine refEnd_of h ?_
  unfold rowsX
  have e1 : (T : Int) - (F : Int) = ((T - F : Nat) : Int) := by omega
  rw [if_pos hE, ga.c, e1]; simp
end Go.Proofs.YtokohpabmmcioaeDoor
