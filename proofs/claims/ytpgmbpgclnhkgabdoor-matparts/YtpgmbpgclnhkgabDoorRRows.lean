/- What MatRows of the document's answer comes to: some rows of a matrix. -/
import Derived.Test.YtpgmbpgclnhkgabDoorRTurn
import Derived.StillTailTactics
namespace Go.Proofs.YtpgmbpgclnhkgabDoor
open Go.RowKit
/-- What stands in the rows taken behind so many cells. -/
def rowsF (cs : List Int) (s i q : Nat) : Int := if q < i then (cs[s + q]?).getD 0 else 0
theorem rowsF_step (cs : List Int) (s i n : Nat) (x : Int) (hx : cs[s + i]? = some x) : (tab n (rowsF cs s i)).set i x = tab n (rowsF cs s (i + 1)) := by
  rw [tab_set]
  refine tab_congr (fun q _ => ?_)
  unfold rowsF
  by_cases hq : q = i
  · subst hq; rw [if_pos rfl, if_pos (by omega), hx]; rfl
  · rw [if_neg hq]
    by_cases h : q < i
    · rw [if_pos h, if_pos (by omega)]
    · rw [if_neg h, if_neg (by omega)]
theorem rowsF_zero (cs : List Int) (s n : Nat) : tab n (fun _ => 0) = tab n (rowsF cs s 0) := tab_congr (fun q _ => by unfold rowsF; rw [if_neg (by omega)])
theorem rowsF_end (cs : List Int) (s n : Nat) : tab n (rowsF cs s n) = tab n (fun q => (cs[s + q]?).getD 0) := tab_congr (fun q hq => by unfold rowsF; rw [if_pos hq])
set_option maxHeartbeats 1600000 in
set_option maxRecDepth 100000 in
theorem rrows_any (v : Value) (m : Mx) (R C : Nat) (f t : Nat) (w : World) (hv : IsMx w v m) (hc : m.cols = (C : Int)) (hR : R ≤ 24) (hC : C ≤ 24) (hl : m.cells.length = R * C) (hft : f ≤ t) (htR : t ≤ R) :
    Calls Tryd.prog 21 #[v, .int .i64 (f : Int), .int .i64 (t : Int)] w fun e w' =>
    ∃ v', e = .returned v' ∧ IsMx w' v' ⟨((t - f : Nat) : Int), C, tab ((t - f) * C) (fun q => (m.cells[f * C + q]?).getD 0)⟩ ∧ Below w.heap.size w w' ∧ Fresh w.heap.size v' := by
  obtain ⟨s, rfl, hs⟩ := hv
  obtain ⟨r, er⟩ : ∃ r, m.rows = r := ⟨_, rfl⟩
  obtain ⟨c, ec⟩ : ∃ c, m.cols = c := ⟨_, rfl⟩
  obtain ⟨n, en⟩ : ∃ n, (t - f) * C = n := ⟨_, rfl⟩
  obtain ⟨xf, exf⟩ : ∃ x, (f : Int) = x := ⟨_, rfl⟩
  obtain ⟨xt, ext⟩ : ∃ x, (t : Int) = x := ⟨_, rfl⟩
  have hn1 : n ≤ R * C - f * C := by rw [← en, ← Nat.sub_mul]; exact Nat.mul_le_mul_right C (by omega)
  have hn2 : f * C + n ≤ R * C := by have := Nat.mul_le_mul_right C (show f ≤ R by omega); omega
  have hRC := Nat.mul_le_mul hR hC
  rw [er, ec, exf, ext]
  rw [ec] at hc
  have hb := fun W => blank_any (xt - xf) c n W (by rw [hc, ← en, ← exf, ← ext, ← Int.ofNat_sub hft]; simp) (by omega)
  have HB := hide hb
  have HS := hide hs
  have HL := hide hl
  have Hc := hide hc
  have HN := hide en
  have HF := hide exf.symm
  have HT := hide ext.symm
  have HN2 := hide hn2
  have hnb : n ≤ 576 := by omega
  have hxf0 : 0 ≤ xf := by omega
  have hxt1 : xt ≤ 24 := by omega
  have hxft : xf ≤ xt := by omega
  have tb := mul_bds exf.symm hc (by omega) hC
  clear hb hs hl hc er ec en exf ext hn1 hn2 hRC
  go_enter Tryd.func21, Tryd.ntmps21
  go_wp2_with fail
  refine (HB.out _).mono ?_
  rintro e w1 ⟨g, rfl, hg, hrow, hb1⟩
  generalize hV : ((w.alloc (.cells #[.int .i64 r, .int .i64 c, s] 24)).alloc (.cells #[.int .i64 0, .int .i64 0, .slice none 0 0] 24)) = V at *
  have hVs : V.heap.size = w.heap.size + 2 := by rw [← hV]; simp
  have v0 : V.cell? ⟨w.heap.size, 1, none⟩ = some (.int .i64 c) := by rw [← hV]; exact cell_past (by simp) _
  have v1 : V.cell? ⟨w.heap.size, 2, none⟩ = some s := by rw [← hV]; exact cell_past (by simp) _
  have r0 : V.cell? ⟨w.heap.size + 1, 0, none⟩ = some (.int .i64 0) := by rw [← hV]; simp
  have r1 : V.cell? ⟨w.heap.size + 1, 1, none⟩ = some (.int .i64 0) := by rw [← hV]; simp
  have r2 : V.cell? ⟨w.heap.size + 1, 2, none⟩ = some (.slice none 0 0) := by rw [← hV]; simp
  have rf : ∀ j, V.frozen? ⟨w.heap.size + 1, j, none⟩ = false := fun j => by rw [← hV]; simp
  have hwV : Below w.heap.size w V := by rw [← hV]; exact ((Below.refl _ w).alloc (Nat.le_refl _) _).alloc (by simp) _
  have hglt : g < w1.heap.size := hrow.lt
  have HV := hide (And.intro v0 (And.intro v1 (And.intro r0 (And.intro r1 r2))))
  have HRF := hide rf
  have HWV := hide hwV
  have HB1 := hide hb1
  have HG := hide hg
  have HVS := hide hVs
  have HR := hide (hrow.alloc (.cells #[.int .i64 (xt - xf), .int .i64 c, .slice (some ⟨g, 0, none⟩) n n] 24))
  clear v0 v1 r0 r1 r2 rf hwV hb1 hg hrow hVs
  go_wp2
  clear hV
  go_loopw [8] (fun a wr => ∃ (i : Nat) (xi : Int), i ≤ n ∧ xi = (i : Int) ∧ a = .int .i64 xi ∧ RowAt 3 wr g (tab n (rowsF m.cells (f * C) i)) ∧ (w1.alloc (.cells #[.int .i64 (xt - xf), .int .i64 c, .slice (some ⟨g, 0, none⟩) n n] 24)).grownBy wr (some g)) (fun a _ => n - (intOf a).toNat)
  case atStart => exact ⟨0, 0, Nat.zero_le _, rfl, rfl, by rw [← rowsF_zero]; exact HR.out, World.grownBy.refl _ _⟩
  case round =>
    obtain ⟨i, xi, hi, hxi, rfl, hro, hgr⟩ := hrel
    have p2 := box_cell hglt hgr (j := 2) rfl
    have HRO := hide hro
    have HGR := hide hgr
    have HXI := hide hxi
    have hxi0 : 0 ≤ xi := by omega
    have hxi1 : xi ≤ 576 := by omega
    clear hro hgr hxi
    by_cases hlt : xi < (n : Int)
    · obtain ⟨x, hx⟩ : ∃ x, m.cells[f * C + i]? = some x := ⟨m.cells[f * C + i]'(by have := HL.out; have := HN2.out; have := HXI.out; omega), List.getElem?_eq_getElem _⟩
      obtain ⟨aa, cap, hsv, _, _, h4⟩ := HS.out
      obtain ⟨b, off, rfl, hcl⟩ := h4.resolve_left (fun e => by rw [e] at hx; simp at hx)
      have cx : wr.cell? ⟨b, off + (xf * c + xi).toNat, none⟩ = some (.int .i64 x) := by
        rw [idx_nat HF.out HXI.out Hc.out]
        have h0 := hcl _ _ hx
        exact keep_cell HB1.out HG.out HGR.out ((HWV.out.cell (p := ⟨b, off + (f * C + i), none⟩) (World.block_lt_of_cell? w _ h0)).trans h0)
      have dx : ∃ y, wr.cell? ⟨g, xi.toNat, none⟩ = some (.int .i64 y) := ⟨_, by rw [show xi.toNat = i by have := HXI.out; omega]; exact HRO.out.cell (tab_at (by have := HXI.out; omega))⟩
      obtain ⟨y, dx⟩ := dx
      have fx : wr.frozen? ⟨g, xi.toNat, none⟩ = false := HRO.out.frozen _
      have j1 := keep_cell HB1.out HG.out HGR.out HV.out.1
      have j2 := keep_cell HB1.out HG.out HGR.out HV.out.2.1
      subst hsv
      obtain ⟨N, hN⟩ : ∃ N, m.cells.length = N := ⟨_, rfl⟩
      rw [hN] at j2
      have HX := hide hx
      have t3 : xf * c + xi < (N : Int) := by rw [mul_cast_idx HF.out HXI.out Hc.out]; have := HL.out; have := HN2.out; have := HXI.out; omega
      have u1 := wrap_in (x := xf * c) (by omega) (by omega)
      have u2 := wrap_in (x := xf * c + xi) (by omega) (by omega)
      have g1 : 0 ≤ xf * c + xi := by omega
      clear hcl h4 hx hN
      go_wp2
      refine region_tail 14 (by kernel_rfl) (by kernel_rfl) ?_
      simp only [List.take_succ_cons, List.take_zero, List.drop_succ_cons, List.drop_zero]
      repeat still_step
      refine wpStill_nil ?_
      go_wp2
      exact ⟨⟨i + 1, _, by have := HXI.out; omega, by have := HXI.out; omega, rfl, by
        rw [show xi.toNat = i by have := HXI.out; omega, ← rowsF_step m.cells (f * C) i n x HX.out]
        exact HRO.out.set i x, grown_drew (grown_set HGR.out _ _)⟩, by have := HXI.out; simp [intOf]; omega⟩
    · have hin : i = n := by have := HXI.out; omega
      have q0 := keep_cell HB1.out HG.out HGR.out HV.out.2.2.1
      have q1 := keep_cell HB1.out HG.out HGR.out HV.out.2.2.2.1
      have q2 := keep_cell HB1.out HG.out HGR.out HV.out.2.2.2.2
      have p0 := box_cell hglt HGR.out (j := 0) rfl
      have p1 := box_cell hglt HGR.out (j := 1) rfl
      have z0 := keep_frozen HB1.out HG.out HGR.out (p := ⟨w.heap.size + 1, 0, none⟩) (by have := HVS.out; simp; omega) (HRF.out 0)
      have z1 := keep_frozen HB1.out HG.out HGR.out (p := ⟨w.heap.size + 1, 1, none⟩) (by have := HVS.out; simp; omega) (HRF.out 1)
      have z2 := keep_frozen HB1.out HG.out HGR.out (p := ⟨w.heap.size + 1, 2, none⟩) (by have := HVS.out; simp; omega) (HRF.out 2)
      have HIN := hide hin
      clear hin
      have hgw : w.heap.size + 1 ≠ g := by have := HVS.out; have := HG.out; omega
      go_wp2
      refine bodyPost_ret (v := .agg #[.int .i64 (xt - xf), .int .i64 c, .slice (some ⟨g, 0, none⟩) n n]) (by simp [results, Tryd.results21, go_sem, q0, q1, q2]) rfl ⟨_, rfl, ⟨.slice (some ⟨g, 0, none⟩) n n, by rw [Hc.out, show ((t - f : Nat) : Int) = xt - xf by have := HF.out; have := HT.out; omega], ?_⟩, ?_, fresh_at (by first | omega | (have := HVS.out; have := HG.out; omega)) _ _ _⟩
      · have h := HRO.out
        rw [HIN.out, rowsF_end] at h
        show IsInts _ _ (tab ((t - f) * C) _)
        rw [HN.out]
        exact (((h.other ⟨w.heap.size + 1, 0, none⟩ _ hgw.symm).other ⟨w.heap.size + 1, 1, none⟩ _ hgw.symm).other ⟨w.heap.size + 1, 2, none⟩ _ hgw.symm).isTab (by unfold maxLen; omega)
      · exact (((keep_below HWV.out HB1.out HG.out HGR.out).setCell (by simp) _).setCell (by simp) _).setCell (by simp) _
end Go.Proofs.YtpgmbpgclnhkgabDoor
