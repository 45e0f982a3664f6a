/- What Turn and Rows of package mat come to. -/
import Derived.Test.YtogmbihigjpmfacDoorMOps
namespace Go.Proofs.YtogmbihigjpmfacDoor
open Go.RowKit
/-- What Turn says. -/
def turnE (a : Mx) : Int := if fault a ≠ 0 then fault a else if 12 < a.rows then 1 else 0
/-- What Turn gives. -/
def turnX (a : Mx) : Mx := if turnE a = 0 then ⟨a.cols, a.rows, tab (a.cols.toNat * a.rows.toNat) (fun q => (a.cells[q % a.rows.toNat * a.cols.toNat + q / a.rows.toNat]?).getD 0)⟩ else noMx
theorem turnX_no {a : Mx} (h : turnE a ≠ 0) : turnX a = noMx := by unfold turnX; rw [if_neg h]
theorem turnX_yes {a : Mx} {R C : Nat} (h : turnE a = 0) (e1 : a.rows = (R : Int)) (e2 : a.cols = (C : Int)) : turnX a = ⟨C, R, tab (C * R) (fun q => (a.cells[q % R * C + q / R]?).getD 0)⟩ := by
  unfold turnX; rw [if_pos h, e1, e2]; simp
set_option maxHeartbeats 800000 in
theorem mturn_any (va : Value) (ma : Mx) (w : World) (hva : IsMx w va ma) :
    Calls Tryd.prog 85 #[va] w (MxErr w (turnX ma) (turnE ma)) := by
  obtain ⟨sa, rfl, hsa⟩ := hva
  have b0 := below_one w (.cells #[.int .i64 ma.rows, .int .i64 ma.cols, sa] 24)
  have b1 := b0.trans ((below_one _ (.cells #[.int .i64 0, .int .i64 0, .slice none 0 0] 24)).mono b0.size)
  have hmx := mxs_one (hsa.below b1) 24
  have hch := checks_any _ _ _ hmx
  rw [faults_one] at hch
  have HCH := hide hch
  clear hmx hch
  obtain ⟨W2, hW2⟩ : ∃ W2, W2 = ((w.alloc (.cells #[.int .i64 ma.rows, .int .i64 ma.cols, sa] 24)).alloc (.cells #[.int .i64 0, .int .i64 0, .slice none 0 0] 24)) := ⟨_, rfl⟩
  have A0 : BoxMx W2 (w.heap.size) ma := by
    have h := box_of (hsa) 24
    rw [hW2]
    have h := h.below (below_one _ (.cells #[.int .i64 0, .int .i64 0, .slice none 0 0] 24))
    simpa using h
  have hW2s : W2.heap.size = w.heap.size + 2 := by rw [hW2]; simp
  have hW2b : Below w.heap.size w W2 := by rw [hW2]; exact b1
  have hQ : ResBox W2 (w.heap.size + 1) := by rw [hW2]; exact ResBox.new _ _ (by simp)
  rw [← hW2] at HCH
  have HQ := hide hQ
  have HW2 := hide hW2
  have HA0 := hide A0
  have HS := hide hW2s
  have HB := hide hW2b
  clear b0 b1 hsa A0 hQ hW2s hW2b hW2
  go_enter Tryd.func85, Tryd.ntmps85
  go_wp2_with fail
  rw [← HW2.out]
  have h := HCH.out
  rw [HS.out] at h
  refine h.mono ?_
  clear h
  rintro e w3 ⟨rfl, hb3⟩
  have hb := (below_one W2 _).trans (hb3.mono (by simp))
  have HB3 := hide hb
  have p := HQ.out.below hb
  have p0 := p.c0
  have p1 := p.c1
  have p2 := p.c2
  have p3 := p.f 0
  have p4 := p.f 1
  have p5 := p.f 2
  clear hb hb3 p HCH HQ
  have HW := hide (HB.out.trans (HB3.out.mono HB.out.size))
  have ret0 : ∀ (t u : Value), Below w.heap.size w (((w3.setCell ⟨w.heap.size + 1, 0, none⟩ t).setCell ⟨w.heap.size + 1, 1, none⟩ u).setCell ⟨w.heap.size + 1, 2, none⟩ (.slice none 0 0)) := fun t u => ((HW.out.setCell (by first | (simp; done) | (simp; omega)) _).setCell (by first | (simp; done) | (simp; omega)) _).setCell (by first | (simp; done) | (simp; omega)) _
  have HRT := hide ret0
  clear ret0
  by_cases hf : fault ma = 0
  · rw [err_eq hf]
    obtain ⟨Ra, Ca, ga⟩ := good_of hf
    have ra1 := ga.r
    have ra2 := ga.hR
    have ra3 := ga.c
    have ra4 := ga.hC
    have ka1 : 0 ≤ ma.rows := by omega
    have ka2 : ma.rows ≤ 24 := by omega
    have ka3 : 0 ≤ ma.cols := by omega
    have ka4 : ma.cols ≤ 12 := by omega
    obtain ⟨s0, d00, d01, d02, hi0⟩ := HA0.out.below HB3.out
    by_cases hs : 12 < ma.rows
    · skip
      have HE := hide (show turnE ma = 1 from by unfold turnE; rw [if_neg (by simp [hf]), if_pos hs])
      clear hf ga ra1 ra2 ra3 ra4 hi0
      go_wp2
      refine bodyPost_ret (v := .tuple #[.agg #[.int .i64 0, .int .i64 0, .slice none 0 0], .iface 27 (.int .i64 1)]) (by simp [results, Tryd.results85, go_sem, p0, p1, p2]) rfl ⟨_, by rw [HE.out]; rfl, by rw [turnX_no (by rw [HE.out]; decide)]; exact isMx_no _, HRT.out _ _, fresh_no _ _ _⟩
    · skip
      have HE := hide (show turnE ma = 0 from by unfold turnE; rw [if_neg (by simp [hf]), if_neg hs])
      have eg := enters_of (f := 93) Tryd.func93 (by kernel_rfl) rfl
      have hg := turn_gives w.heap.size ma Ra Ca w3 (HA0.out.below HB3.out) ga.c ga.hR (by omega) ga.l
      have HF := hide (fill_any _ _ eg Ca Ra ma.cols ma.rows ga.c ga.r (by omega) ga.hR _ w3 hg)
      have HG := hide (And.intro ga trivial)
      clear hg eg hf ga ra1 ra2 ra3 ra4 hi0
      go_wp2_with fail
      refine HF.out.mono ?_
      rintro e w4 ⟨xa, xn, xc, rfl, hnew, hb4⟩
      have HN := hide hnew
      have HB4 := hide hb4
      have o0 := cell_below hb4 p0
      have o1 := cell_below hb4 p1
      have o2 := cell_below hb4 p2
      have hlt : w.heap.size + 1 < w3.heap.size := World.block_lt_of_cell? w3 _ p0
      have o3 := (hb4.frozen (p := ⟨w.heap.size + 1, 0, none⟩) hlt).trans p3
      have o4 := (hb4.frozen (p := ⟨w.heap.size + 1, 1, none⟩) hlt).trans p4
      have o5 := (hb4.frozen (p := ⟨w.heap.size + 1, 2, none⟩) hlt).trans p5
      have HLT := hide hlt
      clear hnew hb4 hlt p0 p1 p2 p3 p4 p5 d00 d01 d02
      go_wp2
      refine bodyPost_ret (v := .tuple #[.agg #[.int .i64 (ma.cols), .int .i64 (ma.rows), .slice xa xn xc], .nilIface]) (by simp [results, Tryd.results85, go_sem, o0, o1, o2]) rfl ⟨_, by rw [HE.out]; rfl, ?_, ?_, HN.out.fresh HW.out.size _ _⟩
      · have HI := (((HN.out.set HLT.out 0 (.int .i64 (ma.cols))).set HLT.out 1 (.int .i64 (ma.rows))).set HLT.out 2 (.slice xa xn xc)).isInts
        rw [turnX_yes HE.out HG.out.1.r HG.out.1.c]
        exact ⟨_, by rw [HG.out.1.r, HG.out.1.c], HI⟩
      · exact (((HW.out.trans (HB4.out.mono HW.out.size)).setCell (by first | (simp; done) | (simp; omega)) _).setCell (by first | (simp; done) | (simp; omega)) _).setCell (by first | (simp; done) | (simp; omega)) _
  · have hE : turnE ma = fault ma := by unfold turnE; rw [if_pos hf]
    have HE := hide (And.intro hE hf)
    rw [err_ne hf]
    obtain ⟨k, hk⟩ : ∃ k, fault ma = k := ⟨_, rfl⟩
    rw [hk] at HE ⊢
    clear hE hf hk
    go_wp2
    refine bodyPost_ret (v := .tuple #[.agg #[.int .i64 0, .int .i64 0, .slice none 0 0], .iface 27 (.int .i64 k)]) (by simp [results, Tryd.results85, go_sem, p0, p1, p2]) rfl ⟨_, by rw [HE.out.1, err_ne HE.out.2], by rw [turnX_no (by rw [HE.out.1]; exact HE.out.2)]; exact isMx_no _, HRT.out _ _, fresh_no _ _ _⟩
/-- What Rows says. -/
def rowsE (a : Mx) (f t : Int) : Int := if fault a ≠ 0 then fault a else if f < 0 ∨ t < f ∨ a.rows < t then 1 else 0
/-- What Rows gives. -/
def rowsX (a : Mx) (f t : Int) : Mx := if rowsE a f t = 0 then ⟨t - f, a.cols, tab ((t - f).toNat * a.cols.toNat) (fun q => (a.cells[f.toNat * a.cols.toNat + q]?).getD 0)⟩ else noMx
theorem rowsX_no {a : Mx} {f t : Int} (h : rowsE a f t ≠ 0) : rowsX a f t = noMx := by unfold rowsX; rw [if_neg h]
theorem row_col {f C q : Nat} : (f + q / C) * C + q % C = f * C + q := by
  rw [Nat.add_mul, Nat.add_assoc, Nat.mul_comm (q / C), Nat.div_add_mod]
end Go.Proofs.YtogmbihigjpmfacDoor
