/- What Add, Times and Sums of package mat come to. -/
import Derived.Test.YtogmbihigjpmfacDoorMOps
import Derived.Test.YtogmbihigjpmfacDoorMAt2
namespace Go.Proofs.YtogmbihigjpmfacDoor
open Go.RowKit
/-- What Add says. -/
def addE (a b : Mx) : Int := if faults [a, b] ≠ 0 then faults [a, b] else if a.rows ≠ b.rows ∨ a.cols ≠ b.cols then 2 else 0
/-- What Add gives. -/
def addX (a b : Mx) : Mx := if addE a b = 0 then ⟨a.rows, a.cols, tab (a.rows.toNat * a.cols.toNat) (fun q => ad ((a.cells[q]?).getD 0) ((b.cells[q]?).getD 0))⟩ else noMx
theorem addX_no {a b : Mx} (h : addE a b ≠ 0) : addX a b = noMx := by unfold addX; rw [if_neg h]
/-- What Times and Sums say. -/
def timesE (a : Mx) : Int := if fault a ≠ 0 then fault a else 0
/-- What Times gives. -/
def timesX (a : Mx) (x : Int) : Mx := if timesE a = 0 then ⟨a.rows, a.cols, tab (a.rows.toNat * a.cols.toNat) (fun q => ml ((a.cells[q]?).getD 0) x)⟩ else noMx
theorem timesX_no {a : Mx} {x : Int} (h : timesE a ≠ 0) : timesX a x = noMx := by unfold timesX; rw [if_neg h]
set_option maxHeartbeats 800000 in
theorem mtimes_any (va : Value) (ma : Mx) (x : Int) (w : World) (hva : IsMx w va ma) :
    Calls Tryd.prog 105 #[va, .int .i64 x] w (MxErr w (timesX ma x) (timesE ma)) := by
  obtain ⟨sa, rfl, hsa⟩ := hva
  have b0 := below_one w (.cells #[.int .i64 ma.rows, .int .i64 ma.cols, sa] 24)
  have b1 := b0.trans ((below_one _ (.cells #[.int .i64 x] 3)).mono b0.size)
  have b2 := b1.trans ((below_one _ (.cells #[.int .i64 0, .int .i64 0, .slice none 0 0] 24)).mono b1.size)
  have hmx := mxs_one (hsa.below b2) 24
  have hch := checks_any _ _ _ hmx
  rw [faults_one] at hch
  have HCH := hide hch
  clear hmx hch
  obtain ⟨W2, hW2⟩ : ∃ W2, W2 = (((w.alloc (.cells #[.int .i64 ma.rows, .int .i64 ma.cols, sa] 24)).alloc (.cells #[.int .i64 x] 3)).alloc (.cells #[.int .i64 0, .int .i64 0, .slice none 0 0] 24)) := ⟨_, rfl⟩
  have A0 : BoxMx W2 (w.heap.size) ma := by
    have h := box_of (hsa) 24
    rw [hW2]
    have h := h.below (below_one _ (.cells #[.int .i64 x] 3))
    have h := h.below (below_one _ (.cells #[.int .i64 0, .int .i64 0, .slice none 0 0] 24))
    simpa using h
  have A1 : W2.cell? ⟨w.heap.size + 1, 0, none⟩ = some (.int .i64 x) := by
    have h := box_new (w.alloc (.cells #[.int .i64 ma.rows, .int .i64 ma.cols, sa] 24)) #[.int .i64 x] 3 (B := w.heap.size + 1) (j := 0) (x := .int .i64 x) (by simp) rfl
    rw [hW2]
    have h := cell_past h (.cells #[.int .i64 0, .int .i64 0, .slice none 0 0] 24)
    exact h
  have hW2s : W2.heap.size = w.heap.size + 3 := by rw [hW2]; simp
  have hW2b : Below w.heap.size w W2 := by rw [hW2]; exact b2
  have hQ : ResBox W2 (w.heap.size + 1 + 1) := by rw [hW2]; exact ResBox.new _ _ (by simp)
  rw [← hW2] at HCH
  have HQ := hide hQ
  have HW2 := hide hW2
  have HA0 := hide A0
  have HA1 := hide A1
  have HS := hide hW2s
  have HB := hide hW2b
  clear b0 b1 b2 hsa A0 A1 hQ hW2s hW2b hW2
  go_enter Tryd.func105, Tryd.ntmps105
  go_wp2_with fail
  rw [← HW2.out]
  have h := HCH.out
  rw [HS.out] at h
  refine h.mono ?_
  clear h
  rintro e w3 ⟨rfl, hb3⟩
  have hb := (below_one W2 _).trans (hb3.mono (by simp))
  have HB3 := hide hb
  have p := HQ.out.below hb
  have p0 := p.c0
  have p1 := p.c1
  have p2 := p.c2
  have p3 := p.f 0
  have p4 := p.f 1
  have p5 := p.f 2
  clear hb hb3 p HCH HQ
  have HW := hide (HB.out.trans (HB3.out.mono HB.out.size))
  have ret0 : ∀ (t u : Value), Below w.heap.size w (((w3.setCell ⟨w.heap.size + 1 + 1, 0, none⟩ t).setCell ⟨w.heap.size + 1 + 1, 1, none⟩ u).setCell ⟨w.heap.size + 1 + 1, 2, none⟩ (.slice none 0 0)) := fun t u => ((HW.out.setCell (by first | (simp; done) | (simp; omega)) _).setCell (by first | (simp; done) | (simp; omega)) _).setCell (by first | (simp; done) | (simp; omega)) _
  have HRT := hide ret0
  clear ret0
  by_cases hf : fault ma = 0
  · rw [err_eq hf]
    obtain ⟨Ra, Ca, ga⟩ := good_of hf
    have ra1 := ga.r
    have ra2 := ga.hR
    have ra3 := ga.c
    have ra4 := ga.hC
    have ka1 : 0 ≤ ma.rows := by omega
    have ka2 : ma.rows ≤ 24 := by omega
    have ka3 : 0 ≤ ma.cols := by omega
    have ka4 : ma.cols ≤ 12 := by omega
    obtain ⟨s0, d00, d01, d02, hi0⟩ := HA0.out.below HB3.out
    have d10 := cell_below HB3.out HA1.out
    have HE := hide (show timesE ma = 0 from by unfold timesE; rw [if_neg (by simp [hf])])
    have eg := enters_of (f := 106) Tryd.func106 (by kernel_rfl) rfl
    have hg := times_gives w.heap.size (w.heap.size + 1) ma x Ra Ca w3 (HA0.out.below HB3.out) (cell_below HB3.out HA1.out) ga.c ga.hR (by omega) ga.l
    have HF := hide (fill_any _ _ eg Ra Ca ma.rows ma.cols ga.r ga.c ga.hR (by omega) _ w3 hg)
    have HG := hide (And.intro ga trivial)
    clear hg eg hf ga ra1 ra2 ra3 ra4 hi0
    go_wp2_with fail
    refine HF.out.mono ?_
    rintro e w4 ⟨xa, xn, xc, rfl, hnew, hb4⟩
    have HN := hide hnew
    have HB4 := hide hb4
    have o0 := cell_below hb4 p0
    have o1 := cell_below hb4 p1
    have o2 := cell_below hb4 p2
    have hlt : w.heap.size + 1 + 1 < w3.heap.size := World.block_lt_of_cell? w3 _ p0
    have o3 := (hb4.frozen (p := ⟨w.heap.size + 1 + 1, 0, none⟩) hlt).trans p3
    have o4 := (hb4.frozen (p := ⟨w.heap.size + 1 + 1, 1, none⟩) hlt).trans p4
    have o5 := (hb4.frozen (p := ⟨w.heap.size + 1 + 1, 2, none⟩) hlt).trans p5
    have HLT := hide hlt
    clear hnew hb4 hlt p0 p1 p2 p3 p4 p5 d00 d01 d02 d10
    go_wp2
    refine bodyPost_ret (v := .tuple #[.agg #[.int .i64 (ma.rows), .int .i64 (ma.cols), .slice xa xn xc], .nilIface]) (by simp [results, Tryd.results105, go_sem, o0, o1, o2]) rfl ⟨_, by rw [HE.out]; rfl, ?_, ?_, HN.out.fresh HW.out.size _ _⟩
    · have HI := (((HN.out.set HLT.out 0 (.int .i64 (ma.rows))).set HLT.out 1 (.int .i64 (ma.cols))).set HLT.out 2 (.slice xa xn xc)).isInts
      unfold timesX
      rw [if_pos HE.out]
      refine ⟨_, rfl, ?_⟩
      simp only [cell_num] at HI
      rw [HG.out.1.r, HG.out.1.c] at HI ⊢
      exact HI
    · exact (((HW.out.trans (HB4.out.mono HW.out.size)).setCell (by first | (simp; done) | (simp; omega)) _).setCell (by first | (simp; done) | (simp; omega)) _).setCell (by first | (simp; done) | (simp; omega)) _
  · have hE : timesE ma = fault ma := by unfold timesE; rw [if_pos hf]
    have HE := hide (And.intro hE hf)
    rw [err_ne hf]
    obtain ⟨k, hk⟩ : ∃ k, fault ma = k := ⟨_, rfl⟩
    rw [hk] at HE ⊢
    clear hE hf hk
    go_wp2
    refine bodyPost_ret (v := .tuple #[.agg #[.int .i64 0, .int .i64 0, .slice none 0 0], .iface 27 (.int .i64 k)]) (by simp [results, Tryd.results105, go_sem, p0, p1, p2]) rfl ⟨_, by rw [HE.out.1, err_ne HE.out.2], by rw [timesX_no (by rw [HE.out.1]; exact HE.out.2)]; exact isMx_no _, HRT.out _ _, fresh_no _ _ _⟩
/-- What Sums gives. -/
def sumsX (a : Mx) : Mx := if timesE a = 0 then ⟨1, a.cols, tab a.cols.toNat (fun q => colS a.cells a.cols.toNat q a.rows.toNat)⟩ else noMx
theorem sumsX_no {a : Mx} (h : timesE a ≠ 0) : sumsX a = noMx := by unfold sumsX; rw [if_neg h]
set_option maxHeartbeats 800000 in
theorem msums_any (va : Value) (ma : Mx) (w : World) (hva : IsMx w va ma) :
    Calls Tryd.prog 86 #[va] w (MxErr w (sumsX ma) (timesE ma)) := by
  obtain ⟨sa, rfl, hsa⟩ := hva
  have b0 := below_one w (.cells #[.int .i64 ma.rows, .int .i64 ma.cols, sa] 24)
  have b1 := b0.trans ((below_one _ (.cells #[.int .i64 0, .int .i64 0, .slice none 0 0] 24)).mono b0.size)
  have hmx := mxs_one (hsa.below b1) 24
  have hch := checks_any _ _ _ hmx
  rw [faults_one] at hch
  have HCH := hide hch
  clear hmx hch
  obtain ⟨W2, hW2⟩ : ∃ W2, W2 = ((w.alloc (.cells #[.int .i64 ma.rows, .int .i64 ma.cols, sa] 24)).alloc (.cells #[.int .i64 0, .int .i64 0, .slice none 0 0] 24)) := ⟨_, rfl⟩
  have A0 : BoxMx W2 (w.heap.size) ma := by
    have h := box_of (hsa) 24
    rw [hW2]
    have h := h.below (below_one _ (.cells #[.int .i64 0, .int .i64 0, .slice none 0 0] 24))
    simpa using h
  have hW2s : W2.heap.size = w.heap.size + 2 := by rw [hW2]; simp
  have hW2b : Below w.heap.size w W2 := by rw [hW2]; exact b1
  have hQ : ResBox W2 (w.heap.size + 1) := by rw [hW2]; exact ResBox.new _ _ (by simp)
  rw [← hW2] at HCH
  have HQ := hide hQ
  have HW2 := hide hW2
  have HA0 := hide A0
  have HS := hide hW2s
  have HB := hide hW2b
  clear b0 b1 hsa A0 hQ hW2s hW2b hW2
  go_enter Tryd.func86, Tryd.ntmps86
  go_wp2_with fail
  rw [← HW2.out]
  have h := HCH.out
  rw [HS.out] at h
  refine h.mono ?_
  clear h
  rintro e w3 ⟨rfl, hb3⟩
  have hb := (below_one W2 _).trans (hb3.mono (by simp))
  have HB3 := hide hb
  have p := HQ.out.below hb
  have p0 := p.c0
  have p1 := p.c1
  have p2 := p.c2
  have p3 := p.f 0
  have p4 := p.f 1
  have p5 := p.f 2
  clear hb hb3 p HCH HQ
  have HW := hide (HB.out.trans (HB3.out.mono HB.out.size))
  have ret0 : ∀ (t u : Value), Below w.heap.size w (((w3.setCell ⟨w.heap.size + 1, 0, none⟩ t).setCell ⟨w.heap.size + 1, 1, none⟩ u).setCell ⟨w.heap.size + 1, 2, none⟩ (.slice none 0 0)) := fun t u => ((HW.out.setCell (by first | (simp; done) | (simp; omega)) _).setCell (by first | (simp; done) | (simp; omega)) _).setCell (by first | (simp; done) | (simp; omega)) _
  have HRT := hide ret0
  clear ret0
  by_cases hf : fault ma = 0
  · rw [err_eq hf]
    obtain ⟨Ra, Ca, ga⟩ := good_of hf
    have ra1 := ga.r
    have ra2 := ga.hR
    have ra3 := ga.c
    have ra4 := ga.hC
    have ka1 : 0 ≤ ma.rows := by omega
    have ka2 : ma.rows ≤ 24 := by omega
    have ka3 : 0 ≤ ma.cols := by omega
    have ka4 : ma.cols ≤ 12 := by omega
    obtain ⟨s0, d00, d01, d02, hi0⟩ := HA0.out.below HB3.out
    have HE := hide (show timesE ma = 0 from by unfold timesE; rw [if_neg (by simp [hf])])
    have eg := enters_of (f := 94) Tryd.func94 (by kernel_rfl) rfl
    have hg := sums_gives w.heap.size ma Ra Ca w3 (HA0.out.below HB3.out) ga.r ga.c ga.hR (by omega) ga.l
    have HF := hide (fill_any _ _ eg 1 Ca 1 ma.cols rfl ga.c (by omega) (by omega) _ w3 hg)
    have HG := hide (And.intro ga trivial)
    clear hg eg hf ga ra1 ra2 ra3 ra4 hi0
    go_wp2_with fail
    refine HF.out.mono ?_
    rintro e w4 ⟨xa, xn, xc, rfl, hnew, hb4⟩
    have HN := hide hnew
    have HB4 := hide hb4
    have o0 := cell_below hb4 p0
    have o1 := cell_below hb4 p1
    have o2 := cell_below hb4 p2
    have hlt : w.heap.size + 1 < w3.heap.size := World.block_lt_of_cell? w3 _ p0
    have o3 := (hb4.frozen (p := ⟨w.heap.size + 1, 0, none⟩) hlt).trans p3
    have o4 := (hb4.frozen (p := ⟨w.heap.size + 1, 1, none⟩) hlt).trans p4
    have o5 := (hb4.frozen (p := ⟨w.heap.size + 1, 2, none⟩) hlt).trans p5
    have HLT := hide hlt
    clear hnew hb4 hlt p0 p1 p2 p3 p4 p5 d00 d01 d02
    go_wp2
    refine bodyPost_ret (v := .tuple #[.agg #[.int .i64 (1), .int .i64 (ma.cols), .slice xa xn xc], .nilIface]) (by simp [results, Tryd.results86, go_sem, o0, o1, o2]) rfl ⟨_, by rw [HE.out]; rfl, ?_, ?_, HN.out.fresh HW.out.size _ _⟩
    · have HI := (((HN.out.set HLT.out 0 (.int .i64 (1))).set HLT.out 1 (.int .i64 (ma.cols))).set HLT.out 2 (.slice xa xn xc)).isInts
      unfold sumsX
      rw [if_pos HE.out]
      refine ⟨_, rfl, ?_⟩
      have e : tab (1 * Ca) (fun q => colS ma.cells Ca (q % Ca) Ra) = tab Ca (fun q => colS ma.cells Ca q Ra) := by
        rw [Nat.one_mul]; exact tab_congr (fun q hq => by rw [Nat.mod_eq_of_lt hq])
      rw [e] at HI
      rw [HG.out.1.c] at HI ⊢
      rw [HG.out.1.r]
      exact HI
    · exact (((HW.out.trans (HB4.out.mono HW.out.size)).setCell (by first | (simp; done) | (simp; omega)) _).setCell (by first | (simp; done) | (simp; omega)) _).setCell (by first | (simp; done) | (simp; omega)) _
  · have hE : timesE ma = fault ma := by unfold timesE; rw [if_pos hf]
    have HE := hide (And.intro hE hf)
    rw [err_ne hf]
    obtain ⟨k, hk⟩ : ∃ k, fault ma = k := ⟨_, rfl⟩
    rw [hk] at HE ⊢
    clear hE hf hk
    go_wp2
    refine bodyPost_ret (v := .tuple #[.agg #[.int .i64 0, .int .i64 0, .slice none 0 0], .iface 27 (.int .i64 k)]) (by simp [results, Tryd.results86, go_sem, p0, p1, p2]) rfl ⟨_, by rw [HE.out.1, err_ne HE.out.2], by rw [sumsX_no (by rw [HE.out.1]; exact HE.out.2)]; exact isMx_no _, HRT.out _ _, fresh_no _ _ _⟩
end Go.Proofs.YtogmbihigjpmfacDoor
