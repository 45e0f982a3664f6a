/- What Stack of package mat comes to. Condition: not more than two million matrices. -/
import Derived.Test.YtokohpabmmcioaeDoorMRowsOf
import Derived.Deep.RegionHeld3
namespace Go.Proofs.YtokohpabmmcioaeDoor
open Go.RowKit
/-- A slice value that reads as these rows. -/
def IsRows (w : World) (v : Value) (zss : List (List Int)) : Prop :=
  ∃ (a : Option Addr) (cap : Nat), v = .slice a zss.length cap ∧ zss.length ≤ cap ∧ cap ≤ maxLen ∧ (zss = [] ∨ ∃ b off, a = some ⟨b, off, none⟩ ∧ ∀ (i : Nat) zs, zss[i]? = some zs → ∃ s, w.cell? ⟨b, off + i, none⟩ = some s ∧ IsInts w s zs)
theorem IsRows.below {w w' : World} {v : Value} {zss : List (List Int)} (h : IsRows w v zss) (hb : Below w.heap.size w w') : IsRows w' v zss := by
  obtain ⟨a, cap, h1, h2, h3, h4⟩ := h
  refine ⟨a, cap, h1, h2, h3, h4.imp id ?_⟩
  rintro ⟨b, off, ha, hc⟩
  refine ⟨b, off, ha, fun i zs hz => ?_⟩
  obtain ⟨s, hs, hi⟩ := hc i zs hz
  exact ⟨s, cell_below hb hs, hi.below hb⟩
theorem IsRows.shape {w : World} {v : Value} {zss : List (List Int)} (h : IsRows w v zss) : ∃ a cap, v = .slice a zss.length cap := by
  obtain ⟨a, cap, h1, _⟩ := h; exact ⟨a, cap, h1⟩
theorem RowsOwn.isRows {w : World} {base : Nat} {wr : World} {v : Value} {zss : List (List Int)} (h : RowsOwn w base wr v zss) (hb : Below w.heap.size w wr) : IsRows wr v zss := by
  obtain ⟨xs, h1, h2⟩ := h
  have hc := fun g e => World.ownsRow.cells h1 (g := g) e
  obtain ⟨hl, h3⟩ := h1
  rcases h3 with ⟨rfl, h0⟩ | ⟨g, cap, cur, rfl, _, _, h4, h5, _, _⟩
  · have : zss = [] := List.eq_nil_of_length_eq_zero h0
    subst this
    exact ⟨none, 0, rfl, Nat.le_refl _, Nat.zero_le _, .inl rfl⟩
  · refine ⟨some ⟨g, 0, none⟩, cap, rfl, h4, h5, .inr ⟨g, 0, rfl, fun i zs hz => ?_⟩⟩
    obtain ⟨s, hs, hi⟩ := h2 i zs hz
    have := hc g rfl i s hs
    rw [Addr.add_lit] at this
    exact ⟨s, this, hi.below hb⟩
set_option maxHeartbeats 800000 in
theorem stack_gives (B : Nat) (v : Value) (zss : List (List Int)) (C : Nat) (w : World) (hB : w.cell? ⟨B, 0, none⟩ = some v) (hv : IsRows w v zss) (hC : ∀ zs ∈ zss, zs.length = C) (hC24 : C ≤ 24) (hn : zss.length ≤ 24) :
    Gives 38 #[.pointer (some ⟨B, 0, none⟩)] zss.length C (fun i j => (((zss[i]?).getD [])[j]?).getD 0) w := by
  intro W i j xi xj hxi hxj hi hj hb
  have d0 := cell_below hb hB
  have hv1 := hv.below hb
  obtain ⟨a, cap, rfl, h2, h3, h4⟩ := hv1
  obtain ⟨zs, hz⟩ : ∃ zs, zss[i]? = some zs := ⟨zss[i], List.getElem?_eq_getElem hi⟩
  obtain ⟨b, off, rfl, hc⟩ := h4.resolve_left (fun e => by rw [e] at hz; simp at hz)
  obtain ⟨s, hs, hsi⟩ := hc i zs hz
  have hlz := hC zs (List.mem_of_getElem? hz)
  obtain ⟨x, hx⟩ : ∃ x, zs[j]? = some x := ⟨zs[j], List.getElem?_eq_getElem (by omega)⟩
  obtain ⟨a', cap', rfl, k2, k3, k4⟩ := hsi
  obtain ⟨b', off', rfl, hc'⟩ := k4.resolve_left (fun e => by rw [e] at hx; simp at hx)
  have hxc := hc' j x hx
  have ef : (((zss[i]?).getD [])[j]?).getD 0 = x := by rw [hz]; simp [hx]
  simp only [ef]
  have e1 : W.cell? ⟨b, off + xi.toNat, none⟩ = some (.slice (some ⟨b', off', none⟩) zs.length cap') := by rw [hxi]; exact hs
  have e2 : W.cell? ⟨b', off' + xj.toNat, none⟩ = some (.int .i64 x) := by rw [hxj]; exact hxc
  have g1 : 0 ≤ xi := by omega
  have g2 : 0 ≤ xj := by omega
  have g3 : xi < (zss.length : Int) := by omega
  have g4 : xj < (zs.length : Int) := by omega
  obtain ⟨N, hN⟩ : ∃ N, zss.length = N := ⟨_, rfl⟩
  obtain ⟨M, hM⟩ : ∃ M, zs.length = M := ⟨_, rfl⟩
  rw [hN] at d0 g3 h2
  rw [hM] at e1 g4 k2
  have g5 : N ≤ 24 := by omega
  have g6 : M ≤ 24 := by omega
  clear hc hc' h4 k4 hxc hs hx hz hB hv hb hC hlz ef hi hj hn hN hM hxi hxj
  go_enter Tryd.func38, Tryd.ntmps38
  go_wp2
  go_ret
  exact ⟨rfl, Below.refl _ _⟩
/-- What Stack says. -/
def stackE (ms : List Mx) : Int := if faults ms ≠ 0 then faults ms else if sameC ms = false then 2 else if 24 < sumR ms then 3 else 0
/-- What Stack gives. -/
def stackX (ms : List Mx) : Mx := if stackE ms = 0 then ⟨sumR ms, (ms.headD noMx).cols, (ms.map Mx.cells).flatten⟩ else noMx
theorem stackX_no {ms : List Mx} (h : stackE ms ≠ 0) : stackX ms = noMx := by unfold stackX; rw [if_neg h]
theorem faults_all {ms : List Mx} (h : faults ms = 0) : ∀ x ∈ ms, fault x = 0 := by
  induction ms with
  | nil => intro x hx; simp at hx
  | cons y l ih =>
    unfold faults at h
    by_cases hy : fault y = 0
    · rw [if_pos hy] at h
      intro x hx
      rcases List.mem_cons.1 hx with rfl | hx
      · exact hy
      · exact ih h x hx
    · rw [if_neg hy] at h; exact absurd h hy
theorem rowsAll_flat {C : Nat} {ms : List Mx} (h : ∀ x ∈ ms, ∃ R, Good x R C) : (rowsAll C ms).flatten = (ms.map Mx.cells).flatten := by
  induction ms with
  | nil => rfl
  | cons y l ih =>
    obtain ⟨R, g⟩ := h y (by simp)
    have := ih (fun x hx => h x (by simp [hx]))
    unfold rowsAll at this ⊢
    have hr : y.rows.toNat = R := by have := g.r; omega
    rw [List.flatMap_cons, List.flatten_append, this, rowsL_flat, hr, List.take_of_length_le (by rw [g.l]; exact Nat.le_refl _)]
    simp
theorem rowsAll_rows {C : Nat} {ms : List Mx} (h : ∀ x ∈ ms, ∃ R, Good x R C) : ∀ zs ∈ rowsAll C ms, zs.length = C := by
  intro zs hz
  unfold rowsAll at hz
  obtain ⟨m, hm, hz⟩ := List.mem_flatMap.1 hz
  obtain ⟨R, g⟩ := h m hm
  have hr : m.rows.toNat = R := by have := g.r; omega
  rw [hr] at hz
  exact rowsL_rows g.l zs hz
theorem below_drew (w : World) : Below w.heap.size w w.drew := ⟨rfl, rfl, rfl, Nat.le_refl _, fun _ _ => rfl⟩
theorem head_at {ms : List Mx} {y : Mx} (h : ms[0]? = some y) : ms.headD noMx = y := by
  cases ms with
  | nil => simp at h
  | cons z l => simpa using h
set_option maxHeartbeats 800000 in
theorem mstack_any (v : Value) (ms : List Mx) (w : World) (hv : IsMxs w v ms) (hmax : ms.length ≤ 2000000) :
    Calls Tryd.prog 26 #[v] w (MxErr w (stackX ms) (stackE ms)) := by
  have hQ0 := ResBox.new w 24 rfl
  have hb0 := below_one w (.cells #[.int .i64 0, .int .i64 0, .slice none 0 0] 24)
  have h5 := hv
  obtain ⟨a, cap, rfl, h2, h3, h4⟩ := h5
  obtain ⟨n, hn⟩ : ∃ n, ms.length = n := ⟨_, rfl⟩
  rw [hn] at hv h2 ⊢
  have HCH := hide (checks_any _ ms _ (hv.below hb0))
  have HV := hide hv
  have HQ := hide hQ0
  have HB := hide hb0
  have HMX := hide hmax
  have HLN := hide hn
  clear hQ0 hb0 hv h4 hmax hn
  go_enter Tryd.func26, Tryd.ntmps26
  go_wp2_with fail
  refine HCH.out.mono ?_
  rintro e w3 ⟨rfl, hb3⟩
  have p := HQ.out.below hb3
  have p0 := p.c0
  have p1 := p.c1
  have p2 := p.c2
  have p3 := p.f 0
  have p4 := p.f 1
  have p5 := p.f 2
  have HQ3 := hide p
  have HW := hide (below_next HB.out hb3)
  clear hb3 p HCH HQ HB
  have HRT := hide (fun (W : World) (hW : Below w.heap.size w W) (t u s : Value) => (show Below w.heap.size w (((W.setCell ⟨w.heap.size, 0, none⟩ t).setCell ⟨w.heap.size, 1, none⟩ u).setCell ⟨w.heap.size, 2, none⟩ s) from ((hW.setCell (by simp) _).setCell (by simp) _).setCell (by simp) _))
  by_cases hf : faults ms = 0
  · rw [err_eq hf]
    have HF := hide hf
    have HS := hide (samecols_any _ ms w3 (HV.out.below HW.out))
    clear hf
    cases hs : sameC ms with
    | false =>
      rw [hs] at HS
      have HE := hide (show stackE ms = 2 by unfold stackE; rw [if_neg (by simp [HF.out]), if_pos hs])
      clear hs
      go_wp2_with fail
      refine HS.out.mono ?_
      rintro e w4 ⟨rfl, hb4⟩
      have p := HQ3.out.below hb4
      have o0 := p.c0
      have o1 := p.c1
      have o2 := p.c2
      have o3 := p.f 0
      have o4 := p.f 1
      have o5 := p.f 2
      have HW4 := hide (below_next HW.out hb4)
      clear p p0 p1 p2 p3 p4 p5 hb4 HS
      go_wp2
      refine bodyPost_ret (v := .tuple #[.agg #[.int .i64 0, .int .i64 0, .slice none 0 0], .iface 27 (.int .i64 2)]) (by simp [results, Tryd.results26, go_sem, o0, o1, o2]) rfl ⟨_, by rw [HE.out]; rfl, by rw [stackX_no (by rw [HE.out]; decide)]; exact isMx_no _, HRT.out _ HW4.out _ _ _, fresh_no _ _ _⟩
    | true =>
      rw [hs] at HS
      have hsc := hs
      unfold sameC at hsc
      rw [decide_eq_true_iff] at hsc
      obtain ⟨y, hy⟩ : ∃ y, ms[0]? = some y := by
        cases ms with
        | nil => exact absurd rfl hsc.1
        | cons z l => exact ⟨z, rfl⟩
      have hcol : ∀ x ∈ ms, x.cols = y.cols := fun x hx => by rw [hsc.2 x hx, head_at hy]
      obtain ⟨R0, C, gy⟩ := good_of (faults_all HF.out y (List.mem_of_getElem? hy))
      have hG : ∀ x ∈ ms, ∃ R, Good x R C := fun x hx => by
        obtain ⟨R, C', g⟩ := good_of (faults_all HF.out x hx)
        have : C' = C := by have := g.c; have := gy.c; have := hcol x hx; omega
        subst this
        exact ⟨R, g⟩
      have hbd : ∀ x ∈ ms, 0 ≤ x.rows ∧ x.rows ≤ 24 := fun x hx => by obtain ⟨R, g⟩ := hG x hx; have := g.r; have := g.hR; omega
      have HK := hide (fun W (h : Below w.heap.size w W) => countrows_any _ ms W (HV.out.below h) hbd HMX.out)
      have HG := hide (And.intro hG (And.intro hy gy))
      have HSC := hide hs
      obtain ⟨S, hS⟩ : ∃ S, sumR ms = S := ⟨_, rfl⟩
      rw [hS] at HK
      have HSS := hide hS
      have hS0 := (sumR_bd hbd).1
      have hS1 := (sumR_bd hbd).2
      rw [hS] at hS0 hS1
      have hS2 : S ≤ 48000000 := by have := HMX.out; omega
      clear hs hsc hcol hbd hG hS hS1 gy
      go_wp2_with fail
      refine HS.out.mono ?_
      rintro e w4 ⟨rfl, hb4⟩
      have HQ4 := hide (HQ3.out.below hb4)
      have HW4 := hide (below_next HW.out hb4)
      clear p0 p1 p2 p3 p4 p5 hb4 HS HQ3 HW
      go_wp2_with fail
      refine (HK.out _ HW4.out).mono ?_
      rintro e w5 ⟨rfl, hb5⟩
      have HQ5 := hide (HQ4.out.below hb5)
      have HW5 := hide (below_next HW4.out hb5)
      clear hb5 HK HQ4 HW4
      by_cases h24 : 24 < S
      · have HE := hide (show stackE ms = 3 by unfold stackE; rw [if_neg (by simp [HF.out]), if_neg (by simp [HSC.out]), if_pos (by rw [HSS.out]; exact h24)])
        have o0 := HQ5.out.c0
        have o1 := HQ5.out.c1
        have o2 := HQ5.out.c2
        have o3 := HQ5.out.f 0
        have o4 := HQ5.out.f 1
        have o5 := HQ5.out.f 2
        go_wp2
        refine bodyPost_ret (v := .tuple #[.agg #[.int .i64 0, .int .i64 0, .slice none 0 0], .iface 27 (.int .i64 3)]) (by simp [results, Tryd.results26, go_sem, o0, o1, o2]) rfl ⟨_, by rw [HE.out]; rfl, by rw [stackX_no (by rw [HE.out]; decide)]; exact isMx_no _, HRT.out _ HW5.out _ _ _, fresh_no _ _ _⟩
      · have HE := hide (show stackE ms = 0 by unfold stackE; rw [if_neg (by simp [HF.out]), if_neg (by simp [HSC.out]), if_neg (by rw [HSS.out]; exact h24)])
        have HR := hide (rowsof_any _ ms C w5 (HV.out.below HW5.out) HG.out.1 HMX.out (by rw [HSS.out]; omega))
        go_wp2_with fail
        refine HR.out.mono ?_
        rintro e w6 ⟨v', rfl, hro, hb6⟩
        have hir := hro.isRows hb6
        have hNS := rowsAll_len (C := C) HG.out.1
        rw [HSS.out] at hNS
        obtain ⟨zss, hzs⟩ : ∃ zss, rowsAll C ms = zss := ⟨_, rfl⟩
        have hrr := rowsAll_rows HG.out.1
        have hfl := rowsAll_flat HG.out.1
        rw [hzs] at hir hNS hrr hfl
        obtain ⟨ra, rc, rfl⟩ := hir.shape
        obtain ⟨N, hN⟩ : ∃ N, zss.length = N := ⟨_, rfl⟩
        have hC12 := HG.out.2.2.hC
        have hb7 := below_one w6 (.cells #[.slice ra zss.length rc] 81)
        have k0 := box_new w6 #[.slice ra zss.length rc] 81 (B := w6.heap.size) (j := 0) (x := .slice ra zss.length rc) rfl rfl
        have hg := stack_gives w6.heap.size (.slice ra zss.length rc) zss C (w6.alloc (.cells #[.slice ra zss.length rc] 81)).drew (cell_below (below_drew _) k0) ((hir.below hb7).below (below_drew _)) hrr (by omega) (by omega)
        have hb56 := below_next HW5.out hb6
        have HW7 := hide (below_next hb56 hb7)
        have HQ7 := hide ((HQ5.out.below hb6).below hb7)
        have hv7 := HV.out.below HW7.out
        obtain ⟨a0, c0, e0, _, _, h4⟩ := hv7
        injection e0 with e0 en e0'
        subst e0 e0'
        clear en
        obtain ⟨b, off, rfl, hcl⟩ := h4.resolve_left (fun e => by have := HG.out.2.1; rw [e] at this; simp at this)
        obtain ⟨sa, sn, sc, _, d1, _, _⟩ := mx_at hcl HG.out.2.1 (Below.refl _ _)
        rw [Nat.zero_mul, Nat.add_zero] at d1
        have eg := enters_of (f := 38) Tryd.func38 (by kernel_rfl) rfl
        have HFL := hide (fill_any _ _ eg zss.length C (zss.length : Int) y.cols rfl HG.out.2.2.c (by omega) (by omega) _ _ hg)
        have hl0 : (0 : Int) < (n : Int) := by have := HG.out.2.1; have := (List.getElem?_eq_some_iff.1 this).1; have := HLN.out; omega
        have hl1 : 0 < n := by omega
        have hne1 : w.heap.size ≠ w6.heap.size := by have := World.block_lt_of_cell? w6 _ ((HQ5.out.below hb6).c0); intro e; simp only [] at this; omega
        have hne2 : w.heap.size ≠ b := by
          have h0 := HV.out
          obtain ⟨a0, c0, e0, _, _, h4⟩ := h0
          injection e0 with e0 _ e0'
          subst e0 e0'
          obtain ⟨b', off', e, hcl⟩ := h4.resolve_left (fun e => by have := HG.out.2.1; rw [e] at this; simp at this)
          injection e with e
          injection e with e1 e2
          subst e1 e2
          obtain ⟨_, h0, _⟩ := hcl 0 _ HG.out.2.1
          have := World.block_lt_of_cell? w _ h0
          intro e; simp only [] at this; omega
        have hne3 := hne1.symm
        have hne4 := hne2.symm
        have HZ := hide (And.intro hNS (And.intro hrr (And.intro hfl hN)))
        rw [hN] at HFL HW7 HQ7 d1 k0 ⊢
        have hN24 : N ≤ 24 := by omega
        have o0 := HQ7.out.c0
        have o1 := HQ7.out.c1
        have o2 := HQ7.out.c2
        have o3 := HQ7.out.f 0
        have o4 := HQ7.out.f 1
        have o5 := HQ7.out.f 2
        clear hro hir hNS hrr hfl hb7 hg hb56 hb6 h4 hcl eg hzs hN HR
        have HQ8 := hide (HQ7.out.below (below_drew _))
        have HW8 := hide (below_next HW7.out (below_drew _))
        go_wp2_with fail
        go_region_held3 (fun W' => W'.cell? ⟨w6.heap.size, 0, none⟩ = some (.slice ra N rc) ∧ W'.cell? ⟨b, off + 1, none⟩ = some (.int .i64 y.cols)) (go_keep)
          (first | (go_at_call 32; refine HFL.out.mono ?_; rintro e w8 ⟨xa, xn, xc, rfl, hnew, hb8⟩; have HN := hide hnew; have HB8 := hide hb8; have k1 := cell_below hb8 (cell_below (below_drew _) k0); have d2 := cell_below hb8 (cell_below (below_drew _) d1); have q0 := (HQ8.out.below hb8).c0; have q1 := (HQ8.out.below hb8).c1; have q2 := (HQ8.out.below hb8).c2; have q3 := (HQ8.out.below hb8).f 0; have q4 := (HQ8.out.below hb8).f 1; have q5 := (HQ8.out.below hb8).f 2; clear hnew hb8))
        go_wp2
        refine bodyPost_ret (v := .tuple #[.agg #[.int .i64 (N : Int), .int .i64 y.cols, .slice xa xn xc], .nilIface]) (by simp [results, Tryd.results26, go_sem, q0, q1, q2]) rfl ⟨_, by rw [HE.out]; rfl, ?_, ?_, HN.out.fresh HW8.out.size _ _⟩
        · have hlt : w.heap.size < (w6.alloc (.cells #[.slice ra N rc] 81)).drew.heap.size := World.block_lt_of_cell? _ _ HQ8.out.c0
          have HI := (((HN.out.set hlt 0 (.int .i64 (N : Int))).set hlt 1 (.int .i64 y.cols)).set hlt 2 (.slice xa xn xc)).isInts
          have hz := HZ.out
          have ht : tab (N * C) (fun q => (((zss[q / C]?).getD [])[q % C]?).getD 0) = (ms.map Mx.cells).flatten := by rw [← hz.2.2.2, tab_flat C zss hz.2.1, hz.2.2.1]
          rw [ht] at HI
          unfold stackX
          rw [if_pos HE.out, head_at HG.out.2.1, HSS.out]
          exact ⟨_, by rw [← hz.1, hz.2.2.2], HI⟩
        · exact HRT.out _ (below_next HW8.out HB8.out) _ _ _
  · have hE : stackE ms = faults ms := by unfold stackE; rw [if_pos hf]
    have HE := hide (And.intro hE hf)
    rw [err_ne hf]
    obtain ⟨k, hk⟩ : ∃ k, faults ms = k := ⟨_, rfl⟩
    rw [hk] at HE ⊢
    clear hE hf hk
    go_wp2
    refine bodyPost_ret (v := .tuple #[.agg #[.int .i64 0, .int .i64 0, .slice none 0 0], .iface 27 (.int .i64 k)]) (by simp [results, Tryd.results26, go_sem, p0, p1, p2]) rfl ⟨_, by rw [HE.out.1, err_ne HE.out.2], by rw [stackX_no (by rw [HE.out.1]; exact HE.out.2)]; exact isMx_no _, HRT.out _ HW.out _ _ _, fresh_no _ _ _⟩
end Go.Proofs.YtokohpabmmcioaeDoor
