/- What MatTurn of the document's answer comes to: rows become columns. -/
import Derived.Test.YtjmmplpecmnlnadDoorRBlank
import Derived.Test.YtjmmplpecmnlnadDoorPlain
import Derived.Deep.RegionHeld3
import Derived.Deep.LoopGhost
import Derived.Test.YtjmmplpecmnlnadDoorFixRef
import Derived.StillTailTactics
import Derived.Test.YtjmmplpecmnlnadDoorMatA
namespace Go.Proofs.YtjmmplpecmnlnadDoor
open Go.RowKit
/-- What stands in the turned matrix behind i rows and j cells of the next one. -/
def turnF (cs : List Int) (R C i j q : Nat) : Int := if q % R < i ∨ (q % R = i ∧ q / R < j) then (cs[q % R * C + q / R]?).getD 0 else 0
theorem turnF_step (cs : List Int) (R C i j n : Nat) (hi : i < R) (x : Int) (hx : cs[i * C + j]? = some x) : (tab n (turnF cs R C i j)).set (j * R + i) x = tab n (turnF cs R C i (j + 1)) := by
  rw [tab_set]
  refine tab_congr (fun q _ => ?_)
  obtain ⟨e1, e2⟩ := at_div (j := j) hi
  by_cases hq : q = j * R + i
  · rw [if_pos hq, hq]; unfold turnF; rw [e1, e2, if_pos (.inr ⟨rfl, by omega⟩), hx]; rfl
  · rw [if_neg hq]
    have hd := Nat.div_add_mod q R
    have hne : ¬ (q % R = i ∧ q / R = j) := fun e => hq (by rw [← hd, e.1, e.2, Nat.mul_comm])
    unfold turnF
    by_cases h : q % R < i ∨ (q % R = i ∧ q / R < j)
    · rw [if_pos h, if_pos (h.imp id (fun e => ⟨e.1, by omega⟩))]
    · rw [if_neg h, if_neg (fun e => h (e.imp id (fun e => ⟨e.1, by rcases Nat.lt_or_ge (q / R) j with k | k; exact k; exact absurd ⟨e.1, by omega⟩ hne⟩)))]
theorem turnF_row (cs : List Int) (R C i : Nat) : tab (C * R) (turnF cs R C i C) = tab (C * R) (turnF cs R C (i + 1) 0) := by
  refine tab_congr (fun q hq => ?_)
  have hd : q / R < C := Nat.div_lt_of_lt_mul (by rw [Nat.mul_comm]; exact hq)
  unfold turnF
  generalize q / R = d at *
  generalize q % R = e at *
  by_cases h : e < i + 1
  · rw [if_pos (by omega), if_pos (.inl h)]
  · rw [if_neg (by omega), if_neg (by omega)]
theorem turnF_zero (cs : List Int) (R C n : Nat) : tab n (fun _ => 0) = tab n (turnF cs R C 0 0) := by
  refine tab_congr (fun q _ => ?_); unfold turnF; rw [if_neg (fun e => e.elim (Nat.not_lt_zero _) (fun e => Nat.not_lt_zero _ e.2))]
theorem turnF_end (cs : List Int) (R C : Nat) : tab (C * R) (turnF cs R C R 0) = tab (C * R) (fun q => (cs[q % R * C + q / R]?).getD 0) := by
  refine tab_congr (fun q hq => ?_)
  have hR : 0 < R := by rcases Nat.eq_zero_or_pos R with h | h; (subst h; simp at hq); exact h
  unfold turnF; rw [if_pos (.inl (Nat.mod_lt _ hR))]
set_option maxHeartbeats 1600000 in
set_option maxRecDepth 100000 in
theorem turn_any (v : Value) (m : Mx) (R C : Nat) (w : World) (hv : IsMx w v m) (hr : m.rows = (R : Int)) (hc : m.cols = (C : Int)) (hR : R ≤ 24) (hC : C ≤ 24) (hl : m.cells.length = R * C) : Calls Tryd.prog 63 #[v] w fun e w' =>
    ∃ v', e = .returned v' ∧ IsMx w' v' ⟨C, R, tab (C * R) (fun q => (m.cells[q % R * C + q / R]?).getD 0)⟩ ∧ Below w.heap.size w w' ∧ Fresh w.heap.size v' := by
  obtain ⟨s, rfl, hs⟩ := hv
  obtain ⟨r, er⟩ : ∃ r, m.rows = r := ⟨_, rfl⟩
  obtain ⟨c, ec⟩ : ∃ c, m.cols = c := ⟨_, rfl⟩
  obtain ⟨n, en⟩ : ∃ n, C * R = n := ⟨_, rfl⟩
  rw [er, ec]
  rw [er] at hr
  rw [ec] at hc
  have hb := fun W => blank_any c r n W (by rw [hr, hc, ← en]; simp) (by have := Nat.mul_le_mul hC hR; omega)
  have HB := hide hb
  have HS := hide hs
  have HL := hide hl
  have Hr := hide hr
  have Hc := hide hc
  have HN := hide en
  have hnb : n ≤ 576 := by have := Nat.mul_le_mul hC hR; omega
  clear hb hs hl hr hc er ec en
  go_enter Tryd.func63, Tryd.ntmps63
  go_wp2_with fail
  refine (HB.out _).mono ?_
  rintro e w1 ⟨g, rfl, hg, hrow, hb1⟩
  obtain ⟨o, ho⟩ : ∃ o, o = Obj.cells #[.int .i64 c, .int .i64 r, .slice (some ⟨g, 0, none⟩) n n] 25 := ⟨_, rfl⟩
  have hg' : w.heap.size + 2 ≤ g := by simpa using hg
  have hsz := hb1.size
  simp only [World.size_alloc] at hsz
  have old : ∀ j x, ((w.alloc (.cells #[.int .i64 r, .int .i64 c, s] 25)).alloc (.cells #[.int .i64 0, .int .i64 0, .slice none 0 0] 25)).cell? ⟨w.heap.size, j, none⟩ = some x → (w1.alloc o).cell? ⟨w.heap.size, j, none⟩ = some x := fun j x h => cell_past ((hb1.cell (p := ⟨w.heap.size, j, none⟩) (by simp; omega)).trans h) o
  have old' : ∀ j x, ((w.alloc (.cells #[.int .i64 r, .int .i64 c, s] 25)).alloc (.cells #[.int .i64 0, .int .i64 0, .slice none 0 0] 25)).cell? ⟨w.heap.size + 1, j, none⟩ = some x → (w1.alloc o).cell? ⟨w.heap.size + 1, j, none⟩ = some x := fun j x h => cell_past ((hb1.cell (p := ⟨w.heap.size + 1, j, none⟩) (by simp)).trans h) o
  have k0 := old 0 _ (by simp; rfl)
  have k1 := old 1 _ (by simp; rfl)
  have k2 := old 2 _ (by simp; rfl)
  have r0 := old' 0 _ (by simp; rfl)
  have r1 := old' 1 _ (by simp; rfl)
  have r2 := old' 2 _ (by simp; rfl)
  have rf : ∀ j, (w1.alloc o).frozen? ⟨w.heap.size + 1, j, none⟩ = false := fun j => by
    rw [World.frozen?_alloc_old _ _ _ (by simp; omega), hb1.frozen (p := ⟨w.heap.size + 1, j, none⟩) (by simp)]; simp
  have m0 : (w1.alloc o).cell? ⟨w1.heap.size, 0, none⟩ = some (.int .i64 c) := by rw [ho]; simp
  have m1 : (w1.alloc o).cell? ⟨w1.heap.size, 1, none⟩ = some (.int .i64 r) := by rw [ho]; simp
  have m2 : (w1.alloc o).cell? ⟨w1.heap.size, 2, none⟩ = some (.slice (some ⟨g, 0, none⟩) n n) := by rw [ho]; simp
  have hglt : g < w1.heap.size := hrow.lt
  have hrow' := hrow.alloc o
  have hbel : Below w.heap.size w (w1.alloc o) := ((((Below.refl _ w).alloc (Nat.le_refl _) _).alloc (by simp) _).trans (hb1.mono (by simp; omega))).alloc (by omega) o
  subst ho
  generalize hW0 : w1.alloc (.cells #[.int .i64 c, .int .i64 r, .slice (some ⟨g, 0, none⟩) n n] 25) = W0 at *
  have hW0s : W0.heap.size = w1.heap.size + 1 := by rw [← hW0]; simp
  have HK := hide (And.intro k0 (And.intro k1 k2))
  have HRS := hide (And.intro r0 (And.intro r1 r2))
  have HRF := hide rf
  have HM := hide (And.intro m0 (And.intro m1 m2))
  have HR := hide hrow'
  have HBL := hide hbel
  have HZ := hide hW0s
  clear old old' k0 k1 k2 r0 r1 r2 rf m0 m1 m2 hrow' hbel hb1 hrow hW0s
  go_wp2
  clear hW0
  go_loopw [4] (fun a wr => ∃ (i : Nat) (xi : Int), i ≤ R ∧ xi = (i : Int) ∧ a = .int .i64 xi ∧ RowAt 3 wr g (tab n (turnF m.cells R C i 0)) ∧ W0.grownBy wr (some g)) (fun a _ => R - (intOf a).toNat)
  case atStart => exact ⟨0, 0, Nat.zero_le _, rfl, rfl, by rw [← turnF_zero]; exact HR.out, World.grownBy.refl _ _⟩
  case round =>
    obtain ⟨i, xi, hi, hxi, rfl, hro, hgr⟩ := hrel
    have j0 := hgr.cell HK.out.1 (by simp; omega)
    have j1 := hgr.cell HK.out.2.1 (by simp; omega)
    have HRO := hide hro
    have HGR := hide hgr
    have HXI := hide hxi
    have hxi0 : 0 ≤ xi := by omega
    have hxi1 : xi ≤ 24 := by omega
    clear hro hgr hxi
    by_cases hlt : xi < r
    · have hiR : i < R := by have := HXI.out; have := Hr.out; omega
      go_wp2
      go_loopw [5] (fun a wr => ∃ (j : Nat) (xj : Int), j ≤ C ∧ xj = (j : Int) ∧ a = .int .i64 xj ∧ RowAt 3 wr g (tab n (turnF m.cells R C i j)) ∧ W0.grownBy wr (some g)) (fun a _ => C - (intOf a).toNat)
      case atStart => exact ⟨0, 0, Nat.zero_le _, rfl, rfl, HRO.out, HGR.out⟩
      case round =>
        obtain ⟨j, xj, hj, hxj, rfl, hro, hgr⟩ := hrel
        clear j0 j1
        have j0 := hgr.cell HK.out.1 (by simp; omega)
        have j1 := hgr.cell HK.out.2.1 (by simp; omega)
        have j2 := hgr.cell HK.out.2.2 (by simp; omega)
        have p2 := hgr.cell HM.out.2.2 (by simp; omega)
        have HRO2 := hide hro
        have HGR2 := hide hgr
        have HXJ := hide hxj
        have hxj0 : 0 ≤ xj := by omega
        have hxj1 : xj ≤ 24 := by omega
        clear hro hgr hxj
        by_cases hjc : xj < c
        · have hjC : j < C := by have := HXJ.out; have := Hc.out; omega
          have hidx := idx_lt hiR hjC
          have hidy := idx_lt hjC hiR
          obtain ⟨x, hx⟩ : ∃ x, m.cells[i * C + j]? = some x := ⟨m.cells[i * C + j]'(by have := HL.out; omega), List.getElem?_eq_getElem _⟩
          obtain ⟨aa, cap, hsv, h2, h3, h4⟩ := HS.out
          obtain ⟨b, off, rfl, hcl⟩ := h4.resolve_left (fun e => by rw [e] at hx; simp at hx)
          have cx0 := hcl _ _ hx
          have hbw : b < w.heap.size := World.block_lt_of_cell? w _ cx0
          have cx : wr.cell? ⟨b, off + (xi * c + xj).toNat, none⟩ = some (.int .i64 x) := by
            rw [idx_nat HXI.out HXJ.out Hc.out]
            exact HGR2.out.cell ((HBL.out.cell (p := ⟨b, off + (i * C + j), none⟩) hbw).trans cx0) (by simp; omega)
          obtain ⟨y, dx⟩ : ∃ y, wr.cell? ⟨g, (xj * r + xi).toNat, none⟩ = some (.int .i64 y) := ⟨_, by rw [idx_nat HXJ.out HXI.out Hr.out]; exact HRO2.out.cell (tab_at (by have := HN.out; omega))⟩
          have fx : wr.frozen? ⟨g, (xj * r + xi).toNat, none⟩ = false := HRO2.out.frozen _
          subst hsv
          obtain ⟨N, hN⟩ : ∃ N, m.cells.length = N := ⟨_, rfl⟩
          rw [hN] at j2 h2
          have HX := hide hx
          have t1 := mul_bds HXI.out Hc.out (by omega) hC
          have t2 := mul_bds HXJ.out Hr.out (by omega) hR
          have t3 : xi * c + xj < (N : Int) := by rw [mul_cast_idx HXI.out HXJ.out Hc.out]; have := HL.out; omega
          have t4 : xj * r + xi < (n : Int) := by rw [mul_cast_idx HXJ.out HXI.out Hr.out]; have := HN.out; omega
          have hN' : N ≤ 576 := by have := HL.out; have := Nat.mul_le_mul hR hC; omega
          have u1 := wrap_in (x := xi * c) (by omega) (by omega)
          have u2 := wrap_in (x := xi * c + xj) (by omega) (by omega)
          have u3 := wrap_in (x := xj * r) (by omega) (by omega)
          have u4 := wrap_in (x := xj * r + xi) (by omega) (by omega)
          have g1 : 0 ≤ xi * c + xj := by omega
          have g2 : 0 ≤ xj * r + xi := by omega
          have s1 := cell_other p2 (g := g) (by simp; omega)
          have s2 := cell_other j0 (g := g) (by simp; omega)
          have s3 := cell_other j1 (g := g) (by simp; omega)
          have s4 := cell_other j2 (g := g) (by simp; omega)
          have s5 := cell_other cx (g := g) (by simp; omega)
          clear hcl cx0 h4 h3 hx hN hidx hidy
          go_wp2
          go_region_held3 (fun W' => W'.cell? ⟨w1.heap.size, 2, none⟩ = some (.slice (some ⟨g, 0, none⟩) n n) ∧ W'.cell? ⟨w.heap.size, 0, none⟩ = some (.int .i64 r) ∧ W'.cell? ⟨w.heap.size, 1, none⟩ = some (.int .i64 c) ∧ W'.cell? ⟨w.heap.size, 2, none⟩ = some (.slice (some ⟨b, off, none⟩) N cap) ∧ W'.cell? ⟨b, off + (xi * c + xj).toNat, none⟩ = some (.int .i64 x)) (go_keep) (fail)
          go_wp2
          go_roundw
          case rel => exact ⟨j + 1, _, by omega, by have := HXJ.out; omega, rfl, by
            rw [idx_nat HXJ.out HXI.out Hr.out, ← turnF_step m.cells R C i j n hiR x HX.out]
            exact HRO2.out.set (j * R + i) x, grown_drew (grown_set HGR2.out _ _)⟩
          case measure => have := HXJ.out; simp [intOf]; omega
        · go_wp2
          go_roundw
          case rel => exact ⟨i + 1, _, by omega, by have := HXI.out; omega, rfl, by have h := HRO2.out; rw [show j = C by have := HXJ.out; have := Hc.out; omega, ← HN.out, turnF_row, HN.out] at h; exact h, HGR2.out⟩
          case measure => have := HXI.out; simp [intOf]; omega
    · have hiR : i = R := by have := HXI.out; have := Hr.out; omega
      have q0 := HGR.out.cell HRS.out.1 (by simp; omega)
      have q1 := HGR.out.cell HRS.out.2.1 (by simp; omega)
      have q2 := HGR.out.cell HRS.out.2.2 (by simp; omega)
      have p0 := HGR.out.cell HM.out.1 (by simp; omega)
      have p1 := HGR.out.cell HM.out.2.1 (by simp; omega)
      have p2 := HGR.out.cell HM.out.2.2 (by simp; omega)
      have z0 := grown_frozen HGR.out (HRF.out 0) (by have := HZ.out; simp; omega) (by simp; omega)
      have z1 := grown_frozen HGR.out (HRF.out 1) (by have := HZ.out; simp; omega) (by simp; omega)
      have z2 := grown_frozen HGR.out (HRF.out 2) (by have := HZ.out; simp; omega) (by simp; omega)
      have HIR := hide hiR
      clear hiR
      go_wp2
      refine bodyPost_ret (v := .agg #[.int .i64 c, .int .i64 r, .slice (some ⟨g, 0, none⟩) n n]) (by simp [results, Tryd.results63, go_sem, q0, q1, q2]) rfl ⟨_, rfl, ⟨.slice (some ⟨g, 0, none⟩) n n, by rw [Hr.out, Hc.out], ?_⟩, ?_, fresh_at (by omega) _ _ _⟩
      · have h := HRO.out
        rw [HIR.out, ← HN.out, turnF_end] at h
        rw [HN.out] at h
        show IsInts _ _ (tab (C * R) _)
        rw [HN.out]
        exact (((h.other ⟨w.heap.size + 1, 0, none⟩ _ (by simp; omega)).other ⟨w.heap.size + 1, 1, none⟩ _ (by simp; omega)).other ⟨w.heap.size + 1, 2, none⟩ _ (by simp; omega)).isTab (by unfold maxLen; omega)
      · exact (((HBL.out.grown HGR.out (by have := HZ.out; omega) (fun k h => by simp at h; omega)).setCell (by simp) _).setCell (by simp) _).setCell (by simp) _
end Go.Proofs.YtjmmplpecmnlnadDoor
/- What MatMul of the document's answer comes to: the product, summed up in order. -/
namespace Go.Proofs.YtjmmplpecmnlnadDoor
open Go.RowKit
set_option maxHeartbeats 1000000 in
set_option maxRecDepth 100000 in
theorem rmatmul_any (va vb : Value) (ma mb : Mx) (Ra Ca Cb : Nat) (w : World) (hva : IsMx w va ma) (hvb : IsMx w vb mb) (hra : ma.rows = (Ra : Int)) (hca : ma.cols = (Ca : Int)) (hcb : mb.cols = (Cb : Int)) (hRa : Ra ≤ 24) (hCa : Ca ≤ 24) (hCb : Cb ≤ 24) (hla : ma.cells.length = Ra * Ca) (hlb : mb.cells.length = Ca * Cb) :
    Calls Tryd.prog 56 #[va, vb] w fun e w' =>
    ∃ v', e = .returned v' ∧ IsMx w' v' ⟨Ra, Cb, tab (Ra * Cb) (fun q => dot ma.cells mb.cells Ca Cb (q / Cb) (q % Cb) Ca)⟩ ∧ Below w.heap.size w w' ∧ Fresh w.heap.size v' := by
  obtain ⟨sa, rfl, hsa⟩ := hva
  obtain ⟨sb, rfl, hsb⟩ := hvb
  obtain ⟨r, er⟩ : ∃ r, ma.rows = r := ⟨_, rfl⟩
  obtain ⟨c, ec⟩ : ∃ c, ma.cols = c := ⟨_, rfl⟩
  obtain ⟨r', er'⟩ : ∃ r', mb.rows = r' := ⟨_, rfl⟩
  obtain ⟨d, ed⟩ : ∃ d, mb.cols = d := ⟨_, rfl⟩
  obtain ⟨n, en⟩ : ∃ n, Ra * Cb = n := ⟨_, rfl⟩
  rw [er, ec, er', ed]
  rw [er] at hra
  rw [ec] at hca
  rw [ed] at hcb
  have hb := fun W => blank_any r d n W (by rw [hra, hcb, ← en]; simp) (by have := Nat.mul_le_mul hRa hCb; omega)
  have HB := hide hb
  have HSA := hide hsa
  have HSB := hide hsb
  have HLA := hide hla
  have HLB := hide hlb
  have Hr := hide hra
  have Hc := hide hca
  have Hd := hide hcb
  have HN := hide en
  have hnb : n ≤ 576 := by have := Nat.mul_le_mul hRa hCb; omega
  clear hb hsa hsb hla hlb hra hca hcb er ec er' ed en
  go_enter Tryd.func56, Tryd.ntmps56
  go_wp2_with fail
  refine (HB.out _).mono ?_
  rintro e w1 ⟨g, rfl, hg, hrow, hb1⟩
  obtain ⟨o, ho⟩ : ∃ o, o = Obj.cells #[.int .i64 r, .int .i64 d, .slice (some ⟨g, 0, none⟩) n n] 25 := ⟨_, rfl⟩
  obtain ⟨V, hV⟩ : ∃ V, V = ((w.alloc (.cells #[.int .i64 r, .int .i64 c, sa] 25)).alloc (.cells #[.int .i64 r', .int .i64 d, sb] 25)).alloc (.cells #[.int .i64 0, .int .i64 0, .slice none 0 0] 25) := ⟨_, rfl⟩
  have hVs : V.heap.size = w.heap.size + 3 := by rw [hV]; simp
  have hb1 : Below V.heap.size V w1 := by rw [hV]; exact hb1
  have hg' : w.heap.size + 3 ≤ g := by simpa using hg
  have hsz := hb1.size
  rw [hVs] at hsz
  have old : ∀ i j x, i < 3 → V.cell? ⟨w.heap.size + i, j, none⟩ = some x → (w1.alloc o).cell? ⟨w.heap.size + i, j, none⟩ = some x := fun i j x hi h => cell_past ((hb1.cell (p := ⟨w.heap.size + i, j, none⟩) (by show w.heap.size + i < _; omega)).trans h) o
  have ka0 : (w1.alloc o).cell? ⟨w.heap.size, 0, none⟩ = some (.int .i64 r) := old 0 0 _ (by omega) (by rw [hV]; exact cell_past (cell_past (by simp) _) _)
  have ka1 : (w1.alloc o).cell? ⟨w.heap.size, 1, none⟩ = some (.int .i64 c) := old 0 1 _ (by omega) (by rw [hV]; exact cell_past (cell_past (by simp) _) _)
  have ka2 : (w1.alloc o).cell? ⟨w.heap.size, 2, none⟩ = some sa := old 0 2 _ (by omega) (by rw [hV]; exact cell_past (cell_past (by simp) _) _)
  have kb1 : (w1.alloc o).cell? ⟨w.heap.size + 1, 1, none⟩ = some (.int .i64 d) := old 1 1 _ (by omega) (by rw [hV]; exact cell_past (by simp) _)
  have kb2 : (w1.alloc o).cell? ⟨w.heap.size + 1, 2, none⟩ = some sb := old 1 2 _ (by omega) (by rw [hV]; exact cell_past (by simp) _)
  have r0 : (w1.alloc o).cell? ⟨w.heap.size + 1 + 1, 0, none⟩ = some (.int .i64 0) := old 2 0 _ (by omega) (by rw [hV, World.cell?_alloc_at _ _ _ _ (by simp)]; rfl)
  have r1 : (w1.alloc o).cell? ⟨w.heap.size + 1 + 1, 1, none⟩ = some (.int .i64 0) := old 2 1 _ (by omega) (by rw [hV, World.cell?_alloc_at _ _ _ _ (by simp)]; rfl)
  have r2 : (w1.alloc o).cell? ⟨w.heap.size + 1 + 1, 2, none⟩ = some (.slice none 0 0) := old 2 2 _ (by omega) (by rw [hV, World.cell?_alloc_at _ _ _ _ (by simp)]; rfl)
  have rf : ∀ j, (w1.alloc o).frozen? ⟨w.heap.size + 1 + 1, j, none⟩ = false := fun j => by
    rw [World.frozen?_alloc_old _ _ _ (by simp; omega), hb1.frozen (p := ⟨w.heap.size + 1 + 1, j, none⟩) (by show w.heap.size + 1 + 1 < _; omega), hV, World.frozen?_alloc_at _ _ _ _ (by simp)]
  have m0 : (w1.alloc o).cell? ⟨w1.heap.size, 0, none⟩ = some (.int .i64 r) := by rw [ho]; simp
  have m1 : (w1.alloc o).cell? ⟨w1.heap.size, 1, none⟩ = some (.int .i64 d) := by rw [ho]; simp
  have m2 : (w1.alloc o).cell? ⟨w1.heap.size, 2, none⟩ = some (.slice (some ⟨g, 0, none⟩) n n) := by rw [ho]; simp
  have hglt : g < w1.heap.size := hrow.lt
  have hrow' := hrow.alloc o
  have hbel : Below w.heap.size w (w1.alloc o) := by
    have h3 : Below w.heap.size w V := by rw [hV]; exact (((Below.refl _ w).alloc (Nat.le_refl _) _).alloc (by simp) _).alloc (by simp; omega) _
    exact (h3.trans (hb1.mono (by omega))).alloc (by omega) o
  subst ho
  generalize hW0 : w1.alloc (.cells #[.int .i64 r, .int .i64 d, .slice (some ⟨g, 0, none⟩) n n] 25) = W0 at *
  have hW0s : W0.heap.size = w1.heap.size + 1 := by rw [← hW0]; simp
  have HA := hide (And.intro ka0 (And.intro ka1 ka2))
  have HBX := hide (And.intro kb1 kb2)
  have HRS := hide (And.intro r0 (And.intro r1 r2))
  have HRF := hide rf
  have HM := hide (And.intro m0 (And.intro m1 m2))
  have HR := hide hrow'
  have HBL := hide hbel
  have HZ := hide hW0s
  clear old ka0 ka1 ka2 kb1 kb2 r0 r1 r2 rf m0 m1 m2 hrow' hbel hb1 hrow hW0s hVs hV
  go_wp2
  clear hW0
  go_loopw [6] (fun a wr => ∃ (k : Nat) (xk : Int), k ≤ Ca ∧ xk = (k : Int) ∧ a = .int .i64 xk ∧ RowAt 3 wr g (tab n (mulF ma.cells mb.cells Ca Cb k 0 0)) ∧ W0.grownBy wr (some g)) (fun a _ => Ca - (intOf a).toNat)
  case atStart => exact ⟨0, 0, Nat.zero_le _, rfl, rfl, by rw [← mulF_zero]; exact HR.out, World.grownBy.refl _ _⟩
  case round =>
    obtain ⟨k, xk, hk, hxk, rfl, hro, hgr⟩ := hrel
    have j1 := hgr.cell HA.out.2.1 (by simp; omega)
    have HRO := hide hro
    have HGR := hide hgr
    have HXK := hide hxk
    have hxk0 : 0 ≤ xk := by omega
    have hxk1 : xk ≤ 24 := by omega
    clear hro hgr hxk
    by_cases hlt : xk < c
    · have hkC : k < Ca := by have := HXK.out; have := Hc.out; omega
      go_wp2
      go_loopw [7] (fun a wr => ∃ (i : Nat) (xi : Int), i ≤ Ra ∧ xi = (i : Int) ∧ a = .int .i64 xi ∧ RowAt 3 wr g (tab n (mulF ma.cells mb.cells Ca Cb k i 0)) ∧ W0.grownBy wr (some g)) (fun a _ => Ra - (intOf a).toNat)
      case atStart => exact ⟨0, 0, Nat.zero_le _, rfl, rfl, HRO.out, HGR.out⟩
      case round =>
        obtain ⟨i, xi, hi, hxi, rfl, hro, hgr⟩ := hrel
        clear j1
        have j0 := hgr.cell HA.out.1 (by simp; omega)
        have HRO2 := hide hro
        have HGR2 := hide hgr
        have HXI := hide hxi
        have hxi0 : 0 ≤ xi := by omega
        have hxi1 : xi ≤ 24 := by omega
        clear hro hgr hxi
        by_cases hir : xi < r
        · have hiR : i < Ra := by have := HXI.out; have := Hr.out; omega
          go_wp2
          go_loopw [8] (fun a wr => ∃ (j : Nat) (xj : Int), j ≤ Cb ∧ xj = (j : Int) ∧ a = .int .i64 xj ∧ RowAt 3 wr g (tab n (mulF ma.cells mb.cells Ca Cb k i j)) ∧ W0.grownBy wr (some g)) (fun a _ => Cb - (intOf a).toNat)
          case atStart => exact ⟨0, 0, Nat.zero_le _, rfl, rfl, HRO2.out, HGR2.out⟩
          case round =>
            obtain ⟨j, xj, hj, hxj, rfl, hro, hgr⟩ := hrel
            clear j0
            have d1 := hgr.cell HBX.out.1 (by simp; omega)
            have HRO3 := hide hro
            have HGR3 := hide hgr
            have HXJ := hide hxj
            have hxj0 : 0 ≤ xj := by omega
            have hxj1 : xj ≤ 24 := by omega
            clear hro hgr hxj
            by_cases hjd : xj < d
            · have hjC : j < Cb := by have := HXJ.out; have := Hd.out; omega
              have hida := idx_lt hiR hkC
              have hidb := idx_lt hkC hjC
              have hidm := idx_lt hiR hjC
              obtain ⟨x, hx⟩ : ∃ x, ma.cells[i * Ca + k]? = some x := ⟨ma.cells[i * Ca + k]'(by have := HLA.out; omega), List.getElem?_eq_getElem _⟩
              obtain ⟨y, hy⟩ : ∃ y, mb.cells[k * Cb + j]? = some y := ⟨mb.cells[k * Cb + j]'(by have := HLB.out; omega), List.getElem?_eq_getElem _⟩
              obtain ⟨aa, capa, hsva, _, _, h4a⟩ := HSA.out
              obtain ⟨ab, capb, hsvb, _, _, h4b⟩ := HSB.out
              obtain ⟨b, off, rfl, hcla⟩ := h4a.resolve_left (fun e => by rw [e] at hx; simp at hx)
              obtain ⟨b', off', rfl, hclb⟩ := h4b.resolve_left (fun e => by rw [e] at hy; simp at hy)
              have cx0 := hcla _ _ hx
              have cy0 := hclb _ _ hy
              have hbw : b < w.heap.size := World.block_lt_of_cell? w _ cx0
              have hbw' : b' < w.heap.size := World.block_lt_of_cell? w _ cy0
              have cx : wr.cell? ⟨b, off + (xi * c + xk).toNat, none⟩ = some (.int .i64 x) := by
                rw [idx_nat HXI.out HXK.out Hc.out]
                exact HGR3.out.cell ((HBL.out.cell (p := ⟨b, off + (i * Ca + k), none⟩) hbw).trans cx0) (by simp; omega)
              have cy : wr.cell? ⟨b', off' + (xk * d + xj).toNat, none⟩ = some (.int .i64 y) := by
                rw [idx_nat HXK.out HXJ.out Hd.out]
                exact HGR3.out.cell ((HBL.out.cell (p := ⟨b', off' + (k * Cb + j), none⟩) hbw').trans cy0) (by simp; omega)
              have cz : wr.cell? ⟨g, (xi * d + xj).toNat, none⟩ = some (.int .i64 (dot ma.cells mb.cells Ca Cb i j k)) := by
                rw [idx_nat HXI.out HXJ.out Hd.out, ← mulF_at ma.cells mb.cells Ca Cb k i j hjC]
                exact HRO3.out.cell (tab_at (by have := HN.out; omega))
              have fz : wr.frozen? ⟨g, (xi * d + xj).toNat, none⟩ = false := HRO3.out.frozen _
              have j1 := HGR3.out.cell HA.out.2.1 (by simp; omega)
              have j2 := HGR3.out.cell HA.out.2.2 (by simp; omega)
              have d2 := HGR3.out.cell HBX.out.2 (by simp; omega)
              have p1 := HGR3.out.cell HM.out.2.1 (by simp; omega)
              have p2 := HGR3.out.cell HM.out.2.2 (by simp; omega)
              obtain ⟨z, hz⟩ : ∃ z, dot ma.cells mb.cells Ca Cb i j k = z := ⟨_, rfl⟩
              rw [hz] at cz
              subst hsva hsvb
              obtain ⟨Na, hNa⟩ : ∃ N, ma.cells.length = N := ⟨_, rfl⟩
              obtain ⟨Nb, hNb⟩ : ∃ N, mb.cells.length = N := ⟨_, rfl⟩
              rw [hNa] at j2
              rw [hNb] at d2
              have HX := hide hx
              have HY := hide hy
              have HZZ := hide hz
              have t1 := mul_bds HXI.out Hc.out (by omega) hCa
              have t2 := mul_bds HXK.out Hd.out (by omega) hCb
              have t3 := mul_bds HXI.out Hd.out (by omega) hCb
              have t4 : xi * c + xk < (Na : Int) := by rw [mul_cast_idx HXI.out HXK.out Hc.out]; have := HLA.out; omega
              have t5 : xk * d + xj < (Nb : Int) := by rw [mul_cast_idx HXK.out HXJ.out Hd.out]; have := HLB.out; omega
              have t6 : xi * d + xj < (n : Int) := by rw [mul_cast_idx HXI.out HXJ.out Hd.out]; have := HN.out; omega
              have u1 := wrap_in (x := xi * c) (by omega) (by omega)
              have u2 := wrap_in (x := xi * c + xk) (by omega) (by omega)
              have u3 := wrap_in (x := xk * d) (by omega) (by omega)
              have u4 := wrap_in (x := xk * d + xj) (by omega) (by omega)
              have u5 := wrap_in (x := xi * d) (by omega) (by omega)
              have u6 := wrap_in (x := xi * d + xj) (by omega) (by omega)
              have g1 : 0 ≤ xi * c + xk := by omega
              have g2 : 0 ≤ xk * d + xj := by omega
              have g3 : 0 ≤ xi * d + xj := by omega
              clear hcla hclb h4a h4b cx0 cy0 hx hy hz hNa hNb hida hidb hidm
              go_wp2
              go_region_held3 (fun W' => W'.cell? ⟨w.heap.size, 1, none⟩ = some (.int .i64 c) ∧ W'.cell? ⟨w.heap.size, 2, none⟩ = some (.slice (some ⟨b, off, none⟩) Na capa) ∧ W'.cell? ⟨w.heap.size + 1, 1, none⟩ = some (.int .i64 d) ∧ W'.cell? ⟨w.heap.size + 1, 2, none⟩ = some (.slice (some ⟨b', off', none⟩) Nb capb) ∧ W'.cell? ⟨b, off + (xi * c + xk).toNat, none⟩ = some (.int .i64 x) ∧ W'.cell? ⟨b', off' + (xk * d + xj).toNat, none⟩ = some (.int .i64 y)) (go_keep) (first | (go_at_call 65; refine (rmul_any _ _ _).mono ?_; rintro e w' ⟨rfl, rfl⟩))
              clear cx cy j1 j2 d2 u1 u2 u3 u4 g1 g2 t1 t2 t4 t5
              go_wp2
              refine region_tail 21 (by kernel_rfl) (by kernel_rfl) ?_
              simp only [List.take_succ_cons, List.take_zero, List.drop_succ_cons, List.drop_zero]
              repeat still_step
              still_call (radd_any _ _ _)
              repeat still_step
              refine wpStill_nil ?_
              go_wp2
              exact ⟨⟨j + 1, _, by omega, by have := HXJ.out; omega, rfl, by
                have h := HRO3.out.set (i * Cb + j) (ad z (ml x y))
                rw [← HZZ.out, mulF_step ma.cells mb.cells Ca Cb k i j n hjC x y HX.out HY.out] at h
                rw [idx_nat HXI.out HXJ.out Hd.out, ← HZZ.out]
                exact h, grown_drew (grown_drew (grown_set HGR3.out _ _))⟩, by have := HXJ.out; simp [intOf]; omega⟩
            · go_wp2
              go_roundw
              case rel => exact ⟨i + 1, _, by omega, by have := HXI.out; omega, rfl, by have h := HRO3.out; rw [show j = Cb by have := HXJ.out; have := Hd.out; omega, ← HN.out, mulF_row0, HN.out] at h; exact h, HGR3.out⟩
              case measure => have := HXI.out; simp [intOf]; omega
        · go_wp2
          go_roundw
          case rel => exact ⟨k + 1, _, by omega, by have := HXK.out; omega, rfl, by have h := HRO2.out; rw [show i = Ra by have := HXI.out; have := Hr.out; omega, ← HN.out, mulF_next, HN.out] at h; exact h, HGR2.out⟩
          case measure => have := HXK.out; simp [intOf]; omega
    · have hkC : k = Ca := by have := HXK.out; have := Hc.out; omega
      have q0 := HGR.out.cell HRS.out.1 (by simp; omega)
      have q1 := HGR.out.cell HRS.out.2.1 (by simp; omega)
      have q2 := HGR.out.cell HRS.out.2.2 (by simp; omega)
      have p0 := HGR.out.cell HM.out.1 (by simp; omega)
      have p1 := HGR.out.cell HM.out.2.1 (by simp; omega)
      have p2 := HGR.out.cell HM.out.2.2 (by simp; omega)
      have z0 := grown_frozen HGR.out (HRF.out 0) (by have := HZ.out; simp; omega) (by simp; omega)
      have z1 := grown_frozen HGR.out (HRF.out 1) (by have := HZ.out; simp; omega) (by simp; omega)
      have z2 := grown_frozen HGR.out (HRF.out 2) (by have := HZ.out; simp; omega) (by simp; omega)
      have HKC := hide hkC
      clear hkC
      go_wp2
      refine bodyPost_ret (v := .agg #[.int .i64 r, .int .i64 d, .slice (some ⟨g, 0, none⟩) n n]) (by simp [results, Tryd.results56, go_sem, q0, q1, q2]) rfl ⟨_, rfl, ⟨.slice (some ⟨g, 0, none⟩) n n, by rw [Hr.out, Hd.out], ?_⟩, ?_, fresh_at (by first | omega | (have := HVS.out; have := HG.out; omega)) _ _ _⟩
      · have h := HRO.out
        rw [HKC.out, mulF_end] at h
        show IsInts _ _ (tab (Ra * Cb) _)
        rw [HN.out]
        exact (((h.other ⟨w.heap.size + 1 + 1, 0, none⟩ _ (by simp; omega)).other ⟨w.heap.size + 1 + 1, 1, none⟩ _ (by simp; omega)).other ⟨w.heap.size + 1 + 1, 2, none⟩ _ (by simp; omega)).isTab (by unfold maxLen; omega)
      · exact (((HBL.out.grown HGR.out (by have := HZ.out; omega) (fun k h => by simp at h; omega)).setCell (by simp; omega) _).setCell (by simp; omega) _).setCell (by simp; omega) _
end Go.Proofs.YtjmmplpecmnlnadDoor
/- What MatAdd and MatTimes of the document's answer come to: cell by cell. -/
namespace Go.Proofs.YtjmmplpecmnlnadDoor
open Go.RowKit
set_option maxHeartbeats 1600000 in
set_option maxRecDepth 100000 in
theorem rmatadd_any (va vb : Value) (ma mb : Mx) (R C : Nat) (w : World) (hva : IsMx w va ma) (hvb : IsMx w vb mb) (hr : ma.rows = (R : Int)) (hc : ma.cols = (C : Int)) (hR : R ≤ 24) (hC : C ≤ 24) (hla : ma.cells.length = R * C) (hlb : mb.cells.length = R * C) :
    Calls Tryd.prog 41 #[va, vb] w fun e w' =>
    ∃ v', e = .returned v' ∧ IsMx w' v' ⟨R, C, tab (R * C) (fun q => ad ((ma.cells[q]?).getD 0) ((mb.cells[q]?).getD 0))⟩ ∧ Below w.heap.size w w' ∧ Fresh w.heap.size v' := by
  obtain ⟨sa, rfl, hsa⟩ := hva
  obtain ⟨sb, rfl, hsb⟩ := hvb
  obtain ⟨r', er'⟩ : ∃ r, mb.rows = r := ⟨_, rfl⟩
  obtain ⟨c', ec'⟩ : ∃ c, mb.cols = c := ⟨_, rfl⟩
  obtain ⟨r, er⟩ : ∃ r, ma.rows = r := ⟨_, rfl⟩
  obtain ⟨c, ec⟩ : ∃ c, ma.cols = c := ⟨_, rfl⟩
  obtain ⟨n, en⟩ : ∃ n, R * C = n := ⟨_, rfl⟩
  have hRC := Nat.mul_le_mul hR hC
  rw [er, ec, er', ec']
  rw [er] at hr
  rw [ec] at hc
  have hb := fun W => blank_any r c n W (by rw [hr, hc, ← en]; simp) (by omega)
  have HB := hide hb
  have HSA := hide hsa
  have HLA := hide (hla.trans en)
  have HSB := hide hsb
  have HLB := hide (hlb.trans en)
  have Hr := hide hr
  have Hc := hide hc
  have HN := hide en
  have hnb : n ≤ 576 := by omega
  clear hb hsa hla hsb hlb er' ec' hr hc er ec en hRC
  go_enter Tryd.func41, Tryd.ntmps41
  go_wp2_with fail
  refine (HB.out _).mono ?_
  rintro e w1 ⟨g, rfl, hg, hrow, hb1⟩
  generalize hV : ((w.alloc (.cells #[.int .i64 r, .int .i64 c, sa] 25)).alloc (.cells #[.int .i64 r', .int .i64 c', sb] 25)).alloc (.cells #[.int .i64 0, .int .i64 0, .slice none 0 0] 25) = V at *
  have hVs : V.heap.size = w.heap.size + 1 + 1 + 1 := by rw [← hV]; simp
  have v1 : V.cell? ⟨w.heap.size, 2, none⟩ = some sa := by rw [← hV]; exact cell_past (cell_past (by simp) _) _
  have v2 : V.cell? ⟨w.heap.size + 1, 2, none⟩ = some sb := by rw [← hV]; exact cell_past (by simp) _
  have r0 : V.cell? ⟨w.heap.size + 1 + 1, 0, none⟩ = some (.int .i64 0) := by rw [← hV, World.cell?_alloc_at _ _ _ _ (by simp)]; rfl
  have r1 : V.cell? ⟨w.heap.size + 1 + 1, 1, none⟩ = some (.int .i64 0) := by rw [← hV, World.cell?_alloc_at _ _ _ _ (by simp)]; rfl
  have r2 : V.cell? ⟨w.heap.size + 1 + 1, 2, none⟩ = some (.slice none 0 0) := by rw [← hV, World.cell?_alloc_at _ _ _ _ (by simp)]; rfl
  have rf : ∀ j, V.frozen? ⟨w.heap.size + 1 + 1, j, none⟩ = false := fun j => by rw [← hV, World.frozen?_alloc_at _ _ _ _ (by simp)]
  have hwV : Below w.heap.size w V := by rw [← hV]; exact (((Below.refl _ w).alloc (Nat.le_refl _) _).alloc (by simp) _).alloc (by simp; omega) _
  have hglt : g < w1.heap.size := hrow.lt
  have HV := hide (And.intro v1 (And.intro r0 (And.intro r1 r2)))
  have HV2 := hide v2
  have HRF := hide rf
  have HWV := hide hwV
  have HB1 := hide hb1
  have HG := hide hg
  have HVS := hide hVs
  have HR := hide (hrow.alloc (.cells #[.int .i64 r, .int .i64 c, .slice (some ⟨g, 0, none⟩) n n] 25))
  clear v1 v2 r0 r1 r2 rf hwV hb1 hg hrow hVs
  go_wp2
  clear hV
  go_loopw [6] (fun a wr => ∃ (i : Nat) (xi : Int), i ≤ n ∧ xi = (i : Int) ∧ a = .int .i64 xi ∧ RowAt 3 wr g (tab n (fillF (fun q => ad ((ma.cells[q]?).getD 0) ((mb.cells[q]?).getD 0)) i)) ∧ (w1.alloc (.cells #[.int .i64 r, .int .i64 c, .slice (some ⟨g, 0, none⟩) n n] 25)).grownBy wr (some g)) (fun a _ => n - (intOf a).toNat)
  case atStart => exact ⟨0, 0, Nat.zero_le _, rfl, rfl, by rw [← fillF_zero]; exact HR.out, World.grownBy.refl _ _⟩
  case round =>
    obtain ⟨i, xi, hi, hxi, rfl, hro, hgr⟩ := hrel
    have p2 := box_cell hglt hgr (j := 2) rfl
    have HRO := hide hro
    have HGR := hide hgr
    have HXI := hide hxi
    have hxi0 : 0 ≤ xi := by omega
    have hxi1 : xi ≤ 576 := by omega
    clear hro hgr hxi
    by_cases hlt : xi < (n : Int)
    · have hin : i < n := by have := HXI.out; omega
      have hxn : xi.toNat = i := by have := HXI.out; omega
      obtain ⟨x, hx⟩ : ∃ x, ma.cells[i]? = some x := ⟨ma.cells[i]'(by have := HLA.out; omega), List.getElem?_eq_getElem _⟩
      obtain ⟨aa, capa, hsva, _, _, h4a⟩ := HSA.out
      obtain ⟨b, off, rfl, hcla⟩ := h4a.resolve_left (fun e => by rw [e] at hx; simp at hx)
      have cx : wr.cell? ⟨b, off + xi.toNat, none⟩ = some (.int .i64 x) := by
        rw [hxn]
        have h0 := hcla _ _ hx
        exact keep_cell HB1.out HG.out HGR.out ((HWV.out.cell (p := ⟨b, off + i, none⟩) (World.block_lt_of_cell? w _ h0)).trans h0)
      obtain ⟨y, hy⟩ : ∃ y, mb.cells[i]? = some y := ⟨mb.cells[i]'(by have := HLB.out; omega), List.getElem?_eq_getElem _⟩
      obtain ⟨ab, capb, hsvb, _, _, h4b⟩ := HSB.out
      obtain ⟨b', off', rfl, hclb⟩ := h4b.resolve_left (fun e => by rw [e] at hy; simp at hy)
      have cy : wr.cell? ⟨b', off' + xi.toNat, none⟩ = some (.int .i64 y) := by
        rw [hxn]
        have h0 := hclb _ _ hy
        exact keep_cell HB1.out HG.out HGR.out ((HWV.out.cell (p := ⟨b', off' + i, none⟩) (World.block_lt_of_cell? w _ h0)).trans h0)
      have j3 := keep_cell HB1.out HG.out HGR.out HV2.out
      obtain ⟨u, dx⟩ : ∃ u, wr.cell? ⟨g, xi.toNat, none⟩ = some (.int .i64 u) := ⟨_, by rw [hxn]; exact HRO.out.cell (tab_at hin)⟩
      have fx : wr.frozen? ⟨g, xi.toNat, none⟩ = false := HRO.out.frozen _
      have j2 := keep_cell HB1.out HG.out HGR.out HV.out.1
      subst hsva hsvb
      rw [HLA.out] at j2
      rw [HLB.out] at j3
      have HX := hide hx
      have HY := hide hy
      have HXN := hide hxn
      have hw : fillF_ok (fun q => ad ((ma.cells[q]?).getD 0) ((mb.cells[q]?).getD 0)) i (ad x y) := by unfold fillF_ok; simp only [HX.out, HY.out]; rfl
      have HW := hide hw
      clear hcla h4a hx hclb h4b hy hxn hw
      go_wp2
      refine region_tail 15 (by kernel_rfl) (by kernel_rfl) ?_
      simp only [List.take_succ_cons, List.take_zero, List.drop_succ_cons, List.drop_zero]
      repeat still_step
      still_call (radd_any _ _ _)
      repeat still_step
      refine wpStill_nil ?_
      go_wp2
      exact ⟨⟨i + 1, _, by omega, by have := HXI.out; omega, rfl, by
        rw [HXN.out, ← fillF_step _ i n _ HW.out]
        exact HRO.out.set i _, grown_drew (grown_set HGR.out _ _)⟩, by have := HXI.out; simp [intOf]; omega⟩
    · have hin : i = n := by have := HXI.out; omega
      have q0 := keep_cell HB1.out HG.out HGR.out HV.out.2.1
      have q1 := keep_cell HB1.out HG.out HGR.out HV.out.2.2.1
      have q2 := keep_cell HB1.out HG.out HGR.out HV.out.2.2.2
      have p0 := box_cell hglt HGR.out (j := 0) rfl
      have p1 := box_cell hglt HGR.out (j := 1) rfl
      have z0 := keep_frozen HB1.out HG.out HGR.out (p := ⟨w.heap.size + 1 + 1, 0, none⟩) (by have := HVS.out; simp; omega) (HRF.out 0)
      have z1 := keep_frozen HB1.out HG.out HGR.out (p := ⟨w.heap.size + 1 + 1, 1, none⟩) (by have := HVS.out; simp; omega) (HRF.out 1)
      have z2 := keep_frozen HB1.out HG.out HGR.out (p := ⟨w.heap.size + 1 + 1, 2, none⟩) (by have := HVS.out; simp; omega) (HRF.out 2)
      have HIN := hide hin
      clear hin
      have hgw : w.heap.size + 1 + 1 ≠ g := by have := HVS.out; have := HG.out; omega
      go_wp2
      refine bodyPost_ret (v := .agg #[.int .i64 r, .int .i64 c, .slice (some ⟨g, 0, none⟩) n n]) (by simp [results, Tryd.results41, go_sem, q0, q1, q2]) rfl ⟨_, rfl, ⟨.slice (some ⟨g, 0, none⟩) n n, by rw [Hr.out, Hc.out], ?_⟩, ?_, fresh_at (by first | omega | (have := HVS.out; have := HG.out; omega)) _ _ _⟩
      · have h := HRO.out
        rw [HIN.out, fillF_end] at h
        show IsInts _ _ (tab (R * C) _)
        rw [HN.out]
        exact (((h.other ⟨w.heap.size + 1 + 1, 0, none⟩ _ hgw.symm).other ⟨w.heap.size + 1 + 1, 1, none⟩ _ hgw.symm).other ⟨w.heap.size + 1 + 1, 2, none⟩ _ hgw.symm).isTab (by unfold maxLen; omega)
      · exact (((keep_below HWV.out HB1.out HG.out HGR.out).setCell (by simp; omega) _).setCell (by simp; omega) _).setCell (by simp; omega) _
set_option maxHeartbeats 1600000 in
set_option maxRecDepth 100000 in
theorem rmattimes_any (va : Value) (ma : Mx) (k : Int) (R C : Nat) (w : World) (hva : IsMx w va ma) (hr : ma.rows = (R : Int)) (hc : ma.cols = (C : Int)) (hR : R ≤ 24) (hC : C ≤ 24) (hla : ma.cells.length = R * C) :
    Calls Tryd.prog 57 #[va, .int .i64 k] w fun e w' =>
    ∃ v', e = .returned v' ∧ IsMx w' v' ⟨R, C, tab (R * C) (fun q => ml ((ma.cells[q]?).getD 0) k)⟩ ∧ Below w.heap.size w w' ∧ Fresh w.heap.size v' := by
  obtain ⟨sa, rfl, hsa⟩ := hva
  obtain ⟨r, er⟩ : ∃ r, ma.rows = r := ⟨_, rfl⟩
  obtain ⟨c, ec⟩ : ∃ c, ma.cols = c := ⟨_, rfl⟩
  obtain ⟨n, en⟩ : ∃ n, R * C = n := ⟨_, rfl⟩
  have hRC := Nat.mul_le_mul hR hC
  rw [er, ec]
  rw [er] at hr
  rw [ec] at hc
  have hb := fun W => blank_any r c n W (by rw [hr, hc, ← en]; simp) (by omega)
  have HB := hide hb
  have HSA := hide hsa
  have HLA := hide (hla.trans en)
  have Hr := hide hr
  have Hc := hide hc
  have HN := hide en
  have hnb : n ≤ 576 := by omega
  clear hb hsa hla hr hc er ec en hRC
  go_enter Tryd.func57, Tryd.ntmps57
  go_wp2_with fail
  refine (HB.out _).mono ?_
  rintro e w1 ⟨g, rfl, hg, hrow, hb1⟩
  generalize hV : (w.alloc (.cells #[.int .i64 r, .int .i64 c, sa] 25)).alloc (.cells #[.int .i64 0, .int .i64 0, .slice none 0 0] 25) = V at *
  have hVs : V.heap.size = w.heap.size + 1 + 1 := by rw [← hV]; simp
  have v1 : V.cell? ⟨w.heap.size, 2, none⟩ = some sa := by rw [← hV]; exact cell_past (by simp) _
  have r0 : V.cell? ⟨w.heap.size + 1, 0, none⟩ = some (.int .i64 0) := by rw [← hV, World.cell?_alloc_at _ _ _ _ (by simp)]; rfl
  have r1 : V.cell? ⟨w.heap.size + 1, 1, none⟩ = some (.int .i64 0) := by rw [← hV, World.cell?_alloc_at _ _ _ _ (by simp)]; rfl
  have r2 : V.cell? ⟨w.heap.size + 1, 2, none⟩ = some (.slice none 0 0) := by rw [← hV, World.cell?_alloc_at _ _ _ _ (by simp)]; rfl
  have rf : ∀ j, V.frozen? ⟨w.heap.size + 1, j, none⟩ = false := fun j => by rw [← hV, World.frozen?_alloc_at _ _ _ _ (by simp)]
  have hwV : Below w.heap.size w V := by rw [← hV]; exact ((Below.refl _ w).alloc (Nat.le_refl _) _).alloc (by simp) _
  have hglt : g < w1.heap.size := hrow.lt
  have HV := hide (And.intro v1 (And.intro r0 (And.intro r1 r2)))
  have HRF := hide rf
  have HWV := hide hwV
  have HB1 := hide hb1
  have HG := hide hg
  have HVS := hide hVs
  have HR := hide (hrow.alloc (.cells #[.int .i64 r, .int .i64 c, .slice (some ⟨g, 0, none⟩) n n] 25))
  clear v1 r0 r1 r2 rf hwV hb1 hg hrow hVs
  go_wp2
  clear hV
  go_loopw [6] (fun a wr => ∃ (i : Nat) (xi : Int), i ≤ n ∧ xi = (i : Int) ∧ a = .int .i64 xi ∧ RowAt 3 wr g (tab n (fillF (fun q => ml ((ma.cells[q]?).getD 0) k) i)) ∧ (w1.alloc (.cells #[.int .i64 r, .int .i64 c, .slice (some ⟨g, 0, none⟩) n n] 25)).grownBy wr (some g)) (fun a _ => n - (intOf a).toNat)
  case atStart => exact ⟨0, 0, Nat.zero_le _, rfl, rfl, by rw [← fillF_zero]; exact HR.out, World.grownBy.refl _ _⟩
  case round =>
    obtain ⟨i, xi, hi, hxi, rfl, hro, hgr⟩ := hrel
    have p2 := box_cell hglt hgr (j := 2) rfl
    have HRO := hide hro
    have HGR := hide hgr
    have HXI := hide hxi
    have hxi0 : 0 ≤ xi := by omega
    have hxi1 : xi ≤ 576 := by omega
    clear hro hgr hxi
    by_cases hlt : xi < (n : Int)
    · have hin : i < n := by have := HXI.out; omega
      have hxn : xi.toNat = i := by have := HXI.out; omega
      obtain ⟨x, hx⟩ : ∃ x, ma.cells[i]? = some x := ⟨ma.cells[i]'(by have := HLA.out; omega), List.getElem?_eq_getElem _⟩
      obtain ⟨aa, capa, hsva, _, _, h4a⟩ := HSA.out
      obtain ⟨b, off, rfl, hcla⟩ := h4a.resolve_left (fun e => by rw [e] at hx; simp at hx)
      have cx : wr.cell? ⟨b, off + xi.toNat, none⟩ = some (.int .i64 x) := by
        rw [hxn]
        have h0 := hcla _ _ hx
        exact keep_cell HB1.out HG.out HGR.out ((HWV.out.cell (p := ⟨b, off + i, none⟩) (World.block_lt_of_cell? w _ h0)).trans h0)
      obtain ⟨u, dx⟩ : ∃ u, wr.cell? ⟨g, xi.toNat, none⟩ = some (.int .i64 u) := ⟨_, by rw [hxn]; exact HRO.out.cell (tab_at hin)⟩
      have fx : wr.frozen? ⟨g, xi.toNat, none⟩ = false := HRO.out.frozen _
      have j2 := keep_cell HB1.out HG.out HGR.out HV.out.1
      subst hsva
      rw [HLA.out] at j2
      have HX := hide hx
      have HXN := hide hxn
      have hw : fillF_ok (fun q => ml ((ma.cells[q]?).getD 0) k) i (ml x k) := by unfold fillF_ok; simp only [HX.out]; rfl
      have HW := hide hw
      clear hcla h4a hx hxn hw
      go_wp2
      refine region_tail 11 (by kernel_rfl) (by kernel_rfl) ?_
      simp only [List.take_succ_cons, List.take_zero, List.drop_succ_cons, List.drop_zero]
      repeat still_step
      still_call (rmul_any _ _ _)
      repeat still_step
      refine wpStill_nil ?_
      go_wp2
      exact ⟨⟨i + 1, _, by omega, by have := HXI.out; omega, rfl, by
        rw [HXN.out, ← fillF_step _ i n _ HW.out]
        exact HRO.out.set i _, grown_drew (grown_set HGR.out _ _)⟩, by have := HXI.out; simp [intOf]; omega⟩
    · have hin : i = n := by have := HXI.out; omega
      have q0 := keep_cell HB1.out HG.out HGR.out HV.out.2.1
      have q1 := keep_cell HB1.out HG.out HGR.out HV.out.2.2.1
      have q2 := keep_cell HB1.out HG.out HGR.out HV.out.2.2.2
      have p0 := box_cell hglt HGR.out (j := 0) rfl
      have p1 := box_cell hglt HGR.out (j := 1) rfl
      have z0 := keep_frozen HB1.out HG.out HGR.out (p := ⟨w.heap.size + 1, 0, none⟩) (by have := HVS.out; simp; omega) (HRF.out 0)
      have z1 := keep_frozen HB1.out HG.out HGR.out (p := ⟨w.heap.size + 1, 1, none⟩) (by have := HVS.out; simp; omega) (HRF.out 1)
      have z2 := keep_frozen HB1.out HG.out HGR.out (p := ⟨w.heap.size + 1, 2, none⟩) (by have := HVS.out; simp; omega) (HRF.out 2)
      have HIN := hide hin
      clear hin
      have hgw : w.heap.size + 1 ≠ g := by have := HVS.out; have := HG.out; omega
      go_wp2
      refine bodyPost_ret (v := .agg #[.int .i64 r, .int .i64 c, .slice (some ⟨g, 0, none⟩) n n]) (by simp [results, Tryd.results57, go_sem, q0, q1, q2]) rfl ⟨_, rfl, ⟨.slice (some ⟨g, 0, none⟩) n n, by rw [Hr.out, Hc.out], ?_⟩, ?_, fresh_at (by first | omega | (have := HVS.out; have := HG.out; omega)) _ _ _⟩
      · have h := HRO.out
        rw [HIN.out, fillF_end] at h
        show IsInts _ _ (tab (R * C) _)
        rw [HN.out]
        exact (((h.other ⟨w.heap.size + 1, 0, none⟩ _ hgw.symm).other ⟨w.heap.size + 1, 1, none⟩ _ hgw.symm).other ⟨w.heap.size + 1, 2, none⟩ _ hgw.symm).isTab (by unfold maxLen; omega)
      · exact (((keep_below HWV.out HB1.out HG.out HGR.out).setCell (by simp) _).setCell (by simp) _).setCell (by simp) _
end Go.Proofs.YtjmmplpecmnlnadDoor
/- What MatSums of the document's answer comes to: the sum of each column, row by row. -/
namespace Go.Proofs.YtjmmplpecmnlnadDoor
open Go.RowKit
def sumF (cs : List Int) (C i q : Nat) : Int := colS cs C q (if q < i % C then i / C + 1 else i / C)
theorem next_at {C i : Nat} (hC : 0 < C) : (i % C + 1 < C ∧ (i + 1) % C = i % C + 1 ∧ (i + 1) / C = i / C) ∨ (i % C + 1 = C ∧ (i + 1) % C = 0 ∧ (i + 1) / C = i / C + 1) := by
  have hd := Nat.div_add_mod i C
  have hm := Nat.mod_lt i hC
  by_cases h : i % C + 1 < C
  · left
    have e : i + 1 = (i / C) * C + (i % C + 1) := by rw [Nat.mul_comm]; omega
    refine ⟨h, ?_, ?_⟩
    · rw [e, Nat.add_comm, Nat.add_mul_mod_self_right, Nat.mod_eq_of_lt h]
    · rw [e, Nat.add_comm, Nat.add_mul_div_right _ _ hC, Nat.div_eq_of_lt h, Nat.zero_add]
  · right
    have h' : i % C + 1 = C := by omega
    have e : i + 1 = (i / C + 1) * C := by rw [Nat.add_mul, Nat.one_mul, Nat.mul_comm]; omega
    refine ⟨h', ?_, ?_⟩
    · rw [e]; exact Nat.mul_mod_left _ _
    · rw [e]; exact Nat.mul_div_cancel _ hC
theorem sumF_at (cs : List Int) (C i : Nat) : sumF cs C i (i % C) = colS cs C (i % C) (i / C) := by unfold sumF; rw [if_neg (by omega)]
theorem sumF_step (cs : List Int) (C i : Nat) (hC : 0 < C) (x : Int) (hx : cs[i]? = some x) : (tab C (sumF cs C i)).set (i % C) (ad (colS cs C (i % C) (i / C)) x) = tab C (sumF cs C (i + 1)) := by
  rw [tab_set]
  refine tab_congr (fun q hq => ?_)
  have hd := Nat.div_add_mod i C
  have hix : (i / C) * C + i % C = i := by rw [Nat.mul_comm]; exact hd
  by_cases h : q = i % C
  · rw [if_pos h]
    have e : ad (colS cs C (i % C) (i / C)) x = colS cs C (i % C) (i / C + 1) := by rw [colS, hix, hx]; rfl
    rw [e, h]
    unfold sumF
    rcases next_at (i := i) hC with ⟨_, e1, e2⟩ | ⟨_, e1, e2⟩
    · rw [e1, e2, if_pos (by omega)]
    · rw [e1, e2, if_neg (by omega)]
  · rw [if_neg h]
    unfold sumF
    rcases next_at (i := i) hC with ⟨e0, e1, e2⟩ | ⟨e0, e1, e2⟩
    · rw [e1, e2]
      generalize i % C = a at *
      by_cases k : q < a
      · rw [if_pos k, if_pos (by omega)]
      · rw [if_neg k, if_neg (by omega)]
    · rw [e1, e2]
      generalize i % C = a at *
      rw [if_pos (by omega), if_neg (by omega)]
theorem sumF_zero (cs : List Int) (C : Nat) : tab C (fun _ => 0) = tab C (sumF cs C 0) := tab_congr (fun q _ => by unfold sumF; rw [Nat.zero_mod, Nat.zero_div, if_neg (by omega), colS])
theorem sumF_end (cs : List Int) (C R : Nat) (hC : 0 < C) : tab C (sumF cs C (R * C)) = tab C (fun q => colS cs C q R) := tab_congr (fun q _ => by
  unfold sumF; rw [Nat.mul_mod_left, Nat.mul_div_cancel _ hC, if_neg (by omega)])
set_option maxHeartbeats 1600000 in
set_option maxRecDepth 100000 in
theorem rsums_any (va : Value) (ma : Mx) (R C : Nat) (w : World) (hva : IsMx w va ma) (hc : ma.cols = (C : Int)) (hR : R ≤ 24) (hC : C ≤ 24) (hla : ma.cells.length = R * C) :
    Calls Tryd.prog 64 #[va] w fun e w' =>
    ∃ v', e = .returned v' ∧ IsMx w' v' ⟨1, C, tab C (fun q => colS ma.cells C q R)⟩ ∧ Below w.heap.size w w' ∧ Fresh w.heap.size v' := by
  obtain ⟨sa, rfl, hsa⟩ := hva
  obtain ⟨r, er⟩ : ∃ r, ma.rows = r := ⟨_, rfl⟩
  obtain ⟨c, ec⟩ : ∃ c, ma.cols = c := ⟨_, rfl⟩
  obtain ⟨n, en⟩ : ∃ n, C = n := ⟨_, rfl⟩
  obtain ⟨L, eL⟩ : ∃ L, ma.cells.length = L := ⟨_, rfl⟩
  have hRC := Nat.mul_le_mul hR hC
  rw [er, ec]
  rw [ec] at hc
  have hb := fun W => blank_any 1 c n W (by rw [hc, ← en]; simp) (by omega)
  have HB := hide hb
  have HSA := hide hsa
  have HLA := hide eL
  have HLR := hide (eL.symm.trans hla)
  have Hc := hide hc
  have HN := hide en
  have hnb : n ≤ 24 := by omega
  have hLb : L ≤ 576 := by omega
  have hc0 : 0 ≤ c := by omega
  have hc1 : c ≤ 24 := by omega
  clear hb hsa hla hc er ec en hRC eL
  go_enter Tryd.func64, Tryd.ntmps64
  go_wp2_with fail
  refine (HB.out _).mono ?_
  rintro e w1 ⟨g, rfl, hg, hrow, hb1⟩
  generalize hV : (w.alloc (.cells #[.int .i64 r, .int .i64 c, sa] 25)).alloc (.cells #[.int .i64 0, .int .i64 0, .slice none 0 0] 25) = V at *
  have hVs : V.heap.size = w.heap.size + 1 + 1 := by rw [← hV]; simp
  have v0 : V.cell? ⟨w.heap.size, 1, none⟩ = some (.int .i64 c) := by rw [← hV]; exact cell_past (by simp) _
  have v1 : V.cell? ⟨w.heap.size, 2, none⟩ = some sa := by rw [← hV]; exact cell_past (by simp) _
  have r0 : V.cell? ⟨w.heap.size + 1, 0, none⟩ = some (.int .i64 0) := by rw [← hV, World.cell?_alloc_at _ _ _ _ (by simp)]; rfl
  have r1 : V.cell? ⟨w.heap.size + 1, 1, none⟩ = some (.int .i64 0) := by rw [← hV, World.cell?_alloc_at _ _ _ _ (by simp)]; rfl
  have r2 : V.cell? ⟨w.heap.size + 1, 2, none⟩ = some (.slice none 0 0) := by rw [← hV, World.cell?_alloc_at _ _ _ _ (by simp)]; rfl
  have rf : ∀ j, V.frozen? ⟨w.heap.size + 1, j, none⟩ = false := fun j => by rw [← hV, World.frozen?_alloc_at _ _ _ _ (by simp)]
  have hwV : Below w.heap.size w V := by rw [← hV]; exact ((Below.refl _ w).alloc (Nat.le_refl _) _).alloc (by simp) _
  have hglt : g < w1.heap.size := hrow.lt
  have HV := hide (And.intro v1 (And.intro r0 (And.intro r1 r2)))
  have HV0 := hide v0
  have HRF := hide rf
  have HWV := hide hwV
  have HB1 := hide hb1
  have HG := hide hg
  have HVS := hide hVs
  have HR := hide (hrow.alloc (.cells #[.int .i64 1, .int .i64 c, .slice (some ⟨g, 0, none⟩) n n] 25))
  clear v0 v1 r0 r1 r2 rf hwV hb1 hg hrow hVs
  go_wp2
  clear hV
  go_loopw [4] (fun a wr => ∃ (i : Nat) (xi : Int), i ≤ L ∧ xi = (i : Int) ∧ a = .int .i64 xi ∧ RowAt 3 wr g (tab n (sumF ma.cells n i)) ∧ (w1.alloc (.cells #[.int .i64 1, .int .i64 c, .slice (some ⟨g, 0, none⟩) n n] 25)).grownBy wr (some g)) (fun a _ => L - (intOf a).toNat)
  case atStart => exact ⟨0, 0, Nat.zero_le _, rfl, rfl, by rw [← sumF_zero]; exact HR.out, World.grownBy.refl _ _⟩
  case round =>
    obtain ⟨i, xi, hi, hxi, rfl, hro, hgr⟩ := hrel
    have p2 := box_cell hglt hgr (j := 2) rfl
    have HRO := hide hro
    have HGR := hide hgr
    have HXI := hide hxi
    have hxi0 : 0 ≤ xi := by omega
    have hxi1 : xi ≤ 576 := by omega
    obtain ⟨aa, capa, hsva, _, _, h4a⟩ := HSA.out
    have j2 := keep_cell HB1.out HG.out HGR.out HV.out.1
    have j1 := keep_cell HB1.out HG.out HGR.out HV0.out
    subst hsva
    rw [HLA.out] at j2
    clear hro hgr hxi
    by_cases hlt : xi < (L : Int)
    · have hin : i < L := by have := HXI.out; omega
      have hxn : xi.toNat = i := by have := HXI.out; omega
      have hn0 : 0 < n := by
        rcases Nat.eq_zero_or_pos n with h | h
        · have h1 := HLR.out; rw [HN.out, h, Nat.mul_zero] at h1; omega
        · exact h
      have hcn : c = (n : Int) := by have := Hc.out; have := HN.out; omega
      have hcp : 0 < c := by omega
      obtain ⟨x, hx⟩ : ∃ x, ma.cells[i]? = some x := ⟨ma.cells[i]'(by have := HLA.out; omega), List.getElem?_eq_getElem _⟩
      obtain ⟨b, off, rfl, hcla⟩ := h4a.resolve_left (fun e => by rw [e] at hx; simp at hx)
      have cx : wr.cell? ⟨b, off + xi.toNat, none⟩ = some (.int .i64 x) := by
        rw [hxn]
        have h0 := hcla _ _ hx
        exact keep_cell HB1.out HG.out HGR.out ((HWV.out.cell (p := ⟨b, off + i, none⟩) (World.block_lt_of_cell? w _ h0)).trans h0)
      obtain ⟨y, hy⟩ : ∃ y : Int, xi % c = y := ⟨_, rfl⟩
      have hyi : y = ((i % n : Nat) : Int) := by rw [← hy, HXI.out, hcn]; simp
      have hy0 : 0 ≤ y := by omega
      have hyn : y.toNat = i % n := by omega
      have hyl : y < (n : Int) := by have := Nat.mod_lt i hn0; omega
      obtain ⟨z, hz⟩ : ∃ z, colS ma.cells n (i % n) (i / n) = z := ⟨_, rfl⟩
      have dx : wr.cell? ⟨g, y.toNat, none⟩ = some (.int .i64 z) := by
        rw [hyn, ← hz, ← sumF_at]
        exact HRO.out.cell (tab_at (Nat.mod_lt i hn0))
      have fx : wr.frozen? ⟨g, y.toNat, none⟩ = false := HRO.out.frozen _
      have HX := hide hx
      have HXN := hide hxn
      have HYN := hide hyn
      have HZZ := hide hz
      have HCN := hide hcn
      clear hcla h4a hx hxn hcn hyi hyn hz
      go_wp2
      rw [hy]
      refine region_tail 15 (by kernel_rfl) (by kernel_rfl) ?_
      simp only [List.take_succ_cons, List.take_zero, List.drop_succ_cons, List.drop_zero]
      repeat still_step
      still_call (radd_any _ _ _)
      repeat still_step
      refine wpStill_nil ?_
      go_wp2
      exact ⟨⟨i + 1, _, by omega, by have := HXI.out; omega, rfl, by
        rw [HYN.out, ← sumF_step _ _ i hn0 _ HX.out, HZZ.out]
        exact HRO.out.set (i % n) _, grown_drew (grown_set HGR.out _ _)⟩, by have := HXI.out; simp [intOf]; omega⟩
    · have hin : i = L := by have := HXI.out; omega
      have q0 := keep_cell HB1.out HG.out HGR.out HV.out.2.1
      have q1 := keep_cell HB1.out HG.out HGR.out HV.out.2.2.1
      have q2 := keep_cell HB1.out HG.out HGR.out HV.out.2.2.2
      have p0 := box_cell hglt HGR.out (j := 0) rfl
      have p1 := box_cell hglt HGR.out (j := 1) rfl
      have z0 := keep_frozen HB1.out HG.out HGR.out (p := ⟨w.heap.size + 1, 0, none⟩) (by have := HVS.out; simp; omega) (HRF.out 0)
      have z1 := keep_frozen HB1.out HG.out HGR.out (p := ⟨w.heap.size + 1, 1, none⟩) (by have := HVS.out; simp; omega) (HRF.out 1)
      have z2 := keep_frozen HB1.out HG.out HGR.out (p := ⟨w.heap.size + 1, 2, none⟩) (by have := HVS.out; simp; omega) (HRF.out 2)
      have HIN := hide hin
      clear hin h4a
      have hgw : w.heap.size + 1 ≠ g := by have := HVS.out; have := HG.out; omega
      go_wp2
      refine bodyPost_ret (v := .agg #[.int .i64 1, .int .i64 c, .slice (some ⟨g, 0, none⟩) n n]) (by simp [results, Tryd.results64, go_sem, q0, q1, q2]) rfl ⟨_, rfl, ⟨.slice (some ⟨g, 0, none⟩) n n, by rw [Hc.out], ?_⟩, ?_, fresh_at (by first | omega | (have := HVS.out; have := HG.out; omega)) _ _ _⟩
      · have h := HRO.out
        show IsInts _ _ (tab C _)
        have e : tab n (sumF ma.cells n i) = tab C (fun q => colS ma.cells C q R) := by
          rcases Nat.eq_zero_or_pos n with h0 | h0
          · have := HN.out; rw [h0, show C = 0 by omega]; simp [tab]
          · rw [HIN.out, HLR.out, HN.out, sumF_end _ _ _ h0]
        rw [e] at h
        have h3 := (((h.other ⟨w.heap.size + 1, 0, none⟩ (.int .i64 1) hgw.symm).other ⟨w.heap.size + 1, 1, none⟩ (.int .i64 c) hgw.symm).other ⟨w.heap.size + 1, 2, none⟩ (.slice (some ⟨g, 0, none⟩) n n) hgw.symm).isTab (by have := HN.out; unfold maxLen; omega)
        rw [← HN.out]
        rw [← HN.out] at h3
        exact h3
      · exact (((keep_below HWV.out HB1.out HG.out HGR.out).setCell (by simp) _).setCell (by simp) _).setCell (by simp) _
end Go.Proofs.YtjmmplpecmnlnadDoor
/- The document's answers give what package mat gives, where it says no error. -/
namespace Go.Proofs.YtjmmplpecmnlnadDoor
open Go.RowKit
/-- A call that gives a matrix, in new memory. -/
def RefEnd (w : World) (m : Mx) (e : Ending) (w' : World) : Prop := ∃ a n k, e = .returned (.agg #[.int .i64 m.rows, .int .i64 m.cols, .slice a n k]) ∧ IsMx w' (.agg #[.int .i64 m.rows, .int .i64 m.cols, .slice a n k]) m ∧ Below w.heap.size w w' ∧ Fresh w.heap.size (.agg #[.int .i64 m.rows, .int .i64 m.cols, .slice a n k])
theorem refEnd_of {w : World} {m m' : Mx} {e : Ending} {w' : World} (h : ∃ v', e = .returned v' ∧ IsMx w' v' m' ∧ Below w.heap.size w w' ∧ Fresh w.heap.size v') (hm : m = m') : RefEnd w m e w' := by
  subst hm
  obtain ⟨v, rfl, ⟨s, rfl, hs⟩, hb, hf⟩ := h
  obtain ⟨a, n, k, rfl⟩ := hs.shape
  exact ⟨a, n, k, rfl, ⟨_, rfl, hs⟩, hb, hf⟩
theorem ref_mul {va vb : Value} {a b : Mx} (w : World) (hva : IsMx w va a) (hvb : IsMx w vb b) (hE : mulE a b = 0) : Calls Tryd.prog 56 #[va, vb] w (RefEnd w (mulX a b)) := by
  obtain ⟨Ra, Ca, Cb, ga, gb⟩ := mulE_zero hE
  refine (rmatmul_any va vb a b Ra Ca Cb w hva hvb ga.r ga.c gb.c ga.hR (by have := ga.hC; omega) (by have := gb.hC; omega) ga.l gb.l).mono ?_
  intro e w' h
  exact refEnd_of h (mulX_yes hE ga.r ga.c gb.c)
theorem addE_zero {a b : Mx} (h : addE a b = 0) : ∃ R C, Good a R C ∧ Good b R C := by
  unfold addE at h
  by_cases h1 : faults [a, b] ≠ 0
  · rw [if_pos h1] at h; exact absurd h h1
  · rw [if_neg h1] at h
    obtain ⟨fa, fb⟩ := faults_two (Decidable.not_not.1 h1)
    obtain ⟨Ra, Ca, ga⟩ := good_of fa
    obtain ⟨Rb, Cb, gb⟩ := good_of fb
    by_cases h2 : a.rows ≠ b.rows ∨ a.cols ≠ b.cols
    · rw [if_pos h2] at h; cases h
    · have e1 : Ra = Rb := by have := ga.r; have := gb.r; omega
      have e2 : Ca = Cb := by have := ga.c; have := gb.c; omega
      subst e1 e2
      exact ⟨Ra, Ca, ga, gb⟩
theorem ref_add {va vb : Value} {a b : Mx} (w : World) (hva : IsMx w va a) (hvb : IsMx w vb b) (hE : addE a b = 0) : Calls Tryd.prog 41 #[va, vb] w (RefEnd w (addX a b)) := by
  obtain ⟨R, C, ga, gb⟩ := addE_zero hE
  refine (rmatadd_any va vb a b R C w hva hvb ga.r ga.c ga.hR (by have := ga.hC; omega) ga.l gb.l).mono ?_
  intro e w' h
  exact refEnd_of h (by unfold addX; rw [if_pos hE, ga.r, ga.c]; simp)
theorem ref_turn {va : Value} {a : Mx} (w : World) (hva : IsMx w va a) (hE : turnE a = 0) (hf : fault a = 0) : Calls Tryd.prog 63 #[va] w (RefEnd w (turnX a)) := by
  obtain ⟨R, C, ga⟩ := good_of hf
  refine (turn_any va a R C w hva ga.r ga.c ga.hR (by have := ga.hC; omega) ga.l).mono ?_
  intro e w' h
  exact refEnd_of h (turnX_yes hE ga.r ga.c)
theorem timesE_zero {a : Mx} (hf : fault a = 0) : timesE a = 0 := by unfold timesE; rw [if_neg (by simp [hf])]
theorem ref_times {va : Value} {a : Mx} (x : Int) (w : World) (hva : IsMx w va a) (hf : fault a = 0) : Calls Tryd.prog 57 #[va, .int .i64 x] w (RefEnd w (timesX a x)) := by
  obtain ⟨R, C, ga⟩ := good_of hf
  refine (rmattimes_any va a x R C w hva ga.r ga.c ga.hR (by have := ga.hC; omega) ga.l).mono ?_
  intro e w' h
  exact refEnd_of h (by unfold timesX; rw [if_pos (timesE_zero hf), ga.r, ga.c]; simp)
theorem ref_sums {va : Value} {a : Mx} (w : World) (hva : IsMx w va a) (hf : fault a = 0) : Calls Tryd.prog 64 #[va] w (RefEnd w (sumsX a)) := by
  obtain ⟨R, C, ga⟩ := good_of hf
  refine (rsums_any va a R C w hva ga.c ga.hR (by have := ga.hC; omega) ga.l).mono ?_
  intro e w' h
  exact refEnd_of h (by unfold sumsX; rw [if_pos (timesE_zero hf), ga.c, ga.r]; simp)
end Go.Proofs.YtjmmplpecmnlnadDoor
