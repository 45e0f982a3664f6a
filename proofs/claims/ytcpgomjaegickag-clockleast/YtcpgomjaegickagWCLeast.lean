/- The walk of the law ClockLeast: no plan is shorter than its dearest stage; no act begins ahead of what it waits for; no stage does two at once. -/
import Derived.Test.YtcpgomjaegickagClT
import Derived.Test.YtcpgomjaegickagClH
import Derived.Test.YtcpgomjaegickagWPDone
namespace Go.Proofs.Ytcpgomjaegickag
open Go.RowKit
set_option maxHeartbeats 32000000 in
set_option maxRecDepth 100000 in
theorem least_walk (v v2 v3 : Value) (p : List (List (Int × Int))) (th bk : List Int) (M : Int) (w : World) (hv : IsPlan w v p) (hi1 : IsInts w v2 th) (hi2 : IsInts w v3 bk) : Calls Try.prog 5 #[v, .int .i64 M, v2, v3] w fun e w' => e = .returned (.bool true) ∧ Below w.heap.size w w' := by
  have HF := hide (pfact_any w)
  have HV := hide hv
  have HI1 := hide hi1
  have HI2 := hide hi2
  obtain ⟨E, hE⟩ : ∃ E, timE p M th bk = E := ⟨_, rfl⟩
  obtain ⟨a, cap, rfl, g2, g3, g4⟩ := hv
  obtain ⟨a1, cap1, rfl, k2, k3, k4⟩ := hi1
  obtain ⟨a2, cap2, rfl, j2, j3, j4⟩ := hi2
  obtain ⟨n, hn⟩ : ∃ n, p.length = n := ⟨_, rfl⟩
  by_cases c : E = 0
  rotate_left 1
  · obtain ⟨n1, hn1⟩ : ∃ n, th.length = n := ⟨_, rfl⟩
    obtain ⟨n2, hn2⟩ : ∃ n, bk.length = n := ⟨_, rfl⟩
    have HX := hide (fun (u : World) (hb : Below w.heap.size w u) => ctimes_any _ _ _ p th bk M u (HV.out.below hb) (HI1.out.below hb) (HI2.out.below hb))
    unfold TimesEnd at HX
    rw [hE, err_ne c] at HX
    rw [hn, hn1, hn2] at HX ⊢
    clear c hE hn hn1 hn2 g2 g4 k2 k4 j2 j4
    go_enter Try.func5, Try.ntmps5
    go_wp2_with (first | (go_at_call 7; refine HF.out.mono ?_; rintro e u1 ⟨rfl, hb1⟩) | (go_at_call 13; refine (HX.out u1 hb1).mono ?_; rintro e u2 ⟨s1, T, rfl, hp, hb2, hno, htm⟩))
    go_ret
    exact ⟨rfl, below_go hb1 hb2⟩
  subst c
  obtain ⟨hpl, hl1, hl2, hr1, hr2⟩ := timE_in hE
  have HC := hide (costs_of hl1 hl2 hr1 hr2)
  obtain ⟨mn, hmn⟩ : ∃ x : Nat, M = (x : Int) := ⟨M.toNat, by
    have := (planE_in hpl).1
    unfold rangeP at this
    omega⟩
  have HOK := hide (plan_okay (by rw [← hmn]; exact hpl))
  have hn1 : 1 ≤ n := by rw [← hn]; exact HOK.out.n1
  have hn6 : n ≤ 6 := by rw [← hn]; exact HOK.out.n6
  have hM1 : 1 ≤ M := by rw [hmn]; have := HOK.out.m1; omega
  have hM12 : M ≤ 12 := by rw [hmn]; have := HOK.out.m12; omega
  obtain ⟨b, off, ha, hcl⟩ := g4.resolve_left (fun e => by rw [e] at hn; simp at hn; omega)
  obtain ⟨b1, off1, ha1, hcl1⟩ := k4.resolve_left (fun e => by rw [e] at hl1; simp at hl1; omega)
  obtain ⟨b2, off2, ha2, hcl2⟩ := j4.resolve_left (fun e => by rw [e] at hl2; simp at hl2; omega)
  subst ha ha1 ha2
  have HP := hide (fun (W : World) (hb : Below w.heap.size w W) (s : Nat) (hs : s < n) => plan_cell hcl W hb (s := s) (by rw [hn]; exact hs))
  have HT1 := hide (fun (W : World) (hb : Below w.heap.size w W) (s : Nat) (hs : s < n) => ints_cell hcl1 (s := s) (by rw [hl1, hn]; exact hs) hb)
  have HT2 := hide (fun (W : World) (hb : Below w.heap.size w W) (s : Nat) (hs : s < n) => ints_cell hcl2 (s := s) (by rw [hl2, hn]; exact hs) hb)
  have HX := hide (fun (u : World) (hb : Below w.heap.size w u) => ctimes_any _ _ _ p th bk M u (HV.out.below hb) (HI1.out.below hb) (HI2.out.below hb))
  unfold TimesEnd at HX
  rw [hE, err_eq rfl] at HX
  rw [hl1, hl2] at HX ⊢
  rw [hl1] at k2
  rw [hl2] at j2
  rw [hn] at HX g2 k2 j2 ⊢
  have HN := hide hn
  have HMN := hide hmn
  have hni : (n : Int) ≤ 6 := by omega
  clear hE hpl hl1 hl2 hr1 hr2 g4 k4 j4 hcl hcl1 hcl2 hn hmn HI1 HI2
  go_enter Try.func5, Try.ntmps5
  go_wp2_with fail
  refine HF.out.mono ?_
  rintro e u1 ⟨rfl, hb⟩
  have C0 := hide hb
  clear hb HF
  go_wp2_with fail
  refine (HX.out u1 C0.out).mono ?_
  rintro e u2 ⟨t1, T, rfl, hp, hb, hno, htm⟩
  obtain ⟨htm1, hbd1⟩ := htm (by first | rfl | trivial)
  have HTM := hide htm1
  have HBD := hide hbd1
  have HQ := hide hp
  replace C0 := hide (below_go C0.out hb)
  clear hp hb hno htm htm1 hbd1 HX
  have HX := hide (long_any t1 T _ u2 HQ.out HBD.out (by rw [HTM.out.1.1, HN.out]; exact hn6) (tm_st24 HOK.out HTM.out))
  obtain ⟨LG, hLG⟩ : ∃ x, mxT 0 T = x := ⟨_, rfl⟩
  rw [hLG] at HX
  have HLG := hide hLG
  clear hLG
  go_wp2_with fail
  refine HX.out.mono ?_
  rintro e u3 ⟨rfl, hb⟩
  replace HQ := hide (HQ.out.below hb)
  replace C0 := hide (below_go C0.out hb)
  clear hb HX
  obtain ⟨ta, tc, rfl, t2, t3, t4⟩ := id HQ.out
  obtain ⟨tb, toff, ha4, hcl4⟩ := t4.resolve_left (fun e => by have := HTM.out.1.1; rw [e] at this; have h := HN.out; simp at this; omega)
  subst ha4
  have HQC := hide (fun (W : World) (hb : Below u3.heap.size u3 W) (s : Nat) (hs : s < n) => plan_cell hcl4 W hb (s := s) (by rw [HTM.out.1.1, HN.out]; exact hs))
  rw [show T.length = n by rw [HTM.out.1.1, HN.out]] at t2 ⊢
  have HLT := hide (show ∀ s, s < n → (stA T s).length = 2 * mn from fun s hs => by rw [HTM.out.1.2 s (by rw [HN.out]; exact hs), HOK.out.len s (by rw [HN.out]; exact hs)])
  have HLP := hide (show ∀ s, s < n → (stA p s).length = 2 * mn from fun s hs => HOK.out.len s (by rw [HN.out]; exact hs))
  clear t4 hcl4
  go_wp2
  go_loopw [13] (fun iv wr => ∃ (s : Nat) (xs : Int), s ≤ n ∧ xs = (s : Int) ∧ iv = .int .i64 xs ∧ Below u3.heap.size u3 wr) (fun iv _ => n - (intOf iv).toNat)
  case atStart => exact ⟨0, 0, Nat.zero_le _, rfl, rfl, Below.refl _ _⟩
  case round =>
    obtain ⟨s, xs, hs, hxs, rfl, hbw⟩ := hrel
    have HBW := hide hbw
    have HXS := hide hxs
    have hx0 : 0 ≤ xs := by omega
    have hx6 : xs ≤ 6 := by omega
    clear hbw hxs
    by_cases hlt : xs < (n : Int)
    · have hsn : s < n := by have := HXS.out; omega
      have HSN := hide hsn
      have ct1 := HT1.out wr (below_go C0.out HBW.out) s hsn
      have ct2 := HT2.out wr (below_go C0.out HBW.out) s hsn
      obtain ⟨ra, rc, hrt, hri⟩ := HQC.out wr HBW.out s hsn
      rw [HLT.out s hsn] at hrt hri
      obtain ⟨ln, hln⟩ : ∃ x, 2 * mn = x := ⟨_, rfl⟩
      rw [hln] at hrt hri
      have HLN := hide (show (ln : Int) = 2 * M ∧ 2 * mn = ln by have := HMN.out; omega)
      have hl24 : ln ≤ 24 := by have := HMN.out; omega
      have hl1 : 1 ≤ ln := by have := HMN.out; omega
      obtain ⟨x1, hx1⟩ : ∃ x, (th[s]?).getD 0 = x := ⟨_, rfl⟩
      obtain ⟨x2, hx2⟩ : ∃ x, (bk[s]?).getD 0 = x := ⟨_, rfl⟩
      rw [hx1] at ct1
      rw [hx2] at ct2
      rw [show s = xs.toNat by have := HXS.out; omega] at ct1 ct2 hrt
      have hc1 := HC.out s (by rw [HN.out]; exact hsn) (1, 0)
      have hc2 := HC.out s (by rw [HN.out]; exact hsn) (2, 0)
      unfold lngA at hc1 hc2
      rw [if_neg (by decide), hx1] at hc1
      rw [if_pos rfl, hx2] at hc2
      obtain ⟨SU, hSU⟩ : ∃ z, x1 + x2 = z := ⟨_, rfl⟩
      have hq1 : IntKind.i64.wrap (x1 + x2) = SU := by rw [hSU, IntKind.wrap_i64]; omega
      obtain ⟨PR, hPR⟩ : ∃ z, M * SU = z := ⟨_, rfl⟩
      have hp0 : 0 ≤ PR := by rw [← hPR]; exact Int.mul_nonneg (by omega) (by omega)
      have hp1 : PR ≤ 12 * 2000000 := by rw [← hPR]; exact Int.mul_le_mul (by omega) (by omega) (by omega) (by omega)
      have hq2 : IntKind.i64.wrap (M * SU) = PR := by rw [hPR, IntKind.wrap_i64]; omega
      have hq3 : IntKind.i64.wrap (2 * M) = 2 * M := by rw [IntKind.wrap_i64]; omega
      have hlow : PR ≤ LG := by
        have := tm_low HOK.out HTM.out (s := s) (by rw [HN.out]; exact hsn)
        rw [hx1, hx2, hSU, ← HMN.out, hPR, HLG.out] at this
        exact this
      have HD := hide (show decide (LG < PR) = false ∧ ((ln : Int) != 2 * M) = false by
        refine ⟨by simp; omega, ?_⟩
        rw [HLN.out.1]; simp)
      have HRI := hide hri
      clear hsn hln hx1 hx2 hc1 hc2 hSU hPR hlow hri
      go_wp2
      have q1 := HD.out.1
      have q2 := HD.out.2
      go_quiet (fail)
      clear q1 q2 ct1 ct2 hrt
      obtain ⟨W3, hW3⟩ : ∃ x, x = wr.drewN nq := ⟨_, rfl⟩
      have HB3 := hide (show Below u3.heap.size u3 W3 by rw [hW3]; exact below_go HBW.out (below_drewN _ _))
      rw [← hW3]
      clear hW3
      go_wp2
      go_loopw [14] (fun iv w4 => ∃ (i : Nat) (xi : Int), i ≤ ln ∧ xi = (i : Int) ∧ iv = .int .i64 xi ∧ Below u3.heap.size u3 w4) (fun iv _ => ln - (intOf iv).toNat)
      case atStart => exact ⟨0, 0, Nat.zero_le _, rfl, rfl, HB3.out⟩
      case round =>
        obtain ⟨i, xi, hi, hxi, rfl, hbw⟩ := hrel
        obtain ⟨W4, hW4⟩ : ∃ x, x = wr := ⟨_, rfl⟩
        subst hW4
        have HB4 := hide hbw
        have HXI := hide hxi
        have hi0 : 0 ≤ xi := by omega
        have hi24 : xi ≤ 24 := by omega
        clear hbw hxi
        have HTS := hide (show ∀ W, Below u3.heap.size u3 W → ∃ ra rc, W.cell? ⟨tb, toff + xs.toNat, none⟩ = some (.slice ra ln rc) ∧ IsActs W (.slice ra ln rc) (stA T s) from fun W hb => by
          obtain ⟨ra, rc, h1, h2⟩ := HQC.out W hb s HSN.out
          rw [HLT.out s HSN.out, HLN.out.2] at h1 h2
          rw [show s = xs.toNat by have := HXS.out; omega] at h1
          exact ⟨ra, rc, h1, h2⟩)
        have HPS := hide (show ∀ W, Below u3.heap.size u3 W → ∃ ra rc, W.cell? ⟨b, off + xs.toNat, none⟩ = some (.slice ra ln rc) ∧ IsActs W (.slice ra ln rc) (stA p s) from fun W hb => by
          obtain ⟨ra, rc, h1, h2⟩ := HP.out W (below_go C0.out hb) s HSN.out
          rw [HLP.out s HSN.out, HLN.out.2] at h1 h2
          rw [show s = xs.toNat by have := HXS.out; omega] at h1
          exact ⟨ra, rc, h1, h2⟩)
        by_cases hlt2 : xi < (ln : Int)
        · have hil : i < ln := by have := HXI.out; omega
          obtain ⟨x, hx⟩ := act_at (l := stA T s) (i := i) (by rw [HLT.out s HSN.out, HLN.out.2]; exact hil)
          obtain ⟨z, hz⟩ := act_at (l := stA p s) (i := i) (by rw [HLP.out s HSN.out, HLN.out.2]; exact hil)
          obtain ⟨hf0, hfp⟩ := tm_from HTM.out HC.out (by rw [HN.out]; exact HSN.out) hz hx
          have hok := HOK.out.ok s (by rw [HN.out]; exact HSN.out) z (List.mem_of_getElem? hz)
          have HX := hide hx
          have HZ := hide hz
          obtain ⟨ff, ft⟩ := x
          obtain ⟨ak, am⟩ := z
          obtain ⟨o1, o2, _, _⟩ := hok
          dsimp only at hf0 hfp o1 o2
          have HTI := hide (show ∀ W ra rc, IsActs W (.slice ra ln rc) (stA T s) → ∃ b3 o3, ra = some ⟨b3, o3, none⟩ ∧ W.cell? ⟨b3, o3 + xi.toNat * 2, none⟩ = some (.int .i64 ff) ∧ W.cell? ⟨b3, o3 + xi.toNat * 2 + 1, none⟩ = some (.int .i64 ft) ∧ (0 < xi → ∃ y : Int, y ≤ ff ∧ W.cell? ⟨b3, o3 + (xi.toNat - 1) * 2 + 1, none⟩ = some (.int .i64 y)) from fun W ra rc h => by
            obtain ⟨ra', rc', hre, _, _, r4⟩ := h
            have hra := (Value.slice.inj hre).1
            subst hra
            obtain ⟨b3, o3, ha3, hc3⟩ := r4.resolve_left (fun e => by have := HX.out; rw [e] at this; simp at this)
            refine ⟨b3, o3, ha3, ?_, ?_, fun hpos => ?_⟩
            · rw [show xi.toNat = i by have := HXI.out; omega]; exact (hc3 i _ HX.out).1
            · rw [show xi.toNat = i by have := HXI.out; omega]; exact (hc3 i _ HX.out).2
            · obtain ⟨y, hy⟩ := act_at (l := stA T s) (i := i - 1) (by rw [HLT.out s HSN.out, HLN.out.2]; omega)
              refine ⟨y.2, hfp y (by have := HXI.out; omega) hy, ?_⟩
              rw [show xi.toNat - 1 = i - 1 by have := HXI.out; omega]; exact (hc3 (i - 1) _ hy).2)
          have HPI := hide (show ∀ W ra rc, IsActs W (.slice ra ln rc) (stA p s) → ∃ b3 o3, ra = some ⟨b3, o3, none⟩ ∧ W.cell? ⟨b3, o3 + xi.toNat * 2, none⟩ = some (.int .i64 ak) ∧ W.cell? ⟨b3, o3 + xi.toNat * 2 + 1, none⟩ = some (.int .i64 am) from fun W ra rc h => by
            obtain ⟨ra', rc', hre, _, _, r4⟩ := h
            have hra := (Value.slice.inj hre).1
            subst hra
            obtain ⟨b3, o3, ha3, hc3⟩ := r4.resolve_left (fun e => by have := HZ.out; rw [e] at this; simp at this)
            refine ⟨b3, o3, ha3, ?_, ?_⟩
            · rw [show xi.toNat = i by have := HXI.out; omega]; exact (hc3 i _ HZ.out).1
            · rw [show xi.toNat = i by have := HXI.out; omega]; exact (hc3 i _ HZ.out).2)
          have HAK := hide (And.intro o1 o2)
          have HDF := hide (show decide (ff < 0) = false by simp; omega)
          obtain ⟨ra, rc, hrt, hri⟩ := HTS.out W4 HB4.out
          obtain ⟨b3, o3, rfl, d1, d2, d3⟩ := HTI.out W4 ra rc hri
          have HD3 := hide d3
          clear hx hz hil hf0 hfp o1 o2 hri d3
          go_upto_region 16 with fail
          go_cut [102] from 61 to 166 (fun cv wx => cv = .bool false ∧ Below W4.heap.size W4 wx)
          case first =>
            by_cases hpos : 0 < xi
            · obtain ⟨y, hy, d4⟩ := HD3.out hpos
              have HDY := hide (show decide (ff < y) = false by simp; omega)
              have hq4 : IntKind.i64.wrap (xi - 1) = xi - 1 := by rw [IntKind.wrap_i64]; omega
              clear hy
              have q1 := HDF.out
              have q2 := HDY.out
              go_quiet (fail)
              go_wp2
              go_meet
              exact ⟨rfl, below_drewN _ _⟩
            · have hz0 : xi = 0 := by omega
              clear HTI HPI HXI
              subst hz0
              have d5 : W4.cell? ⟨b3, o3, none⟩ = some (.int .i64 ff) := by simpa using d1
              clear d1 d2
              have q1 := HDF.out
              go_quiet (fail)
              go_wp2
              go_meet
              exact ⟨rfl, below_drewN _ _⟩
          case rest =>
            obtain ⟨rfl, hbc⟩ := hcut
            have HB6 := hide (below_go HB4.out hbc)
            obtain ⟨W6, hW6⟩ : ∃ x, x = wc := ⟨_, rfl⟩
            subst hW6
            clear hbc hrt d1 d2
            obtain ⟨KK, hKK⟩ : ∃ x : Int, x = if ak = 2 then xs + 1 else xs - 1 := ⟨_, rfl⟩
            have HKK := hide hKK
            have hk0 : -1 ≤ KK := by rw [hKK]; split <;> omega
            have hk7 : KK ≤ 7 := by rw [hKK]; split <;> omega
            have hq5 : IntKind.i64.wrap (xs - 1) = xs - 1 := by rw [IntKind.wrap_i64]; omega
            have hq6 : IntKind.i64.wrap (xs + 1) = xs + 1 := by rw [IntKind.wrap_i64]; omega
            obtain ⟨pa, pc, hpt, hpi⟩ := HPS.out W6 HB6.out
            obtain ⟨b4, o4, rfl, e1, e2⟩ := HPI.out W6 pa pc hpi
            clear hKK hpi
            go_upto_if 113 with fail
            go_cut [15] from 61 to 166 (fun kv wx => kv = .int .i64 KK ∧ wx = W6)
            case first =>
              by_cases hak : ak = 2
              · have HZZ := hide (show xs + 1 = KK by rw [HKK.out, if_pos hak])
                have n1 : (ak == 2) = true := by simp [hak]
                clear hak
                go_wp2
                go_meet
                exact ⟨by rw [← HZZ.out], by first | rfl | trivial⟩
              · have HZZ := hide (show xs - 1 = KK by rw [HKK.out, if_neg hak])
                have n1 : (ak == 2) = false := by simpa using hak
                clear hak
                go_wp2
                go_meet
                exact ⟨by rw [← HZZ.out], by first | rfl | trivial⟩
            case rest =>
              obtain ⟨rfl, hwc⟩ := hcut
              subst hwc
              clear hpt e1 e2 hq5 hq6
              by_cases c1 : KK < 0
              · go_wp2
                go_roundw
                case rel => exact ⟨i + 1, _, by have := HXI.out; omega, by have := HXI.out; omega, rfl, HB6.out⟩
                case measure => have := HXI.out; simp [intOf]; omega
              by_cases c2 : (n : Int) ≤ KK
              · go_wp2
                go_roundw
                case rel => exact ⟨i + 1, _, by have := HXI.out; omega, by have := HXI.out; omega, rfl, HB6.out⟩
                case measure => have := HXI.out; simp [intOf]; omega
              obtain ⟨kk, hkk⟩ : ∃ kk : Nat, KK = (kk : Int) := ⟨KK.toNat, by omega⟩
              have hkn : kk < n := by omega
              have HKN := hide (And.intro hkk hkn)
              have HNB := hide (show nbA (ak, am) s kk by
                have h1 := HKK.out
                have h2 := HXS.out
                unfold nbA
                by_cases hak : ak = 2
                · rw [if_pos hak] at h1
                  exact .inl ⟨hak, by omega⟩
                · rw [if_neg hak] at h1
                  exact .inr ⟨hak, by omega⟩)
              have hkb : KK < (n : Int) := by omega
              have hka : 0 ≤ KK := by omega
              have HTK := hide (show ∀ W, Below u3.heap.size u3 W → ∃ ra rc, W.cell? ⟨tb, toff + KK.toNat, none⟩ = some (.slice ra ln rc) ∧ IsActs W (.slice ra ln rc) (stA T kk) from fun W hb => by
                obtain ⟨ra, rc, h1, h2⟩ := HQC.out W hb kk HKN.out.2
                rw [HLT.out kk HKN.out.2, HLN.out.2] at h1 h2
                rw [show kk = KK.toNat by have := HKN.out; omega] at h1
                exact ⟨ra, rc, h1, h2⟩)
              have HPK := hide (show ∀ W, Below u3.heap.size u3 W → ∃ ra rc, W.cell? ⟨b, off + KK.toNat, none⟩ = some (.slice ra ln rc) ∧ IsActs W (.slice ra ln rc) (stA p kk) from fun W hb => by
                obtain ⟨ra, rc, h1, h2⟩ := HP.out W (below_go C0.out hb) kk HKN.out.2
                rw [HLP.out kk HKN.out.2, HLN.out.2] at h1 h2
                rw [show kk = KK.toNat by have := HKN.out; omega] at h1
                exact ⟨ra, rc, h1, h2⟩)
              clear hkk hkn
              go_wp2
              go_loopw [16] (fun jv w7 => ∃ (j : Nat) (xj : Int), j ≤ ln ∧ xj = (j : Int) ∧ jv = .int .i64 xj ∧ Below u3.heap.size u3 w7) (fun jv _ => ln - (intOf jv).toNat)
              case atStart => exact ⟨0, 0, Nat.zero_le _, rfl, rfl, HB6.out⟩
              case round =>
                obtain ⟨j, xj, hj, hxj, rfl, hbw⟩ := hrel
                obtain ⟨W7, hW7⟩ : ∃ x, x = wr := ⟨_, rfl⟩
                subst hW7
                have HB7 := hide hbw
                have HXJ := hide hxj
                have hj0 : 0 ≤ xj := by omega
                have hj24 : xj ≤ 24 := by omega
                clear hbw hxj
                obtain ⟨pa, pc, hpk, hpi⟩ := HPK.out W7 HB7.out
                by_cases hlt3 : xj < (ln : Int)
                · have hjl : j < ln := by have := HXJ.out; omega
                  obtain ⟨x, hx⟩ := act_at (l := stA T kk) (i := j) (by rw [HLT.out kk HKN.out.2, HLN.out.2]; exact hjl)
                  obtain ⟨z, hz⟩ := act_at (l := stA p kk) (i := j) (by rw [HLP.out kk HKN.out.2, HLN.out.2]; exact hjl)
                  have HEQ := hide (show z = (ak, am) → x.2 ≤ ff from fun e => tm_dep HTM.out (by rw [HN.out]; exact HSN.out) HZ.out HX.out (by rw [HN.out]; exact HKN.out.2) (HOK.out.ap kk (by rw [HN.out]; exact HKN.out.2)) HNB.out (by rw [← e]; exact hz) hx)
                  obtain ⟨q1, q2, hqe, _, _, q4⟩ := hpi
                  have hqa := (Value.slice.inj hqe).1
                  subst hqa
                  obtain ⟨b5, o5, rfl, hc5⟩ := q4.resolve_left (fun e => by rw [e] at hz; simp at hz)
                  obtain ⟨f1, f2⟩ := hc5 j z hz
                  obtain ⟨ta', tc', htk, hti⟩ := HTK.out W7 HB7.out
                  obtain ⟨s1, s2, hse, _, _, s4⟩ := hti
                  have hsa := (Value.slice.inj hse).1
                  subst hsa
                  obtain ⟨b6, o6, rfl, hc6⟩ := s4.resolve_left (fun e => by rw [e] at hx; simp at hx)
                  obtain ⟨f3, f4⟩ := hc6 j x hx
                  obtain ⟨ra, rc, hrt, hri⟩ := HTS.out W7 HB7.out
                  obtain ⟨b3, o3, rfl, d1, d2, d3⟩ := HTI.out W7 ra rc hri
                  obtain ⟨va, vc, hpt, hvi⟩ := HPS.out W7 HB7.out
                  obtain ⟨b4, o4, rfl, e1, e2⟩ := HPI.out W7 va vc hvi
                  rw [show j = xj.toNat by have := HXJ.out; omega] at f1 f2 f3 f4
                  obtain ⟨zk, zm⟩ := z
                  obtain ⟨xf, xt⟩ := x
                  dsimp only at f1 f2 f3 f4
                  clear hx hz hqe q4 hc5 hse s4 hc6 hri d3 hvi hjl
                  by_cases c3 : zk = ak
                  · by_cases c4 : zm = am
                    · have HDE := hide (show decide (ff < xt) = false by have := HEQ.out (by rw [c3, c4]); dsimp only at this; simp; omega)
                      subst c3 c4
                      go_wp2
                      have g1 := HDE.out
                      go_quiet (fail)
                      go_wp2
                      go_roundw
                      case rel => exact ⟨j + 1, _, by have := HXJ.out; omega, by have := HXJ.out; omega, rfl, below_go HB7.out (below_drewN _ _)⟩
                      case measure => have := HXJ.out; simp [intOf]; omega
                    · have n2 : (zm == am) = false := by simpa using c4
                      clear c4
                      go_wp2
                      go_quiet (fail)
                      go_wp2
                      go_roundw
                      case rel => exact ⟨j + 1, _, by have := HXJ.out; omega, by have := HXJ.out; omega, rfl, below_go HB7.out (below_drewN _ _)⟩
                      case measure => have := HXJ.out; simp [intOf]; omega
                  · have n1 : (zk == ak) = false := by simpa using c3
                    clear c3
                    go_wp2
                    go_quiet (fail)
                    go_wp2
                    go_roundw
                    case rel => exact ⟨j + 1, _, by have := HXJ.out; omega, by have := HXJ.out; omega, rfl, below_go HB7.out (below_drewN _ _)⟩
                    case measure => have := HXJ.out; simp [intOf]; omega
                · clear hpi
                  go_wp2
                  go_roundw
                  case rel => exact ⟨i + 1, _, by have := HXI.out; omega, by have := HXI.out; omega, rfl, HB7.out⟩
                  case measure => have := HXI.out; simp [intOf]; omega
        · obtain ⟨ra, rc, hrt, hri⟩ := HTS.out W4 HB4.out
          clear hri
          go_wp2
          go_roundw
          case rel => exact ⟨s + 1, _, by have := HXS.out; omega, by have := HXS.out; omega, rfl, HB4.out⟩
          case measure => have := HXS.out; simp [intOf]; omega
    · go_wp2
      go_ret
      exact ⟨rfl, below_go C0.out HBW.out⟩
end Go.Proofs.Ytcpgomjaegickag
