/- The walk of the law ClockTimes: Times, Long and Idle of package clock answer what the document's answer does. Condition: the library's variable errors.errorType is as its text lays it. -/
import Derived.Test.YtcpgomjaegickagDoorClT
import Derived.Test.YtcpgomjaegickagDoorClH
import Derived.Test.YtcpgomjaegickagDoorErr
namespace Go.Proofs.YtcpgomjaegickagDoor
open Go.RowKit
set_option maxHeartbeats 32000000 in
set_option maxRecDepth 100000 in
theorem times_walk (v v2 v3 : Value) (p : List (List (Int × Int))) (th bk : List Int) (M : Int) (w : World) (hv : IsPlan w v p) (hi1 : IsInts w v2 th) (hi2 : IsInts w v3 bk) (hH : Handle w) : Calls Tryd.prog 3 #[v, .int .i64 M, v2, v3] w fun e w' => e = .returned (.bool true) ∧ Below w.heap.size w w' := by
  have HH := hide hH
  have HV := hide hv
  have HI1 := hide hi1
  have HI2 := hide hi2
  have C0 := hide (Below.refl w.heap.size w)
  obtain ⟨E, hE⟩ : ∃ E, timE p M th bk = E := ⟨_, rfl⟩
  have HE := hide hE
  obtain ⟨a, cap, rfl, g2, g3, g4⟩ := hv
  obtain ⟨a1, cap1, rfl, k2, k3, k4⟩ := hi1
  obtain ⟨a2, cap2, rfl, j2, j3, j4⟩ := hi2
  obtain ⟨n, hn⟩ : ∃ n, p.length = n := ⟨_, rfl⟩
  have HN := hide hn
  by_cases c : E = 0
  rotate_left 1
  · have HC := hide c
    obtain ⟨n1, hn1⟩ : ∃ n, th.length = n := ⟨_, rfl⟩
    obtain ⟨n2, hn2⟩ : ∃ n, bk.length = n := ⟨_, rfl⟩
    rw [hn] at HV ⊢
    rw [hn1] at HI1 ⊢
    rw [hn2] at HI2 ⊢
    have nE : (E != 0) = true := by simpa using c
    clear c hE hn hn1 hn2 g2 g4 k2 k4 j2 j4 hH
    go_enter Tryd.func3, Tryd.ntmps3
    have HX := hide (ctimes_any _ _ _ p th bk M w HV.out HI1.out HI2.out)
    unfold TimesEnd at HX
    rw [HE.out, err_ne HC.out] at HX
    go_wp2_with fail
    refine HX.out.mono ?_
    rintro e u1 ⟨t1, T, rfl, hp, hb, hno, htm⟩
    have hT : T = [] := hno (by first | exact HC.out | trivial)
    subst hT
    obtain ⟨ta, tc, rfl, _⟩ := hp
    replace C0 := hide (below_go C0.out hb)
    clear hb HX hno htm
    have HX := hide (rtfault_any _ _ _ p th bk M u1 (HV.out.below C0.out) (HI1.out.below C0.out) (HI2.out.below C0.out))
    rw [HE.out] at HX
    go_wp2_with fail
    refine HX.out.mono ?_
    rintro e u2 ⟨rfl, hb⟩
    replace C0 := hide (below_go C0.out hb)
    clear hb HX
    have HX := hide (error_same (k := E) (n := E) rfl u2 (HH.out.below C0.out))
    rw [err_ne HC.out] at HX
    go_wp2_with fail
    refine HX.out.mono ?_
    rintro e u3 ⟨rfl, hb⟩
    replace C0 := hide (below_go C0.out hb)
    clear hb HX
    go_wp2
    go_ret
    exact ⟨rfl, C0.out⟩
  subst c
  obtain ⟨hpl, hl1, hl2, hr1, hr2⟩ := timE_in hE
  have HC := hide (costs_of hl1 hl2 hr1 hr2)
  obtain ⟨mn, hmn⟩ : ∃ x : Nat, M = (x : Int) := ⟨M.toNat, by
    have := (planE_in hpl).1
    unfold rangeP at this
    omega⟩
  have HPL := hide (show planE p (mn : Int) = 0 by rw [← hmn]; exact hpl)
  have HOK := hide (plan_okay HPL.out)
  have hn1 : 1 ≤ n := by rw [← hn]; exact HOK.out.n1
  have hn6 : n ≤ 6 := by rw [← hn]; exact HOK.out.n6
  have hM1 : 1 ≤ M := by rw [hmn]; have := HOK.out.m1; omega
  have hM12 : M ≤ 12 := by rw [hmn]; have := HOK.out.m12; omega
  obtain ⟨b1, off1, ha1, hcl1⟩ := k4.resolve_left (fun e => by rw [e] at hl1; simp at hl1; omega)
  obtain ⟨b2, off2, ha2, hcl2⟩ := j4.resolve_left (fun e => by rw [e] at hl2; simp at hl2; omega)
  subst ha1 ha2
  have HT1 := hide (fun (W : World) (hb : Below w.heap.size w W) (s : Nat) (hs : s < n) => ints_cell hcl1 (s := s) (by rw [hl1, hn]; exact hs) hb)
  have HT2 := hide (fun (W : World) (hb : Below w.heap.size w W) (s : Nat) (hs : s < n) => ints_cell hcl2 (s := s) (by rw [hl2, hn]; exact hs) hb)
  have HLL := hide (And.intro hl1 hl2)
  rw [hn] at g2 HV ⊢
  rw [hl1, hn] at k2 HI1 ⊢
  rw [hl2, hn] at j2 HI2 ⊢
  have HMN := hide hmn
  have hni : (n : Int) ≤ 6 := by omega
  clear hE hpl hl1 hl2 hr1 hr2 g4 k4 j4 hcl1 hcl2 hn hmn hH
  go_enter Tryd.func3, Tryd.ntmps3
  have HX := hide (ctimes_any _ _ _ p th bk M w HV.out HI1.out HI2.out)
  unfold TimesEnd at HX
  rw [HE.out, err_eq rfl] at HX
  go_wp2_with fail
  refine HX.out.mono ?_
  rintro e u1 ⟨t1, T, rfl, hp, hb, hno, htm⟩
  obtain ⟨htm1, hbd1⟩ := htm (by first | rfl | trivial)
  have HTM := hide htm1
  have HBD := hide hbd1
  have HQ := hide hp
  replace C0 := hide (below_go C0.out hb)
  clear hp hb hno htm htm1 hbd1 HX
  have HX := hide (rtfault_any _ _ _ p th bk M u1 (HV.out.below C0.out) (HI1.out.below C0.out) (HI2.out.below C0.out))
  rw [HE.out] at HX
  go_wp2_with fail
  refine HX.out.mono ?_
  rintro e u2 ⟨rfl, hb⟩
  replace C0 := hide (below_go C0.out hb)
  replace HQ := hide (HQ.out.below hb)
  clear hb HX
  have HX := hide (error_same (k := 0) (n := 0) rfl u2 (HH.out.below C0.out))
  rw [err_eq rfl] at HX
  go_wp2_with fail
  refine HX.out.mono ?_
  rintro e u3 ⟨rfl, hb⟩
  replace C0 := hide (below_go C0.out hb)
  replace HQ := hide (HQ.out.below hb)
  clear hb HX
  have HX := hide (rtimes_any _ _ _ p th bk mn u3 (HV.out.below C0.out) (HI1.out.below C0.out) (HI2.out.below C0.out) HPL.out HLL.out.1 HLL.out.2 HC.out)
  go_wp2_with fail
  refine HX.out.mono ?_
  rintro e u4 ⟨t2, T2, rfl, hp, htm, hb⟩
  obtain rfl : T2 = T := tm_one HOK.out.all HOK.out.done htm HTM.out
  have HR := hide hp
  replace C0 := hide (below_go C0.out hb)
  replace HQ := hide (HQ.out.below hb)
  clear hb hp htm HX
  have HX := hide (rspans_any t1 t2 T2 T2 u4 HQ.out HR.out)
  rw [show sameP T2 T2 = true from (sameP_yes rfl).symm] at HX
  go_wp2_with fail
  refine HX.out.mono ?_
  rintro e u5 ⟨rfl, hb⟩
  replace C0 := hide (below_go C0.out hb)
  replace HQ := hide (HQ.out.below hb)
  replace HR := hide (HR.out.below hb)
  clear hb HX
  obtain ⟨LG, hLG⟩ : ∃ x, mxT 0 T2 = x := ⟨_, rfl⟩
  have HLG := hide hLG
  have hlg : 0 ≤ LG ∧ LG ≤ 144000000 := by rw [← hLG]; exact HBD.out.long
  obtain ⟨hg0, hg1⟩ := hlg
  obtain ⟨ra, rc, hre, r2, r3, r4⟩ := id HR.out
  subst hre
  obtain ⟨rb, ro, ha3, hcl3⟩ := r4.resolve_left (fun e => by have := HTM.out.1.1; rw [e] at this; have h := HN.out; simp at this; omega)
  subst ha3
  have HLN := hide (show T2.length = n by rw [HTM.out.1.1, HN.out])
  have HRC := hide (fun (W : World) (hb : Below u5.heap.size u5 W) (s : Nat) (hs : s < n) => plan_cell hcl3 W hb (s := s) (by rw [HLN.out]; exact hs))
  have H24 := hide (tm_st24 HOK.out HTM.out)
  rw [HLN.out] at r2 ⊢
  clear hLG r4 hcl3
  go_wp2
  go_loopw [15, 16] (fun lv sv wr => ∃ (k : Nat) (xi l : Int), k ≤ n ∧ xi = (k : Int) ∧ sv = .int .i64 xi ∧ lv = .int .i64 l ∧ wr = u5 ∧ LG = mxT l (T2.drop k)) (fun _ sv _ => n - (intOf sv).toNat)
  case atStart => exact ⟨0, 0, 0, Nat.zero_le _, rfl, rfl, rfl, rfl, by rw [List.drop_zero, HLG.out]⟩
  case round =>
    obtain ⟨k, xi, l, hk, hxi, rfl, rfl, hwr, hla⟩ := hrel
    subst hwr
    have HLA := hide hla
    have HXI := hide hxi
    have hx0 : 0 ≤ xi := by omega
    have hx1 : xi ≤ 6 := by omega
    clear hla hxi
    by_cases hlt : xi < (n : Int)
    · have hkn : k < n := by have := HXI.out; omega
      obtain ⟨qa, qc, hsv, hia⟩ := HRC.out wr (Below.refl _ _) k hkn
      obtain ⟨row, hrow⟩ := stage_at (p := T2) (i := k) (by rw [HLN.out]; exact hkn)
      rw [stA_at hrow] at hsv hia
      obtain ⟨ln, hln⟩ : ∃ x, row.length = x := ⟨_, rfl⟩
      have hl24 : ln ≤ 24 := by rw [← hln, ← stA_at hrow]; exact H24.out k
      rw [hln] at hsv hia
      rw [show k = xi.toNat by have := HXI.out; omega] at hsv
      have HNX := hide (mxT_drop hrow l)
      have HLR := hide hln
      have HIA := hide hia
      clear hln hrow hia hkn
      go_wp2
      go_loopw [15, 17] (fun lv iv w2 => ∃ (j : Nat) (xj l2 : Int), j ≤ ln ∧ xj = (j : Int) ∧ iv = .int .i64 xj ∧ lv = .int .i64 l2 ∧ w2 = wr ∧ mxS l row = mxS l2 (row.drop j)) (fun _ iv _ => ln - (intOf iv).toNat)
      case atStart => exact ⟨0, 0, l, Nat.zero_le _, rfl, rfl, rfl, rfl, by rw [List.drop_zero]⟩
      case round =>
        obtain ⟨j, xj, l2, hj, hxj, rfl, rfl, hwr, hla⟩ := hrel
        subst hwr
        have HL2 := hide hla
        have HXJ := hide hxj
        have hz0 : 0 ≤ xj := by omega
        have hz1 : xj ≤ 24 := by omega
        clear hla hxj
        by_cases hlt2 : xj < (ln : Int)
        · obtain ⟨x, hx⟩ := act_at (l := row) (i := j) (by have := HLR.out; have := HXJ.out; omega)
          obtain ⟨y1, y2, hye, _, _, y4⟩ := HIA.out
          have hya := (Value.slice.inj hye).1
          subst hya
          obtain ⟨b3, o3, rfl, hc3⟩ := y4.resolve_left (fun e => by rw [e] at hx; simp at hx)
          obtain ⟨c1, c2⟩ := hc3 j x hx
          rw [show j = xj.toNat by have := HXJ.out; omega] at c1 c2
          have hdr := mxS_drop hx l2
          obtain ⟨x1, x2⟩ := x
          dsimp only at c1 c2 hdr
          clear hc3 hx hye y4
          by_cases q : l2 < x2
          · have HZ := hide (show mxS l row = mxS x2 (row.drop (j + 1)) by rw [HL2.out, hdr, if_pos q])
            clear hdr
            go_wp2
            go_roundw
            case rel => exact ⟨j + 1, _, _, by have := HXJ.out; omega, by have := HXJ.out; omega, rfl, rfl, by first | rfl | trivial, HZ.out⟩
            case measure => have := HXJ.out; simp [intOf]; omega
          · have HZ := hide (show mxS l row = mxS l2 (row.drop (j + 1)) by rw [HL2.out, hdr, if_neg q])
            clear hdr
            go_wp2
            go_roundw
            case rel => exact ⟨j + 1, _, _, by have := HXJ.out; omega, by have := HXJ.out; omega, rfl, rfl, by first | rfl | trivial, HZ.out⟩
            case measure => have := HXJ.out; simp [intOf]; omega
        · have HZ := hide (show LG = mxT l2 (T2.drop (k + 1)) by
            rw [HLA.out, HNX.out, HL2.out, List.drop_of_length_le (by have := HLR.out; have := HXJ.out; omega)]
            rfl)
          go_wp2
          go_roundw
          case rel => exact ⟨k + 1, _, _, by have := HXI.out; omega, by have := HXI.out; omega, rfl, rfl, by first | rfl | trivial, HZ.out⟩
          case measure => have := HXI.out; simp [intOf]; omega
    · have hl : l = LG := by
        have h1 := HLA.out
        rw [List.drop_of_length_le (by have := HLN.out; have := HXI.out; omega)] at h1
        exact h1.symm
      subst hl
      have HX := hide (long_any t1 T2 _ wr HQ.out HBD.out (by rw [HLN.out]; exact hn6) H24.out)
      rw [HLG.out] at HX
      clear hk
      go_wp2_with fail
      refine HX.out.mono ?_
      rintro e u6 ⟨rfl, hb⟩
      replace C0 := hide (below_go C0.out hb)
      replace HQ := hide (HQ.out.below hb)
      clear hb HX
      have HX := hide (idle_any t1 T2 u6 HQ.out HBD.out (by rw [HLN.out]; exact hn6) H24.out)
      go_wp2_with fail
      refine HX.out.mono ?_
      rintro e u7 ⟨ls, rfl, hi, hb⟩
      replace C0 := hide (below_go C0.out hb)
      obtain ⟨ia, ic, rfl, i2, i3, i4⟩ := hi
      rw [show (idlX T2).length = n by rw [idl_len, HLN.out]] at i2 ⊢
      have H4 := hide i4
      clear HX hb i4
      go_wp2
      go_loopw [20] (fun sv w8 => ∃ (s : Nat) (xs : Int), s ≤ n ∧ xs = (s : Int) ∧ sv = .int .i64 xs ∧ Below u7.heap.size u7 w8) (fun sv _ => n - (intOf sv).toNat)
      case atStart => exact ⟨0, 0, Nat.zero_le _, rfl, rfl, Below.refl _ _⟩
      case round =>
        obtain ⟨s, xs, hs, hxs, rfl, hbw⟩ := hrel
        have HB8 := hide hbw
        have HXS := hide hxs
        have hy0 : 0 ≤ xs := by omega
        have hy6 : xs ≤ 6 := by omega
        clear hbw hxs
        by_cases hlt3 : xs < (n : Int)
        · have hsn : s < n := by have := HXS.out; omega
          have hid := tm_idl HOK.out HTM.out (s := s) (by rw [HN.out]; exact hsn)
          have ct1 := HT1.out wr (below_go C0.out HB8.out) s hsn
          have ct2 := HT2.out wr (below_go C0.out HB8.out) s hsn
          have hc1 := HC.out s (by rw [HN.out]; exact hsn) (1, 0)
          have hc2 := HC.out s (by rw [HN.out]; exact hsn) (2, 0)
          unfold lngA at hc1 hc2
          rw [if_neg (by decide)] at hc1
          rw [if_pos rfl] at hc2
          obtain ⟨x1, hx1⟩ : ∃ x, (th[s]?).getD 0 = x := ⟨_, rfl⟩
          obtain ⟨x2, hx2⟩ : ∃ x, (bk[s]?).getD 0 = x := ⟨_, rfl⟩
          rw [hx1] at ct1 hc1 hid
          rw [hx2] at ct2 hc2 hid
          obtain ⟨SU, hSU⟩ : ∃ z, x1 + x2 = z := ⟨_, rfl⟩
          have hq1 : IntKind.i64.wrap (x1 + x2) = SU := by rw [hSU, IntKind.wrap_i64]; omega
          obtain ⟨PR, hPR⟩ : ∃ z, M * SU = z := ⟨_, rfl⟩
          have hp0 : 0 ≤ PR := by rw [← hPR]; exact Int.mul_nonneg (by omega) (by omega)
          have hp1 : PR ≤ 12 * 2000000 := by rw [← hPR]; exact Int.mul_le_mul (by omega) (by omega) (by omega) (by omega)
          have hq2 : IntKind.i64.wrap (M * SU) = PR := by rw [hPR, IntKind.wrap_i64]; omega
          have hq3 : IntKind.i64.wrap (l - PR) = l - PR := by rw [IntKind.wrap_i64]; omega
          rw [hSU, ← HMN.out, hPR, HLG.out] at hid
          obtain ⟨b4, o4, ha4, hc4⟩ := H4.out.resolve_left (fun e => by rw [e] at hid; simp at hid)
          subst ha4
          have d4 := cell_bel HB8.out (hc4 s _ hid)
          rw [show s = xs.toNat by have := HXS.out; omega] at ct1 ct2 d4
          clear hid hc1 hc2 hx1 hx2 hSU hPR hc4 hsn
          go_wp2
          go_quiet (fail)
          go_wp2
          go_roundw
          case rel => exact ⟨s + 1, _, by have := HXS.out; omega, by have := HXS.out; omega, rfl, below_go HB8.out (below_drewN _ _)⟩
          case measure => have := HXS.out; simp [intOf]; omega
        · go_wp2
          go_ret
          exact ⟨rfl, below_go C0.out HB8.out⟩
end Go.Proofs.YtcpgomjaegickagDoor
