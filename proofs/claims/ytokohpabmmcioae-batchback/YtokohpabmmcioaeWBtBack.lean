/- The walk of the law BatchBack: what is split and joined is the same; no two parts are more than a row apart, and the greater ones are first. -/
import Derived.Test.YtokohpabmmcioaeBatC2
import Derived.Test.YtokohpabmmcioaeBatC4
import Derived.Test.YtokohpabmmcioaeBatL
import Derived.Test.YtokohpabmmcioaeSameB
namespace Go.Proofs.Ytokohpabmmcioae
open Go.RowKit
theorem sameI_refl2 (zs : List Int) : sameI zs zs = true := by simp [sameI]
theorem sz_ten : szE 10 4 = 0 ∧ szX 10 4 = [3, 3, 2, 2] := ⟨by kernel_rfl, by kernel_rfl⟩
/-- A list of one batch that was written out. -/
theorem gds_one {w : World} {B : Nat} {d : Mx × Mx} {s t : Value} (hb : Box w B [.int .i64 d.1.rows, .int .i64 d.1.cols, s, .int .i64 d.2.rows, .int .i64 d.2.cols, t]) (hs : IsInts w s d.1.cells) (ht : IsInts w t d.2.cells) : IsGds w (.slice (some ⟨B, 0, none⟩) 1 1) [d] := by
  refine ⟨_, 1, rfl, Nat.le_refl _, by unfold maxLen; omega, .inr ⟨B, 0, rfl, fun j p hp => ?_⟩⟩
  have hp' : (gdS d)[j]? = some p := by simpa using hp
  rw [Nat.zero_add]
  have h := enc_gd (w := w) (G := fun _ => False) (d := d) (s := s) (t := t) ⟨hs, .inr fun _ _ hf => hf⟩ ⟨ht, .inr fun _ _ hf => hf⟩
  obtain ⟨u, hu, hpu⟩ := h.2 j p hp'
  exact ⟨u, hb j u hu, hpu⟩
set_option maxHeartbeats 16000000 in
set_option maxRecDepth 100000 in
theorem btback_walk (v0 : Value) (b : Mx × Mx) (parts : Int) (w : World) (w0 : IsTwo w v0 b.1 b.2) : Calls Try.prog 4 #[v0, .int .i64 parts] w fun e w' => e = .returned (.bool true) ∧ Below w.heap.size w w' := by
  obtain ⟨s, t, rfl, hs, ht⟩ := w0
  obtain ⟨sa, sn, sk, rfl⟩ := hs.shape
  obtain ⟨ta, tn, tk, rfl⟩ := ht.shape
  obtain ⟨V, hV⟩ : ∃ V, V = w.alloc (.cells #[.int .i64 b.1.rows, .int .i64 b.1.cols, .slice sa sn sk, .int .i64 b.2.rows, .int .i64 b.2.cols, .slice ta tn tk] 42) := ⟨_, rfl⟩
  have HV := hide hV
  have HWV : Hid (Below w.heap.size w V) := by rw [hV]; exact hide (bel_alloc (Below.refl _ _))
  have HR : Hid (Box V w.heap.size [.int .i64 b.1.rows, .int .i64 b.1.cols, .slice sa sn sk, .int .i64 b.2.rows, .int .i64 b.2.cols, .slice ta tn tk]) := by rw [hV]; exact hide (Box.new w _ 42 rfl)
  have M0 := hide (hs.below HWV.out)
  have M1 := hide (ht.below HWV.out)
  clear hV hs ht
  go_enter Try.func4, Try.ntmps4
  have C0 := hide (Below.refl V.heap.size V)
  have HX := hide (bsizes_any 10 4 V)
  go_wp2_with fail
  rw [← HV.out]
  refine HX.out.mono ?_
  rintro e u1 ⟨s1, rfl, hi, hb, _⟩
  replace C0 := hide (below_next C0.out hb)
  clear HX hb
  have C1 := hide (Below.refl u1.heap.size u1)
  rw [sz_ten.1, err_eq rfl]
  have e4 := sz_ten.2
  rw [e4] at hi
  have HS1 := hide (hi.below (below_one u1 (.cells #[.int .i64 3, .int .i64 3, .int .i64 2, .int .i64 2] 3)))
  clear hi e4
  have HS2 := hide (ints_new u1 [3, 3, 2, 2] (by decide) 3)
  have HX := hide (ints_any s1 (.slice (some ⟨u1.heap.size, 0, none⟩) 4 4) [3, 3, 2, 2] [3, 3, 2, 2] (u1.alloc (.cells #[.int .i64 3, .int .i64 3, .int .i64 2, .int .i64 2] 3)) HS1.out HS2.out)
  rw [sameI_refl2] at HX
  go_wp2_with fail
  refine HX.out.mono ?_
  rintro e u2 ⟨rfl, dn, hu⟩
  have hb : Below u1.heap.size u1 u2 := by rw [hu]; exact below_next (below_one u1 (.cells #[.int .i64 3, .int .i64 3, .int .i64 2, .int .i64 2] 3)) (below_drewN _ dn)
  clear hu HX HS1 HS2
  replace C0 := hide (below_next C0.out hb)
  clear C1 hb
  by_cases hE : splE b parts = 0
  case neg =>
    have r0 := (HR.out.below C0.out) 0 _ rfl
    have r1 := (HR.out.below C0.out) 1 _ rfl
    have r2 := (HR.out.below C0.out) 2 _ rfl
    have r3 := (HR.out.below C0.out) 3 _ rfl
    have r4 := (HR.out.below C0.out) 4 _ rfl
    have r5 := (HR.out.below C0.out) 5 _ rfl
    have HX := hide (bsplit_any b parts sa sn sk ta tn tk u2 (M0.out.below C0.out) (M1.out.below C0.out))
    rw [err_ne hE] at HX
    clear hE
    go_wp2_with fail
    refine HX.out.mono ?_
    rintro e u3 ⟨x1, rfl, hi, hb⟩
    replace C0 := hide (below_next C0.out hb)
    obtain ⟨xa, xk, rfl, _, _⟩ := IsGds.shape hi
    clear HX hi hb r0 r1 r2 r3 r4 r5
    go_wp2
    go_ret
    exact ⟨rfl, below_next HWV.out C0.out⟩
  case pos =>
  obtain ⟨P, Q, C1', C2', hP, hP0, hP12, hPQ, hQ, g1, g2, hXX⟩ := splE_zero hE
  obtain ⟨hJE, hJX⟩ := join_split hE
  have r0 := (HR.out.below C0.out) 0 _ rfl
  have r1 := (HR.out.below C0.out) 1 _ rfl
  have r2 := (HR.out.below C0.out) 2 _ rfl
  have r3 := (HR.out.below C0.out) 3 _ rfl
  have r4 := (HR.out.below C0.out) 4 _ rfl
  have r5 := (HR.out.below C0.out) 5 _ rfl
  have HX := hide (bsplit_any b parts sa sn sk ta tn tk u2 (M0.out.below C0.out) (M1.out.below C0.out))
  rw [hE, err_eq rfl] at HX
  have HJ := hide (And.intro hJE hJX)
  have HRW := hide (show ∀ i, i < P → ∃ d, (splX b parts)[i]? = some d ∧ d.1.rows = cnt P i Q from fun i hi => ⟨partX b P Q i, by rw [hXX]; simp [hi], by rw [partX_eq]; exact partM_rows g1 i⟩)
  have HLN := hide (show (splX b parts).length = P by rw [hXX]; simp)
  have HPQ := hide (And.intro hP (And.intro hP0 (And.intro hP12 (And.intro hPQ hQ))))
  obtain ⟨Y, hY⟩ : ∃ Y, splX b parts = Y := ⟨_, rfl⟩
  rw [hY] at HX HJ HRW HLN
  clear hE hJE hJX hXX g1 g2 hY hP0 hPQ hQ hP
  go_wp2_with fail
  refine HX.out.mono ?_
  rintro e u3 ⟨x1, rfl, hi, hb⟩
  replace C0 := hide (below_next C0.out hb)
  have HY := hide (show IsGds u3 x1 Y from hi)
  obtain ⟨xa, xk, hx1, _, _⟩ := HY.out.shape
  rw [HLN.out] at hx1
  subst hx1
  have hpe : ((P : Int) != parts) = false := by rw [HPQ.out.1]; simp
  clear HX hi hb r0 r1 r2 r3 r4 r5
  go_wp2
  go_loop [9] (fun c => ∃ (i : Nat) (xi : Int), i ≤ P ∧ xi = (i : Int) ∧ c = .int .i64 xi) (fun c => P - (intOf c).toNat)
  case atStart => exact ⟨0, 0, Nat.zero_le _, rfl, rfl⟩
  case round =>
    obtain ⟨i, xi, hi, hxi, rfl⟩ := hrel
    have HXI := hide hxi
    have hxi0 : 0 ≤ xi := by omega
    have hxi1 : xi ≤ 12 := by omega
    clear hxi
    by_cases hlt : xi < (P : Int)
    · have hin : i < P := by have := HXI.out; omega
      have hxn : xi.toNat = i := by have := HXI.out; omega
      obtain ⟨d, hd, hdr⟩ := HRW.out i hin
      obtain ⟨d0, hd0, hdr0⟩ := HRW.out 0 HPQ.out.2.1
      obtain ⟨bb, off, cp, _, _, _, _, _, _, ev, k0, _⟩ := HY.out.at hd
      injection ev with ev1 ev2 ev3
      clear ev2 ev3
      subst ev1
      obtain ⟨bb', off', cp', _, _, _, _, _, _, ev, y0, _⟩ := HY.out.at hd0
      injection ev with ev1 ev2 ev3
      clear ev2 ev3
      have ev1 := Option.some.inj ev1
      injection ev1 with ev1 ev2
      subst ev1 ev2
      rw [Nat.zero_mul, Nat.add_zero, hdr0] at y0
      rw [← hxn, hdr] at k0
      have hp := cnt_pos HPQ.out.2.1 HPQ.out.2.2.2.1 hin
      have hn := cnt_near (Q := Q) HPQ.out.2.1 (Nat.zero_le i) hin
      have hle := cnt_le P i Q
      have hle0 := cnt_le P 0 Q
      obtain ⟨ci, hci⟩ : ∃ x, cnt P i Q = x := ⟨_, rfl⟩
      obtain ⟨c0, hc0⟩ : ∃ x, cnt P 0 Q = x := ⟨_, rfl⟩
      rw [hci] at k0 hp hn hle
      rw [hc0] at y0 hn hle0
      have q1 : ¬ ci < 1 := by omega
      have q2 : ¬ c0 < ci := by omega
      have q3 : ¬ ci < c0 - 1 := by omega
      have q4 : ci ≤ 24 := by have := HPQ.out; omega
      have q5 : c0 ≤ 24 := by have := HPQ.out; omega
      have q6 : 1 ≤ c0 := by omega
      have hP1 : (0 : Int) < (P : Int) := by omega
      by_cases h0 : i = 0
      · have hx0 : xi = 0 := by have := HXI.out; omega
        clear hp hn hle hle0 hd hd0 hdr hdr0 hc0 hci hxn h0
        subst hx0
        go_wp2
        go_round
        case rel => exact ⟨i + 1, _, by omega, by have := HXI.out; omega, rfl⟩
        case measure => have := HXI.out; simp [intOf]; omega
      · obtain ⟨d1, hd1, hdr1⟩ := HRW.out (i - 1) (by omega)
        obtain ⟨bb', off', cp', _, _, _, _, _, _, ev, z0, _⟩ := HY.out.at hd1
        injection ev with ev1 ev2 ev3
        clear ev2 ev3
        have ev1 := Option.some.inj ev1
        injection ev1 with ev1 ev2
        subst ev1 ev2
        have hx1 : xi.toNat - 1 = i - 1 := by rw [hxn]
        have hx2 : 0 < xi := by have := HXI.out; omega
        rw [← hx1, hdr1] at z0
        have hn1 := (cnt_near (Q := Q) HPQ.out.2.1 (Nat.sub_le i 1) hin).1
        obtain ⟨c1, hc1⟩ : ∃ x, cnt P (i - 1) Q = x := ⟨_, rfl⟩
        rw [hci, hc1] at hn1
        rw [hc1] at z0
        have q7 : ¬ c1 < ci := by omega
        clear hp hn hle hle0 hd hd0 hdr hdr0 hc0 hci hxn h0 hd1 hdr1 hx1 hn1 hc1
        go_wp2
        go_round
        case rel => exact ⟨i + 1, _, by omega, by have := HXI.out; omega, rfl⟩
        case measure => have := HXI.out; simp [intOf]; omega
    · have HX := hide (bjoin_any (.slice xa P xk) Y u3 HY.out (by have := HLN.out; omega))
      rw [HJ.out.1, HJ.out.2] at HX
      go_wp2_with fail
      refine HX.out.mono ?_
      rintro e u4 ⟨pa, pn, pk, qa, qn, qk, rfl, hp, hq, _, _, hb⟩
      rw [err_eq rfl]
      replace C0 := hide (below_next C0.out hb)
      have HB4 := hide (bel_alloc (o := (.cells #[.int .i64 b.1.rows, .int .i64 b.1.cols, .slice pa pn pk, .int .i64 b.2.rows, .int .i64 b.2.cols, .slice qa qn qk] 42)) C0.out)
      have HW3 := hide (show Below u4.heap.size u4 (((u4.alloc (.cells #[.int .i64 b.1.rows, .int .i64 b.1.cols, .slice pa pn pk, .int .i64 b.2.rows, .int .i64 b.2.cols, .slice qa qn qk] 42)).alloc (.cells #[.int .i64 b.1.rows, .int .i64 b.1.cols, .slice pa pn pk, .int .i64 b.2.rows, .int .i64 b.2.cols, .slice qa qn qk] 42)).alloc (.cells #[.int .i64 b.1.rows, .int .i64 b.1.cols, .slice sa sn sk, .int .i64 b.2.rows, .int .i64 b.2.cols, .slice ta tn tk] 42)) from bel_alloc (bel_alloc (below_one _ _)))
      have HG1 := hide (show IsGds (((u4.alloc (.cells #[.int .i64 b.1.rows, .int .i64 b.1.cols, .slice pa pn pk, .int .i64 b.2.rows, .int .i64 b.2.cols, .slice qa qn qk] 42)).alloc (.cells #[.int .i64 b.1.rows, .int .i64 b.1.cols, .slice pa pn pk, .int .i64 b.2.rows, .int .i64 b.2.cols, .slice qa qn qk] 42)).alloc (.cells #[.int .i64 b.1.rows, .int .i64 b.1.cols, .slice sa sn sk, .int .i64 b.2.rows, .int .i64 b.2.cols, .slice ta tn tk] 42)) (.slice (some ⟨u4.heap.size + 1, 0, none⟩) 1 1) [b] from gds_one (d := b) ((Box.new (u4.alloc (.cells #[.int .i64 b.1.rows, .int .i64 b.1.cols, .slice pa pn pk, .int .i64 b.2.rows, .int .i64 b.2.cols, .slice qa qn qk] 42)) [.int .i64 b.1.rows, .int .i64 b.1.cols, .slice pa pn pk, .int .i64 b.2.rows, .int .i64 b.2.cols, .slice qa qn qk] 42 (World.size_alloc _ _)).below (below_one _ _)) (hp.below HW3.out) (hq.below HW3.out))
      have HG2 := hide (show IsGds (((u4.alloc (.cells #[.int .i64 b.1.rows, .int .i64 b.1.cols, .slice pa pn pk, .int .i64 b.2.rows, .int .i64 b.2.cols, .slice qa qn qk] 42)).alloc (.cells #[.int .i64 b.1.rows, .int .i64 b.1.cols, .slice pa pn pk, .int .i64 b.2.rows, .int .i64 b.2.cols, .slice qa qn qk] 42)).alloc (.cells #[.int .i64 b.1.rows, .int .i64 b.1.cols, .slice sa sn sk, .int .i64 b.2.rows, .int .i64 b.2.cols, .slice ta tn tk] 42)) (.slice (some ⟨u4.heap.size + 1 + 1, 0, none⟩) 1 1) [b] from gds_one (d := b) (Box.new ((u4.alloc (.cells #[.int .i64 b.1.rows, .int .i64 b.1.cols, .slice pa pn pk, .int .i64 b.2.rows, .int .i64 b.2.cols, .slice qa qn qk] 42)).alloc (.cells #[.int .i64 b.1.rows, .int .i64 b.1.cols, .slice pa pn pk, .int .i64 b.2.rows, .int .i64 b.2.cols, .slice qa qn qk] 42)) [.int .i64 b.1.rows, .int .i64 b.1.cols, .slice sa sn sk, .int .i64 b.2.rows, .int .i64 b.2.cols, .slice ta tn tk] 42 (by simp)) (M0.out.below (below_next C0.out HW3.out)) (M1.out.below (below_next C0.out HW3.out)))
      have HS := hide (bts_same _ _ [b] _ HG1.out HG2.out)
      have r0 := (HR.out.below (bel_alloc (o := (.cells #[.int .i64 b.1.rows, .int .i64 b.1.cols, .slice pa pn pk, .int .i64 b.2.rows, .int .i64 b.2.cols, .slice qa qn qk] 42)) HB4.out)) 0 _ rfl
      have r1 := (HR.out.below (bel_alloc (o := (.cells #[.int .i64 b.1.rows, .int .i64 b.1.cols, .slice pa pn pk, .int .i64 b.2.rows, .int .i64 b.2.cols, .slice qa qn qk] 42)) HB4.out)) 1 _ rfl
      have r2 := (HR.out.below (bel_alloc (o := (.cells #[.int .i64 b.1.rows, .int .i64 b.1.cols, .slice pa pn pk, .int .i64 b.2.rows, .int .i64 b.2.cols, .slice qa qn qk] 42)) HB4.out)) 2 _ rfl
      have r3 := (HR.out.below (bel_alloc (o := (.cells #[.int .i64 b.1.rows, .int .i64 b.1.cols, .slice pa pn pk, .int .i64 b.2.rows, .int .i64 b.2.cols, .slice qa qn qk] 42)) HB4.out)) 3 _ rfl
      have r4 := (HR.out.below (bel_alloc (o := (.cells #[.int .i64 b.1.rows, .int .i64 b.1.cols, .slice pa pn pk, .int .i64 b.2.rows, .int .i64 b.2.cols, .slice qa qn qk] 42)) HB4.out)) 4 _ rfl
      have r5 := (HR.out.below (bel_alloc (o := (.cells #[.int .i64 b.1.rows, .int .i64 b.1.cols, .slice pa pn pk, .int .i64 b.2.rows, .int .i64 b.2.cols, .slice qa qn qk] 42)) HB4.out)) 5 _ rfl
      clear HX hp hq hb
      go_wp2_with fail
      refine HS.out.mono ?_
      rintro e u5 ⟨rfl, hb⟩
      replace C0 := hide (below_next (below_next C0.out HW3.out) hb)
      clear HS hb r0 r1 r2 r3 r4 r5
      go_wp2
      go_ret
      exact ⟨rfl, below_next HWV.out C0.out⟩
end Go.Proofs.Ytokohpabmmcioae
