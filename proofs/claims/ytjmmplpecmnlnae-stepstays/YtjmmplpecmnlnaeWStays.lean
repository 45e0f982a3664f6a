/- The walk of the law StepStays: without Learn the net stays; without Keep what was does not matter; of nothing all stays. No condition. -/
import Derived.Test.YtjmmplpecmnlnaeStpD
import Derived.Test.YtjmmplpecmnlnaeStepLaw
import Derived.Test.YtjmmplpecmnlnaeSameL
import Derived.Test.YtjmmplpecmnlnaeNetC3
namespace Go.Proofs.Ytjmmplpecmnlnae
open Go.RowKit
def fL : Ly := ⟨3, ⟨1, 1, [256]⟩, noMx⟩
def gD : Mx × Mx := (⟨1, 1, [512]⟩, noMx)
theorem part_all {w : World} {s : Value} {zs : List Int} (h : IsInts w s zs) : PartAt w (fun b => 0 ≤ b ∧ b < 0) (.inr zs) s := ⟨h, .inr fun _ _ hg => absurd hg.2 (Nat.not_lt_zero _)⟩
theorem lyOne (V : World) (s : Value) (h : IsInts V s [256]) : IsLys (V.alloc (.cells #[.int .i64 3, .int .i64 1, .int .i64 1, s, .int .i64 0, .int .i64 0, .slice none 0 0] 30)) (.slice (some ⟨V.heap.size, 0, none⟩) 1 1) [fL] :=
  (Owns.made (lo := 0) (base := 0) (w := V) (e := 30) (size := 7) (n := 1) (cs := [.int .i64 3, .int .i64 1, .int .i64 1, s, .int .i64 0, .int .i64 0, .slice none 0 0]) (sp := lyS fL) (Nat.zero_le _) (by decide) rfl (enc_ly2 (l := fL) (part_all h) (part_all (IsInts.nil V)))).reads
theorem gdOne (V : World) (s : Value) (h : IsInts V s [512]) : IsGds (V.alloc (.cells #[.int .i64 1, .int .i64 1, s, .int .i64 0, .int .i64 0, .slice none 0 0] 32)) (.slice (some ⟨V.heap.size, 0, none⟩) 1 1) [gD] :=
  (Owns.made (lo := 0) (base := 0) (w := V) (e := 32) (size := 6) (n := 1) (cs := [.int .i64 1, .int .i64 1, s, .int .i64 0, .int .i64 0, .slice none 0 0]) (sp := gdS gD) (Nat.zero_le _) (by decide) rfl (enc_gd (d := gD) (part_all h) (part_all (IsInts.nil V)))).reads
/-- A net with which nothing is wrong is small. -/
theorem small_of {ls : List Ly} {ps qs : List (Mx × Mx)} {le ke : Int} (h : stE ls ps qs le ke = 0) : ls.length ≤ 1599289640355 ∧ ∀ l ∈ ls, l.w.cells.length ≤ 17592186043904 ∧ l.b.cells.length ≤ 17592186043904 := by
  obtain ⟨_, h12, h1, h2, hE⟩ := stE_zero h
  refine ⟨by omega, ?_⟩
  clear h h12
  induction ls generalizing ps qs with
  | nil => intro l hl; cases hl
  | cons x xs ih =>
    match ps, qs, h1, h2, hE with
    | p :: ps, q :: qs, h1, h2, hE =>
      obtain ⟨e1, e2⟩ := stpE_cons hE
      intro l hl
      rcases List.mem_cons.1 hl with rfl | hl
      · obtain ⟨⟨R, C, gw, _, _⟩, ⟨R2, C2, gb, _, _⟩⟩ := stp1_sizes e1
        have a1 := good576 gw
        have a2 := good576 gb
        omega
      · exact ih (by simpa using h1) (by simpa using h2) e2 l hl
set_option maxHeartbeats 16000000 in
set_option maxRecDepth 100000 in
theorem stays_walk (v0 : Value) (m0 : List Ly) (v1 : Value) (m1 : List (Mx × Mx)) (v2 : Value) (m2 : List (Mx × Mx)) (le ke : Int) (w : World) (w0 : IsLys w v0 m0) (w1 : IsGds w v1 m1) (w2 : IsGds w v2 m2) : Calls Try.prog 3 #[v0, v1, v2, .agg #[.int .i64 le, .int .i64 ke]] w fun e w' => e = .returned (.bool true) ∧ Below w.heap.size w w' := by
  obtain ⟨V, hV⟩ : ∃ V, V = (((((w.alloc (.cells #[.int .i64 le, .int .i64 ke] 25)).alloc (.cells #[.int .i64 256] 3)).alloc (.cells #[.int .i64 3, .int .i64 1, .int .i64 1, .slice (some ⟨w.heap.size + 1, 0, none⟩) 1 1, .int .i64 0, .int .i64 0, .slice none 0 0] 30)).alloc (.cells #[.int .i64 512] 3)).alloc (.cells #[.int .i64 1, .int .i64 1, .slice (some ⟨w.heap.size + 1 + 1 + 1, 0, none⟩) 1 1, .int .i64 0, .int .i64 0, .slice none 0 0] 32)) := ⟨_, rfl⟩
  have HV := hide hV
  have HWV : Hid (Below w.heap.size w V) := by rw [hV]; exact hide (bel_alloc (bel_alloc (bel_alloc (bel_alloc (bel_alloc (Below.refl _ _))))))
  have HR : Hid (Box V w.heap.size [.int .i64 le, .int .i64 ke]) := by rw [hV]; exact hide ((Box.new w _ 25 rfl).below (bel_alloc (bel_alloc (bel_alloc (bel_alloc (Below.refl _ _))))))
  have HF : Hid (IsLys V (.slice (some ⟨w.heap.size + 1 + 1, 0, none⟩) 1 1) [fL]) := by
    have i1 := ints_newB (w.alloc (.cells #[.int .i64 le, .int .i64 ke] 25)) [256] (by decide) 3 (B := w.heap.size + 1) (by simp)
    have h := lyOne ((w.alloc (.cells #[.int .i64 le, .int .i64 ke] 25)).alloc (.cells #[.int .i64 256] 3)) _ i1
    rw [show ((w.alloc (.cells #[.int .i64 le, .int .i64 ke] 25)).alloc (.cells #[.int .i64 256] 3)).heap.size = w.heap.size + 1 + 1 by simp] at h
    rw [hV]; exact hide (h.below (bel_alloc (bel_alloc (Below.refl _ _))))
  have HG : Hid (IsGds V (.slice (some ⟨w.heap.size + 1 + 1 + 1 + 1, 0, none⟩) 1 1) [gD]) := by
    have i1 := ints_newB (((w.alloc (.cells #[.int .i64 le, .int .i64 ke] 25)).alloc (.cells #[.int .i64 256] 3)).alloc (.cells #[.int .i64 3, .int .i64 1, .int .i64 1, .slice (some ⟨w.heap.size + 1, 0, none⟩) 1 1, .int .i64 0, .int .i64 0, .slice none 0 0] 30)) [512] (by decide) 3 (B := w.heap.size + 1 + 1 + 1) (by simp)
    have h := gdOne ((((w.alloc (.cells #[.int .i64 le, .int .i64 ke] 25)).alloc (.cells #[.int .i64 256] 3)).alloc (.cells #[.int .i64 3, .int .i64 1, .int .i64 1, .slice (some ⟨w.heap.size + 1, 0, none⟩) 1 1, .int .i64 0, .int .i64 0, .slice none 0 0] 30)).alloc (.cells #[.int .i64 512] 3)) _ i1
    rw [show ((((w.alloc (.cells #[.int .i64 le, .int .i64 ke] 25)).alloc (.cells #[.int .i64 256] 3)).alloc (.cells #[.int .i64 3, .int .i64 1, .int .i64 1, .slice (some ⟨w.heap.size + 1, 0, none⟩) 1 1, .int .i64 0, .int .i64 0, .slice none 0 0] 30)).alloc (.cells #[.int .i64 512] 3)).heap.size = w.heap.size + 1 + 1 + 1 + 1 by simp] at h
    rw [hV]; exact hide h
  have M0 := hide (w0.below HWV.out)
  have M1 := hide (w1.below HWV.out)
  have M2 := hide (w2.below HWV.out)
  obtain ⟨E, hE⟩ : ∃ E, stE m0 m1 m2 le ke = E := ⟨_, rfl⟩
  have HE := hide hE
  clear hV w0 w1 w2 hE
  go_enter Try.func3, Try.ntmps3
  have C0 := hide (Below.refl V.heap.size V)
  have HX := hide (netzero_any _ [fL] _ (HF.out.below C0.out) (by decide) (by decide))
  go_wp2_with fail
  rw [← HV.out]
  refine HX.out.mono ?_
  rintro e u1 ⟨z, rfl, hm, hb⟩
  replace C0 := hide (below_next C0.out hb)
  clear HX hb
  have C1 := hide (Below.refl u1.heap.size u1)
  have HZ := hide hm
  clear hm
  have HX := hide (stepdo_any _ _ _ [fL] (zeroD [fL]) [gD] 128 0 _ (HF.out.below C0.out) (HZ.out.below C1.out) (HG.out.below C0.out))
  go_wp2_with fail
  refine HX.out.mono ?_
  rintro e u2 ⟨x1, x2, rfl, hm, _, hb⟩
  replace C0 := hide (below_next C0.out hb)
  replace C1 := hide (below_next C1.out hb)
  clear HX hb
  have C2 := hide (Below.refl u2.heap.size u2)
  have hq : IsLys u2 x1 [⟨3, ⟨1, 1, [0]⟩, noMx⟩] := by
    have h := hm.reads
    rw [show doL [fL] (zeroD [fL]) [gD] 128 0 = [⟨3, ⟨1, 1, [0]⟩, noMx⟩] from stays_first.2] at h
    exact h
  rw [show stE [fL] (zeroD [fL]) [gD] 128 0 = 0 from stays_first.1, err_eq rfl]
  obtain ⟨b, off, cap, sa, sn, sk, ta, tn, tk, ev, _, _, _, k3, _, _, _, hly⟩ := hq.at (i := 0) rfl
  obtain ⟨i1, _⟩ := IsLys.ints hly
  obtain ⟨ia, ic, e1, _, _, h4⟩ := i1
  injection e1 with e11 e12 e13
  subst e11 e12 e13
  obtain ⟨b', off', rfl, hc⟩ := h4.resolve_left (by simp)
  have k4 := hc 0 0 rfl
  subst ev
  simp only [Nat.zero_mul, Nat.add_zero] at k3 k4
  simp only [List.length_cons, List.length_nil, Nat.zero_add] at k3 ⊢
  clear hm hq hly hc h4
  have r0 := (HR.out.below C0.out) 0 _ rfl
  have r1 := (HR.out.below C0.out) 1 _ rfl
  have HX := hide (stepdo_any v0 v1 v2 m0 m1 m2 le ke _ (M0.out.below C0.out) (M1.out.below C0.out) (M2.out.below C0.out))
  go_wp2_with fail
  refine HX.out.mono ?_
  rintro e u3 ⟨y1, y2, rfl, _, _, hb⟩
  replace C0 := hide (below_next C0.out hb)
  replace C1 := hide (below_next C1.out hb)
  replace C2 := hide (below_next C2.out hb)
  clear HX hb
  have C3 := hide (Below.refl u3.heap.size u3)
  rw [HE.out]
  clear r0 r1 k3 k4
  by_cases hE : E = 0
  case neg =>
    rw [err_ne hE]
    go_wp2
    go_ret
    exact ⟨rfl, below_next HWV.out C0.out⟩
  case pos =>
  subst hE
  rw [err_eq rfl]
  obtain ⟨⟨q1, q2⟩, ⟨q3, q4, q5, q6⟩, ⟨q7, q8, q9⟩⟩ := stays_facts HE.out
  obtain ⟨z1, z2⟩ := small_of HE.out
  have Q1 := hide (And.intro q1 q2)
  have Q2 := hide (And.intro q3 (And.intro q4 (And.intro q5 q6)))
  have Q3 := hide (And.intro q7 (And.intro q8 q9))
  have HSM := hide (And.intro z1 z2)
  clear q1 q2 q3 q4 q5 q6 q7 q8 q9 z1 z2
  have r0 := (HR.out.below C0.out) 0 _ rfl
  have r1 := (HR.out.below C0.out) 1 _ rfl
  have HX := hide (stepdo_any v0 v1 v2 m0 m1 m2 0 ke _ (M0.out.below C0.out) (M1.out.below C0.out) (M2.out.below C0.out))
  go_wp2_with fail
  refine HX.out.mono ?_
  rintro e u4 ⟨l1, l2, rfl, hm, _, hb⟩
  replace C0 := hide (below_next C0.out hb)
  replace C1 := hide (below_next C1.out hb)
  replace C2 := hide (below_next C2.out hb)
  replace C3 := hide (below_next C3.out hb)
  clear HX hb
  have C4 := hide (Below.refl u4.heap.size u4)
  rw [Q1.out.2] at hm
  rw [Q1.out.1, err_eq rfl]
  have HL1 := hide (show IsLys u4 l1 m0 from hm.reads)
  clear hm r0 r1
  have HX := hide (lys_same l1 v0 m0 _ (HL1.out.below C4.out) (M0.out.below C0.out))
  go_wp2_with fail
  refine HX.out.mono ?_
  rintro e u5 ⟨rfl, hb⟩
  replace C0 := hide (below_next C0.out hb)
  replace C1 := hide (below_next C1.out hb)
  replace C2 := hide (below_next C2.out hb)
  replace C3 := hide (below_next C3.out hb)
  replace C4 := hide (below_next C4.out hb)
  clear HX hb
  have C5 := hide (Below.refl u5.heap.size u5)
  have HX := hide (netzero_any v0 m0 _ (M0.out.below C0.out) HSM.out.1 HSM.out.2)
  go_wp2_with fail
  refine HX.out.mono ?_
  rintro e u6 ⟨zz, rfl, hm, hb⟩
  replace C0 := hide (below_next C0.out hb)
  replace C1 := hide (below_next C1.out hb)
  replace C2 := hide (below_next C2.out hb)
  replace C3 := hide (below_next C3.out hb)
  replace C4 := hide (below_next C4.out hb)
  replace C5 := hide (below_next C5.out hb)
  clear HX hb
  have C6 := hide (Below.refl u6.heap.size u6)
  have HZZ := hide hm
  clear hm
  have r0 := (HR.out.below C0.out) 0 _ rfl
  have r1 := (HR.out.below C0.out) 1 _ rfl
  have HX := hide (stepdo_any v0 v1 v2 m0 m1 m2 le 0 _ (M0.out.below C0.out) (M1.out.below C0.out) (M2.out.below C0.out))
  go_wp2_with fail
  refine HX.out.mono ?_
  rintro e u7 ⟨a1, a2, rfl, hm, hm2, hb⟩
  replace C0 := hide (below_next C0.out hb)
  replace C1 := hide (below_next C1.out hb)
  replace C2 := hide (below_next C2.out hb)
  replace C3 := hide (below_next C3.out hb)
  replace C4 := hide (below_next C4.out hb)
  replace C5 := hide (below_next C5.out hb)
  replace C6 := hide (below_next C6.out hb)
  clear HX hb
  have C7 := hide (Below.refl u7.heap.size u7)
  rw [Q2.out.1, err_eq rfl]
  rw [Q2.out.2.2.1] at hm
  rw [Q2.out.2.2.2] at hm2
  have HA1 := hide (show IsLys u7 a1 (doL m0 (zeroD m0) m2 le 0) from hm.reads)
  have HA2 := hide (show IsGds u7 a2 (doG m0 (zeroD m0) m2 le 0) from hm2.reads)
  clear hm hm2 r0 r1
  have r0 := (HR.out.below C0.out) 0 _ rfl
  have r1 := (HR.out.below C0.out) 1 _ rfl
  have HX := hide (stepdo_any v0 zz v2 m0 (zeroD m0) m2 le 0 _ (M0.out.below C0.out) (HZZ.out.below C6.out) (M2.out.below C0.out))
  go_wp2_with fail
  refine HX.out.mono ?_
  rintro e u8 ⟨b1, b2, rfl, hm, hm2, hb⟩
  replace C0 := hide (below_next C0.out hb)
  replace C1 := hide (below_next C1.out hb)
  replace C2 := hide (below_next C2.out hb)
  replace C3 := hide (below_next C3.out hb)
  replace C4 := hide (below_next C4.out hb)
  replace C5 := hide (below_next C5.out hb)
  replace C6 := hide (below_next C6.out hb)
  replace C7 := hide (below_next C7.out hb)
  clear HX hb
  have C8 := hide (Below.refl u8.heap.size u8)
  rw [Q2.out.2.1, err_eq rfl]
  have HB1 := hide (show IsLys u8 b1 (doL m0 (zeroD m0) m2 le 0) from hm.reads)
  have HB2 := hide (show IsGds u8 b2 (doG m0 (zeroD m0) m2 le 0) from hm2.reads)
  clear hm hm2 r0 r1
  have HX := hide (lys_same a1 b1 _ _ (HA1.out.below C7.out) (HB1.out.below C8.out))
  go_wp2_with fail
  refine HX.out.mono ?_
  rintro e u9 ⟨rfl, hb⟩
  replace C0 := hide (below_next C0.out hb)
  replace C1 := hide (below_next C1.out hb)
  replace C2 := hide (below_next C2.out hb)
  replace C3 := hide (below_next C3.out hb)
  replace C4 := hide (below_next C4.out hb)
  replace C5 := hide (below_next C5.out hb)
  replace C6 := hide (below_next C6.out hb)
  replace C7 := hide (below_next C7.out hb)
  replace C8 := hide (below_next C8.out hb)
  clear HX hb
  have C9 := hide (Below.refl u9.heap.size u9)
  have HX := hide (gds_same a2 b2 _ _ (HA2.out.below C7.out) (HB2.out.below C8.out))
  go_wp2_with fail
  refine HX.out.mono ?_
  rintro e u10 ⟨rfl, hb⟩
  replace C0 := hide (below_next C0.out hb)
  replace C1 := hide (below_next C1.out hb)
  replace C2 := hide (below_next C2.out hb)
  replace C3 := hide (below_next C3.out hb)
  replace C4 := hide (below_next C4.out hb)
  replace C5 := hide (below_next C5.out hb)
  replace C6 := hide (below_next C6.out hb)
  replace C7 := hide (below_next C7.out hb)
  replace C8 := hide (below_next C8.out hb)
  replace C9 := hide (below_next C9.out hb)
  clear HX hb
  have C10 := hide (Below.refl u10.heap.size u10)
  have r0 := (HR.out.below C0.out) 0 _ rfl
  have r1 := (HR.out.below C0.out) 1 _ rfl
  have HX := hide (stepdo_any v0 zz zz m0 (zeroD m0) (zeroD m0) le ke _ (M0.out.below C0.out) (HZZ.out.below C6.out) (HZZ.out.below C6.out))
  go_wp2_with fail
  refine HX.out.mono ?_
  rintro e u11 ⟨c1, c2, rfl, hm, hm2, hb⟩
  replace C0 := hide (below_next C0.out hb)
  replace C1 := hide (below_next C1.out hb)
  replace C2 := hide (below_next C2.out hb)
  replace C3 := hide (below_next C3.out hb)
  replace C4 := hide (below_next C4.out hb)
  replace C5 := hide (below_next C5.out hb)
  replace C6 := hide (below_next C6.out hb)
  replace C7 := hide (below_next C7.out hb)
  replace C8 := hide (below_next C8.out hb)
  replace C9 := hide (below_next C9.out hb)
  replace C10 := hide (below_next C10.out hb)
  clear HX hb
  have C11 := hide (Below.refl u11.heap.size u11)
  rw [Q3.out.1, err_eq rfl]
  rw [Q3.out.2.1] at hm
  rw [Q3.out.2.2] at hm2
  have HC1 := hide (show IsLys u11 c1 m0 from hm.reads)
  have HC2 := hide (show IsGds u11 c2 (zeroD m0) from hm2.reads)
  clear hm hm2 r0 r1
  have HX := hide (lys_same c1 v0 m0 _ (HC1.out.below C11.out) (M0.out.below C0.out))
  go_wp2_with fail
  refine HX.out.mono ?_
  rintro e u12 ⟨rfl, hb⟩
  replace C0 := hide (below_next C0.out hb)
  replace C1 := hide (below_next C1.out hb)
  replace C2 := hide (below_next C2.out hb)
  replace C3 := hide (below_next C3.out hb)
  replace C4 := hide (below_next C4.out hb)
  replace C5 := hide (below_next C5.out hb)
  replace C6 := hide (below_next C6.out hb)
  replace C7 := hide (below_next C7.out hb)
  replace C8 := hide (below_next C8.out hb)
  replace C9 := hide (below_next C9.out hb)
  replace C10 := hide (below_next C10.out hb)
  replace C11 := hide (below_next C11.out hb)
  clear HX hb
  have C12 := hide (Below.refl u12.heap.size u12)
  have HX := hide (gds_same c2 zz (zeroD m0) _ (HC2.out.below C11.out) (HZZ.out.below C6.out))
  go_wp2_with fail
  refine HX.out.mono ?_
  rintro e u13 ⟨rfl, hb⟩
  replace C0 := hide (below_next C0.out hb)
  replace C1 := hide (below_next C1.out hb)
  replace C2 := hide (below_next C2.out hb)
  replace C3 := hide (below_next C3.out hb)
  replace C4 := hide (below_next C4.out hb)
  replace C5 := hide (below_next C5.out hb)
  replace C6 := hide (below_next C6.out hb)
  replace C7 := hide (below_next C7.out hb)
  replace C8 := hide (below_next C8.out hb)
  replace C9 := hide (below_next C9.out hb)
  replace C10 := hide (below_next C10.out hb)
  replace C11 := hide (below_next C11.out hb)
  replace C12 := hide (below_next C12.out hb)
  clear HX hb
  have C13 := hide (Below.refl u13.heap.size u13)
  go_wp2
  go_ret
  exact ⟨rfl, below_next HWV.out C0.out⟩
end Go.Proofs.Ytjmmplpecmnlnae
