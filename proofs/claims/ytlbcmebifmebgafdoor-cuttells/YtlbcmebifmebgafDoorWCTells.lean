/- The walk of the law CutTells: Check, Cost and Best of package cut answer what the document's answer does. Condition: the library's variable errors.errorType is as its text lays it. -/
import Derived.Test.YtlbcmebifmebgafDoorCtC6
import Derived.Test.YtlbcmebifmebgafDoorCtR2
import Derived.Test.YtlbcmebifmebgafDoorErr
namespace Go.Proofs.YtlbcmebifmebgafDoor
open Go.RowKit
theorem rbest_all (v : Value) (cs : List Int) (r : Int) (w : World) (hv : IsInts w v cs) (hE : bestE cs r = 0) : Calls Tryd.prog 12 #[v, .int .i64 r, .slice none 0 0] w fun e w' => ∃ s m, e = .returned (.tuple #[s, .int .i64 m]) ∧ (∃ zs, IsInts w' s zs ∧ BestP cs r zs m) ∧ Below w.heap.size w w' := by
  obtain ⟨h1, h2, h3, h4⟩ := bestE_in hE
  obtain ⟨q, hq⟩ : ∃ q : Nat, r.toNat = q + 1 := ⟨r.toNat - 1, by omega⟩
  refine (rbest_any cs r.toNat r (costsE_in h3) h2.2 (by omega) (by omega) q [] v (.slice none 0 0) w hv (IsInts.nil w) (fun n k e => by injection e with _ e2 e3; exact ⟨e2.symm, e3.symm⟩) (by simp [hq]) (fun i hi => by simp [ctI] at hi) (by show 0 + (q + 1) ≤ cs.length; omega)).mono ?_
  rintro e w' ⟨s, m, rfl, ⟨t, hi, hle, hfi⟩, hb⟩
  rw [List.nil_append] at hi
  exact ⟨s, m, rfl, ⟨ctI t, hi, .inl ⟨hE, t, rfl, by rw [hq]; exact hle, by rw [hq]; exact hfi⟩⟩, hb⟩
set_option maxHeartbeats 32000000 in
set_option maxRecDepth 100000 in
theorem tells_walk (v0 v1 : Value) (cs es : List Int) (r : Int) (w : World) (w0 : IsInts w v0 cs) (w1 : IsInts w v1 es) (hH : Handle w) : Calls Tryd.prog 3 #[v0, v1, .int .i64 r] w fun e w' => e = .returned (.bool true) ∧ Below w.heap.size w w' := by
  have hl0 := w0.len
  have hl1 := w1.len
  unfold maxLen at hl0 hl1
  obtain ⟨a, cap, hve, g2, g3, g4⟩ := id w0
  obtain ⟨a', cap', hue, g2', g3', g4'⟩ := id w1
  subst hve hue
  clear g4 g4'
  obtain ⟨E, hE⟩ : ∃ E, endsE es (cs.length : Int) = E := ⟨_, rfl⟩
  have HIN := hide (fun (h : E = 0) => endsE_in (hE.trans h))
  obtain ⟨F, hF⟩ : ∃ F, costE cs E = F := ⟨_, rfl⟩
  obtain ⟨X, hX⟩ : ∃ X, costX cs es = X := ⟨_, rfl⟩
  have HX0 := hide (show (if F = 0 then tab es.length (stg cs es) else []) = X by rw [← hX, ← hF, ← hE]; rfl)
  obtain ⟨n, hn⟩ : ∃ n, cs.length = n := ⟨_, rfl⟩
  obtain ⟨k, hk⟩ : ∃ k, es.length = k := ⟨_, rfl⟩
  have HN := hide (And.intro hn hk)
  have HV := hide w0
  have HE := hide w1
  have HH := hide hH
  have HEE := hide (show endsE es (n : Int) = E by rw [← hn]; exact hE)
  have HCE := hide (show costE cs (endsE es (cs.length : Int)) = F by rw [hE]; exact hF)
  have HCX := hide hX
  rw [hn] at HV hl0 g2 ⊢
  rw [hk] at HE hl1 g2' ⊢
  have C0 := hide (Below.refl w.heap.size w)
  clear w0 w1 hH hE hX hn hk
  rcases costsE_two cs with hc | hc
  · have HCO := hide hc
    have HC := hide (costsE_in hc)
    have hFE : F = E := by rw [← hF]; unfold costE; rw [if_pos hc]
    clear hF hc
    subst hFE
    by_cases hE0 : F = 0
    · subst hE0
      have HA := hide (show cs.length ≤ 12 ∧ rising es ∧ prv es es.length ≤ (cs.length : Int) ∧ es.length ≤ 6 by obtain ⟨q1, q2, q3, q4⟩ := HIN.out rfl; exact ⟨by omega, q3, by omega, q2.2⟩)
      obtain rfl : tab es.length (stg cs es) = X := by rw [← HX0.out, if_pos rfl]
      go_enter Tryd.func3, Tryd.ntmps3
      have HX := hide (ctcheck_any _ es (n : Int) w (HE.out.below C0.out))
      go_wp2_with fail
      refine HX.out.mono ?_
      rintro e u1 ⟨rfl, rfl⟩
      clear HX
      have HX := hide (rends_any _ es (n : Int) u1 (HE.out.below C0.out))
      go_wp2_with fail
      refine HX.out.mono ?_
      rintro e u2 ⟨rfl, hb⟩
      replace C0 := hide (bel_nx C0.out hb)
      clear hb
      clear HX
      rw [HEE.out]
      have HX := hide (error_same (k := 0) (n := 0) rfl u2 (HH.out.below C0.out))
      go_wp2_with fail
      refine HX.out.mono ?_
      rintro e u3 ⟨rfl, hb⟩
      replace C0 := hide (bel_nx C0.out hb)
      clear hb
      clear HX
      have HX := hide (cost_any _ _ cs es u3 (HV.out.below C0.out) (HE.out.below C0.out))
      go_wp2_with fail
      refine HX.out.mono ?_
      rintro e u4 ⟨s1, rfl, hi, hb⟩
      replace C0 := hide (bel_nx C0.out hb)
      clear hb
      clear HX
      have C1 := hide (Below.refl u4.heap.size u4)
      rw [HCX.out] at hi
      have HS1 := hide hi
      obtain ⟨sa1, sn1, sk1, hse⟩ := hi.shape
      subst hse
      clear hi
      rw [HCE.out]
      have HX := hide (rcosts_any _ cs u4 (HV.out.below C0.out))
      go_wp2_with fail
      refine HX.out.mono ?_
      rintro e u5 ⟨rfl, rfl⟩
      clear HX
      rw [HCO.out]
      have HX := hide (rcost_any _ _ cs es u5 (HV.out.below C0.out) (HE.out.below C0.out) HC.out HA.out.1 HA.out.2.1 HA.out.2.2.1 HA.out.2.2.2)
      go_wp2_with fail
      refine HX.out.mono ?_
      rintro e u6 ⟨s2, rfl, hi, hb⟩
      replace C0 := hide (bel_nx C0.out hb)
      replace C1 := hide (bel_nx C1.out hb)
      clear hb
      clear HX
      have C2 := hide (Below.refl u6.heap.size u6)
      have HS2 := hide hi
      obtain ⟨sa2, sn2, sk2, hse⟩ := hi.shape
      subst hse
      clear hi
      have HX := hide (error_same (k := 0) (n := 0) rfl u6 (HH.out.below C0.out))
      go_wp2_with fail
      refine HX.out.mono ?_
      rintro e u7 ⟨rfl, hb⟩
      replace C0 := hide (bel_nx C0.out hb)
      replace C1 := hide (bel_nx C1.out hb)
      replace C2 := hide (bel_nx C2.out hb)
      clear hb
      clear HX
      have HX := hide (ints_ct _ _ (tab es.length (stg cs es)) u7 (HS1.out.below C1.out) (HS2.out.below C2.out))
      go_wp2_with fail
      refine HX.out.mono ?_
      rintro e u8 ⟨rfl, hb⟩
      replace C0 := hide (bel_nx C0.out hb)
      replace C1 := hide (bel_nx C1.out hb)
      replace C2 := hide (bel_nx C2.out hb)
      clear hb
      clear HX
      clear C1 HS1 C2 HS2
      have HX := hide (best_any _ cs r u8 (HV.out.below C0.out))
      go_wp2_with fail
      refine HX.out.mono ?_
      rintro e u9 ⟨s3, m, rfl, ⟨zs, hi, hp⟩, hb⟩
      replace C0 := hide (bel_nx C0.out hb)
      clear hb
      clear HX
      have C3 := hide (Below.refl u9.heap.size u9)
      have HS3 := hide hi
      have HP := hide hp
      obtain ⟨sa3, sn3, sk3, hse⟩ := hi.shape
      subst hse
      clear hi hp
      by_cases c1 : r < 1
      · have HBE := hide (bestE_far (cs := cs) (.inl c1))
        obtain ⟨hz, hm⟩ := HP.out.one (BestP.bad HBE.out (by decide))
        subst hz hm
        rw [HBE.out]
        have HX := hide (error_same (k := 1) (n := 1) rfl u9 (HH.out.below C0.out))
        go_wp2_with fail
        refine HX.out.mono ?_
        rintro e u10 ⟨rfl, hb⟩
        replace C0 := hide (bel_nx C0.out hb)
        replace C3 := hide (bel_nx C3.out hb)
        clear hb
        clear HX
        have HX := hide (ints_ct _ _ [] u10 (HS3.out.below C3.out) (IsInts.nil _))
        go_wp2_with fail
        refine HX.out.mono ?_
        rintro e u11 ⟨rfl, hb⟩
        replace C0 := hide (bel_nx C0.out hb)
        replace C3 := hide (bel_nx C3.out hb)
        clear hb
        clear HX
        go_wp2
        go_ret
        exact ⟨rfl, C0.out⟩
      by_cases c2 : 6 < r
      · have HBE := hide (bestE_far (cs := cs) (.inr (.inl c2)))
        obtain ⟨hz, hm⟩ := HP.out.one (BestP.bad HBE.out (by decide))
        subst hz hm
        rw [HBE.out]
        have HX := hide (error_same (k := 1) (n := 1) rfl u9 (HH.out.below C0.out))
        go_wp2_with fail
        refine HX.out.mono ?_
        rintro e u10 ⟨rfl, hb⟩
        replace C0 := hide (bel_nx C0.out hb)
        replace C3 := hide (bel_nx C3.out hb)
        clear hb
        clear HX
        have HX := hide (ints_ct _ _ [] u10 (HS3.out.below C3.out) (IsInts.nil _))
        go_wp2_with fail
        refine HX.out.mono ?_
        rintro e u11 ⟨rfl, hb⟩
        replace C0 := hide (bel_nx C0.out hb)
        replace C3 := hide (bel_nx C3.out hb)
        clear hb
        clear HX
        go_wp2
        go_ret
        exact ⟨rfl, C0.out⟩
      by_cases c3 : (n : Int) < 1
      · have HBE := hide (bestE_far (cs := cs) (r := r) (.inr (.inr (.inl (by rw [HN.out.1]; exact c3)))))
        obtain ⟨hz, hm⟩ := HP.out.one (BestP.bad HBE.out (by decide))
        subst hz hm
        rw [HBE.out]
        have HX := hide (error_same (k := 1) (n := 1) rfl u9 (HH.out.below C0.out))
        go_wp2_with fail
        refine HX.out.mono ?_
        rintro e u10 ⟨rfl, hb⟩
        replace C0 := hide (bel_nx C0.out hb)
        replace C3 := hide (bel_nx C3.out hb)
        clear hb
        clear HX
        have HX := hide (ints_ct _ _ [] u10 (HS3.out.below C3.out) (IsInts.nil _))
        go_wp2_with fail
        refine HX.out.mono ?_
        rintro e u11 ⟨rfl, hb⟩
        replace C0 := hide (bel_nx C0.out hb)
        replace C3 := hide (bel_nx C3.out hb)
        clear hb
        clear HX
        go_wp2
        go_ret
        exact ⟨rfl, C0.out⟩
      by_cases c4 : 12 < (n : Int)
      · have HBE := hide (bestE_far (cs := cs) (r := r) (.inr (.inr (.inr (by rw [HN.out.1]; exact c4)))))
        obtain ⟨hz, hm⟩ := HP.out.one (BestP.bad HBE.out (by decide))
        subst hz hm
        rw [HBE.out]
        have HX := hide (error_same (k := 1) (n := 1) rfl u9 (HH.out.below C0.out))
        go_wp2_with fail
        refine HX.out.mono ?_
        rintro e u10 ⟨rfl, hb⟩
        replace C0 := hide (bel_nx C0.out hb)
        replace C3 := hide (bel_nx C3.out hb)
        clear hb
        clear HX
        have HX := hide (ints_ct _ _ [] u10 (HS3.out.below C3.out) (IsInts.nil _))
        go_wp2_with fail
        refine HX.out.mono ?_
        rintro e u11 ⟨rfl, hb⟩
        replace C0 := hide (bel_nx C0.out hb)
        replace C3 := hide (bel_nx C3.out hb)
        clear hb
        clear HX
        go_wp2
        go_ret
        exact ⟨rfl, C0.out⟩
      have HF0 := hide (show ¬ (r < 1 ∨ 6 < r ∨ (cs.length : Int) < 1 ∨ 12 < (cs.length : Int)) by rw [HN.out.1]; omega)
      by_cases c5 : (n : Int) < r
      · have HBE := hide (bestE_more HF0.out HCO.out (by rw [HN.out.1]; exact c5))
        obtain ⟨hz, hm⟩ := HP.out.one (BestP.bad HBE.out (by decide))
        subst hz hm
        rw [HBE.out]
        have HX := hide (rcosts_any _ cs u9 (HV.out.below C0.out))
        go_wp2_with fail
        refine HX.out.mono ?_
        rintro e u10 ⟨rfl, rfl⟩
        clear HX
        rw [HCO.out]
        have HX := hide (error_same (k := 2) (n := 2) rfl u10 (HH.out.below C0.out))
        go_wp2_with fail
        refine HX.out.mono ?_
        rintro e u11 ⟨rfl, hb⟩
        replace C0 := hide (bel_nx C0.out hb)
        replace C3 := hide (bel_nx C3.out hb)
        clear hb
        clear HX
        have HX := hide (ints_ct _ _ [] u11 (HS3.out.below C3.out) (IsInts.nil _))
        go_wp2_with fail
        refine HX.out.mono ?_
        rintro e u12 ⟨rfl, hb⟩
        replace C0 := hide (bel_nx C0.out hb)
        replace C3 := hide (bel_nx C3.out hb)
        clear hb
        clear HX
        go_wp2
        go_ret
        exact ⟨rfl, C0.out⟩
      have HBE := hide (bestE_ok HF0.out HCO.out (by rw [HN.out.1]; exact c5))
      rw [HBE.out]
      have HX := hide (rcosts_any _ cs u9 (HV.out.below C0.out))
      go_wp2_with fail
      refine HX.out.mono ?_
      rintro e u10 ⟨rfl, rfl⟩
      clear HX
      rw [HCO.out]
      have HX := hide (rbest_all _ cs r u10 (HV.out.below C0.out) HBE.out)
      go_wp2_with fail
      refine HX.out.mono ?_
      rintro e u11 ⟨s4, k4, rfl, ⟨ys, hi, hp⟩, hb⟩
      replace C0 := hide (bel_nx C0.out hb)
      replace C3 := hide (bel_nx C3.out hb)
      clear hb
      clear HX
      have C4 := hide (Below.refl u11.heap.size u11)
      obtain ⟨hz, hm⟩ := HP.out.one hp
      subst hz hm
      have HS4 := hide hi
      obtain ⟨sa4, sn4, sk4, hse⟩ := hi.shape
      subst hse
      clear hi hp
      have hmm : (m == m) = true := by simp
      have HX := hide (error_same (k := 0) (n := 0) rfl u11 (HH.out.below C0.out))
      go_wp2_with fail
      refine HX.out.mono ?_
      rintro e u12 ⟨rfl, hb⟩
      replace C0 := hide (bel_nx C0.out hb)
      replace C3 := hide (bel_nx C3.out hb)
      replace C4 := hide (bel_nx C4.out hb)
      clear hb
      clear HX
      have HX := hide (ints_ct _ _ zs u12 (HS3.out.below C3.out) (HS4.out.below C4.out))
      go_wp2_with fail
      refine HX.out.mono ?_
      rintro e u13 ⟨rfl, hb⟩
      replace C0 := hide (bel_nx C0.out hb)
      replace C3 := hide (bel_nx C3.out hb)
      replace C4 := hide (bel_nx C4.out hb)
      clear hb
      clear HX
      go_wp2
      go_ret
      exact ⟨rfl, C0.out⟩
    · obtain rfl : [] = X := by rw [← HX0.out, if_neg hE0]
      have HE0 := hide hE0
      have nE0 : (F == 0) = false := by simpa using hE0
      clear hE0
      go_enter Tryd.func3, Tryd.ntmps3
      have HX := hide (ctcheck_any _ es (n : Int) w (HE.out.below C0.out))
      go_wp2_with fail
      refine HX.out.mono ?_
      rintro e u1 ⟨rfl, rfl⟩
      clear HX
      have HX := hide (rends_any _ es (n : Int) u1 (HE.out.below C0.out))
      go_wp2_with fail
      refine HX.out.mono ?_
      rintro e u2 ⟨rfl, hb⟩
      replace C0 := hide (bel_nx C0.out hb)
      clear hb
      clear HX
      rw [HEE.out]
      have HX := hide (error_same (k := F) (n := F) rfl u2 (HH.out.below C0.out))
      go_wp2_with fail
      refine HX.out.mono ?_
      rintro e u3 ⟨rfl, hb⟩
      replace C0 := hide (bel_nx C0.out hb)
      clear hb
      clear HX
      have HX := hide (cost_any _ _ cs es u3 (HV.out.below C0.out) (HE.out.below C0.out))
      go_wp2_with fail
      refine HX.out.mono ?_
      rintro e u4 ⟨s1, rfl, hi, hb⟩
      replace C0 := hide (bel_nx C0.out hb)
      clear hb
      clear HX
      have C1 := hide (Below.refl u4.heap.size u4)
      rw [HCX.out] at hi
      have HS1 := hide hi
      obtain ⟨sa1, sn1, sk1, hse⟩ := hi.shape
      subst hse
      clear hi
      rw [HCE.out]
      have HX := hide (rcosts_any _ cs u4 (HV.out.below C0.out))
      go_wp2_with fail
      refine HX.out.mono ?_
      rintro e u5 ⟨rfl, rfl⟩
      clear HX
      rw [HCO.out]
      have HX := hide (error_same (k := F) (n := F) rfl u5 (HH.out.below C0.out))
      go_wp2_with fail
      refine HX.out.mono ?_
      rintro e u6 ⟨rfl, hb⟩
      replace C0 := hide (bel_nx C0.out hb)
      replace C1 := hide (bel_nx C1.out hb)
      clear hb
      clear HX
      have HX := hide (ints_ct _ _ [] u6 (HS1.out.below C1.out) (IsInts.nil _))
      go_wp2_with fail
      refine HX.out.mono ?_
      rintro e u7 ⟨rfl, hb⟩
      replace C0 := hide (bel_nx C0.out hb)
      replace C1 := hide (bel_nx C1.out hb)
      clear hb
      clear HX
      clear C1 HS1
      have HX := hide (best_any _ cs r u7 (HV.out.below C0.out))
      go_wp2_with fail
      refine HX.out.mono ?_
      rintro e u8 ⟨s3, m, rfl, ⟨zs, hi, hp⟩, hb⟩
      replace C0 := hide (bel_nx C0.out hb)
      clear hb
      clear HX
      have C3 := hide (Below.refl u8.heap.size u8)
      have HS3 := hide hi
      have HP := hide hp
      obtain ⟨sa3, sn3, sk3, hse⟩ := hi.shape
      subst hse
      clear hi hp
      by_cases c1 : r < 1
      · have HBE := hide (bestE_far (cs := cs) (.inl c1))
        obtain ⟨hz, hm⟩ := HP.out.one (BestP.bad HBE.out (by decide))
        subst hz hm
        rw [HBE.out]
        have HX := hide (error_same (k := 1) (n := 1) rfl u8 (HH.out.below C0.out))
        go_wp2_with fail
        refine HX.out.mono ?_
        rintro e u9 ⟨rfl, hb⟩
        replace C0 := hide (bel_nx C0.out hb)
        replace C3 := hide (bel_nx C3.out hb)
        clear hb
        clear HX
        have HX := hide (ints_ct _ _ [] u9 (HS3.out.below C3.out) (IsInts.nil _))
        go_wp2_with fail
        refine HX.out.mono ?_
        rintro e u10 ⟨rfl, hb⟩
        replace C0 := hide (bel_nx C0.out hb)
        replace C3 := hide (bel_nx C3.out hb)
        clear hb
        clear HX
        go_wp2
        go_ret
        exact ⟨rfl, C0.out⟩
      by_cases c2 : 6 < r
      · have HBE := hide (bestE_far (cs := cs) (.inr (.inl c2)))
        obtain ⟨hz, hm⟩ := HP.out.one (BestP.bad HBE.out (by decide))
        subst hz hm
        rw [HBE.out]
        have HX := hide (error_same (k := 1) (n := 1) rfl u8 (HH.out.below C0.out))
        go_wp2_with fail
        refine HX.out.mono ?_
        rintro e u9 ⟨rfl, hb⟩
        replace C0 := hide (bel_nx C0.out hb)
        replace C3 := hide (bel_nx C3.out hb)
        clear hb
        clear HX
        have HX := hide (ints_ct _ _ [] u9 (HS3.out.below C3.out) (IsInts.nil _))
        go_wp2_with fail
        refine HX.out.mono ?_
        rintro e u10 ⟨rfl, hb⟩
        replace C0 := hide (bel_nx C0.out hb)
        replace C3 := hide (bel_nx C3.out hb)
        clear hb
        clear HX
        go_wp2
        go_ret
        exact ⟨rfl, C0.out⟩
      by_cases c3 : (n : Int) < 1
      · have HBE := hide (bestE_far (cs := cs) (r := r) (.inr (.inr (.inl (by rw [HN.out.1]; exact c3)))))
        obtain ⟨hz, hm⟩ := HP.out.one (BestP.bad HBE.out (by decide))
        subst hz hm
        rw [HBE.out]
        have HX := hide (error_same (k := 1) (n := 1) rfl u8 (HH.out.below C0.out))
        go_wp2_with fail
        refine HX.out.mono ?_
        rintro e u9 ⟨rfl, hb⟩
        replace C0 := hide (bel_nx C0.out hb)
        replace C3 := hide (bel_nx C3.out hb)
        clear hb
        clear HX
        have HX := hide (ints_ct _ _ [] u9 (HS3.out.below C3.out) (IsInts.nil _))
        go_wp2_with fail
        refine HX.out.mono ?_
        rintro e u10 ⟨rfl, hb⟩
        replace C0 := hide (bel_nx C0.out hb)
        replace C3 := hide (bel_nx C3.out hb)
        clear hb
        clear HX
        go_wp2
        go_ret
        exact ⟨rfl, C0.out⟩
      by_cases c4 : 12 < (n : Int)
      · have HBE := hide (bestE_far (cs := cs) (r := r) (.inr (.inr (.inr (by rw [HN.out.1]; exact c4)))))
        obtain ⟨hz, hm⟩ := HP.out.one (BestP.bad HBE.out (by decide))
        subst hz hm
        rw [HBE.out]
        have HX := hide (error_same (k := 1) (n := 1) rfl u8 (HH.out.below C0.out))
        go_wp2_with fail
        refine HX.out.mono ?_
        rintro e u9 ⟨rfl, hb⟩
        replace C0 := hide (bel_nx C0.out hb)
        replace C3 := hide (bel_nx C3.out hb)
        clear hb
        clear HX
        have HX := hide (ints_ct _ _ [] u9 (HS3.out.below C3.out) (IsInts.nil _))
        go_wp2_with fail
        refine HX.out.mono ?_
        rintro e u10 ⟨rfl, hb⟩
        replace C0 := hide (bel_nx C0.out hb)
        replace C3 := hide (bel_nx C3.out hb)
        clear hb
        clear HX
        go_wp2
        go_ret
        exact ⟨rfl, C0.out⟩
      have HF0 := hide (show ¬ (r < 1 ∨ 6 < r ∨ (cs.length : Int) < 1 ∨ 12 < (cs.length : Int)) by rw [HN.out.1]; omega)
      by_cases c5 : (n : Int) < r
      · have HBE := hide (bestE_more HF0.out HCO.out (by rw [HN.out.1]; exact c5))
        obtain ⟨hz, hm⟩ := HP.out.one (BestP.bad HBE.out (by decide))
        subst hz hm
        rw [HBE.out]
        have HX := hide (rcosts_any _ cs u8 (HV.out.below C0.out))
        go_wp2_with fail
        refine HX.out.mono ?_
        rintro e u9 ⟨rfl, rfl⟩
        clear HX
        rw [HCO.out]
        have HX := hide (error_same (k := 2) (n := 2) rfl u9 (HH.out.below C0.out))
        go_wp2_with fail
        refine HX.out.mono ?_
        rintro e u10 ⟨rfl, hb⟩
        replace C0 := hide (bel_nx C0.out hb)
        replace C3 := hide (bel_nx C3.out hb)
        clear hb
        clear HX
        have HX := hide (ints_ct _ _ [] u10 (HS3.out.below C3.out) (IsInts.nil _))
        go_wp2_with fail
        refine HX.out.mono ?_
        rintro e u11 ⟨rfl, hb⟩
        replace C0 := hide (bel_nx C0.out hb)
        replace C3 := hide (bel_nx C3.out hb)
        clear hb
        clear HX
        go_wp2
        go_ret
        exact ⟨rfl, C0.out⟩
      have HBE := hide (bestE_ok HF0.out HCO.out (by rw [HN.out.1]; exact c5))
      rw [HBE.out]
      have HX := hide (rcosts_any _ cs u8 (HV.out.below C0.out))
      go_wp2_with fail
      refine HX.out.mono ?_
      rintro e u9 ⟨rfl, rfl⟩
      clear HX
      rw [HCO.out]
      have HX := hide (rbest_all _ cs r u9 (HV.out.below C0.out) HBE.out)
      go_wp2_with fail
      refine HX.out.mono ?_
      rintro e u10 ⟨s4, k4, rfl, ⟨ys, hi, hp⟩, hb⟩
      replace C0 := hide (bel_nx C0.out hb)
      replace C3 := hide (bel_nx C3.out hb)
      clear hb
      clear HX
      have C4 := hide (Below.refl u10.heap.size u10)
      obtain ⟨hz, hm⟩ := HP.out.one hp
      subst hz hm
      have HS4 := hide hi
      obtain ⟨sa4, sn4, sk4, hse⟩ := hi.shape
      subst hse
      clear hi hp
      have hmm : (m == m) = true := by simp
      have HX := hide (error_same (k := 0) (n := 0) rfl u10 (HH.out.below C0.out))
      go_wp2_with fail
      refine HX.out.mono ?_
      rintro e u11 ⟨rfl, hb⟩
      replace C0 := hide (bel_nx C0.out hb)
      replace C3 := hide (bel_nx C3.out hb)
      replace C4 := hide (bel_nx C4.out hb)
      clear hb
      clear HX
      have HX := hide (ints_ct _ _ zs u11 (HS3.out.below C3.out) (HS4.out.below C4.out))
      go_wp2_with fail
      refine HX.out.mono ?_
      rintro e u12 ⟨rfl, hb⟩
      replace C0 := hide (bel_nx C0.out hb)
      replace C3 := hide (bel_nx C3.out hb)
      replace C4 := hide (bel_nx C4.out hb)
      clear hb
      clear HX
      go_wp2
      go_ret
      exact ⟨rfl, C0.out⟩
  · have HCO := hide hc
    have hF1 : F = 1 := by rw [← hF]; unfold costE; rw [if_neg (by rw [hc]; decide)]
    clear hF hc
    subst hF1
    obtain rfl : [] = X := by rw [← HX0.out, if_neg (by decide)]
    go_enter Tryd.func3, Tryd.ntmps3
    have HX := hide (ctcheck_any _ es (n : Int) w (HE.out.below C0.out))
    go_wp2_with fail
    refine HX.out.mono ?_
    rintro e u1 ⟨rfl, rfl⟩
    clear HX
    have HX := hide (rends_any _ es (n : Int) u1 (HE.out.below C0.out))
    go_wp2_with fail
    refine HX.out.mono ?_
    rintro e u2 ⟨rfl, hb⟩
    replace C0 := hide (bel_nx C0.out hb)
    clear hb
    clear HX
    rw [HEE.out]
    have HX := hide (error_same (k := E) (n := E) rfl u2 (HH.out.below C0.out))
    go_wp2_with fail
    refine HX.out.mono ?_
    rintro e u3 ⟨rfl, hb⟩
    replace C0 := hide (bel_nx C0.out hb)
    clear hb
    clear HX
    have HX := hide (cost_any _ _ cs es u3 (HV.out.below C0.out) (HE.out.below C0.out))
    go_wp2_with fail
    refine HX.out.mono ?_
    rintro e u4 ⟨s1, rfl, hi, hb⟩
    replace C0 := hide (bel_nx C0.out hb)
    clear hb
    clear HX
    have C1 := hide (Below.refl u4.heap.size u4)
    rw [HCX.out] at hi
    have HS1 := hide hi
    obtain ⟨sa1, sn1, sk1, hse⟩ := hi.shape
    subst hse
    clear hi
    rw [HCE.out]
    have HX := hide (rcosts_any _ cs u4 (HV.out.below C0.out))
    go_wp2_with fail
    refine HX.out.mono ?_
    rintro e u5 ⟨rfl, rfl⟩
    clear HX
    rw [HCO.out]
    have HX := hide (error_same (k := 1) (n := 1) rfl u5 (HH.out.below C0.out))
    go_wp2_with fail
    refine HX.out.mono ?_
    rintro e u6 ⟨rfl, hb⟩
    replace C0 := hide (bel_nx C0.out hb)
    replace C1 := hide (bel_nx C1.out hb)
    clear hb
    clear HX
    have HX := hide (ints_ct _ _ [] u6 (HS1.out.below C1.out) (IsInts.nil _))
    go_wp2_with fail
    refine HX.out.mono ?_
    rintro e u7 ⟨rfl, hb⟩
    replace C0 := hide (bel_nx C0.out hb)
    replace C1 := hide (bel_nx C1.out hb)
    clear hb
    clear HX
    clear C1 HS1
    have HX := hide (best_any _ cs r u7 (HV.out.below C0.out))
    go_wp2_with fail
    refine HX.out.mono ?_
    rintro e u8 ⟨s3, m, rfl, ⟨zs, hi, hp⟩, hb⟩
    replace C0 := hide (bel_nx C0.out hb)
    clear hb
    clear HX
    have C3 := hide (Below.refl u8.heap.size u8)
    have HS3 := hide hi
    have HP := hide hp
    obtain ⟨sa3, sn3, sk3, hse⟩ := hi.shape
    subst hse
    clear hi hp
    by_cases c1 : r < 1
    · have HBE := hide (bestE_far (cs := cs) (.inl c1))
      obtain ⟨hz, hm⟩ := HP.out.one (BestP.bad HBE.out (by decide))
      subst hz hm
      rw [HBE.out]
      have HX := hide (error_same (k := 1) (n := 1) rfl u8 (HH.out.below C0.out))
      go_wp2_with fail
      refine HX.out.mono ?_
      rintro e u9 ⟨rfl, hb⟩
      replace C0 := hide (bel_nx C0.out hb)
      replace C3 := hide (bel_nx C3.out hb)
      clear hb
      clear HX
      have HX := hide (ints_ct _ _ [] u9 (HS3.out.below C3.out) (IsInts.nil _))
      go_wp2_with fail
      refine HX.out.mono ?_
      rintro e u10 ⟨rfl, hb⟩
      replace C0 := hide (bel_nx C0.out hb)
      replace C3 := hide (bel_nx C3.out hb)
      clear hb
      clear HX
      go_wp2
      go_ret
      exact ⟨rfl, C0.out⟩
    by_cases c2 : 6 < r
    · have HBE := hide (bestE_far (cs := cs) (.inr (.inl c2)))
      obtain ⟨hz, hm⟩ := HP.out.one (BestP.bad HBE.out (by decide))
      subst hz hm
      rw [HBE.out]
      have HX := hide (error_same (k := 1) (n := 1) rfl u8 (HH.out.below C0.out))
      go_wp2_with fail
      refine HX.out.mono ?_
      rintro e u9 ⟨rfl, hb⟩
      replace C0 := hide (bel_nx C0.out hb)
      replace C3 := hide (bel_nx C3.out hb)
      clear hb
      clear HX
      have HX := hide (ints_ct _ _ [] u9 (HS3.out.below C3.out) (IsInts.nil _))
      go_wp2_with fail
      refine HX.out.mono ?_
      rintro e u10 ⟨rfl, hb⟩
      replace C0 := hide (bel_nx C0.out hb)
      replace C3 := hide (bel_nx C3.out hb)
      clear hb
      clear HX
      go_wp2
      go_ret
      exact ⟨rfl, C0.out⟩
    by_cases c3 : (n : Int) < 1
    · have HBE := hide (bestE_far (cs := cs) (r := r) (.inr (.inr (.inl (by rw [HN.out.1]; exact c3)))))
      obtain ⟨hz, hm⟩ := HP.out.one (BestP.bad HBE.out (by decide))
      subst hz hm
      rw [HBE.out]
      have HX := hide (error_same (k := 1) (n := 1) rfl u8 (HH.out.below C0.out))
      go_wp2_with fail
      refine HX.out.mono ?_
      rintro e u9 ⟨rfl, hb⟩
      replace C0 := hide (bel_nx C0.out hb)
      replace C3 := hide (bel_nx C3.out hb)
      clear hb
      clear HX
      have HX := hide (ints_ct _ _ [] u9 (HS3.out.below C3.out) (IsInts.nil _))
      go_wp2_with fail
      refine HX.out.mono ?_
      rintro e u10 ⟨rfl, hb⟩
      replace C0 := hide (bel_nx C0.out hb)
      replace C3 := hide (bel_nx C3.out hb)
      clear hb
      clear HX
      go_wp2
      go_ret
      exact ⟨rfl, C0.out⟩
    by_cases c4 : 12 < (n : Int)
    · have HBE := hide (bestE_far (cs := cs) (r := r) (.inr (.inr (.inr (by rw [HN.out.1]; exact c4)))))
      obtain ⟨hz, hm⟩ := HP.out.one (BestP.bad HBE.out (by decide))
      subst hz hm
      rw [HBE.out]
      have HX := hide (error_same (k := 1) (n := 1) rfl u8 (HH.out.below C0.out))
      go_wp2_with fail
      refine HX.out.mono ?_
      rintro e u9 ⟨rfl, hb⟩
      replace C0 := hide (bel_nx C0.out hb)
      replace C3 := hide (bel_nx C3.out hb)
      clear hb
      clear HX
      have HX := hide (ints_ct _ _ [] u9 (HS3.out.below C3.out) (IsInts.nil _))
      go_wp2_with fail
      refine HX.out.mono ?_
      rintro e u10 ⟨rfl, hb⟩
      replace C0 := hide (bel_nx C0.out hb)
      replace C3 := hide (bel_nx C3.out hb)
      clear hb
      clear HX
      go_wp2
      go_ret
      exact ⟨rfl, C0.out⟩
    have HF0 := hide (show ¬ (r < 1 ∨ 6 < r ∨ (cs.length : Int) < 1 ∨ 12 < (cs.length : Int)) by rw [HN.out.1]; omega)
    have HBE := hide (bestE_cost HF0.out HCO.out)
    obtain ⟨hz, hm⟩ := HP.out.one (BestP.bad HBE.out (by decide))
    subst hz hm
    rw [HBE.out]
    have HX := hide (rcosts_any _ cs u8 (HV.out.below C0.out))
    go_wp2_with fail
    refine HX.out.mono ?_
    rintro e u9 ⟨rfl, rfl⟩
    clear HX
    rw [HCO.out]
    have HX := hide (error_same (k := 1) (n := 1) rfl u9 (HH.out.below C0.out))
    go_wp2_with fail
    refine HX.out.mono ?_
    rintro e u10 ⟨rfl, hb⟩
    replace C0 := hide (bel_nx C0.out hb)
    replace C3 := hide (bel_nx C3.out hb)
    clear hb
    clear HX
    have HX := hide (ints_ct _ _ [] u10 (HS3.out.below C3.out) (IsInts.nil _))
    go_wp2_with fail
    refine HX.out.mono ?_
    rintro e u11 ⟨rfl, hb⟩
    replace C0 := hide (bel_nx C0.out hb)
    replace C3 := hide (bel_nx C3.out hb)
    clear hb
    clear HX
    go_wp2
    go_ret
    exact ⟨rfl, C0.out⟩
end Go.Proofs.YtlbcmebifmebgafDoor
