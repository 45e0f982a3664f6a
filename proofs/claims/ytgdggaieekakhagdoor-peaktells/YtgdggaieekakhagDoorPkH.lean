/- What Peaks and Held of package peak come to. -/
import Derived.Test.YtgdggaieekakhagDoorPkG
import Derived.Test.YtgdggaieekakhagDoorPkR
import Derived.Test.YtgdggaieekakhagDoorPnC
namespace Go.Proofs.YtgdggaieekakhagDoor
open Go.RowKit
/-- What is wrong with sizes. -/
def szF (zs : List Int) (m : Int) : Int := if (zs.length : Int) ≠ m then 2 else if ∀ x ∈ zs, 0 ≤ x ∧ x ≤ 1000000 then 0 else 1
theorem szF_len {zs : List Int} {m : Int} (h : (zs.length : Int) ≠ m) : szF zs m = 2 := by unfold szF; rw [if_pos h]
theorem szF_ok {zs : List Int} {m : Int} (h : (zs.length : Int) = m) (h2 : ∀ x ∈ zs, 0 ≤ x ∧ x ≤ 1000000) : szF zs m = 0 := by unfold szF; rw [if_neg (fun e => e h), if_pos h2]
theorem szF_bad {zs : List Int} {m : Int} (h : (zs.length : Int) = m) {x : Int} (hx : x ∈ zs) (h2 : ¬ (0 ≤ x ∧ x ≤ 1000000)) : szF zs m = 1 := by unfold szF; rw [if_neg (fun e => e h), if_neg (fun e => h2 (e x hx))]
theorem szF_in {zs : List Int} {m : Int} (h : szF zs m = 0) : (zs.length : Int) = m ∧ ∀ x ∈ zs, 0 ≤ x ∧ x ≤ 1000000 := by
  unfold szF at h
  split at h
  · cases h
  · rename_i h1
    split at h
    · rename_i h2; exact ⟨Decidable.not_not.1 h1, h2⟩
    · cases h
set_option maxHeartbeats 16000000 in
set_option maxRecDepth 100000 in
theorem chksz_any (v : Value) (zs : List Int) (m : Int) (w : World) (hv : IsInts w v zs) : Calls Tryd.prog 27 #[v, .int .i64 m] w fun e w' => e = .returned (errV (szF zs m)) ∧ Below w.heap.size w w' := by
  have hlen := hv.len
  unfold maxLen at hlen
  obtain ⟨a, cap, rfl, g2, g3, g4⟩ := hv
  obtain ⟨n, hn⟩ : ∃ n, zs.length = n := ⟨_, rfl⟩
  have HN := hide hn
  have H4 := hide g4
  by_cases c1 : (n : Int) = m
  rotate_left 1
  · have HA := hide (show 2 = szF zs m from (szF_len (by rw [hn]; exact c1)).symm)
    have nE : ((n : Int) != m) = true := by simpa using c1
    rw [hn] at g2 hlen ⊢
    clear c1 g4 hn
    go_enter Tryd.func27, Tryd.ntmps27
    go_wp2
    go_ret
    exact ⟨ret_err (err_of HA.out (by decide)), Below.refl _ _⟩
  have HC1 := hide (show (zs.length : Int) = m by rw [hn]; exact c1)
  have nE : ((n : Int) != m) = false := by simpa using c1
  rw [hn] at g2 hlen ⊢
  clear c1 g4 hn
  go_enter Tryd.func27, Tryd.ntmps27
  go_wp2
  go_loopw [6, 14] (fun _ iv wr => ∃ (k : Nat) (xi : Int), k ≤ n ∧ xi = (k : Int) ∧ iv = .int .i64 xi ∧ wr = w ∧ ∀ x ∈ zs.take k, 0 ≤ x ∧ x ≤ 1000000) (fun _ iv _ => n - (intOf iv).toNat)
  case atStart => exact ⟨0, 0, Nat.zero_le _, rfl, rfl, rfl, fun x hx => by rw [List.take_zero] at hx; cases hx⟩
  case round =>
    obtain ⟨k, xi, hk, hxi, rfl, hwr, hal⟩ := hrel
    subst hwr
    have HAL := hide hal
    have HXI := hide hxi
    have hx0 : 0 ≤ xi := by omega
    have hx1 : xi ≤ 9223372036854775807 := by omega
    clear hal hxi
    by_cases hlt : xi < (n : Int)
    · obtain ⟨z, hz⟩ : ∃ z, zs[k]? = some z := ⟨_, List.getElem?_eq_getElem (by have := HN.out; have := HXI.out; omega)⟩
      obtain ⟨b, off, ha, hc⟩ := H4.out.resolve_left (fun e => by rw [e] at hz; simp at hz)
      subst ha
      have d0 := hc k z hz
      rw [show k = xi.toNat by have := HXI.out; omega] at d0
      have HM := hide (List.mem_of_getElem? hz)
      have HT := hide (show zs.take (k + 1) = zs.take k ++ [z] by rw [List.take_add_one, hz]; rfl)
      clear hc hz
      by_cases q1 : z < 0
      · have HA := hide (show 1 = szF zs m from (szF_bad HC1.out HM.out (by omega)).symm)
        go_wp2
        go_ret
        exact ⟨ret_err (err_of HA.out (by decide)), Below.refl _ _⟩
      · by_cases q2 : z > 1000000
        · have HA := hide (show 1 = szF zs m from (szF_bad HC1.out HM.out (by omega)).symm)
          go_wp2
          go_ret
          exact ⟨ret_err (err_of HA.out (by decide)), Below.refl _ _⟩
        · have HZ := hide (show ∀ x ∈ zs.take (k + 1), 0 ≤ x ∧ x ≤ 1000000 by
            rw [HT.out]
            intro x hx
            rcases List.mem_append.1 hx with h | h
            · exact HAL.out x h
            · rw [List.mem_singleton.1 h]; omega)
          go_wp2
          go_roundw
          case rel => exact ⟨k + 1, _, by have := HXI.out; omega, by have := HXI.out; omega, rfl, by first | rfl | trivial, HZ.out⟩
          case measure => have := HXI.out; simp [intOf]; omega
    · have HA := hide (show szF zs m = 0 from szF_ok HC1.out (by
        have h := HAL.out
        rw [List.take_of_length_le (by have := HN.out; have := HXI.out; omega)] at h
        exact h))
      go_wp2
      go_ret
      exact ⟨ret_err (err_eq HA.out).symm, Below.refl _ _⟩
/-- What is given: nothing where something is wrong. -/
def pkL (E : Int) (zs : List Int) (p : List (List (Int × Int))) : List Int := if E = 0 then pkN zs p p.length else []
set_option maxHeartbeats 16000000 in
set_option maxRecDepth 100000 in
theorem pkchk_any (v : Value) (p : List (List (Int × Int))) (m : Int) (w : World) (hv : IsPlan w v p) : Calls Tryd.prog 24 #[v, .int .i64 m] w fun e w' => e = .returned (errV (planE p m)) ∧ Below w.heap.size w w' := by
  have HF := hide (pcheck_any v p m w hv)
  obtain ⟨a, cap, rfl⟩ := hv.shape
  obtain ⟨E, hE⟩ : ∃ E, errV (planE p m) = E := ⟨_, rfl⟩
  obtain ⟨n, hn⟩ : ∃ n, p.length = n := ⟨_, rfl⟩
  rw [hn, hE] at HF ⊢
  clear hv hE hn
  go_enter Tryd.func24, Tryd.ntmps24
  go_wp2_with (go_at_call 28; refine HF.out.mono ?_; rintro e w1 ⟨rfl, hb1⟩)
  go_ret
  exact ⟨rfl, hb1⟩
set_option maxHeartbeats 16000000 in
set_option maxRecDepth 100000 in
theorem peaks_any (v : Value) (p : List (List (Int × Int))) (m : Int) (w : World) (hv : IsPlan w v p) : Calls Tryd.prog 13 #[v, .int .i64 m] w fun e w' => ∃ s, e = .returned (.tuple #[s, errV (planE p m)]) ∧ IsInts w' s (pkL (planE p m) (List.replicate m.toNat 1) p) ∧ Below w.heap.size w w' := by
  have HV := hide hv
  have HF := hide (pkchk_any v p m w hv)
  obtain ⟨a, cap, rfl⟩ := hv.shape
  obtain ⟨E, hE⟩ : ∃ E, planE p m = E := ⟨_, rfl⟩
  have HE := hide hE
  obtain ⟨n, hn⟩ : ∃ n, p.length = n := ⟨_, rfl⟩
  have HN := hide hn
  rw [hn] at HV HF ⊢
  rw [hE] at HF ⊢
  by_cases c : E = 0
  rotate_left 1
  · have HL := hide (show pkL E (List.replicate m.toNat 1) p = [] by unfold pkL; rw [if_neg c])
    obtain ⟨X, hX⟩ : ∃ X, pkL E (List.replicate m.toNat 1) p = X := ⟨_, rfl⟩
    rw [hX] at HL ⊢
    rw [err_ne c] at HF ⊢
    clear hv hE hn c hX
    go_enter Tryd.func13, Tryd.ntmps13
    go_wp2_with (go_at_call 24; refine HF.out.mono ?_; rintro e w1 ⟨rfl, hb1⟩)
    have HB1 := hide hb1
    clear hb1
    go_ret2
    exact ⟨_, rfl, by rw [HL.out]; exact IsInts.nil _, HB1.out⟩
  subst c
  rw [err_eq rfl] at HF ⊢
  have HR := hide (planE_in hE).1
  obtain ⟨M, hM⟩ : ∃ M : Nat, m = (M : Int) := ⟨m.toNat, by have h := HR.out; unfold rangeP at h; omega⟩
  have HM := hide hM
  have hM1 : 1 ≤ M := by have h := HR.out; unfold rangeP at h; omega
  have hM12 : M ≤ 12 := by have h := HR.out; unfold rangeP at h; omega
  have HL := hide (show pkL 0 (List.replicate m.toNat 1) p = pkN (List.replicate M 1) p p.length by unfold pkL; rw [if_pos rfl, hM, Int.toNat_natCast])
  obtain ⟨X, hX⟩ : ∃ X, pkL 0 (List.replicate m.toNat 1) p = X := ⟨_, rfl⟩
  have HPE := hide (show planE p (M : Int) = 0 by rw [← hM]; exact hE)
  rw [hX] at HL ⊢
  clear hv hE hn hX hM
  go_enter Tryd.func13, Tryd.ntmps13
  go_wp2_with fail
  refine HF.out.mono ?_
  rintro e w1 ⟨rfl, hb1⟩
  have HB1 := hide hb1
  have HO := hide (show IsInts (w1.alloc (.cells #[.int .i64 1] 3)) (.slice (some ⟨w1.heap.size, 0, none⟩) 1 1) [1] from ⟨_, 1, rfl, Nat.le_refl _, by unfold maxLen; omega, .inr ⟨_, _, rfl, fun i x hx => by
    match i, hx with
    | 0, hx =>
      obtain rfl : (1 : Int) = x := Option.some.inj hx
      have := one_cells w1 1 0 (.int .i64 1) rfl
      rw [Addr.add_lit] at this
      exact this⟩⟩)
  have HX := hide (repeat_any _ M m _ HO.out HM.out hM1 hM12)
  clear hb1 HF
  go_wp2_with fail
  refine HX.out.mono ?_
  rintro e w2 ⟨s2, rfl, hi2, hb2⟩
  have HB2 := hide (below_go (below_go HB1.out (below_one _ _)) hb2)
  have HY := hide (great_any _ s2 p (List.replicate M 1) M w2 (HV.out.below HB2.out) hi2 HPE.out List.length_replicate (fun x hx => by rw [(List.mem_replicate.1 hx).2]; omega))
  rw [HN.out] at HY
  clear hi2 hb2 HX
  go_wp2_with fail
  refine HY.out.mono ?_
  rintro e w3 ⟨s3, rfl, hi3, hb3⟩
  have HI3 := hide hi3
  have HB3 := hide (below_go HB2.out hb3)
  clear hi3 hb3 HY
  go_wp2
  go_ret2
  exact ⟨_, rfl, by rw [HL.out, HN.out]; exact HI3.out, HB3.out⟩
/-- What is wrong with a plan and its sizes. -/
def hldE (p : List (List (Int × Int))) (m : Int) (zs : List Int) : Int := if planE p m = 0 then szF zs m else planE p m
set_option maxHeartbeats 16000000 in
set_option maxRecDepth 100000 in
theorem held_any (v sv : Value) (p : List (List (Int × Int))) (m : Int) (zs : List Int) (w : World) (hv : IsPlan w v p) (hs : IsInts w sv zs) : Calls Tryd.prog 14 #[v, .int .i64 m, sv] w fun e w' => ∃ s, e = .returned (.tuple #[s, errV (hldE p m zs)]) ∧ IsInts w' s (pkL (hldE p m zs) zs p) ∧ Below w.heap.size w w' := by
  have HV := hide hv
  have HS := hide hs
  have HF := hide (pkchk_any v p m w hv)
  obtain ⟨a, cap, rfl⟩ := hv.shape
  obtain ⟨a1, cap1, rfl, _, _, _⟩ := hs
  obtain ⟨E, hE⟩ : ∃ E, planE p m = E := ⟨_, rfl⟩
  obtain ⟨n, hn⟩ : ∃ n, p.length = n := ⟨_, rfl⟩
  obtain ⟨n1, hn1⟩ : ∃ n, zs.length = n := ⟨_, rfl⟩
  obtain ⟨G, hG⟩ : ∃ G, hldE p m zs = G := ⟨_, rfl⟩
  obtain ⟨X, hX⟩ : ∃ X, pkL G zs p = X := ⟨_, rfl⟩
  have HN := hide (And.intro hn hn1)
  have HE := hide hE
  rw [hn] at HV HF ⊢
  rw [hn1] at HS ⊢
  rw [hE] at HF
  by_cases c : E = 0
  rotate_left 1
  · have hg : G = E := by rw [← hG]; unfold hldE; rw [hE, if_neg c]
    subst hg
    have HL := hide (show X = [] by rw [← hX]; unfold pkL; rw [if_neg c])
    rw [hG, hX]
    rw [err_ne c] at HF ⊢
    clear hv hE hn c hX hG hn1
    go_enter Tryd.func14, Tryd.ntmps14
    go_wp2_with (go_at_call 24; refine HF.out.mono ?_; rintro e w1 ⟨rfl, hb1⟩)
    have HB1 := hide hb1
    clear hb1
    go_ret2
    exact ⟨_, rfl, by rw [HL.out]; exact IsInts.nil _, HB1.out⟩
  subst c
  have hg : szF zs m = G := by rw [← hG]; unfold hldE; rw [hE, if_pos rfl]
  have HSF := hide hg
  have HK := hide (fun (u : World) (hu : Below w.heap.size w u) => chksz_any (.slice a1 n1 cap1) zs m u (HS.out.below hu))
  rw [hg] at HK
  rw [err_eq rfl] at HF
  by_cases c : G = 0
  rotate_left 1
  · have HL := hide (show X = [] by rw [← hX]; unfold pkL; rw [if_neg c])
    rw [hG, hX]
    rw [err_ne c] at HK ⊢
    clear hv hE hn c hX hG hn1 hg
    go_enter Tryd.func14, Tryd.ntmps14
    go_wp2_with (first | (go_at_call 24; refine HF.out.mono ?_; rintro e w1 ⟨rfl, hb1⟩; have HB1 := hide hb1; clear hb1) | (go_at_call 27; refine (HK.out _ HB1.out).mono ?_; rintro e w2 ⟨rfl, hb2⟩; have HB2 := hide hb2; clear hb2))
    go_ret2
    exact ⟨_, rfl, by rw [HL.out]; exact IsInts.nil _, below_go HB1.out HB2.out⟩
  subst c
  have HL := hide (show X = pkN zs p p.length by rw [← hX]; unfold pkL; rw [if_pos rfl])
  have HZ := hide (szF_in hg)
  have HPE := hide (show planE p (zs.length : Int) = 0 by rw [(szF_in hg).1]; exact hE)
  rw [hG, hX]
  rw [err_eq rfl] at HK ⊢
  clear hv hE hn hX hG hn1 hg
  go_enter Tryd.func14, Tryd.ntmps14
  go_wp2_with fail
  refine HF.out.mono ?_
  rintro e w1 ⟨rfl, hb1⟩
  have HB1 := hide hb1
  clear hb1 HF
  go_wp2_with fail
  refine (HK.out _ HB1.out).mono ?_
  rintro e w2 ⟨rfl, hb2⟩
  have HB2 := hide (below_go HB1.out hb2)
  clear hb2 HK
  have HY := hide (great_any _ (.slice a1 n1 cap1) p zs zs.length w2 (HV.out.below HB2.out) (HS.out.below HB2.out) HPE.out rfl HZ.out.2)
  rw [HN.out.1] at HY
  go_wp2_with fail
  refine HY.out.mono ?_
  rintro e w3 ⟨s3, rfl, hi3, hb3⟩
  have HI3 := hide hi3
  have HB3 := hide (below_go HB2.out hb3)
  clear hi3 hb3 HY
  go_wp2
  go_ret2
  exact ⟨_, rfl, by rw [HL.out, HN.out.1]; exact HI3.out, HB3.out⟩
end Go.Proofs.YtgdggaieekakhagDoor
