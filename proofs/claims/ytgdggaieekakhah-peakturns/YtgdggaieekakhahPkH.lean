/- What Peaks and Held of package peak come to. -/
import Derived.Test.YtgdggaieekakhahPkG
import Derived.Test.YtgdggaieekakhahPkR
import Derived.Test.YtgdggaieekakhahPnC
namespace Go.Proofs.Ytgdggaieekakhah
open Go.RowKit
/-- What is wrong with sizes. -/
def szF (zs : List Int) (m : Int) : Int := if (zs.length : Int) ≠ m then 2 else if ∀ x ∈ zs, 0 ≤ x ∧ x ≤ 1000000 then 0 else 1
theorem szF_len {zs : List Int} {m : Int} (h : (zs.length : Int) ≠ m) : szF zs m = 2 := by unfold szF; rw [if_pos h]
theorem szF_ok {zs : List Int} {m : Int} (h : (zs.length : Int) = m) (h2 : ∀ x ∈ zs, 0 ≤ x ∧ x ≤ 1000000) : szF zs m = 0 := by unfold szF; rw [if_neg (fun e => e h), if_pos h2]
theorem szF_bad {zs : List Int} {m : Int} (h : (zs.length : Int) = m) {x : Int} (hx : x ∈ zs) (h2 : ¬ (0 ≤ x ∧ x ≤ 1000000)) : szF zs m = 1 := by unfold szF; rw [if_neg (fun e => e h), if_neg (fun e => h2 (e x hx))]
theorem szF_in {zs : List Int} {m : Int} (h : szF zs m = 0) : (zs.length : Int) = m ∧ ∀ x ∈ zs, 0 ≤ x ∧ x ≤ 1000000 := by
  unfold szF at h
  split at h
  · cases h
  · rename_i h1
    split at h
    · rename_i h2; exact ⟨Decidable.not_not.1 h1, h2⟩
    · cases h
/-- What is given: nothing where something is wrong. -/
def pkL (E : Int) (zs : List Int) (p : List (List (Int × Int))) : List Int := if E = 0 then pkN zs p p.length else []
set_option maxHeartbeats 16000000 in
set_option maxRecDepth 100000 in
theorem pkchk_any (v : Value) (p : List (List (Int × Int))) (m : Int) (w : World) (hv : IsPlan w v p) : Calls Try.prog 11 #[v, .int .i64 m] w fun e w' => e = .returned (errV (planE p m)) ∧ Below w.heap.size w w' := by
  have HF := hide (pcheck_any v p m w hv)
  obtain ⟨a, cap, rfl⟩ := hv.shape
  obtain ⟨E, hE⟩ : ∃ E, errV (planE p m) = E := ⟨_, rfl⟩
  obtain ⟨n, hn⟩ : ∃ n, p.length = n := ⟨_, rfl⟩
  rw [hn, hE] at HF ⊢
  clear hv hE hn
  go_enter Try.func11, Try.ntmps11
  go_wp2_with (go_at_call 16; refine HF.out.mono ?_; rintro e w1 ⟨rfl, hb1⟩)
  go_ret
  exact ⟨rfl, hb1⟩
set_option maxHeartbeats 16000000 in
set_option maxRecDepth 100000 in
theorem peaks_any (v : Value) (p : List (List (Int × Int))) (m : Int) (w : World) (hv : IsPlan w v p) : Calls Try.prog 7 #[v, .int .i64 m] w fun e w' => ∃ s, e = .returned (.tuple #[s, errV (planE p m)]) ∧ IsInts w' s (pkL (planE p m) (List.replicate m.toNat 1) p) ∧ Below w.heap.size w w' := by
  have HV := hide hv
  have HF := hide (pkchk_any v p m w hv)
  obtain ⟨a, cap, rfl⟩ := hv.shape
  obtain ⟨E, hE⟩ : ∃ E, planE p m = E := ⟨_, rfl⟩
  have HE := hide hE
  obtain ⟨n, hn⟩ : ∃ n, p.length = n := ⟨_, rfl⟩
  have HN := hide hn
  rw [hn] at HV HF ⊢
  rw [hE] at HF ⊢
  by_cases c : E = 0
  rotate_left 1
  · have HL := hide (show pkL E (List.replicate m.toNat 1) p = [] by unfold pkL; rw [if_neg c])
    obtain ⟨X, hX⟩ : ∃ X, pkL E (List.replicate m.toNat 1) p = X := ⟨_, rfl⟩
    rw [hX] at HL ⊢
    rw [err_ne c] at HF ⊢
    clear hv hE hn c hX
    go_enter Try.func7, Try.ntmps7
    go_wp2_with (go_at_call 11; refine HF.out.mono ?_; rintro e w1 ⟨rfl, hb1⟩)
    have HB1 := hide hb1
    clear hb1
    go_ret2
    exact ⟨_, rfl, by rw [HL.out]; exact IsInts.nil _, HB1.out⟩
  subst c
  rw [err_eq rfl] at HF ⊢
  have HR := hide (planE_in hE).1
  obtain ⟨M, hM⟩ : ∃ M : Nat, m = (M : Int) := ⟨m.toNat, by have h := HR.out; unfold rangeP at h; omega⟩
  have HM := hide hM
  have hM1 : 1 ≤ M := by have h := HR.out; unfold rangeP at h; omega
  have hM12 : M ≤ 12 := by have h := HR.out; unfold rangeP at h; omega
  have HL := hide (show pkL 0 (List.replicate m.toNat 1) p = pkN (List.replicate M 1) p p.length by unfold pkL; rw [if_pos rfl, hM, Int.toNat_natCast])
  obtain ⟨X, hX⟩ : ∃ X, pkL 0 (List.replicate m.toNat 1) p = X := ⟨_, rfl⟩
  have HPE := hide (show planE p (M : Int) = 0 by rw [← hM]; exact hE)
  rw [hX] at HL ⊢
  clear hv hE hn hX hM
  go_enter Try.func7, Try.ntmps7
  go_wp2_with fail
  refine HF.out.mono ?_
  rintro e w1 ⟨rfl, hb1⟩
  have HB1 := hide hb1
  have HO := hide (show IsInts (w1.alloc (.cells #[.int .i64 1] 3)) (.slice (some ⟨w1.heap.size, 0, none⟩) 1 1) [1] from ⟨_, 1, rfl, Nat.le_refl _, by unfold maxLen; omega, .inr ⟨_, _, rfl, fun i x hx => by
    match i, hx with
    | 0, hx =>
      obtain rfl : (1 : Int) = x := Option.some.inj hx
      have := one_cells w1 1 0 (.int .i64 1) rfl
      rw [Addr.add_lit] at this
      exact this⟩⟩)
  have HX := hide (repeat_any _ M m _ HO.out HM.out hM1 hM12)
  clear hb1 HF
  go_wp2_with fail
  refine HX.out.mono ?_
  rintro e w2 ⟨s2, rfl, hi2, hb2⟩
  have HB2 := hide (below_go (below_go HB1.out (below_one _ _)) hb2)
  have HY := hide (great_any _ s2 p (List.replicate M 1) M w2 (HV.out.below HB2.out) hi2 HPE.out List.length_replicate (fun x hx => by rw [(List.mem_replicate.1 hx).2]; omega))
  rw [HN.out] at HY
  clear hi2 hb2 HX
  go_wp2_with fail
  refine HY.out.mono ?_
  rintro e w3 ⟨s3, rfl, hi3, hb3⟩
  have HI3 := hide hi3
  have HB3 := hide (below_go HB2.out hb3)
  clear hi3 hb3 HY
  go_wp2
  go_ret2
  exact ⟨_, rfl, by rw [HL.out, HN.out]; exact HI3.out, HB3.out⟩
end Go.Proofs.Ytgdggaieekakhah
