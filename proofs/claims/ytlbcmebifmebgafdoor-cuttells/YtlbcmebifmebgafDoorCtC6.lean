/- What Best of package cut comes to: the first cuts whose dearest stage is cheapest, and what that one costs. -/
import Derived.Test.YtlbcmebifmebgafDoorCtC5
namespace Go.Proofs.YtlbcmebifmebgafDoor
open Go.RowKit
def bestE (cs : List Int) (r : Int) : Int := if r < 1 ∨ 6 < r ∨ (cs.length : Int) < 1 ∨ 12 < (cs.length : Int) then 1 else if costsE cs = 0 then (if (cs.length : Int) < r then 2 else 0) else 1
/-- These cuts, and this limit, are what is asked for. -/
def BestP (cs : List Int) (r : Int) (zs : List Int) (m : Int) : Prop :=
  (bestE cs r = 0 ∧ ∃ t, zs = ctI t ∧ Least (preS cs) cs.length r.toNat 0 0 m ∧ First (preS cs) cs.length m r.toNat 0 t) ∨ (bestE cs r ≠ 0 ∧ zs = [] ∧ m = 0)
theorem BestP.one {cs : List Int} {r : Int} {zs ys : List Int} {m k : Int} (h : BestP cs r zs m) (g : BestP cs r ys k) : zs = ys ∧ m = k := by
  rcases h with ⟨h0, t, h1, h2, h3⟩ | ⟨h0, h1, h2⟩ <;> rcases g with ⟨g0, u, g1, g2, g3⟩ | ⟨g0, g1, g2⟩
  · obtain rfl := h2.one g2
    rw [h1, g1, h3.one g3]
    exact ⟨rfl, rfl⟩
  · exact absurd h0 g0
  · exact absurd g0 h0
  · rw [h1, g1, h2, g2]; exact ⟨rfl, rfl⟩
theorem bestE_in {cs : List Int} {r : Int} (h : bestE cs r = 0) : (1 ≤ r ∧ r ≤ 6) ∧ (1 ≤ cs.length ∧ cs.length ≤ 12) ∧ costsE cs = 0 ∧ r ≤ (cs.length : Int) := by
  unfold bestE at h
  by_cases c1 : r < 1 ∨ 6 < r ∨ (cs.length : Int) < 1 ∨ 12 < (cs.length : Int)
  · rw [if_pos c1] at h; cases h
  · rw [if_neg c1] at h
    by_cases c2 : costsE cs = 0
    · rw [if_pos c2] at h
      by_cases c3 : (cs.length : Int) < r
      · rw [if_pos c3] at h; cases h
      · exact ⟨by omega, by omega, c2, by omega⟩
    · rw [if_neg c2] at h; cases h
theorem bestE_far {cs : List Int} {r : Int} (h : r < 1 ∨ 6 < r ∨ (cs.length : Int) < 1 ∨ 12 < (cs.length : Int)) : bestE cs r = 1 := by unfold bestE; rw [if_pos h]
theorem bestE_cost {cs : List Int} {r : Int} (h : ¬ (r < 1 ∨ 6 < r ∨ (cs.length : Int) < 1 ∨ 12 < (cs.length : Int))) (h1 : costsE cs = 1) : bestE cs r = 1 := by unfold bestE; rw [if_neg h, if_neg (by rw [h1]; decide)]
theorem bestE_more {cs : List Int} {r : Int} (h : ¬ (r < 1 ∨ 6 < r ∨ (cs.length : Int) < 1 ∨ 12 < (cs.length : Int))) (h1 : costsE cs = 0) (h2 : (cs.length : Int) < r) : bestE cs r = 2 := by unfold bestE; rw [if_neg h, if_pos h1, if_pos h2]
theorem bestE_ok {cs : List Int} {r : Int} (h : ¬ (r < 1 ∨ 6 < r ∨ (cs.length : Int) < 1 ∨ 12 < (cs.length : Int))) (h1 : costsE cs = 0) (h2 : ¬ (cs.length : Int) < r) : bestE cs r = 0 := by unfold bestE; rw [if_neg h, if_pos h1, if_neg h2]
theorem BestP.bad {cs : List Int} {r k : Int} (h : bestE cs r = k) (hk : k ≠ 0) : BestP cs r [] 0 := .inr ⟨by rw [h]; exact hk, rfl, rfl⟩
set_option maxHeartbeats 8000000 in
set_option maxRecDepth 100000 in
theorem best_any (v : Value) (cs : List Int) (r : Int) (w : World) (hv : IsInts w v cs) : Calls Tryd.prog 11 #[v, .int .i64 r] w fun e w' => ∃ s m, e = .returned (.tuple #[s, .int .i64 m, errV (bestE cs r)]) ∧ (∃ zs, IsInts w' s zs ∧ BestP cs r zs m) ∧ Below w.heap.size w w' := by
  obtain ⟨a, cap, hve, g2, g3, g4⟩ := id hv
  have hlen := hv.len
  unfold maxLen at hlen
  subst hve
  clear g4
  have HV := hide hv
  obtain ⟨n, hn⟩ : ∃ n, cs.length = n := ⟨_, rfl⟩
  have HN := hide hn
  have HF := hide (layers_any (n : Int) w)
  have HG := hide (costs_any _ cs w hv)
  rw [hn] at g2 hlen HV HG ⊢
  clear hv hn
  by_cases c1 : r < 1
  · have HE := hide (bestE_far (cs := cs) (.inl c1))
    rw [HE.out, err_ne (by decide)]
    go_enter Tryd.func11, Tryd.ntmps11
    go_wp2
    exact bodyPost_ret (v := .tuple #[.slice none 0 0, .int .i64 0, .iface 26 (.int .i64 1)]) (by simp [results, Tryd.results11, go_sem]) rfl ⟨_, _, rfl, ⟨[], IsInts.nil _, BestP.bad HE.out (by decide)⟩, Below.refl _ _⟩
  by_cases c2 : 6 < r
  · have HE := hide (bestE_far (cs := cs) (.inr (.inl c2)))
    rw [HE.out, err_ne (by decide)]
    go_enter Tryd.func11, Tryd.ntmps11
    go_wp2
    exact bodyPost_ret (v := .tuple #[.slice none 0 0, .int .i64 0, .iface 26 (.int .i64 1)]) (by simp [results, Tryd.results11, go_sem]) rfl ⟨_, _, rfl, ⟨[], IsInts.nil _, BestP.bad HE.out (by decide)⟩, Below.refl _ _⟩
  by_cases c3 : (n : Int) < 1 ∨ 12 < (n : Int)
  · have HE := hide (bestE_far (cs := cs) (r := r) (.inr (.inr (by rw [HN.out]; exact c3))))
    rw [← layE_bad c3, err_ne (by decide)] at HF
    rw [HE.out, err_ne (by decide)]
    clear c3
    go_enter Tryd.func11, Tryd.ntmps11
    go_wp2_with (go_at_call 13; refine HF.out.mono ?_; rintro e w' ⟨rfl, rfl⟩)
    exact bodyPost_ret (v := .tuple #[.slice none 0 0, .int .i64 0, .iface 26 (.int .i64 1)]) (by simp [results, Tryd.results11, go_sem]) rfl ⟨_, _, rfl, ⟨[], IsInts.nil _, BestP.bad HE.out (by decide)⟩, Below.refl _ _⟩
  have HF0 := hide (show ¬ (r < 1 ∨ 6 < r ∨ (cs.length : Int) < 1 ∨ 12 < (cs.length : Int)) by rw [HN.out]; omega)
  rw [← layE_ok c3, err_eq rfl] at HF
  have h12 : n ≤ 12 := by omega
  have h1n : 1 ≤ n := by omega
  clear c3
  rcases costsE_two cs with c4 | c4
  · rw [c4, err_eq rfl] at HG
    by_cases c5 : (n : Int) < r
    · have HE := hide (bestE_more HF0.out c4 (by rw [HN.out]; exact c5))
      rw [HE.out, err_ne (by decide)]
      clear c4
      go_enter Tryd.func11, Tryd.ntmps11
      go_wp2_with (first | (go_at_call 13; refine HF.out.mono ?_; rintro e w' ⟨rfl, rfl⟩) | (go_at_call 15; refine HG.out.mono ?_; rintro e w' ⟨rfl, rfl⟩))
      exact bodyPost_ret (v := .tuple #[.slice none 0 0, .int .i64 0, .iface 26 (.int .i64 2)]) (by simp [results, Tryd.results11, go_sem]) rfl ⟨_, _, rfl, ⟨[], IsInts.nil _, BestP.bad HE.out (by decide)⟩, Below.refl _ _⟩
    · have HE := hide (bestE_ok HF0.out c4 (by rw [HN.out]; exact c5))
      rw [HE.out, err_eq rfl]
      have HC := hide (costsE_in c4)
      obtain ⟨R, hR⟩ : ∃ R : Nat, r = (R : Int) := ⟨r.toNat, by omega⟩
      have HR := hide hR
      have HLI := hide (limit_any _ cs R r w HV.out HC.out (by have := HN.out; omega) hR (by omega) (by have := HN.out; omega))
      have HWI := hide (fun (W : World) (L : Int) (hW : Below w.heap.size w W) (hx : Fx (preS cs) cs.length R 0 L) => within_any _ cs R r L W (HV.out.below hW) HC.out (by have := HN.out; omega) hR (by omega) hx)
      clear c4 hR
      go_enter Tryd.func11, Tryd.ntmps11
      go_wp2_with (first | (go_at_call 13; refine HF.out.mono ?_; rintro e w' ⟨rfl, rfl⟩) | (go_at_call 15; refine HG.out.mono ?_; rintro e w' ⟨rfl, rfl⟩) | fail)
      refine HLI.out.mono ?_
      rintro e w1 ⟨m, rfl, hle, hm, hb1⟩
      have HLE := hide hle
      have HB1 := hide hb1
      have HW2 := hide (HWI.out w1 m hb1 hle.2.1)
      clear hle hm hb1
      go_wp2_with fail
      refine HW2.out.mono ?_
      rintro e w2 ⟨s, rfl, t, hi, hfi, hb2⟩
      have HI := hide hi
      have HFI := hide hfi
      have HB2 := hide (bel_nx HB1.out hb2)
      obtain ⟨sa, sn, sk, hse⟩ := hi.shape
      subst hse
      clear hi hfi hb2
      have HP := hide (show BestP cs r (ctI t) m from .inl ⟨HE.out, t, rfl, by rw [HR.out, Int.toNat_natCast]; exact HLE.out, by rw [HR.out, Int.toNat_natCast]; exact HFI.out⟩)
      go_wp2
      exact bodyPost_ret (v := .tuple #[.slice sa sn sk, .int .i64 m, .nilIface]) (by simp [results, Tryd.results11, go_sem]) rfl ⟨_, _, rfl, ⟨_, HI.out, HP.out⟩, HB2.out⟩
  · have HE := hide (bestE_cost HF0.out c4)
    rw [c4, err_ne (by decide)] at HG
    rw [HE.out, err_ne (by decide)]
    clear c4
    go_enter Tryd.func11, Tryd.ntmps11
    go_wp2_with (first | (go_at_call 13; refine HF.out.mono ?_; rintro e w' ⟨rfl, rfl⟩) | (go_at_call 15; refine HG.out.mono ?_; rintro e w' ⟨rfl, rfl⟩))
    exact bodyPost_ret (v := .tuple #[.slice none 0 0, .int .i64 0, .iface 26 (.int .i64 1)]) (by simp [results, Tryd.results11, go_sem]) rfl ⟨_, _, rfl, ⟨[], IsInts.nil _, BestP.bad HE.out (by decide)⟩, Below.refl _ _⟩
theorem ints_ct (v u : Value) (zs : List Int) (w : World) (hv : IsInts w v zs) (hu : IsInts w u zs) : Calls Tryd.prog 10 #[v, u] w fun e w' => e = .returned (.bool true) ∧ Below w.heap.size w w' := by
  refine (ints_any v u zs zs w hv hu).mono ?_
  rintro e w' ⟨rfl, n, rfl⟩
  exact ⟨by simp [sameI], below_drewN _ _⟩
end Go.Proofs.YtlbcmebifmebgafDoor
