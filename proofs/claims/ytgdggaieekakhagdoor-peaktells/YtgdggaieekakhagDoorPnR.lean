/- What isReady of package plan comes to. Written by tools/gen_pnr.py. -/
import Derived.Test.YtgdggaieekakhagDoorPnP
import Derived.Deep.RegionHeld3
import Derived.BigQuiet
namespace Go.Proofs.YtgdggaieekakhagDoor
open Go.RowKit
/-- Is all done that a deed waits for? -/
def rdy (L : List (Int × Int × Int)) (n s k m : Int) : Bool := if k = 1 then decide (s = 0) || decide ((s - 1, 1, m) ∈ L) else decide ((s, 1, m) ∈ L) && (decide (s = n - 1) || decide ((s + 1, 2, m) ∈ L))
set_option maxHeartbeats 16000000 in
set_option maxRecDepth 100000 in
theorem ready_any (s k m n : Int) (b : Nat) (L : List (Int × Int × Int)) (w : World) (hd : Deeds w b L) (hk : k = 1 ∨ k = 2) (hs : 0 ≤ s ∧ s < n ∧ n ≤ 6) (hm : 0 ≤ m ∧ m < 12) : Calls Tryd.prog 47 #[.agg #[.int .i64 s, .int .i64 k, .int .i64 m], .int .i64 n, .map (some b)] w fun e w' => e = .returned (.bool (rdy L n s k m)) ∧ Below w.heap.size w w' := by
  obtain ⟨hs0, hs1, hs2⟩ := hs
  have HM := hide hm
  have HB1 := hide (below_one w (.cells #[.int .i64 s, .int .i64 k, .int .i64 m] 99))
  have HD := hide (hd.below HB1.out)
  have HSB := hide (show ∀ W', Below (w.alloc (.cells #[.int .i64 s, .int .i64 k, .int .i64 m] 99)).heap.size (w.alloc (.cells #[.int .i64 s, .int .i64 k, .int .i64 m] 99)) W' → W'.cell? ⟨w.heap.size, 0, none⟩ = some (.int .i64 s) from fun W' hW => cell_bel hW (by simp))
  have w1 : IntKind.i64.wrap (s - 1) = s - 1 := wrap_in (by omega) (by omega)
  have w2 : IntKind.i64.wrap (s + 1) = s + 1 := wrap_in (by omega) (by omega)
  have w3 : IntKind.i64.wrap (n - 1) = n - 1 := wrap_in (by omega) (by omega)
  clear hd hm
  rcases hk with e1 | e1
  · have nk : (k == 1) = true := by simp [e1]
    by_cases c1 : s = 0
    · have HA := hide (show true = rdy L n s k m by unfold rdy; rw [if_pos e1]; simp [c1])
      have HNS := hide c1
      clear e1 c1
      go_enter Tryd.func47, Tryd.ntmps47
      go_wp2
      have ns : (s == 0) = true := by simp [HNS.out]
      go_quiet (fail)
      all_goals go_wp2
      go_ret
      exact ⟨ret_bool HA.out, by refine below_go HB1.out ?_; repeat' (first | with_reducible exact Below.refl _ _ | with_reducible refine pn_drew ?_ | with_reducible refine pn_drewN ?_ | with_reducible refine below_go ?_ hbF | with_reducible refine below_go ?_ hbH | with_reducible refine below_go ?_ hbG | with_reducible refine below_go ?_ hbI)⟩
    · have HNS := hide c1
      obtain ⟨q, hq⟩ : ∃ q, decide ((s - 1, (1 : Int), m) ∈ L) = q := ⟨_, rfl⟩
      have HA := hide (show q = rdy L n s k m by unfold rdy; rw [if_pos e1, ← hq]; simp [c1])
      have HH := hide (show ∀ W', Below (w.alloc (.cells #[.int .i64 s, .int .i64 k, .int .i64 m] 99)).heap.size (w.alloc (.cells #[.int .i64 s, .int .i64 k, .int .i64 m] 99)) W' → Calls Tryd.prog 43 #[.map (some b), .agg #[.int .i64 (s - 1), .int .i64 1, .int .i64 m]] W' (fun e w' => e = .returned (.bool q) ∧ Below W'.heap.size W' w') from fun W' hW => by
        rw [← hq]
        obtain ⟨r1, r2⟩ := HM.out
        exact has_any b (s - 1) 1 m L W' (HD.out.below hW) ⟨by show 0 ≤ s - 1; omega, by show s - 1 ≤ 100; omega, by show (0 : Int) ≤ 1; decide, by show (1 : Int) ≤ 100; decide, r1, by show m ≤ 100; omega⟩)
      clear e1 c1 hq
      go_enter Tryd.func47, Tryd.ntmps47
      go_wp2
      have ns : (s == 0) = false := by simpa using HNS.out
      go_region_held3 (fun W' => W'.cell? ⟨w.heap.size, 0, none⟩ = some (.int .i64 s)) ((refine HSB.out _ ?_; repeat' (first | with_reducible exact Below.refl _ _ | with_reducible refine pn_drew ?_ | with_reducible refine pn_drewN ?_ | with_reducible refine below_go ?_ hbF | with_reducible refine below_go ?_ hbH | with_reducible refine below_go ?_ hbG | with_reducible refine below_go ?_ hbI)))
        (first | (go_at_call 46; refine (fwd_any _ _).mono ?_; rintro e wF ⟨rfl, hbF⟩) | (go_at_call 43; refine (HH.out _ (by repeat' (first | with_reducible exact Below.refl _ _ | with_reducible refine pn_drew ?_ | with_reducible refine pn_drewN ?_ | with_reducible refine below_go ?_ hbF | with_reducible refine below_go ?_ hbH | with_reducible refine below_go ?_ hbG | with_reducible refine below_go ?_ hbI))).mono ?_; rintro e wH ⟨rfl, hbH⟩))
      all_goals go_wp2
      go_ret
      exact ⟨ret_bool HA.out, by refine below_go HB1.out ?_; repeat' (first | with_reducible exact Below.refl _ _ | with_reducible refine pn_drew ?_ | with_reducible refine pn_drewN ?_ | with_reducible refine below_go ?_ hbF | with_reducible refine below_go ?_ hbH | with_reducible refine below_go ?_ hbG | with_reducible refine below_go ?_ hbI)⟩
  · have nk : (k == 1) = false := by simp [e1]
    have e1' : ¬ k = 1 := by omega
    obtain ⟨q, hq⟩ : ∃ q, decide ((s, (1 : Int), m) ∈ L) = q := ⟨_, rfl⟩
    have HH := hide (show ∀ W', Below (w.alloc (.cells #[.int .i64 s, .int .i64 k, .int .i64 m] 99)).heap.size (w.alloc (.cells #[.int .i64 s, .int .i64 k, .int .i64 m] 99)) W' → Calls Tryd.prog 43 #[.map (some b), .agg #[.int .i64 s, .int .i64 1, .int .i64 m]] W' (fun e w' => e = .returned (.bool q) ∧ Below W'.heap.size W' w') from fun W' hW => by
      rw [← hq]
      obtain ⟨r1, r2⟩ := HM.out
      exact has_any b s 1 m L W' (HD.out.below hW) ⟨hs0, by show s ≤ 100; omega, by show (0 : Int) ≤ 1; decide, by show (1 : Int) ≤ 100; decide, r1, by show m ≤ 100; omega⟩)
    cases q
    · have HA := hide (show false = rdy L n s k m by unfold rdy; rw [if_neg e1', hq]; rfl)
      clear e1 e1' hq
      go_enter Tryd.func47, Tryd.ntmps47
      go_wp2
      go_region_held3 (fun W' => W'.cell? ⟨w.heap.size, 0, none⟩ = some (.int .i64 s)) ((refine HSB.out _ ?_; repeat' (first | with_reducible exact Below.refl _ _ | with_reducible refine pn_drew ?_ | with_reducible refine pn_drewN ?_ | with_reducible refine below_go ?_ hbF | with_reducible refine below_go ?_ hbH | with_reducible refine below_go ?_ hbG | with_reducible refine below_go ?_ hbI)))
        (first | (go_at_call 46; refine (fwd_any _ _).mono ?_; rintro e wF ⟨rfl, hbF⟩) | (go_at_call 43; refine (HH.out _ (by repeat' (first | with_reducible exact Below.refl _ _ | with_reducible refine pn_drew ?_ | with_reducible refine pn_drewN ?_ | with_reducible refine below_go ?_ hbF | with_reducible refine below_go ?_ hbH | with_reducible refine below_go ?_ hbG | with_reducible refine below_go ?_ hbI))).mono ?_; rintro e wH ⟨rfl, hbH⟩))
      all_goals go_wp2
      go_ret
      exact ⟨ret_bool HA.out, by refine below_go HB1.out ?_; repeat' (first | with_reducible exact Below.refl _ _ | with_reducible refine pn_drew ?_ | with_reducible refine pn_drewN ?_ | with_reducible refine below_go ?_ hbF | with_reducible refine below_go ?_ hbH | with_reducible refine below_go ?_ hbG | with_reducible refine below_go ?_ hbI)⟩
    · by_cases c1 : s = n - 1
      · have HA := hide (show true = rdy L n s k m by unfold rdy; rw [if_neg e1', hq]; simp [c1])
        have HNS := hide c1
        clear e1 e1' hq c1
        go_enter Tryd.func47, Tryd.ntmps47
        go_wp2
        go_region_held3 (fun W' => W'.cell? ⟨w.heap.size, 0, none⟩ = some (.int .i64 s)) ((refine HSB.out _ ?_; repeat' (first | with_reducible exact Below.refl _ _ | with_reducible refine pn_drew ?_ | with_reducible refine pn_drewN ?_ | with_reducible refine below_go ?_ hbF | with_reducible refine below_go ?_ hbH | with_reducible refine below_go ?_ hbG | with_reducible refine below_go ?_ hbI)))
          (first | (go_at_call 46; refine (fwd_any _ _).mono ?_; rintro e wF ⟨rfl, hbF⟩) | (go_at_call 43; refine (HH.out _ (by repeat' (first | with_reducible exact Below.refl _ _ | with_reducible refine pn_drew ?_ | with_reducible refine pn_drewN ?_ | with_reducible refine below_go ?_ hbF | with_reducible refine below_go ?_ hbH | with_reducible refine below_go ?_ hbG | with_reducible refine below_go ?_ hbI))).mono ?_; rintro e wH ⟨rfl, hbH⟩))
        all_goals go_wp2
        have ns : (s == n - 1) = true := by simp [HNS.out]
        go_quiet (fail)
        all_goals go_wp2
        go_ret
        exact ⟨ret_bool HA.out, by refine below_go HB1.out ?_; repeat' (first | with_reducible exact Below.refl _ _ | with_reducible refine pn_drew ?_ | with_reducible refine pn_drewN ?_ | with_reducible refine below_go ?_ hbF | with_reducible refine below_go ?_ hbH | with_reducible refine below_go ?_ hbG | with_reducible refine below_go ?_ hbI)⟩
      · have HNS := hide c1
        obtain ⟨q, hq2⟩ : ∃ q, decide ((s + 1, (2 : Int), m) ∈ L) = q := ⟨_, rfl⟩
        have HA := hide (show q = rdy L n s k m by unfold rdy; rw [if_neg e1', hq, ← hq2]; simp [c1])
        have HI := hide (show ∀ W', Below (w.alloc (.cells #[.int .i64 s, .int .i64 k, .int .i64 m] 99)).heap.size (w.alloc (.cells #[.int .i64 s, .int .i64 k, .int .i64 m] 99)) W' → Calls Tryd.prog 43 #[.map (some b), .agg #[.int .i64 (s + 1), .int .i64 2, .int .i64 m]] W' (fun e w' => e = .returned (.bool q) ∧ Below W'.heap.size W' w') from fun W' hW => by
          rw [← hq2]
          obtain ⟨r1, r2⟩ := HM.out
          exact has_any b (s + 1) 2 m L W' (HD.out.below hW) ⟨by show 0 ≤ s + 1; omega, by show s + 1 ≤ 100; omega, by show (0 : Int) ≤ 2; decide, by show (2 : Int) ≤ 100; decide, r1, by show m ≤ 100; omega⟩)
        clear e1 e1' hq c1 hq2
        go_enter Tryd.func47, Tryd.ntmps47
        go_wp2
        go_region_held3 (fun W' => W'.cell? ⟨w.heap.size, 0, none⟩ = some (.int .i64 s)) ((refine HSB.out _ ?_; repeat' (first | with_reducible exact Below.refl _ _ | with_reducible refine pn_drew ?_ | with_reducible refine pn_drewN ?_ | with_reducible refine below_go ?_ hbF | with_reducible refine below_go ?_ hbH | with_reducible refine below_go ?_ hbG | with_reducible refine below_go ?_ hbI)))
          (first | (go_at_call 46; refine (fwd_any _ _).mono ?_; rintro e wF ⟨rfl, hbF⟩) | (go_at_call 43; refine (HH.out _ (by repeat' (first | with_reducible exact Below.refl _ _ | with_reducible refine pn_drew ?_ | with_reducible refine pn_drewN ?_ | with_reducible refine below_go ?_ hbF | with_reducible refine below_go ?_ hbH | with_reducible refine below_go ?_ hbG | with_reducible refine below_go ?_ hbI))).mono ?_; rintro e wH ⟨rfl, hbH⟩))
        all_goals go_wp2
        have ns : (s == n - 1) = false := by simpa using HNS.out
        go_region_held3 (fun W' => W'.cell? ⟨w.heap.size, 0, none⟩ = some (.int .i64 s)) ((refine HSB.out _ ?_; repeat' (first | with_reducible exact Below.refl _ _ | with_reducible refine pn_drew ?_ | with_reducible refine pn_drewN ?_ | with_reducible refine below_go ?_ hbF | with_reducible refine below_go ?_ hbH | with_reducible refine below_go ?_ hbG | with_reducible refine below_go ?_ hbI)))
          (first | (go_at_call 45; refine (bwd_any _ _).mono ?_; rintro e wG ⟨rfl, hbG⟩) | (go_at_call 43; refine (HI.out _ (by repeat' (first | with_reducible exact Below.refl _ _ | with_reducible refine pn_drew ?_ | with_reducible refine pn_drewN ?_ | with_reducible refine below_go ?_ hbF | with_reducible refine below_go ?_ hbH | with_reducible refine below_go ?_ hbG | with_reducible refine below_go ?_ hbI))).mono ?_; rintro e wI ⟨rfl, hbI⟩))
        all_goals go_wp2
        go_ret
        exact ⟨ret_bool HA.out, by refine below_go HB1.out ?_; repeat' (first | with_reducible exact Below.refl _ _ | with_reducible refine pn_drew ?_ | with_reducible refine pn_drewN ?_ | with_reducible refine below_go ?_ hbF | with_reducible refine below_go ?_ hbH | with_reducible refine below_go ?_ hbG | with_reducible refine below_go ?_ hbI)⟩
end Go.Proofs.YtgdggaieekakhagDoor
