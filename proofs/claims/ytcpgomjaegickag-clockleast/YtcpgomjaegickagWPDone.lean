/- The walk of the law PlanDone, and of what it asks first: waves and turns can be done, and go back part by part. -/
import Derived.Test.YtcpgomjaegickagPnE
import Derived.Test.YtcpgomjaegickagPnW
import Derived.Test.YtcpgomjaegickagPlE
namespace Go.Proofs.Ytcpgomjaegickag
open Go.RowKit
theorem planX_two : makeX 2 2 false = [[(1, 0), (1, 1), (2, 0), (2, 1)], [(1, 0), (2, 0), (1, 1), (2, 1)]] := by kernel_rfl
set_option maxHeartbeats 1600000 in
set_option maxRecDepth 100000 in
theorem pfact_any (w : World) : Calls Try.prog 7 #[] w fun e w' => e = .returned (.bool true) ∧ Below w.heap.size w w' := by
  have HC := hide (pturns_any 2 2 w)
  unfold Built at HC
  rw [planX_two, show makeE 2 2 = 0 from rfl, err_eq rfl] at HC
  go_enter Try.func7, Try.ntmps7
  go_wp2_with fail
  refine HC.out.mono ?_
  rintro e w1 ⟨s, rfl, hp, hl, hb1⟩
  obtain ⟨a, cap, rfl, h2, h3, h4⟩ := hp
  obtain ⟨b, off, rfl, hcl⟩ := h4.resolve_left (by simp)
  obtain ⟨z, hz, hi⟩ := hcl 1 _ rfl
  obtain ⟨a2, cap2, rfl, i2, i3, i4⟩ := hi
  obtain ⟨b2, off2, rfl, hc2⟩ := i4.resolve_left (by simp)
  obtain ⟨d1, d2⟩ := hc2 1 _ rfl
  have HB1 := hide hb1
  simp only [List.length_cons, List.length_nil] at hz d1 d2 h2 i2
  clear hl hb1 hcl hc2 h4 i4
  go_wp2
  go_ret
  exact ⟨rfl, HB1.out⟩
set_option maxHeartbeats 16000000 in
set_option maxRecDepth 100000 in
theorem done_walk (S M : Int) (w : World) : Calls Try.prog 3 #[.int .i64 S, .int .i64 M] w fun e w' => e = .returned (.bool true) ∧ Below w.heap.size w w' := by
  have HF := hide (pfact_any w)
  obtain ⟨E, hE⟩ : ∃ E, makeE S M = E := ⟨_, rfl⟩
  by_cases c : makeE S M = 0
  · obtain ⟨b1, b2, b3, b4⟩ := makeE_in c
    have HM := hide (show ∀ wave, makeX S M wave = planX S.toNat M.toNat wave from fun wave => by unfold makeX; rw [if_neg (by omega)])
    have HOK := hide (fun wave => plan_ok (s := S.toNat) (m := M.toNat) (by omega) (by omega) (by omega) (by omega) wave)
    rw [show ((M.toNat : Nat) : Int) = M by omega] at HOK
    have HZ := hide (show errV (makeE S M) = .nilIface from err_eq c)
    clear c hE
    go_enter Try.func3, Try.ntmps3
    go_wp2_with fail
    refine HF.out.mono ?_
    rintro e u1 ⟨rfl, hb⟩
    have C0 := hide hb
    clear hb HF
    have HX := hide (pwave_any S M u1)
    unfold Built at HX
    rw [HZ.out] at HX
    go_wp2_with fail
    refine HX.out.mono ?_
    rintro e u2 ⟨s1, rfl, hp, _, hb⟩
    replace C0 := hide (below_go C0.out hb)
    have HP1 := hide hp
    have C1 := hide (Below.refl u2.heap.size u2)
    clear hb hp HX
    have HX := hide (pturns_any S M u2)
    unfold Built at HX
    rw [HZ.out] at HX
    go_wp2_with fail
    refine HX.out.mono ?_
    rintro e u3 ⟨s2, rfl, hp, _, hb⟩
    replace C0 := hide (below_go C0.out hb)
    replace C1 := hide (below_go C1.out hb)
    have HP2 := hide hp
    have C2 := hide (Below.refl u3.heap.size u3)
    clear hb hp HX
    have HX := hide (peven_any s1 _ M u3 (HP1.out.below C1.out))
    rw [HM.out, show planE (planX S.toNat M.toNat true) M = 0 from (HOK.out true).1, show evenX (planX S.toNat M.toNat true) M = true by unfold evenX; rw [if_pos (HOK.out true).1]; exact (HOK.out true).2, err_eq rfl] at HX
    go_wp2_with fail
    refine HX.out.mono ?_
    rintro e u4 ⟨rfl, hb⟩
    replace C0 := hide (below_go C0.out hb)
    replace C2 := hide (below_go C2.out hb)
    clear hb HX
    have HX := hide (peven_any s2 _ M u4 (HP2.out.below C2.out))
    rw [HM.out, show planE (planX S.toNat M.toNat false) M = 0 from (HOK.out false).1, show evenX (planX S.toNat M.toNat false) M = true by unfold evenX; rw [if_pos (HOK.out false).1]; exact (HOK.out false).2, err_eq rfl] at HX
    go_wp2_with fail
    refine HX.out.mono ?_
    rintro e u5 ⟨rfl, hb⟩
    replace C0 := hide (below_go C0.out hb)
    clear hb HX
    go_wp2
    go_ret
    exact ⟨rfl, C0.out⟩
  · have hc : S < 1 ∨ 6 < S ∨ M < 1 ∨ 12 < M := by unfold makeE at c; split at c <;> simp_all
    have HZ := hide (show errV (makeE S M) = .iface 56 (.int .i64 E) by rw [err_ne c, hE])
    clear c hE
    have HX := hide (fun u => pwave_any S M u)
    unfold Built at HX
    rw [HZ.out] at HX
    by_cases d1 : S < 1
    · clear hc
      go_enter Try.func3, Try.ntmps3
      go_wp2_with (first | (go_at_call 7; refine HF.out.mono ?_; rintro e u1 ⟨rfl, hb1⟩) | (go_at_call 8; refine (HX.out _).mono ?_; rintro e u2 ⟨s1, rfl, _, _, hb2⟩))
      go_ret
      exact ⟨rfl, below_go hb1 hb2⟩
    by_cases d2 : 6 < S
    · clear hc
      go_enter Try.func3, Try.ntmps3
      go_wp2_with (first | (go_at_call 7; refine HF.out.mono ?_; rintro e u1 ⟨rfl, hb1⟩) | (go_at_call 8; refine (HX.out _).mono ?_; rintro e u2 ⟨s1, rfl, _, _, hb2⟩))
      go_ret
      exact ⟨rfl, below_go hb1 hb2⟩
    by_cases d3 : M < 1
    · clear hc
      go_enter Try.func3, Try.ntmps3
      go_wp2_with (first | (go_at_call 7; refine HF.out.mono ?_; rintro e u1 ⟨rfl, hb1⟩) | (go_at_call 8; refine (HX.out _).mono ?_; rintro e u2 ⟨s1, rfl, _, _, hb2⟩))
      go_ret
      exact ⟨rfl, below_go hb1 hb2⟩
    have d4 : 12 < M := by omega
    clear hc
    go_enter Try.func3, Try.ntmps3
    go_wp2_with (first | (go_at_call 7; refine HF.out.mono ?_; rintro e u1 ⟨rfl, hb1⟩) | (go_at_call 8; refine (HX.out _).mono ?_; rintro e u2 ⟨s1, rfl, _, _, hb2⟩))
    go_ret
    exact ⟨rfl, below_go hb1 hb2⟩
end Go.Proofs.Ytcpgomjaegickag
