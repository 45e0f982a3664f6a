/- The walk of the law WireDecodes: Decode of package wire answers what the document's answer does. Condition: the library's variable errors.errorType is as its text lays it. -/
import Derived.Test.YtaajlggpjholeahDoorWrC7
import Derived.Test.YtaajlggpjholeahDoorWrR5
import Derived.Test.YtaajlggpjholeahDoorErr
namespace Go.Proofs.YtaajlggpjholeahDoor
open Go.RowKit
theorem IsMsg.boxed {w : World} {k mi r c : Int} {s : Value} {b : Mx} (h : IsMsg w (.agg #[.int .i64 k, .int .i64 mi, .int .i64 r, .int .i64 c, s]) k mi b) : IsMsg (w.alloc (.cells #[.int .i64 k, .int .i64 mi, .int .i64 r, .int .i64 c, s] 26)) (.agg #[.int .i64 k, .int .i64 mi, .int .i64 r, .int .i64 c, s]) k mi b := h.below (below_one _ _)
theorem msg_zero (w : World) : IsMsg w (.agg #[.int .i64 0, .int .i64 0, .int .i64 0, .int .i64 0, .slice none 0 0]) 0 0 ⟨0, 0, []⟩ := ⟨_, rfl, IsInts.nil w⟩
set_option maxHeartbeats 16000000 in
set_option maxRecDepth 100000 in
theorem decodes_walk (v : Value) (l : List Int) (w : World) (hv : IsBys w v l) (hH : Handle w) : Calls Tryd.prog 4 #[v] w fun e w' => e = .returned (.bool true) ∧ Below w.heap.size w w' := by
  have HH := hide hH
  have HV := hide hv
  obtain ⟨va, vc, rfl⟩ := hv.shape
  obtain ⟨vn, hvn⟩ : ∃ x, l.length = x := ⟨_, rfl⟩
  rw [hvn] at HV ⊢
  have HX := hide (wdec_any _ l w HV.out)
  clear hv hH hvn
  cases hr : rdMsg l with
  | none =>
    have HR := hide hr
    clear hr
    go_enter Tryd.func4, Tryd.ntmps4
    go_wp2_with fail
    refine HX.out.mono ?_
    intro e u1 hd
    obtain ⟨mv, rfl, hb, hm⟩ := hd.no HR.out
    obtain ⟨ma, mn, mc, rfl⟩ := hm.shape
    have HM := hide hm.boxed
    have HBX := hide (Blk5.new u1 (.int .i64 0) (.int .i64 0) (.int .i64 0) (.int .i64 0) (.slice ma mn mc))
    have C1 := hide (bel_on hb (below_one u1 (.cells #[.int .i64 0, .int .i64 0, .int .i64 0, .int .i64 0, .slice ma mn mc] 26)))
    obtain ⟨U1, hU1⟩ : ∃ x, x = u1.alloc (.cells #[.int .i64 0, .int .i64 0, .int .i64 0, .int .i64 0, .slice ma mn mc] 26) := ⟨_, rfl⟩
    rw [← hU1] at HM HBX C1
    have HU1 := hide hU1
    clear hd hb hm HX hU1
    have HX := hide (rread_any _ l U1 (HV.out.below C1.out))
    go_wp2_with (rw [← HU1.out]; refine HX.out.mono ?_; intro e u2 hd; obtain ⟨nv, rfl, hb, hm⟩ := hd.none HR.out; obtain ⟨na, nn, nc, rfl⟩ := hm.shape; have HM2 := hide (HM.out.below (bel_on hb (below_one u2 (.cells #[.int .i64 0, .int .i64 0, .int .i64 0, .int .i64 0, .slice na nn nc] 26)))); have HBY := hide (HBX.out.bel (bel_on hb (below_one u2 (.cells #[.int .i64 0, .int .i64 0, .int .i64 0, .int .i64 0, .slice na nn nc] 26))) HBX.out.lt); have C2 := hide (bel_on C1.out (bel_on hb (below_one u2 (.cells #[.int .i64 0, .int .i64 0, .int .i64 0, .int .i64 0, .slice na nn nc] 26)))); obtain ⟨U2, hU2⟩ : ∃ x, x = u2.alloc (.cells #[.int .i64 0, .int .i64 0, .int .i64 0, .int .i64 0, .slice na nn nc] 26) := ⟨_, rfl⟩; rw [← hU2] at HM2 HBY C2; have HU2 := hide hU2; clear hd hb hm hU2)
    rw [← HU2.out]
    clear HX
    have HX := hide (error_same (k := 7) (n := 7) rfl U2 (HH.out.below C2.out))
    rw [err_ne (by decide)] at HX
    refine HX.out.mono ?_
    rintro e u3 ⟨rfl, hb⟩
    have C3 := hide (bel_on C2.out hb)
    have HM3 := hide (HM2.out.below hb)
    obtain ⟨q0, q1, q2, q3, q4⟩ := (HBY.out.bel hb HBY.out.lt).c
    clear hb HX
    have HX := hide (messages_any _ _ 0 0 0 0 ⟨0, 0, []⟩ ⟨0, 0, []⟩ u3 HM3.out (msg_zero u3))
    rw [sameG_self] at HX
    go_wp2_with fail
    refine HX.out.mono ?_
    rintro e u4 ⟨rfl, hb⟩
    have C4 := hide (bel_on C3.out hb)
    clear hb HX
    go_wp2
    go_ret
    exact ⟨rfl, C4.out⟩
  | some x =>
    obtain ⟨⟨k, mi, b⟩, cn⟩ := x
    have HR := hide hr
    clear hr
    obtain ⟨J, hJ⟩ : ∃ J : Int, J = (cn : Int) := ⟨_, rfl⟩
    have hJ0 : 0 ≤ J := by omega
    have HJ := hide hJ
    clear hJ
    obtain ⟨r, hr⟩ : ∃ r, b.rows = r := ⟨_, rfl⟩
    obtain ⟨c, hc⟩ : ∃ c, b.cols = c := ⟨_, rfl⟩
    have HRC := hide (And.intro hr hc)
    clear hr hc
    go_enter Tryd.func4, Tryd.ntmps4
    go_wp2_with fail
    refine HX.out.mono ?_
    intro e u1 hd
    obtain ⟨mv, he, hb, hm⟩ := hd.yes HR.out
    obtain ⟨ma, mn, mc, hmv⟩ := hm.shape
    rw [HRC.out.1, HRC.out.2] at hmv
    subst hmv
    rw [← HJ.out] at he
    subst he
    have HM := hide hm.boxed
    have HBX := hide (Blk5.new u1 (.int .i64 k) (.int .i64 mi) (.int .i64 r) (.int .i64 c) (.slice ma mn mc))
    have C1 := hide (bel_on hb (below_one u1 (.cells #[.int .i64 k, .int .i64 mi, .int .i64 r, .int .i64 c, .slice ma mn mc] 26)))
    obtain ⟨U1, hU1⟩ : ∃ x, x = u1.alloc (.cells #[.int .i64 k, .int .i64 mi, .int .i64 r, .int .i64 c, .slice ma mn mc] 26) := ⟨_, rfl⟩
    rw [← hU1] at HM HBX C1
    have HU1 := hide hU1
    clear hd hb hm HX hU1
    have HRD := hide (rread_any _ l U1 (HV.out.below C1.out))
    go_wp2_with (rw [← HU1.out]; refine HRD.out.mono ?_; intro e u2 hd; obtain ⟨nv, he, hb, hm⟩ := hd.some HR.out; obtain ⟨na, nn, nc, hmv⟩ := hm.shape; rw [HRC.out.1, HRC.out.2] at hmv; subst hmv; rw [← HJ.out] at he; subst he; have HM2 := hide (HM.out.below (bel_on hb (below_one u2 (.cells #[.int .i64 k, .int .i64 mi, .int .i64 r, .int .i64 c, .slice na nn nc] 26)))); have HN2 := hide hm.boxed; have HBY := hide (HBX.out.bel (bel_on hb (below_one u2 (.cells #[.int .i64 k, .int .i64 mi, .int .i64 r, .int .i64 c, .slice na nn nc] 26))) HBX.out.lt); have HBZ := hide (Blk5.new u2 (.int .i64 k) (.int .i64 mi) (.int .i64 r) (.int .i64 c) (.slice na nn nc)); have C2 := hide (bel_on C1.out (bel_on hb (below_one u2 (.cells #[.int .i64 k, .int .i64 mi, .int .i64 r, .int .i64 c, .slice na nn nc] 26)))); obtain ⟨q0, q1, q2, q3, q4⟩ := HBY.out.c; clear hd hb hm)
    have HX := hide (messages_any _ _ k mi k mi b b _ HM2.out HN2.out)
    rw [sameG_self] at HX
    first | (refine HX.out.mono ?_) | (trace_state; fail)
    rintro e u4 ⟨rfl, hb⟩
    have C4 := hide (bel_on C2.out hb)
    clear hb HX
    go_wp2
    go_ret
    exact ⟨rfl, C4.out⟩
end Go.Proofs.YtaajlggpjholeahDoor
