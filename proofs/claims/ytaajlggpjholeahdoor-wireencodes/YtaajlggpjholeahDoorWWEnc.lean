/- The walk of the law WireEncodes: Encode of package wire answers what the document's answer does. Condition: the library's variable errors.errorType is as its text lays it. -/
import Derived.Test.YtaajlggpjholeahDoorWrC7
import Derived.Test.YtaajlggpjholeahDoorErr
namespace Go.Proofs.YtaajlggpjholeahDoor
open Go.RowKit
set_option maxHeartbeats 16000000 in
set_option maxRecDepth 100000 in
theorem encodes_walk (v : Value) (k mi : Int) (b : Mx) (w : World) (hv : IsMsg w v k mi b) (hH : Handle w) : Calls Tryd.prog 3 #[v] w fun e w' => e = .returned (.bool true) ∧ Below w.heap.size w w' := by
  have HH := hide hH
  have HV := hide hv
  obtain ⟨sa, sn, sc, rfl⟩ := hv.shape
  obtain ⟨r, hr⟩ : ∃ r, b.rows = r := ⟨_, rfl⟩
  obtain ⟨c, hc⟩ : ∃ c, b.cols = c := ⟨_, rfl⟩
  rw [hr, hc] at HV ⊢
  obtain ⟨E, hE⟩ : ∃ E, msgF k mi b = E := ⟨_, rfl⟩
  have HE := hide hE
  have HB0 := hide (below_one w (.cells #[.int .i64 k, .int .i64 mi, .int .i64 r, .int .i64 c, .slice sa sn sc] 26))
  have HBX := hide (Blk5.new w (.int .i64 k) (.int .i64 mi) (.int .i64 r) (.int .i64 c) (.slice sa sn sc))
  obtain ⟨W0, hW0⟩ : ∃ x, x = w.alloc (.cells #[.int .i64 k, .int .i64 mi, .int .i64 r, .int .i64 c, .slice sa sn sc] 26) := ⟨_, rfl⟩
  rw [← hW0] at HB0 HBX
  have HLT := hide HBX.out.lt
  have HX := hide (wenc_any _ k mi b W0 (HV.out.below HB0.out))
  unfold EncEnd at HX
  rw [hE] at HX
  obtain ⟨EV, hEV⟩ : ∃ X, errV E = X := ⟨_, rfl⟩
  have HEV := hide hEV
  rw [hEV] at HX
  have HW0 := hide hW0
  clear hv hH hr hc hE hEV hW0
  go_enter Tryd.func3, Tryd.ntmps3
  go_wp2_with (rw [← HW0.out]; refine HX.out.mono ?_; rintro e u1 ⟨s1, rfl, hi, hn, hb⟩; have HI := hide hi; have C1 := hide (bel_on HB0.out hb); obtain ⟨q0, q1, q2, q3, q4⟩ := (HBX.out.bel hb HLT.out).c; have HQ := hide (HBX.out.bel hb HLT.out); have HL1 := hide hb.size; obtain ⟨ya, yc, rfl⟩ := hi.shape; clear hi hn hb)
  have HY := hide (rmsgf_any _ k mi b u1 (HV.out.below C1.out))
  rw [HE.out] at HY
  go_wp2_with fail
  refine HY.out.mono ?_
  rintro e u2 ⟨rfl, hb⟩
  have C2 := hide (bel_on C1.out hb)
  have HQ2 := hide (HQ.out.bel hb HQ.out.lt)
  replace HI := hide (HI.out.below hb)
  clear hb HY HX q0 q1 q2 q3 q4
  have HX := hide (error_same (k := E) (n := E) rfl u2 (HH.out.below C2.out))
  rw [HEV.out] at HX
  go_wp2_with fail
  refine HX.out.mono ?_
  rintro e u3 ⟨rfl, hb⟩
  have C3 := hide (bel_on C2.out hb)
  have HQ3 := hide (HQ2.out.bel hb HQ2.out.lt)
  replace HI := hide (HI.out.below hb)
  clear hb HX
  by_cases c : E = 0
  · subst c
    have HXB := hide (show encX k mi b = msgB k mi b by unfold encX; rw [if_pos HE.out])
    rw [HXB.out] at HI ⊢
    obtain ⟨q0, q1, q2, q3, q4⟩ := HQ3.out.c
    obtain ⟨yn, hyn⟩ : ∃ x, (msgB k mi b).length = x := ⟨_, rfl⟩
    rw [hyn] at HI ⊢
    clear hyn
    have HX := hide (rmsgof_any _ k mi b u3 (HV.out.below C3.out) HE.out)
    go_wp2_with fail
    refine HX.out.mono ?_
    rintro e u4 ⟨s4, rfl, ho, hb⟩
    have C4 := hide (bel_on C3.out hb)
    replace HI := hide (HI.out.below hb)
    have HO := hide ho.isBys
    clear hb HX ho
    have HX := hide (octets_any _ _ (msgB k mi b) (msgB k mi b) u4 HI.out HO.out)
    rw [← sameB_yes rfl] at HX
    go_wp2_with fail
    refine HX.out.mono ?_
    rintro e u5 ⟨rfl, hb⟩
    have C5 := hide (bel_on C4.out hb)
    clear hb HX
    go_wp2
    go_ret
    exact ⟨rfl, C5.out⟩
  · have hXB : encX k mi b = [] := by unfold encX; rw [if_neg (by rw [HE.out]; exact c)]
    have nE : (E != 0) = true := by simpa using c
    rw [hXB]
    clear c hXB
    go_wp2
    go_ret
    exact ⟨rfl, C3.out⟩
end Go.Proofs.YtaajlggpjholeahDoor
