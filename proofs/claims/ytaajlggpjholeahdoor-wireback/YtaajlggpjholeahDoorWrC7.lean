/- What Decode of package wire comes to. -/
import Derived.Test.YtaajlggpjholeahDoorWrC6
namespace Go.Proofs.YtaajlggpjholeahDoor
open Go.RowKit
theorem DecEnd.mk_no {w w' : World} {l : List Int} (hr : rdMsg l = none) (hb : Below w.heap.size w w') : DecEnd w w' l (.returned (.tuple #[.agg #[.int .i64 0, .int .i64 0, .int .i64 0, .int .i64 0, .slice none 0 0], .int .i64 0, .iface 32 (.int .i64 7)])) := by
  refine ⟨.agg #[.int .i64 0, .int .i64 0, .int .i64 0, .int .i64 0, .slice none 0 0], 0, ?_, hb, ?_⟩
  · rw [decE_no hr, err_ne (by decide)]
  · rw [hr]; exact ⟨⟨_, rfl, IsInts.nil _⟩, rfl⟩
theorem DecEnd.mk_yes {w w' : World} {l : List Int} {k mi j : Int} {b : Mx} {c : Nat} {s : Value} (hr : rdMsg l = some ((k, mi, b), c)) (hb : Below w.heap.size w w') (hs : IsInts w' s b.cells) (hn : NilOk s) (hj : j = (c : Int)) : DecEnd w w' l (.returned (.tuple #[.agg #[.int .i64 k, .int .i64 mi, .int .i64 b.rows, .int .i64 b.cols, s], .int .i64 j, .nilIface])) := by
  refine ⟨.agg #[.int .i64 k, .int .i64 mi, .int .i64 b.rows, .int .i64 b.cols, s], j, ?_, hb, ?_⟩
  · rw [decE_yes hr, err_eq rfl]
  · rw [hr]
    refine ⟨⟨_, rfl, hs⟩, hj, fun a0 a1 a2 a3 t e => ?_⟩
    simp at e
    rw [← e.2.2.2.2]
    exact hn
set_option maxHeartbeats 16000000 in
set_option maxRecDepth 100000 in
theorem wdec_any (v : Value) (l : List Int) (w : World) (hv : IsBys w v l) : Calls Tryd.prog 12 #[v] w (fun e w' => DecEnd w w' l e) := by
  obtain ⟨va, vn, vk, rfl⟩ : ∃ a n k, v = .slice a n k := by obtain ⟨a, k, h⟩ := hv.shape; exact ⟨a, _, k, h⟩
  obtain ⟨W1, hW1⟩ : ∃ x, x = w.alloc (.cells #[.int .i64 0, .int .i64 0, .int .i64 0, .int .i64 0, .slice none 0 0] 26) := ⟨_, rfl⟩
  obtain ⟨W2, hW2⟩ : ∃ x, x = W1.alloc (.cells #[.slice va vn vk, .int .i64 0] 67) := ⟨_, rfl⟩
  have HW1 := hide hW1
  have HW2 := hide hW2
  have HS1 := hide (show W1.heap.size = w.heap.size + 1 by rw [hW1, World.size_alloc])
  have HS2 := hide (show W2.heap.size = w.heap.size + 2 by rw [hW2, World.size_alloc, HS1.out])
  have HR2 := hide (show WBk W2 w.heap.size #[.int .i64 0, .int .i64 0, .int .i64 0, .int .i64 0, .slice none 0 0] 26 by
    rw [hW2]
    refine WBk.kept ?_ (below_one _ _)
    rw [hW1]
    exact WBk.new _ _ _)
  have HB2 := hide (show WBk W2 (w.heap.size + 1) #[.slice va vn vk, .int .i64 0] 67 by rw [← HS1.out, hW2]; exact WBk.new _ _ _)
  have HL2 := hide (show Below w.heap.size w W2 by rw [hW2]; exact bel_on (by rw [hW1]; exact below_one _ _) (below_one _ _))
  have HME := hide (wmessage_any _ l (w.heap.size + 1) w W2 hv HL2.out (Nat.le_succ _) HB2.out)
  have HV := hide hv
  clear hv hW1 hW2
  go_enter Tryd.func12, Tryd.ntmps12
  go_wp2_with fail
  rw [← HW1.out, ← HW2.out]
  refine HME.out.mono ?_
  intro e w3 hme
  obtain ⟨hg3, hme⟩ := hme
  have HG3 := hide hg3
  have HR3 := hide (show WBk w3 w.heap.size #[.int .i64 0, .int .i64 0, .int .i64 0, .int .i64 0, .slice none 0 0] 26 from (hg3.block _ HR2.out.lt (fun e => by have := Option.some.inj e; omega)).trans HR2.out)
  have HL3 := hide (show Below w.heap.size w w3 from HL2.out.grown hg3 HL2.out.size (fun k e => by rw [← Option.some.inj e]; exact Nat.le_succ _))
  clear hg3
  rcases hme with ⟨rfl, hno⟩ | ⟨k, mi, b, s, a, rfl, hs, ha, hk3, hrd⟩
  · have HNO := hide hno
    have HRM := hide (HR3.out.kept (below_one w3 (.cells #[.int .i64 0, .int .i64 0, .int .i64 0, .int .i64 0, .slice none 0 0] 26)))
    have HLM := hide (bel_on HL3.out (below_one w3 (.cells #[.int .i64 0, .int .i64 0, .int .i64 0, .int .i64 0, .slice none 0 0] 26)))
    obtain ⟨z0, z1, z2, z3, z4⟩ := HRM.out.f5
    obtain ⟨y0, y1, y2, y3, y4⟩ := HRM.out.c5
    have HF := hide (bk5 HRM.out (.int .i64 0) (.int .i64 0) (.int .i64 0) (.int .i64 0) (.slice none 0 0))
    obtain ⟨q0, q1, q2, q3, q4⟩ := HF.out.c5
    clear hno
    go_wp2_with fail
    exact bodyPost_ret (v := .tuple #[.agg #[.int .i64 0, .int .i64 0, .int .i64 0, .int .i64 0, .slice none 0 0], .int .i64 0, .iface 32 (.int .i64 7)]) (by simp [results, Tryd.results12, go_sem, q0, q1, q2, q3, q4]) rfl (DecEnd.mk_no HNO.out (HLM.out.grown (grw5 _ _ _ _ _ _ _) HLM.out.size (fun k e => by rw [Option.some.inj e]; exact Nat.le_refl _)))
  · obtain ⟨sa, sk, hse⟩ := hs.shape
    obtain ⟨sn, hsn⟩ : ∃ x, b.cells.length = x := ⟨_, rfl⟩
    rw [hsn] at hse
    subst hse
    obtain ⟨r, hr⟩ : ∃ x, b.rows = x := ⟨_, rfl⟩
    obtain ⟨c, hc⟩ : ∃ x, b.cols = x := ⟨_, rfl⟩
    rw [hr, hc]
    have HRC := hide (And.intro hr hc)
    have HSZ := hide hs
    have HAL := hide ha
    have HRD := hide hrd
    have HRM := hide (HR3.out.kept (below_one w3 (.cells #[.int .i64 k, .int .i64 mi, .int .i64 r, .int .i64 c, .slice sa sn sk] 26)))
    have HLM := hide (bel_on HL3.out (below_one w3 (.cells #[.int .i64 k, .int .i64 mi, .int .i64 r, .int .i64 c, .slice sa sn sk] 26)))
    have HKM := hide (hk3.kept (below_one w3 (.cells #[.int .i64 k, .int .i64 mi, .int .i64 r, .int .i64 c, .slice sa sn sk] 26)))
    have HMM := hide (WBk.new w3 #[.int .i64 k, .int .i64 mi, .int .i64 r, .int .i64 c, .slice sa sn sk] 26)
    have HSM := hide (hs.below (below_one w3 (.cells #[.int .i64 k, .int .i64 mi, .int .i64 r, .int .i64 c, .slice sa sn sk] 26)))
    have HTA := hide (wtail_any _ l (w.heap.size + 1) a (a : Int) w _ HV.out HLM.out HKM.out rfl ha)
    have HBW := hide (show w.heap.size + 1 < W2.heap.size by rw [HS2.out]; omega)
    have HW3 := hide (show w.heap.size + 1 < w3.heap.size from Nat.lt_of_lt_of_le HBW.out HG3.out.size)
    clear hsn hr hc hs ha hk3 hrd
    go_wp2_with fail
    refine HTA.out.mono ?_
    intro e w4 hta
    obtain ⟨hg4, hta⟩ := hta
    have HG4 := hide hg4
    have HL4 := hide (show Below w.heap.size w w4 from HLM.out.grown hg4 HLM.out.size (fun k e => by rw [← Option.some.inj e]; exact Nat.le_succ _))
    have HR4 := hide (show WBk w4 w.heap.size #[.int .i64 0, .int .i64 0, .int .i64 0, .int .i64 0, .slice none 0 0] 26 from (hg4.block _ HRM.out.lt (fun e => by have := Option.some.inj e; omega)).trans HRM.out)
    have HM4 := hide (show WBk w4 w3.heap.size #[.int .i64 k, .int .i64 mi, .int .i64 r, .int .i64 c, .slice sa sn sk] 26 from (hg4.block _ HMM.out.lt (fun e => by have := Option.some.inj e; have := HW3.out; omega)).trans HMM.out)
    have HS4 := hide (show OwnZ w4 W2.heap.size (.slice sa sn sk) b.cells from HSM.out.keptB hg4 HBW.out)
    clear hg4
    rcases hta with ⟨rfl, hno⟩ | ⟨rfl, hl2, hk4, hyes⟩
    · have HNO := hide (show rdMsg l = none by rw [HRD.out]; exact hno _ _ _)
      obtain ⟨z0, z1, z2, z3, z4⟩ := HR4.out.f5
      obtain ⟨y0, y1, y2, y3, y4⟩ := HR4.out.c5
      have HF := hide (bk5 HR4.out (.int .i64 0) (.int .i64 0) (.int .i64 0) (.int .i64 0) (.slice none 0 0))
      obtain ⟨q0, q1, q2, q3, q4⟩ := HF.out.c5
      clear hno
      go_wp2_with fail
      exact bodyPost_ret (v := .tuple #[.agg #[.int .i64 0, .int .i64 0, .int .i64 0, .int .i64 0, .slice none 0 0], .int .i64 0, .iface 32 (.int .i64 7)]) (by simp [results, Tryd.results12, go_sem, q0, q1, q2, q3, q4]) rfl (DecEnd.mk_no HNO.out (HL4.out.grown (grw5 _ _ _ _ _ _ _) HL4.out.size (fun k e => by rw [Option.some.inj e]; exact Nat.le_refl _)))
    · have HYES := hide hyes
      have HK4 := hide hk4
      have HL2 := hide hl2
      obtain ⟨m0, m1, m2, m3, m4⟩ := HM4.out.c5
      have HCH := hide (wchk_any (.agg #[.int .i64 k, .int .i64 mi, .int .i64 r, .int .i64 c, .slice sa sn sk]) k mi b w4 ⟨_, by rw [HRC.out.1, HRC.out.2], HS4.out.isInts⟩)
      clear hyes hk4 hl2
      go_wp2_with fail
      refine HCH.out.mono ?_
      rintro e w5 ⟨rfl, hb5⟩
      have HB5 := hide hb5
      have HR5 := hide (HR4.out.kept hb5)
      have HM5 := hide (HM4.out.kept hb5)
      have HK5 := hide (HK4.out.kept hb5)
      have HS5 := hide (HS4.out.below hb5)
      have HL5 := hide (bel_on HL4.out hb5)
      clear hb5 m0 m1 m2 m3 m4
      by_cases hm : msgF k mi b = 0
      · rw [hm, err_eq rfl]
        have HYE := hide (show rdMsg l = some ((k, mi, b), a + 2) by rw [HRD.out]; exact HYES.out _ _ _ hm)
        clear hm
        obtain ⟨z0, z1, z2, z3, z4⟩ := HR5.out.f5
        obtain ⟨y0, y1, y2, y3, y4⟩ := HR5.out.c5
        obtain ⟨j, hj⟩ : ∃ j, ((a + 2 : Nat) : Int) = j := ⟨_, rfl⟩
        rw [hj] at HK5
        have HJ := hide hj
        have HKP := hide (show ∀ W', w5.grownBy W' (some w.heap.size) → W'.cell? ⟨w3.heap.size, 0, none⟩ = some (.int .i64 k) ∧ W'.cell? ⟨w3.heap.size, 1, none⟩ = some (.int .i64 mi) ∧ W'.cell? ⟨w3.heap.size, 2, none⟩ = some (.int .i64 r) ∧ W'.cell? ⟨w3.heap.size, 3, none⟩ = some (.int .i64 c) ∧ W'.cell? ⟨w3.heap.size, 4, none⟩ = some (.slice sa sn sk) ∧ W'.cell? ⟨w.heap.size + 1, 1, none⟩ = some (.int .i64 j) from fun W' hg => by
          have h1 : WBk W' w3.heap.size _ _ := (hg.block _ HM5.out.lt (fun e => by have := Option.some.inj e; have := HW3.out; omega)).trans HM5.out
          have h2 : WBk W' (w.heap.size + 1) _ _ := (hg.block _ HK5.out.lt (fun e => by have := Option.some.inj e; omega)).trans HK5.out
          exact ⟨h1.c rfl, h1.c rfl, h1.c rfl, h1.c rfl, h1.c rfl, h2.c rfl⟩)
        obtain ⟨m0, m1, m2, m3, m4, d0⟩ := HKP.out w5 ⟨rfl, rfl, rfl, Nat.le_refl _, fun _ _ _ => rfl⟩
        have HF := hide (bk5 HR5.out (.int .i64 k) (.int .i64 mi) (.int .i64 r) (.int .i64 c) (.slice sa sn sk))
        obtain ⟨q0, q1, q2, q3, q4⟩ := HF.out.c5
        have HGF := hide (grw5 w5 w.heap.size (.int .i64 k) (.int .i64 mi) (.int .i64 r) (.int .i64 c) (.slice sa sn sk))
        have HG0 := hide (show w5.grownBy w5.drew (some w.heap.size) from ⟨rfl, rfl, rfl, Nat.le_refl _, fun _ _ _ => rfl⟩)
        have HG1 := hide (show w5.grownBy w5 (some w.heap.size) from ⟨rfl, rfl, rfl, Nat.le_refl _, fun _ _ _ => rfl⟩)
        clear hj
        go_wp2
        go_region_held3 (fun W' => W'.cell? ⟨w3.heap.size, 0, none⟩ = some (.int .i64 k) ∧ W'.cell? ⟨w3.heap.size, 1, none⟩ = some (.int .i64 mi) ∧ W'.cell? ⟨w3.heap.size, 2, none⟩ = some (.int .i64 r) ∧ W'.cell? ⟨w3.heap.size, 3, none⟩ = some (.int .i64 c) ∧ W'.cell? ⟨w3.heap.size, 4, none⟩ = some (.slice sa sn sk) ∧ W'.cell? ⟨w.heap.size + 1, 1, none⟩ = some (.int .i64 j))
          ((refine HKP.out _ ?_; first | with_reducible exact grown_drew HGF.out | with_reducible exact HGF.out | with_reducible exact HG0.out | with_reducible exact HG1.out))
          (fail)
        go_wp2
        refine bodyPost_ret (v := .tuple #[.agg #[.int .i64 k, .int .i64 mi, .int .i64 r, .int .i64 c, .slice sa sn sk], .int .i64 j, .nilIface]) (by simp [results, Tryd.results12, go_sem, q0, q1, q2, q3, q4]) rfl ?_
        rw [← HRC.out.1, ← HRC.out.2]
        refine DecEnd.mk_yes HYE.out ?_ ?_ ?_ HJ.out.symm
        · rw [HRC.out.1, HRC.out.2]; exact (HL5.out.grown HGF.out HL5.out.size (fun k e => by rw [Option.some.inj e]; exact Nat.le_refl _)).drew
        · rw [HRC.out.1, HRC.out.2]; exact (HS5.out.keptB HGF.out (by have := HBW.out; omega)).isInts
        · exact HS5.out.nilOk
      · have HNO := hide (show rdMsg l = none by rw [HRD.out]; exact rdEnd_bad hm)
        rw [err_ne hm]
        obtain ⟨z0, z1, z2, z3, z4⟩ := HR5.out.f5
        obtain ⟨y0, y1, y2, y3, y4⟩ := HR5.out.c5
        have HF := hide (bk5 HR5.out (.int .i64 0) (.int .i64 0) (.int .i64 0) (.int .i64 0) (.slice none 0 0))
        obtain ⟨q0, q1, q2, q3, q4⟩ := HF.out.c5
        clear hm
        go_wp2_with fail
        exact bodyPost_ret (v := .tuple #[.agg #[.int .i64 0, .int .i64 0, .int .i64 0, .int .i64 0, .slice none 0 0], .int .i64 0, .iface 32 (.int .i64 7)]) (by simp [results, Tryd.results12, go_sem, q0, q1, q2, q3, q4]) rfl (DecEnd.mk_no HNO.out (HL5.out.grown (grw5 _ _ _ _ _ _ _) HL5.out.size (fun k e => by rw [Option.some.inj e]; exact Nat.le_refl _)))
end Go.Proofs.YtaajlggpjholeahDoor
