/- What message of package wire's reader comes to. -/
import Derived.Test.YtaajlggpjholeahDoorWrC5
namespace Go.Proofs.YtaajlggpjholeahDoor
open Go.RowKit
def MsgEnd (w w' : World) (B : Nat) (v : Value) (l : List Int) (e : Ending) : Prop := w.grownBy w' (some B) ∧ ((e = .returned (.tuple #[.agg #[.int .i64 0, .int .i64 0, .int .i64 0, .int .i64 0, .slice none 0 0], .bool false]) ∧ rdMsg l = none) ∨ ∃ k mi b s a', e = .returned (.tuple #[.agg #[.int .i64 k, .int .i64 mi, .int .i64 b.rows, .int .i64 b.cols, s], .bool true]) ∧ OwnZ w' w.heap.size s b.cells ∧ a' ≤ l.length ∧ WBk w' B #[v, .int .i64 (a' : Int)] 67 ∧ rdMsg l = rdEnd l k mi b (l.drop a'))
set_option maxHeartbeats 16000000 in
set_option maxRecDepth 100000 in
theorem wmessage_any (v : Value) (l : List Int) (B : Nat) (w0 w : World) (hv : IsBys w0 v l) (h0 : Below w0.heap.size w0 w) (hwB : w0.heap.size ≤ B) (hB : WBk w B #[v, .int .i64 0] 67) : Calls Tryd.prog 29 #[.pointer (some ⟨B, 0, none⟩)] w (fun e w' => MsgEnd w w' B v l e) := by
  have HV := hide hv
  have H0 := hide h0
  have HWB := hide hwB
  have HLT := hide hB.lt
  obtain ⟨W1, hW1⟩ : ∃ x, x = w.alloc (.cells #[.int .i64 0, .int .i64 0, .int .i64 0, .int .i64 0, .slice none 0 0] 26) := ⟨_, rfl⟩
  have HW1 := hide hW1
  have HS1 := hide (show W1.heap.size = w.heap.size + 1 by rw [hW1, World.size_alloc])
  have HR1 := hide (show WBk W1 w.heap.size #[.int .i64 0, .int .i64 0, .int .i64 0, .int .i64 0, .slice none 0 0] 26 by rw [hW1]; exact WBk.new _ _ _)
  have HB1 := hide (show WBk W1 B #[v, .int .i64 0] 67 by rw [hW1]; exact hB.kept (below_one _ _))
  have HG1 := hide (show w.grownBy W1 (some B) by rw [hW1]; exact World.grownBy_alloc _ _ _)
  have HL1 := hide (show Below w0.heap.size w0 W1 by rw [hW1]; exact bel_on h0 (below_one _ _))
  have HN1 := hide (wnumbers_any v l B 0 2 0 2 w0 W1 hv HL1.out hwB HB1.out rfl (Nat.zero_le _) rfl (by omega))
  unfold NumsEnd at HN1
  rw [List.drop_zero] at HN1
  have HQ := hide (show ∀ k : Nat, some B = some k → w.heap.size ≤ k ∨ k = B from fun k e => .inr (Option.some.inj e).symm)
  have HQR := hide (show ∀ k : Nat, some w.heap.size = some k → w.heap.size ≤ k ∨ k = B from fun k e => .inl (by rw [Option.some.inj e]; exact Nat.le_refl _))
  clear hv h0 hwB hB hW1
  cases h4 : rdNs 2 l with
  | none =>
    rw [h4] at HN1
    have HNO := hide (rdMsg_no h4)
    clear h4
    go_enter Tryd.func29, Tryd.ntmps29
    go_wp2_with (go_at_call 40; rw [← HW1.out]; refine HN1.out.mono ?_; rintro e w2 ⟨hg2, rfl⟩; have HG2 := hide hg2; have HR2 := hide (show WBk w2 w.heap.size #[.int .i64 0, .int .i64 0, .int .i64 0, .int .i64 0, .slice none 0 0] 26 from (hg2.block _ HR1.out.lt (fun e => by have := Option.some.inj e; have := HLT.out; omega)).trans HR1.out); obtain ⟨z0, z1, z2, z3, z4⟩ := HR2.out.f5; obtain ⟨y0, y1, y2, y3, y4⟩ := HR2.out.c5; clear hg2)
    have HF := hide (bk5 HR2.out (.int .i64 0) (.int .i64 0) (.int .i64 0) (.int .i64 0) (.slice none 0 0))
    obtain ⟨q0, q1, q2, q3, q4⟩ := HF.out.c5
    exact bodyPost_ret (v := .tuple #[.agg #[.int .i64 0, .int .i64 0, .int .i64 0, .int .i64 0, .slice none 0 0], .bool false]) (by simp [results, Tryd.results29, go_sem, q0, q1, q2, q3, q4]) rfl ⟨grw_trans (grw_trans HG1.out HG2.out HQ.out) (grw5 _ _ _ _ _ _ _) HQR.out, .inl ⟨rfl, HNO.out⟩⟩
  | some p =>
    obtain ⟨hs, t⟩ := p
    rw [h4] at HN1
    have H4 := hide h4
    clear h4
    go_enter Tryd.func29, Tryd.ntmps29
    go_wp2_with (go_at_call 40; rw [← HW1.out]; refine HN1.out.mono ?_; rintro e w2 ⟨hg2, hd, a1, rfl, ho2, hl2, hb2, ha1, ht1, hk2⟩; obtain ⟨k, mi, rfl⟩ := twoI_of hl2; have HG2 := hide (grw_trans HG1.out hg2 HQ.out); have HO2 := hide ho2; have HA1 := hide ha1; have HT1 := hide ht1; have HL2 := hide (show Below w0.heap.size w0 w2 from HL1.out.grown hg2 HL1.out.size (fun k e => by rw [← Option.some.inj e]; exact HWB.out)); have HR2 := hide (show WBk w2 w.heap.size #[.int .i64 0, .int .i64 0, .int .i64 0, .int .i64 0, .slice none 0 0] 26 from (hg2.block _ HR1.out.lt (fun e => by have := Option.some.inj e; have := HLT.out; omega)).trans HR1.out); have HME := hide (wmatrix_any v l B a1 (a1 : Int) w0 w2 HV.out HL2.out HWB.out hk2 rfl ha1); obtain ⟨hg, hcap, rfl⟩ := Joins.ownsRow_form (show w2.ownsRow W1.heap.size 3 1 hd 2 ([k, mi].map (Value.int .i64)) from ho2) (by omega); clear hg2 ho2 hl2 hb2 ha1 ht1 hk2)
    have HOW := hide (show w2.ownsRow W1.heap.size 3 1 (.slice (some ⟨hg, 0, none⟩) 2 hcap) 2 ([k, mi].map (Value.int .i64)) from HO2.out)
    have HGL := hide (World.ownsRow.lt HOW.out hg rfl)
    have HTW := hide (show rdMsg l = match rdM (l.drop a1) with | none => none | some (b, t') => rdEnd l k mi b t' by rw [← HT1.out]; exact rdMsg_two H4.out)
    refine HME.out.mono ?_
    rintro e w3 ⟨hg3, he3⟩
    have HG3 := hide (grw_trans HG2.out hg3 HQ.out)
    have HR3 := hide (show WBk w3 w.heap.size #[.int .i64 0, .int .i64 0, .int .i64 0, .int .i64 0, .slice none 0 0] 26 from (hg3.block _ HR2.out.lt (fun e => by have := Option.some.inj e; have := HLT.out; omega)).trans HR2.out)
    have HOH := hide (show w3.ownsRow W1.heap.size 3 1 (.slice (some ⟨hg, 0, none⟩) 2 hcap) 2 ([k, mi].map (Value.int .i64)) from World.ownsRow.kept HOW.out hg3 (.inr (fun e => by have e2 : hg = B := Option.some.inj e; have := HGL.out.1; have := HS1.out; have := HLT.out; omega)))
    have HW23 := hide hg3.size
    clear hg3
    rcases he3 with ⟨rfl, hno⟩ | ⟨b, s, a2, rfl, hs, ha2, hk3, hyes⟩
    · have HNO := hide (show rdMsg l = none by rw [HTW.out, hno])
      have HR4 := hide (HR3.out.kept (below_one w3 (.cells #[.int .i64 0, .int .i64 0, .slice none 0 0] 24)))
      have HG4 := hide (grw_bel HG3.out (below_one w3 (.cells #[.int .i64 0, .int .i64 0, .slice none 0 0] 24)) HG3.out.size)
      obtain ⟨z0, z1, z2, z3, z4⟩ := HR4.out.f5
      obtain ⟨y0, y1, y2, y3, y4⟩ := HR4.out.c5
      have HF := hide (bk5 HR4.out (.int .i64 0) (.int .i64 0) (.int .i64 0) (.int .i64 0) (.slice none 0 0))
      obtain ⟨q0, q1, q2, q3, q4⟩ := HF.out.c5
      clear hno
      go_wp2
      exact bodyPost_ret (v := .tuple #[.agg #[.int .i64 0, .int .i64 0, .int .i64 0, .int .i64 0, .slice none 0 0], .bool false]) (by simp [results, Tryd.results29, go_sem, q0, q1, q2, q3, q4]) rfl ⟨grw_trans HG4.out (grw5 _ _ _ _ _ _ _) HQR.out, .inl ⟨rfl, HNO.out⟩⟩
    · have HYE := hide (show rdMsg l = rdEnd l k mi b (l.drop a2) by rw [HTW.out, hyes])
      obtain ⟨sa, sk, hse⟩ := hs.shape
      obtain ⟨sn, hsn⟩ : ∃ x, b.cells.length = x := ⟨_, rfl⟩
      rw [hsn] at hse
      subst hse
      obtain ⟨r, hr⟩ : ∃ x, b.rows = x := ⟨_, rfl⟩
      obtain ⟨c, hc⟩ : ∃ x, b.cols = x := ⟨_, rfl⟩
      rw [hr, hc]
      have HRC := hide (And.intro hr hc)
      have HA2 := hide ha2
      obtain ⟨wb, hwb⟩ : ∃ x, x = (w3.alloc (.cells #[.int .i64 r, .int .i64 c, .slice sa sn sk] 24)).drew := ⟨_, rfl⟩
      have HWBB := hide hwb
      have hbb : Below w3.heap.size w3 wb := by rw [hwb]; exact (below_one _ _).drew
      have HBB := hide hbb
      have HNB := hide (show WBk wb w3.heap.size #[.int .i64 r, .int .i64 c, .slice sa sn sk] 24 by rw [hwb]; exact WBk.new w3 _ _)
      have hcl : ∀ (j : Nat) (x : Value), ([k, mi].map (Value.int .i64))[j]? = some x → j < 2 → wb.cell? ⟨hg, j, none⟩ = some x := fun j x h1 h2 => (hbb.cell (p := ⟨hg, j, none⟩) (Nat.lt_of_lt_of_le HGL.out.2 HW23.out)).trans ((World.ownsRow.cellAt HOH.out j (by omega)).trans h1)
      have j0 := hcl 0 (.int .i64 k) rfl (by omega)
      have j1 := hcl 1 (.int .i64 mi) rfl (by omega)
      obtain ⟨j4, j5, j6⟩ := HNB.out.q3
      have HRB := hide (HR3.out.kept hbb)
      have HKR := hide (hk3.kept hbb)
      have HSS := hide (hs.below hbb)
      have HGW := hide (grw_bel HG3.out hbb HG3.out.size)
      obtain ⟨z0, z1, z2, z3, z4⟩ := HRB.out.f5
      obtain ⟨y0, y1, y2, y3, y4⟩ := HRB.out.c5
      have HFB := hide (bk5 HRB.out (.int .i64 k) (.int .i64 mi) (.int .i64 r) (.int .i64 c) (.slice sa sn sk))
      obtain ⟨q0, q1, q2, q3, q4⟩ := HFB.out.c5
      clear hcl hwb hbb hs ha2 hk3 hyes hr hc hsn
      go_wp2
      refine region_tail 8 (by kernel_rfl) (by kernel_rfl) ?_
      rw [← HWBB.out]
      simp only [List.take, List.drop]
      repeat still_step
      refine wpStill_nil ?_
      go_wp2
      have HG5 := hide (grw5 wb w.heap.size (.int .i64 k) (.int .i64 mi) (.int .i64 r) (.int .i64 c) (.slice sa sn sk))
      refine bodyPost_ret (v := .tuple #[.agg #[.int .i64 k, .int .i64 mi, .int .i64 r, .int .i64 c, .slice sa sn sk], .bool true]) (by simp [results, Tryd.results29, go_sem, q0, q1, q2, q3, q4]) rfl ⟨?_, .inr ⟨k, mi, b, _, a2, by rw [HRC.out.1, HRC.out.2], ?_, HA2.out, ?_, HYE.out⟩⟩
      · exact grw_trans HGW.out HG5.out HQR.out
      · exact (HSS.out.keptB HG5.out HR2.out.lt).base HG2.out.size
      · exact (HG5.out.block B HKR.out.lt (fun e => by have := Option.some.inj e; have := HLT.out; omega)).trans HKR.out
end Go.Proofs.YtaajlggpjholeahDoor
