/- What Join of package batch comes to: batches joined. Condition: not more than two million batches. -/
import Derived.Test.YtokohpabmmcioaeDoorBatC3
namespace Go.Proofs.YtokohpabmmcioaeDoor
open Go.RowKit
set_option maxHeartbeats 16000000 in
set_option maxRecDepth 100000 in
theorem bjoin_any (v : Value) (ds : List (Mx × Mx)) (w : World) (hv : IsGds w v ds) (hmax : ds.length ≤ 2000000) :
    Calls Tryd.prog 14 #[v] w (BtErr w (joinX ds) (joinE ds)) := by
  obtain ⟨a, cap, rfl, hlc, hcm⟩ := hv.shape
  have HV := hide hv
  have HMX := hide hmax
  obtain ⟨n, hn⟩ : ∃ n, ds.length = n := ⟨_, rfl⟩
  have HN := hide hn
  rw [hn] at HV hmax ⊢
  clear hv hlc hcm hn
  obtain ⟨V, hV⟩ : ∃ V, V = w.alloc (.cells #[.int .i64 0, .int .i64 0, .slice none 0 0, .int .i64 0, .int .i64 0, .slice none 0 0] 26) := ⟨_, rfl⟩
  have HVV := hide hV
  have HWV : Hid (Below w.heap.size w V) := by rw [hV]; exact hide (below_one _ _)
  have HZB : Hid (Box V w.heap.size [.int .i64 0, .int .i64 0, .slice none 0 0, .int .i64 0, .int .i64 0, .slice none 0 0]) := by rw [hV]; exact hide (Box.new w _ 26 rfl)
  have HZF : Hid (Free V w.heap.size) := by rw [hV]; exact hide (Free.new w _ _ rfl)
  have HVS : Hid (V.heap.size = w.heap.size + 1) := by rw [hV]; exact hide (by simp)
  obtain ⟨X, hX⟩ : ∃ X, joinX ds = X := ⟨_, rfl⟩
  obtain ⟨E, hE⟩ : ∃ E, joinE ds = E := ⟨_, rfl⟩
  have HX := hide hX
  have HE := hide hE
  rw [hX, hE]
  clear hV hX hE
  by_cases c0 : n = 0
  case pos =>
    have hds : ds = [] := List.eq_nil_of_length_eq_zero (by have := HN.out; omega)
    have HC := hide (show E = 2 ∧ X = (noMx, noMx) by rw [← HE.out, ← HX.out, hds]; exact ⟨rfl, rfl⟩)
    have t0 := HZB.out 0 _ rfl; have f0 := HZF.out 0; have t1 := HZB.out 1 _ rfl; have f1 := HZF.out 1; have t2 := HZB.out 2 _ rfl; have f2 := HZF.out 2; have t3 := HZB.out 3 _ rfl; have f3 := HZF.out 3; have t4 := HZB.out 4 _ rfl; have f4 := HZF.out 4; have t5 := HZB.out 5 _ rfl; have f5 := HZF.out 5
    subst c0
    clear hds
    go_enter Tryd.func14, Tryd.ntmps14
    go_wp2_with fail
    rw [← HVV.out]
    go_wp2
    exact bodyPost_ret (v := .tuple #[.agg #[.int .i64 0, .int .i64 0, .slice none 0 0, .int .i64 0, .int .i64 0, .slice none 0 0], .iface 27 (.int .i64 2)]) (by simp [results, Tryd.results14, go_sem, t0, t1, t2, t3, t4, t5]) rfl (by rw [HC.out.2]; exact btErr_no (err_of HC.out.1.symm (by decide)) HWV.out)
  case neg =>
  have hn0 : ((n : Int) == 0) = false := by simp; omega
  have HNZ := hide c0
  clear c0
  go_enter Tryd.func14, Tryd.ntmps14
  go_wp2_with fail
  rw [← HVV.out]
  go_wp2
  go_loopw [14] (fun c wr => ∃ (i : Nat) (xi : Int), i ≤ n ∧ xi = (i : Int) ∧ c = .int .i64 xi ∧ bfaults (ds.take i) = 0 ∧ Below V.heap.size V wr) (fun c _ => n - (intOf c).toNat)
  case atStart => exact ⟨0, 0, Nat.zero_le _, rfl, rfl, rfl, Below.refl _ _⟩
  case round =>
    obtain ⟨i, xi, hi, hxi, rfl, hfs, hb⟩ := hrel
    have HXI := hide hxi
    have HFS := hide hfs
    have HVB := hide hb
    have HB := hide (below_next HWV.out hb)
    have hxi0 : 0 ≤ xi := by omega
    have hxi1 : xi ≤ 2000000 := by omega
    clear hxi hfs hb
    by_cases hlt : xi < (n : Int)
    · have hin : i < n := by have := HXI.out; omega
      have hxn : xi.toNat = i := by have := HXI.out; omega
      obtain ⟨d, hd⟩ : ∃ x, ds[i]? = some x := ⟨ds[i]'(by have := HN.out; omega), List.getElem?_eq_getElem _⟩
      obtain ⟨b, off, cp, sa, sn, sk, ta, tn, tk, ev, k0, k1, k2, k3, k4, k5, hs, ht⟩ := HV.out.at hd
      injection ev with ev1 ev2 ev3
      clear ev2 ev3
      subst ev1
      rw [← hxn] at k0 k1 k2 k3 k4 k5
      replace k0 := cell_below HB.out k0
      replace k1 := cell_below HB.out k1
      replace k2 := cell_below HB.out k2
      replace k3 := cell_below HB.out k3
      replace k4 := cell_below HB.out k4
      replace k5 := cell_below HB.out k5
      have HBA := hide (show Below w.heap.size w (wr.alloc (.cells #[.int .i64 d.1.rows, .int .i64 d.1.cols, .slice sa sn sk, .int .i64 d.2.rows, .int .i64 d.2.cols, .slice ta tn tk] 26)) from bel_alloc HB.out)
      have HVA := hide (show Below V.heap.size V (wr.alloc (.cells #[.int .i64 d.1.rows, .int .i64 d.1.cols, .slice sa sn sk, .int .i64 d.2.rows, .int .i64 d.2.cols, .slice ta tn tk] 26)) from bel_alloc HVB.out)
      have HCK := hide (bcheck_any d sa sn sk ta tn tk (wr.alloc (.cells #[.int .i64 d.1.rows, .int .i64 d.1.cols, .slice sa sn sk, .int .i64 d.2.rows, .int .i64 d.2.cols, .slice ta tn tk] 26)) (hs.below HBA.out) (ht.below HBA.out))
      obtain ⟨g, hg⟩ : ∃ g, batE d = g := ⟨_, rfl⟩
      rw [hg] at HCK
      have HG := hide (And.intro hg hd)
      clear hd hxn hs ht hg
      go_wp2_with fail
      refine HCK.out.mono ?_
      rintro e w2 ⟨rfl, hb2⟩
      have HB2 := hide (below_next HBA.out hb2)
      have HV2 := hide (below_next HVA.out hb2)
      clear hb2 k0 k1 k2 k3 k4 k5 HCK
      by_cases cg : g = 0
      · have HF2 := hide (show bfaults (ds.take (i + 1)) = 0 by rw [take_end HG.out.2, bfaults_snoc, if_pos HFS.out, HG.out.1]; exact cg)
        rw [err_eq cg]
        clear cg
        go_wp2
        go_roundw
        case rel => exact ⟨i + 1, _, by omega, by have := HXI.out; omega, rfl, HF2.out, HV2.out⟩
        case measure => have := HXI.out; simp [intOf]; omega
      · have hds : ds ≠ [] := fun q => by have := HG.out.2; rw [q] at this; simp at this
        have hbf : bfaults ds = g := bfaults_part HFS.out HG.out.2 HG.out.1 cg
        have HC := hide (show E = g ∧ X = (noMx, noMx) ∧ g ≠ 0 by
          have e1 : joinE ds = g := by unfold joinE; rw [if_neg hds, hbf, if_pos cg]
          exact ⟨by rw [← HE.out, e1], by rw [← HX.out]; unfold joinX; rw [if_neg (by rw [e1]; exact cg)], cg⟩)
        have t0 := (HZB.out.below HV2.out) 0 _ rfl; have f0 := (HZF.out.below HV2.out HZB.out.lt) 0; have t1 := (HZB.out.below HV2.out) 1 _ rfl; have f1 := (HZF.out.below HV2.out HZB.out.lt) 1; have t2 := (HZB.out.below HV2.out) 2 _ rfl; have f2 := (HZF.out.below HV2.out HZB.out.lt) 2; have t3 := (HZB.out.below HV2.out) 3 _ rfl; have f3 := (HZF.out.below HV2.out HZB.out.lt) 3; have t4 := (HZB.out.below HV2.out) 4 _ rfl; have f4 := (HZF.out.below HV2.out HZB.out.lt) 4; have t5 := (HZB.out.below HV2.out) 5 _ rfl; have f5 := (HZF.out.below HV2.out HZB.out.lt) 5
        have HBE := hide (show Below w.heap.size w ((((((w2.setCell ⟨w.heap.size, 0, none⟩ (.int .i64 0)).setCell ⟨w.heap.size, 1, none⟩ (.int .i64 0)).setCell ⟨w.heap.size, 2, none⟩ (.slice none 0 0)).setCell ⟨w.heap.size, 3, none⟩ (.int .i64 0)).setCell ⟨w.heap.size, 4, none⟩ (.int .i64 0)).setCell ⟨w.heap.size, 5, none⟩ (.slice none 0 0)) from bel_set (bel_set (bel_set (bel_set (bel_set (bel_set (HB2.out) (Nat.le_refl _)) (Nat.le_refl _)) (Nat.le_refl _)) (Nat.le_refl _)) (Nat.le_refl _)) (Nat.le_refl _))
        rw [err_ne cg]
        clear hds hbf cg
        go_wp2
        exact bodyPost_ret (v := .tuple #[.agg #[.int .i64 0, .int .i64 0, .slice none 0 0, .int .i64 0, .int .i64 0, .slice none 0 0], .iface 27 (.int .i64 g)]) (by simp [results, Tryd.results14, go_sem, t0, t1, t2, t3, t4, t5]) rfl (by rw [HC.out.2.1]; exact btErr_no (err_of HC.out.1.symm HC.out.2.2) HBE.out)
    · have hin : i = n := by have := HXI.out; omega
      have htk : ds.take i = ds := List.take_of_length_le (by have := HN.out; omega)
      have hbf : bfaults ds = 0 := by rw [← htk]; exact HFS.out
      have hds : ds ≠ [] := fun q => HNZ.out (by rw [← HN.out, q]; rfl)
      have HEX := hide (show stkE ds = E ∧ stkX ds = X by
        have e1 : joinE ds = stkE ds := by unfold joinE; rw [if_neg hds, hbf, if_neg (by simp)]
        refine ⟨by rw [← HE.out, e1], ?_⟩
        rw [← HX.out]; unfold joinX; rw [e1]; unfold stkX
        by_cases q : stkE ds = 0
        · simp [q]
        · simp [q])
      have HV' := HV.out
      have HST := hide (bstack_any (.slice a n cap) ds wr (HV.out.below HB.out) HMX.out)
      rw [HEX.out.1, HEX.out.2] at HST
      have HZR := hide (show Box wr w.heap.size [.int .i64 0, .int .i64 0, .slice none 0 0, .int .i64 0, .int .i64 0, .slice none 0 0] from HZB.out.below HVB.out)
      have HFR := hide (show Free wr w.heap.size from HZF.out.below HVB.out HZB.out.lt)
      clear hin htk hbf hds HV'
      go_wp2_with fail
      refine HST.out.mono ?_
      rintro e w3 ⟨pa, pn, pk, qa, qn, qk, rfl, hp, hq, hf1, hf2, hb3⟩
      have hlw : w.heap.size < wr.heap.size := HZR.out.lt
      have t0 := (HZR.out.below hb3) 0 _ rfl; have f0 := (HFR.out.below hb3 HZR.out.lt) 0; have t1 := (HZR.out.below hb3) 1 _ rfl; have f1 := (HFR.out.below hb3 HZR.out.lt) 1; have t2 := (HZR.out.below hb3) 2 _ rfl; have f2 := (HFR.out.below hb3 HZR.out.lt) 2; have t3 := (HZR.out.below hb3) 3 _ rfl; have f3 := (HFR.out.below hb3 HZR.out.lt) 3; have t4 := (HZR.out.below hb3) 4 _ rfl; have f4 := (HFR.out.below hb3 HZR.out.lt) 4; have t5 := (HZR.out.below hb3) 5 _ rfl; have f5 := (HFR.out.below hb3 HZR.out.lt) 5
      have HJ1 := hide (show IsInts ((((((w3.setCell ⟨w.heap.size, 0, none⟩ (.int .i64 X.1.rows)).setCell ⟨w.heap.size, 1, none⟩ (.int .i64 X.1.cols)).setCell ⟨w.heap.size, 2, none⟩ (.slice pa pn pk)).setCell ⟨w.heap.size, 3, none⟩ (.int .i64 X.2.rows)).setCell ⟨w.heap.size, 4, none⟩ (.int .i64 X.2.cols)).setCell ⟨w.heap.size, 5, none⟩ (.slice qa qn qk)) (.slice pa pn pk) X.1.cells from IsInts.aboveF hp hf1 ((abv_low (abv_low (abv_low (abv_low (abv_low (abv_low (Above.refl _ _) hlw) hlw) hlw) hlw) hlw) hlw)))
      have HJ2 := hide (show IsInts ((((((w3.setCell ⟨w.heap.size, 0, none⟩ (.int .i64 X.1.rows)).setCell ⟨w.heap.size, 1, none⟩ (.int .i64 X.1.cols)).setCell ⟨w.heap.size, 2, none⟩ (.slice pa pn pk)).setCell ⟨w.heap.size, 3, none⟩ (.int .i64 X.2.rows)).setCell ⟨w.heap.size, 4, none⟩ (.int .i64 X.2.cols)).setCell ⟨w.heap.size, 5, none⟩ (.slice qa qn qk)) (.slice qa qn qk) X.2.cells from IsInts.aboveF hq hf2 ((abv_low (abv_low (abv_low (abv_low (abv_low (abv_low (Above.refl _ _) hlw) hlw) hlw) hlw) hlw) hlw)))
      have HBE := hide (show Below w.heap.size w ((((((w3.setCell ⟨w.heap.size, 0, none⟩ (.int .i64 X.1.rows)).setCell ⟨w.heap.size, 1, none⟩ (.int .i64 X.1.cols)).setCell ⟨w.heap.size, 2, none⟩ (.slice pa pn pk)).setCell ⟨w.heap.size, 3, none⟩ (.int .i64 X.2.rows)).setCell ⟨w.heap.size, 4, none⟩ (.int .i64 X.2.cols)).setCell ⟨w.heap.size, 5, none⟩ (.slice qa qn qk)) from bel_set (bel_set (bel_set (bel_set (bel_set (bel_set (below_next HB.out hb3) (Nat.le_refl _)) (Nat.le_refl _)) (Nat.le_refl _)) (Nat.le_refl _)) (Nat.le_refl _)) (Nat.le_refl _))
      have HF12 := hide (And.intro (fresh_mono hf1 HB.out.size) (fresh_mono hf2 HB.out.size))
      clear hp hq hf1 hf2 hb3 hlw
      obtain ⟨EV, hEV⟩ : ∃ x, x = errV E := ⟨_, rfl⟩
      have HEV := hide hEV
      rw [← hEV]
      clear hEV
      go_wp2
      exact bodyPost_ret (v := .tuple #[.agg #[.int .i64 X.1.rows, .int .i64 X.1.cols, .slice pa pn pk, .int .i64 X.2.rows, .int .i64 X.2.cols, .slice qa qn qk], EV]) (by simp [results, Tryd.results14, go_sem, t0, t1, t2, t3, t4, t5]) rfl (by rw [HEV.out]; exact ⟨pa, pn, pk, qa, qn, qk, rfl, HJ1.out, HJ2.out, HF12.out.1, HF12.out.2, HBE.out⟩)
end Go.Proofs.YtokohpabmmcioaeDoor
