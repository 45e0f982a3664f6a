/- What NetWide of the document's answer comes to. -/
import Derived.Test.YtbkkhdekjgabfadDoorNetP
import Derived.Test.YtbkkhdekjgabfadDoorRLWide
import Derived.Test.YtbkkhdekjgabfadDoorRLB
namespace Go.Proofs.YtbkkhdekjgabfadDoor
open Go.RowKit
set_option maxHeartbeats 4000000 in
set_option maxRecDepth 100000 in
theorem rnetwide_any (v : Value) (ls : List Ly) (n : Int) (w : World) (hv : IsLys w v ls) :
    Calls Tryd.prog 7 #[v, .int .i64 n] w fun e w' => e = .returned (.tuple #[.int .i64 (nwX ls n), .int .i64 (nwE ls n)]) ∧ Below w.heap.size w w' := by
  obtain ⟨a, cap, rfl, hlc, hcm⟩ := hv.shape
  have HV := hide hv
  obtain ⟨N, hN⟩ : ∃ N, ls.length = N := ⟨_, rfl⟩
  have HN := hide hN
  have hNm : N ≤ maxLen := by omega
  unfold maxLen at hNm
  obtain ⟨X, hX⟩ : ∃ X, nwX ls n = X := ⟨_, rfl⟩
  obtain ⟨E, hE⟩ : ∃ E, nwE ls n = E := ⟨_, rfl⟩
  have HX := hide (And.intro hX hE)
  rw [hX, hE]
  rw [hN] at HV ⊢
  clear hX hE hv hN hlc hcm
  by_cases h12 : 12 < N
  · obtain rfl : E = 3 := by rw [← HX.out.2]; unfold nwE; rw [if_pos (by rw [HN.out]; exact h12)]
    obtain rfl : X = 0 := by rw [← HX.out.1]; unfold nwX; rw [HX.out.2, if_neg (by decide)]
    have h12' : (12 : Int) < (N : Int) := by omega
    go_enter Tryd.func7, Tryd.ntmps7
    go_wp2
    exact bodyPost_ret (v := .tuple #[.int .i64 0, .int .i64 3]) (by simp [results, Tryd.results7, go_sem]) rfl ⟨rfl, Below.refl _ _⟩
  · have h12' : ¬ (12 : Int) < (N : Int) := by omega
    have hE0 : netE ls n = E := by rw [← HX.out.2]; unfold nwE; rw [if_neg (by rw [HN.out]; exact h12)]
    have hX0 : (if E = 0 then netW ls n else 0) = X := by rw [← HX.out.1]; unfold nwX; rw [HX.out.2]
    have HEE := hide (And.intro hE0 hX0)
    clear hE0 hX0 hNm
    go_enter Tryd.func7, Tryd.ntmps7
    go_wp2
    go_loopw [1, 6, 7] (fun s a _e wr => ∃ (i : Nat) (xi m : Int), i ≤ N ∧ xi = (i : Int) ∧ a = .int .i64 xi ∧ s = .int .i64 m ∧ netE (ls.drop i) m = E ∧ netW (ls.drop i) m = netW ls n ∧ Below w.heap.size w wr) (fun _ a _ _ => N - (intOf a).toNat)
    case atStart => exact ⟨0, 0, n, Nat.zero_le _, rfl, rfl, rfl, HEE.out.1, rfl, Below.refl _ _⟩
    case round =>
      obtain ⟨i, xi, m, hi, hxi, rfl, rfl, he, hw, hb⟩ := hrel
      have HXI := hide hxi
      have HR := hide (And.intro he hw)
      have HB := hide hb
      have hxi0 : 0 ≤ xi := by omega
      have hxi1 : xi ≤ 12 := by omega
      clear hxi he hw hb
      by_cases hlt : xi < (N : Int)
      · have hin : i < N := by have := HXI.out; omega
        have hxn : xi.toNat = i := by have := HXI.out; omega
        obtain ⟨l, hl⟩ : ∃ l, ls[i]? = some l := ⟨ls[i]'(by have := HN.out; omega), List.getElem?_eq_getElem _⟩
        obtain ⟨b, off, cp, sa, sn, sk, ta, tn, tk, ev, k0, k1, k2, k3, k4, k5, k6, hly⟩ := HV.out.at hl
        injection ev with ev1 ev2 ev3
        clear ev2 ev3
        subst ev1
        obtain ⟨lk, e0⟩ : ∃ r, l.k = r := ⟨_, rfl⟩
        obtain ⟨lr, e1⟩ : ∃ r, l.w.rows = r := ⟨_, rfl⟩
        obtain ⟨lc, e2⟩ : ∃ r, l.w.cols = r := ⟨_, rfl⟩
        obtain ⟨br, e3⟩ : ∃ r, l.b.rows = r := ⟨_, rfl⟩
        obtain ⟨bc, e4⟩ : ∃ r, l.b.cols = r := ⟨_, rfl⟩
        rw [e0, e1, e2, e3, e4] at hly
        rw [e0] at k0
        rw [e1] at k1
        rw [e2] at k2
        rw [e3] at k4
        rw [e4] at k5
        rw [← hxn] at k0 k1 k2 k3 k4 k5 k6
        have HK := hide (fun W (h : Below w.heap.size w W) => And.intro (cell_below h k0) (And.intro (cell_below h k1) (And.intro (cell_below h k2) (And.intro (cell_below h k3) (And.intro (cell_below h k4) (And.intro (cell_below h k5) (cell_below h k6)))))))
        have HLY := hide hly
        have HDR := hide (drop_at hl)
        clear k0 k1 k2 k3 k4 k5 k6 hly e0 e1 e2 e3 e4 hl hxn
        obtain ⟨k0, k1, k2, k3, k4, k5, k6⟩ := HK.out wr HB.out
        go_wp2_with fail
        refine (rlfault_any _ l _ (HLY.out.below HB.out)).mono ?_
        rintro e w1 ⟨rfl, hb1⟩
        have HB1 := hide (below_next HB.out hb1)
        clear hb1 k0 k1 k2 k3 k4 k5 k6
        obtain ⟨he, hw⟩ := HR.out
        rw [HDR.out] at he hw
        have HE1 := hide he
        have HW1 := hide hw
        clear he hw
        by_cases hf : lfault l = 0
        · rw [hf]
          by_cases hm0 : m < 0
          · have hEE : 1 = E := by rw [← HE1.out]; unfold netE; rw [show wideE l m = 1 by unfold wideE; rw [if_neg (by simp [hf]), if_pos (.inl hm0)], if_pos (by decide)]
            subst hEE
            have hX0 : 0 = X := by rw [← HEE.out.2, if_neg (by decide)]
            subst hX0
            clear hf
            go_wp2
            exact bodyPost_ret (v := .tuple #[.int .i64 0, .int .i64 1]) (by simp [results, Tryd.results7, go_sem]) rfl ⟨rfl, HB1.out⟩
          · by_cases hm1 : 12 < m
            · have hEE : 1 = E := by rw [← HE1.out]; unfold netE; rw [show wideE l m = 1 by unfold wideE; rw [if_neg (by simp [hf]), if_pos (.inr hm1)], if_pos (by decide)]
              subst hEE
              have hX0 : 0 = X := by rw [← HEE.out.2, if_neg (by decide)]
              subst hX0
              clear hf
              go_wp2
              exact bodyPost_ret (v := .tuple #[.int .i64 0, .int .i64 1]) (by simp [results, Tryd.results7, go_sem]) rfl ⟨rfl, HB1.out⟩
            · have HF := hide hf
              have hg0 : 0 ≤ givesL l m := by
                obtain ⟨_, _, fw, _, _⟩ := lgood_of hf
                obtain ⟨_, Cw, gw⟩ := good_of fw
                have := gw.c
                unfold givesL; split <;> omega
              have HG0 := hide hg0
              have HM := hide (show ¬ (m < 0 ∨ 12 < m) by omega)
              clear hf hg0
              obtain ⟨k0, k1, k2, k3, k4, k5, k6⟩ := HK.out w1 HB1.out
              go_wp2_with fail
              refine (rwide_any _ l m _ (HLY.out.below HB1.out)).mono ?_
              rintro e w2 ⟨rfl, hb2⟩
              have HB2 := hide (below_next HB1.out hb2)
              clear hb2 k0 k1 k2 k3 k4 k5 k6
              cases htk : takesL l m with
              | true =>
                rw [wideR_yes htk]
                have hE2 := HE1.out
                have hW2 := HW1.out
                unfold netE at hE2
                rw [show wideE l m = 0 by unfold wideE; rw [if_neg (by simp [HF.out]), if_neg HM.out, if_neg (by simp [htk])], if_neg (by decide)] at hE2
                replace hW2 : netW (ls.drop (i + 1)) (givesL l m) = netW ls n := hW2
                have hg := HG0.out
                obtain ⟨q, hq⟩ : ∃ q, givesL l m = q := ⟨_, rfl⟩
                rw [hq] at hE2 hW2 hg ⊢
                have HR2 := hide (And.intro hE2 hW2)
                clear hE2 hW2 htk hq
                go_wp2
                go_roundw
                case rel => exact ⟨i + 1, _, q, by omega, by have := HXI.out; omega, rfl, rfl, HR2.out.1, HR2.out.2, HB2.out⟩
                case measure => have := HXI.out; simp [intOf]; omega
              | false =>
                rw [wideR_no htk]
                have hEE : 2 = E := by rw [← HE1.out]; unfold netE; rw [show wideE l m = 2 by unfold wideE; rw [if_neg (by simp [HF.out]), if_neg HM.out, if_pos htk], if_pos (by decide)]
                subst hEE
                have hX0 : 0 = X := by rw [← HEE.out.2, if_neg (by decide)]
                subst hX0
                clear htk
                go_wp2
                exact bodyPost_ret (v := .tuple #[.int .i64 0, .int .i64 2]) (by simp [results, Tryd.results7, go_sem]) rfl ⟨rfl, HB2.out⟩
        · have hEE : lfault l = E := by rw [← HE1.out]; unfold netE; rw [show wideE l m = lfault l by unfold wideE; rw [if_pos hf], if_pos hf]
          have hE0 : (E == 0) = false := by rw [← hEE]; simp [hf]
          have hE1 : (E != 0) = true := by rw [← hEE]; simp [hf]
          have hX0 : 0 = X := by rw [← HEE.out.2, if_neg (by rw [← hEE]; exact hf)]
          rw [hEE]
          subst hX0
          clear hf hEE
          go_wp2
          exact bodyPost_ret (v := .tuple #[.int .i64 0, .int .i64 E]) (by simp [results, Tryd.results7, go_sem]) rfl ⟨rfl, HB1.out⟩
      · have hin : i = N := by have := HXI.out; omega
        obtain ⟨he, hw⟩ := HR.out
        rw [hin, ← HN.out, List.drop_length] at he hw
        unfold netE at he
        replace hw : m = netW ls n := hw
        have hx := HEE.out.2
        rw [← hw] at hx
        clear hw hin
        by_cases hm0 : m < 0
        · rw [if_pos (.inl hm0)] at he
          subst he
          rw [if_neg (by decide)] at hx
          subst hx
          go_wp2
          exact bodyPost_ret (v := .tuple #[.int .i64 0, .int .i64 1]) (by simp [results, Tryd.results7, go_sem]) rfl ⟨rfl, HB.out⟩
        · by_cases hm1 : 12 < m
          · rw [if_pos (.inr hm1)] at he
            subst he
            rw [if_neg (by decide)] at hx
            subst hx
            go_wp2
            exact bodyPost_ret (v := .tuple #[.int .i64 0, .int .i64 1]) (by simp [results, Tryd.results7, go_sem]) rfl ⟨rfl, HB.out⟩
          · rw [if_neg (by omega)] at he
            subst he
            rw [if_pos rfl] at hx
            subst hx
            go_wp2
            exact bodyPost_ret (v := .tuple #[.int .i64 m, .int .i64 0]) (by simp [results, Tryd.results7, go_sem]) rfl ⟨rfl, HB.out⟩
end Go.Proofs.YtbkkhdekjgabfadDoor
