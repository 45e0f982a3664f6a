/- What BatchFault and SizesOf of the document's answer come to. -/
import Derived.Test.YtokohpabmmcioaeDoorBatch
import Derived.Test.YtokohpabmmcioaeDoorRFault
import Derived.Test.YtokohpabmmcioaeDoorRBlank
import Derived.Test.YtokohpabmmcioaeDoorReg
namespace Go.Proofs.YtokohpabmmcioaeDoor
open Go.RowKit
set_option maxHeartbeats 4000000 in
set_option maxRecDepth 100000 in
theorem rbatfault_any (b : Mx × Mx) (sa : Option Addr) (sn sk : Nat) (ta : Option Addr) (tn tk : Nat) (w : World) (hs : IsInts w (.slice sa sn sk) b.1.cells) (ht : IsInts w (.slice ta tn tk) b.2.cells) :
    Calls Tryd.prog 5 #[.agg #[.int .i64 b.1.rows, .int .i64 b.1.cols, .slice sa sn sk, .int .i64 b.2.rows, .int .i64 b.2.cols, .slice ta tn tk]] w fun e w' => e = .returned (.int .i64 (batE b)) ∧ Below w.heap.size w w' := by
  obtain ⟨V, hV⟩ : ∃ V, V = w.alloc (.cells #[.int .i64 b.1.rows, .int .i64 b.1.cols, .slice sa sn sk, .int .i64 b.2.rows, .int .i64 b.2.cols, .slice ta tn tk] 26) := ⟨_, rfl⟩
  have HV := hide hV
  have HWV : Hid (Below w.heap.size w V) := by rw [hV]; exact hide (below_one _ _)
  have HBX : Hid (Box V w.heap.size [.int .i64 b.1.rows, .int .i64 b.1.cols, .slice sa sn sk, .int .i64 b.2.rows, .int .i64 b.2.cols, .slice ta tn tk]) := by rw [hV]; exact hide (Box.new w _ 26 rfl)
  obtain ⟨E, hE⟩ : ∃ E, batE b = E := ⟨_, rfl⟩
  have HE := hide hE
  rw [hE]
  have HF1 := hide (fault_any (.agg #[.int .i64 b.1.rows, .int .i64 b.1.cols, .slice sa sn sk]) b.1 V ⟨_, rfl, hs.below HWV.out⟩)
  have HF2 := hide (fun W (h : Below w.heap.size w W) => fault_any (.agg #[.int .i64 b.2.rows, .int .i64 b.2.cols, .slice ta tn tk]) b.2 W ⟨_, rfl, ht.below h⟩)
  obtain ⟨g1, hg1⟩ : ∃ x, fault b.1 = x := ⟨_, rfl⟩
  obtain ⟨g2, hg2⟩ : ∃ x, fault b.2 = x := ⟨_, rfl⟩
  rw [hg1] at HF1
  rw [hg2] at HF2
  have HG := hide (And.intro hg1 hg2)
  have d0 := HBX.out 0 _ rfl
  have d1 := HBX.out 1 _ rfl
  have d2 := HBX.out 2 _ rfl
  rw [HV.out] at d0 d1 d2
  clear hV hE hs ht hg1 hg2
  go_enter Tryd.func5, Tryd.ntmps5
  go_wp2_with fail
  rw [← HV.out]
  refine HF1.out.mono ?_
  rintro e w1 ⟨rfl, hb1⟩
  have HB1 := hide hb1
  have HW1 := hide (below_next HWV.out hb1)
  clear hb1 d0 d1 d2 HF1
  by_cases c1 : g1 = 0
  · subst c1
    have d3 := (HBX.out.below HB1.out) 3 _ rfl
    have d4 := (HBX.out.below HB1.out) 4 _ rfl
    have d5 := (HBX.out.below HB1.out) 5 _ rfl
    go_wp2_with fail
    refine (HF2.out _ HW1.out).mono ?_
    rintro e w2 ⟨rfl, hb2⟩
    have HB2 := hide (below_next HB1.out hb2)
    have HW2 := hide (below_next HW1.out hb2)
    clear hb2 d3 d4 d5
    by_cases c2 : g2 = 0
    · subst c2
      have d0 := (HBX.out.below HB2.out) 0 _ rfl
      have d3 := (HBX.out.below HB2.out) 3 _ rfl
      have HE3 := hide (show (if b.1.rows ≠ b.2.rows ∨ b.1.rows = 0 then 2 else 0) = E by rw [← HE.out]; unfold batE; rw [HG.out.1, HG.out.2]; simp)
      obtain ⟨r1, e1⟩ : ∃ x, b.1.rows = x := ⟨_, rfl⟩
      obtain ⟨r2, e2⟩ : ∃ x, b.2.rows = x := ⟨_, rfl⟩
      rw [e1, e2] at HE3
      rw [e1] at d0 ⊢
      rw [e2] at d3 ⊢
      clear e1 e2
      by_cases c3 : r1 = r2
      · subst c3
        have n3 : (r1 != r1) = false := by simp
        by_cases c4 : r1 = 0
        · subst c4
          obtain rfl : E = 2 := by rw [← HE3.out, if_pos (.inr rfl)]
          go_wp2
          exact bodyPost_ret (v := .int .i64 2) (by simp [results, Tryd.results5, go_sem]) rfl ⟨rfl, HW2.out⟩
        · have n4 : (r1 == 0) = false := by simpa using c4
          obtain rfl : E = 0 := by rw [← HE3.out, if_neg (by simp [c4])]
          clear c4
          go_wp2
          exact bodyPost_ret (v := .int .i64 0) (by simp [results, Tryd.results5, go_sem]) rfl ⟨rfl, HW2.out⟩
      · have n3 : (r1 != r2) = true := by simpa using c3
        obtain rfl : E = 2 := by rw [← HE3.out, if_pos (.inl c3)]
        clear c3
        go_wp2
        exact bodyPost_ret (v := .int .i64 2) (by simp [results, Tryd.results5, go_sem]) rfl ⟨rfl, HW2.out⟩
    · obtain rfl : g2 = E := by rw [← HE.out]; unfold batE; rw [HG.out.1, HG.out.2, if_neg (by simp), if_pos c2]
      have n2 : (g2 == 0) = false := by simpa using c2
      clear c2
      go_wp2
      exact bodyPost_ret (v := .int .i64 g2) (by simp [results, Tryd.results5, go_sem]) rfl ⟨rfl, HW2.out⟩
  · obtain rfl : g1 = E := by rw [← HE.out]; unfold batE; rw [HG.out.1, if_pos c1]
    have n1 : (g1 == 0) = false := by simpa using c1
    clear c1
    go_wp2
    exact bodyPost_ret (v := .int .i64 g1) (by simp [results, Tryd.results5, go_sem]) rfl ⟨rfl, HW1.out⟩
set_option maxHeartbeats 4000000 in
set_option maxRecDepth 100000 in
theorem rsizes_any (rows parts : Int) (w : World) : Calls Tryd.prog 9 #[.int .i64 rows, .int .i64 parts] w fun e w' => ∃ s, e = .returned (.tuple #[s, .int .i64 (szE rows parts)]) ∧ IsInts w' s (szX rows parts) ∧ Below w.heap.size w w' ∧ (∀ r c, Fresh w.heap.size (.agg #[r, c, s])) := by
  obtain ⟨E, hE⟩ : ∃ E, szE rows parts = E := ⟨_, rfl⟩
  obtain ⟨X, hX⟩ : ∃ X, szX rows parts = X := ⟨_, rfl⟩
  have HE := hide hE
  have HX := hide (show (if E = 0 then tab parts.toNat (fun j => cnt parts.toNat j rows.toNat) else []) = X by rw [← hX, ← hE]; rfl)
  rw [hE, hX]
  clear hE hX
  have bad : ∀ {k : Int}, E = k → k ≠ 0 → X = [] := fun h hk => by rw [← HX.out, if_neg (by rw [h]; exact hk)]
  by_cases c0 : rows < 1
  · obtain rfl : E = 1 := by rw [← HE.out]; unfold szE; rw [if_pos (.inl c0)]
    obtain rfl : X = [] := bad rfl (by decide)
    clear bad
    go_enter Tryd.func9, Tryd.ntmps9
    go_wp2
    exact bodyPost_ret (v := .tuple #[.slice none 0 0, .int .i64 1]) (by simp [results, Tryd.results9, go_sem]) rfl ⟨_, rfl, IsInts.nil _, Below.refl _ _, fun r c => fresh_no _ _ _⟩
  by_cases c1 : 24 < rows
  · obtain rfl : E = 1 := by rw [← HE.out]; unfold szE; rw [if_pos (.inr (.inl c1))]
    obtain rfl : X = [] := bad rfl (by decide)
    clear bad
    go_enter Tryd.func9, Tryd.ntmps9
    go_wp2
    exact bodyPost_ret (v := .tuple #[.slice none 0 0, .int .i64 1]) (by simp [results, Tryd.results9, go_sem]) rfl ⟨_, rfl, IsInts.nil _, Below.refl _ _, fun r c => fresh_no _ _ _⟩
  by_cases c2 : parts < 1
  · obtain rfl : E = 1 := by rw [← HE.out]; unfold szE; rw [if_pos (.inr (.inr (.inl c2)))]
    obtain rfl : X = [] := bad rfl (by decide)
    clear bad
    go_enter Tryd.func9, Tryd.ntmps9
    go_wp2
    exact bodyPost_ret (v := .tuple #[.slice none 0 0, .int .i64 1]) (by simp [results, Tryd.results9, go_sem]) rfl ⟨_, rfl, IsInts.nil _, Below.refl _ _, fun r c => fresh_no _ _ _⟩
  by_cases c3 : 12 < parts
  · obtain rfl : E = 1 := by rw [← HE.out]; unfold szE; rw [if_pos (.inr (.inr (.inr c3)))]
    obtain rfl : X = [] := bad rfl (by decide)
    clear bad
    go_enter Tryd.func9, Tryd.ntmps9
    go_wp2
    exact bodyPost_ret (v := .tuple #[.slice none 0 0, .int .i64 1]) (by simp [results, Tryd.results9, go_sem]) rfl ⟨_, rfl, IsInts.nil _, Below.refl _ _, fun r c => fresh_no _ _ _⟩
  by_cases c4 : rows < parts
  · obtain rfl : E = 2 := by rw [← HE.out]; unfold szE; rw [if_neg (by omega), if_pos c4]
    obtain rfl : X = [] := bad rfl (by decide)
    clear bad
    go_enter Tryd.func9, Tryd.ntmps9
    go_wp2
    exact bodyPost_ret (v := .tuple #[.slice none 0 0, .int .i64 2]) (by simp [results, Tryd.results9, go_sem]) rfl ⟨_, rfl, IsInts.nil _, Below.refl _ _, fun r c => fresh_no _ _ _⟩
  obtain rfl : E = 0 := by rw [← HE.out]; unfold szE; rw [if_neg (by omega), if_neg c4]
  clear bad
  obtain ⟨P, hP⟩ : ∃ P : Nat, parts = (P : Int) := ⟨parts.toNat, by omega⟩
  obtain ⟨R, hR⟩ : ∃ R : Nat, rows = (R : Int) := ⟨rows.toNat, by omega⟩
  have HXE : Hid (X = tab P (fun j => cnt P j R)) := hide (by rw [← HX.out, if_pos rfl, hP, hR]; simp)
  have hmk := run_mk parts P hP (by omega)
  have HPR := hide (And.intro hP hR)
  have HPB := hide (show 0 < P ∧ P ≤ 12 ∧ R ≤ 24 by omega)
  clear hP hR
  go_enter Tryd.func9, Tryd.ntmps9
  go_wp2
  clear hmk
  have HR0 := hide (zeros_row w P)
  go_loopw [7] (fun q wr => ∃ (i : Nat) (xi : Int), i ≤ R ∧ xi = (i : Int) ∧ q = .int .i64 xi ∧ RowAt 3 wr w.heap.size (tab P (fun j => cnt P j i)) ∧ (w.alloc (.cells (zeros P) 3)).grownBy wr (some w.heap.size)) (fun q _ => R - (intOf q).toNat)
  case atStart => exact ⟨0, 0, Nat.zero_le _, rfl, rfl, HR0.out, World.grownBy.refl _ _⟩
  case round =>
    obtain ⟨i, xi, hi, hxi, rfl, hro, hgr⟩ := hrel
    have HRO := hide hro
    have HGR := hide hgr
    have HXI := hide hxi
    have hxi0 : 0 ≤ xi := by omega
    have hxi1 : xi ≤ 24 := by have := HPB.out; omega
    clear hro hgr hxi
    by_cases hlt : xi < rows
    · have hin : i < R := by have := HXI.out; have := HPR.out.2; omega
      have hm : xi.tmod parts = ((i % P : Nat) : Int) := by rw [HXI.out, HPR.out.1, Int.tmod_eq_emod_of_nonneg (by omega)]; exact (Int.natCast_emod i P).symm
      obtain ⟨k, hk⟩ : ∃ k, i % P = k := ⟨_, rfl⟩
      have hkP : k < P := by rw [← hk]; exact Nat.mod_lt _ HPB.out.1
      have HKP := hide hkP
      rw [hk] at hm
      obtain ⟨xk, hxk⟩ : ∃ xk : Int, xk = (k : Int) := ⟨_, rfl⟩
      have HXK := hide hxk
      rw [← hxk] at hm
      have hxk0 : 0 ≤ xk := by omega
      have hxk1 : xk < (P : Int) := by omega
      have hxkn : xk.toNat = k := by omega
      have hbd := cnt_le P k i
      have hbn := cnt_nonneg P k i
      obtain ⟨u, hu⟩ : ∃ u, cnt P k i = u := ⟨_, rfl⟩
      rw [hu] at hbd hbn
      have hu0 : 0 ≤ u := hbn
      have hu1 : u ≤ 24 := by have := HPB.out; omega
      have dx : wr.cell? ⟨w.heap.size, xk.toNat, none⟩ = some (.int .i64 u) := by rw [hxkn, ← hu]; exact HRO.out.cell (tab_at hkP)
      have fx : wr.frozen? ⟨w.heap.size, xk.toNat, none⟩ = false := HRO.out.frozen _
      have HST := hide (show (tab P (fun j => cnt P j i)).set xk.toNat (u + 1) = tab P (fun j => cnt P j (i + 1)) by
        rw [hxkn, tab_set]
        refine tab_congr (fun q _ => ?_)
        show _ = cnt P q i + if i % P = q then 1 else 0
        rw [hk]
        by_cases hq : q = k
        · subst hq; rw [if_pos rfl, if_pos rfl, hu]
        · rw [if_neg hq, if_neg (fun e => hq e.symm)]; omega)
      have hp0 : ¬ parts = 0 := by omega
      clear hkP hk hxk hxkn hbd hbn hu
      go_wp2
      go_roundw
      case rel => exact ⟨i + 1, _, by omega, by have := HXI.out; omega, rfl, by rw [← HST.out]; exact HRO.out.set _ _, grown_set HGR.out _ _⟩
      case measure => have := HXI.out; have := HPR.out.2; simp [intOf]; omega
    · have hin : i = R := by have := HXI.out; have := HPR.out.2; omega
      have HI := hide (show IsInts wr (.slice (some ⟨w.heap.size, 0, none⟩) P P) X by rw [HXE.out, ← hin]; exact HRO.out.isTab (by unfold maxLen; have := HPB.out; omega))
      have HB := hide (show Below w.heap.size w wr from (below_one w (.cells (zeros P) 3)).grown HGR.out (by simp) (fun k hk => Nat.le_of_eq (Option.some.inj hk)))
      clear hin
      go_wp2
      exact bodyPost_ret (v := .tuple #[.slice (some ⟨w.heap.size, 0, none⟩) P P, .int .i64 0]) (by simp [results, Tryd.results9, go_sem]) rfl ⟨_, rfl, HI.out, HB.out, fun r c => fresh_at (Nat.le_refl _) _ _ _⟩
end Go.Proofs.YtokohpabmmcioaeDoor
