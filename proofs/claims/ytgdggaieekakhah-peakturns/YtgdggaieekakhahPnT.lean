/- What takeTurns, build, Wave and Turns of package plan come to. -/
import Derived.Test.YtgdggaieekakhahPnF
import Derived.Test.YtgdggaieekakhahPnP
import Derived.Test.YtgdggaieekakhahPlD
import Derived.Shelf.Abstract
namespace Go.Proofs.Ytgdggaieekakhah
open Go.RowKit
theorem OwnA.below {w w' : World} {base : Nat} {v : Value} {l : List (Int × Int)} (h : OwnA w base v l) (hb : Below w.heap.size w w') : OwnA w' base v l := by
  refine World.ownsRow.kept (row := none) h ⟨hb.os, hb.tape, hb.output, hb.size, fun k hk _ => hb.block k hk⟩ ?_
  cases e : v.ownBlock with
  | none => exact .inl rfl
  | some k => exact .inr (by simp)
theorem run_mkp (e s size bytes : Nat) (z : Value) (hu : Try.prog.underlying s = some (.slice e)) (hi : (Try.prog.info? e).map (fun i => (i.zero, i.size, i.bytes)) = some (some z, size, bytes)) (L : Int) (n : Nat) (hL : L = (n : Int)) (hn : bytes * n ≤ 281474976710656) (hm : n ≤ 9223372036854775807) (W : World) :
    (Instr.makeSlice s (.int .i64 0) (.int .i64 L)).run Try.prog W = .ok (.slice (some ⟨W.heap.size, 0, none⟩) 0 n) (W.alloc (.cells (madeCells z.cells (n * size)) e)) := by
  obtain ⟨i0, hi0, hz0, hz1, hz2⟩ := info_parts hi
  subst hL
  have hr := run_make (P := Try.prog) W s e i0 z hu hi0 hz0 .i64 .i64 0 (n : Int) (by omega) (by omega) (by rw [hz2]; omega) (by omega)
  simpa [hz1] using hr
theorem OwnA.made {base cap : Nat} {w : World} (cs : Array Value) (hb : base ≤ w.heap.size) (hc : cap ≤ maxLen) (hs : cs.size = cap * 2) : OwnA (w.alloc (.cells cs 34)) base (.slice (some ⟨w.heap.size, 0, none⟩) 0 cap) [] :=
  ⟨by simp [cellsA], .inr ⟨w.heap.size, cap, cs, rfl, hb, heap_alloc_new w _, Nat.zero_le _, hc, hs, by simp [cellsA]⟩⟩
theorem OwnP.made {base cap : Nat} {w : World} (cs : Array Value) (hb : base ≤ w.heap.size) (hc : cap ≤ maxLen) (hs : cs.size = cap * 1) : OwnP (w.alloc (.cells cs 32)) base (.slice (some ⟨w.heap.size, 0, none⟩) 0 cap) [] :=
  ⟨[], ⟨by simp, .inr ⟨w.heap.size, cap, cs, rfl, hb, heap_alloc_new w _, Nat.zero_le _, hc, hs, by simp⟩⟩, fun i l h => by simp at h⟩
theorem turnL_len2 (first M : Nat) (i : Nat) (hi : i ≤ 12) (hf : first ≤ 12) : (fwdL first ++ turnL first M i).length ≤ 36 := by
  have := turnL_len first M i
  rw [List.length_append, fwdL_len]; omega
set_option maxHeartbeats 8000000 in
set_option maxRecDepth 100000 in
theorem taket_any (first M : Nat) (xf m : Int) (w : World) (hxf : xf = (first : Int)) (hm : m = (M : Int)) (hf : first ≤ 12) (hM : M ≤ 12) : Calls Try.prog 15 #[.int .i64 xf, .int .i64 m] w fun e w' => ∃ s, e = .returned s ∧ OwnA w' w.heap.size s (fwdL first ++ turnL first M M) ∧ Below w.heap.size w w' := by
  have HXF := hide hxf
  have HMM := hide hm
  have hf0 : 0 ≤ xf := by omega
  have hf1 : xf ≤ 12 := by omega
  have hm0 : 0 ≤ m := by omega
  have hm1 : m ≤ 12 := by omega
  have hmk := run_mkp 34 32 2 16 (.agg #[.int .i64 0, .int .i64 0]) Try.underlying32 infoAct (2 * m) (2 * M) (by omega) (by omega) (by omega)
  have HO0 := hide (OwnA.made (w := w) (base := w.heap.size) (cap := 2 * M) (madeCells (Value.agg #[.int .i64 0, .int .i64 0]).cells (2 * M * 2)) (Nat.le_refl _) (by unfold maxLen; omega) (size_madeCells _ _))
  have HB0 := hide (below_one w (.cells (madeCells (Value.agg #[.int .i64 0, .int .i64 0]).cells (2 * M * 2)) 34))
  obtain ⟨W0, hW0⟩ : ∃ W0, W0 = w.alloc (.cells (madeCells (Value.agg #[.int .i64 0, .int .i64 0]).cells (2 * M * 2)) 34) := ⟨_, rfl⟩
  rw [← hW0] at HO0 HB0
  replace hmk := (hmk w).trans (by rw [← hW0])
  clear hxf hm hW0
  go_enter Try.func15, Try.ntmps15
  go_wp2
  clear hmk
  go_loopw [5, 12] (fun av iv wr => ∃ (k : Nat) (xi : Int), k ≤ first ∧ xi = (k : Int) ∧ iv = .int .i64 xi ∧ OwnA wr w.heap.size av (fwdL k) ∧ Below w.heap.size w wr) (fun _ iv _ => first - (intOf iv).toNat)
  case atStart => exact ⟨0, 0, Nat.zero_le _, rfl, rfl, HO0.out, HB0.out⟩
  case round =>
    obtain ⟨k, xi, hk, hxi, rfl, hro, hbw⟩ := hrel
    have HRO := hide hro
    have HBW := hide hbw
    have HXI := hide hxi
    have hx0 : 0 ≤ xi := by omega
    have hx1 : xi ≤ 12 := by omega
    obtain ⟨sa, sk, hse⟩ := hro.shape
    rw [fwdL_len] at hse
    subst hse
    clear hro hbw hxi
    by_cases hlt : xi < xf
    · go_wp2_with (first | (go_at_call 19; refine (fwd_any _ _).mono ?_; rintro e w1 ⟨rfl, hb1⟩; have HR1 := hide (HRO.out.below hb1); have HB1 := hide (below_go HBW.out hb1); clear hb1) | (at_builtin; refine app_act rfl _ _ rfl w.heap.size _ (fwdL k) 1 xi rfl ?h1 rfl ?h2 ?h3 ?_))
      case h1 => exact HR1.out.alloc _
      case h2 => rw [fwdL_len]; omega
      case h3 => exact HB1.out.size
      intro v' w2 hown hgr
      have HO2 := hide (show OwnA w2 w.heap.size v' (fwdL (k + 1)) by rw [fwdL_succ, ← HXI.out]; exact hown)
      have HB2 := hide (hgr w (below_go HB1.out (below_one _ _)) (Nat.le_refl _))
      clear hown hgr
      go_wp2
      go_roundw
      case rel => exact ⟨k + 1, _, by have := HXI.out; have := HXF.out; omega, by have := HXI.out; omega, rfl, HO2.out, HB2.out⟩
      case measure => have := HXI.out; have := HXF.out; simp [intOf]; omega
    · obtain rfl : k = first := by have := HXI.out; have := HXF.out; omega
      have HO1 := hide (show OwnA wr w.heap.size (.slice sa k sk) (fwdL k ++ turnL k M 0) by unfold turnL; rw [List.append_nil]; exact HRO.out)
      go_wp2
      go_loopw [5, 22] (fun av iv w2 => ∃ (j : Nat) (xj : Int), j ≤ M ∧ xj = (j : Int) ∧ iv = .int .i64 xj ∧ OwnA w2 w.heap.size av (fwdL k ++ turnL k M j) ∧ Below w.heap.size w w2) (fun _ iv _ => M - (intOf iv).toNat)
      case atStart => exact ⟨0, 0, Nat.zero_le _, rfl, rfl, HO1.out, HBW.out⟩
      case round =>
        obtain ⟨j, xj, hj, hxj, rfl, hro, hbw⟩ := hrel
        have HR2 := hide hro
        have HB2 := hide hbw
        have HXJ := hide hxj
        have hy0 : 0 ≤ xj := by omega
        have hy1 : xj ≤ 12 := by omega
        have HLEN := hide (turnL_len2 k M j (by omega) hf)
        obtain ⟨sa2, sk2, hse⟩ := hro.shape
        obtain ⟨LN, hLN⟩ : ∃ x, (fwdL k ++ turnL k M j).length = x := ⟨_, rfl⟩
        rw [hLN] at hse HLEN
        subst hse
        obtain ⟨LL, hLL⟩ : ∃ x, fwdL k ++ turnL k M j = x := ⟨_, rfl⟩
        rw [hLL] at HR2 hLN
        have HLL := hide hLL
        have HLN := hide hLN
        clear hro hbw hxj hLN hLL
        by_cases hlt2 : xj < m
        · by_cases hc : xf + xj < m
          · have HT := hide (show fwdL k ++ turnL k M (j + 1) = LL ++ [(1, xf + xj)] ++ [(2, xj)] by
              unfold turnL
              rw [if_pos (by have := HXF.out; have := HXJ.out; have := HMM.out; omega), ← List.append_assoc, ← List.append_assoc, HLL.out, show ((k + j : Nat) : Int) = xf + xj by have := HXF.out; have := HXJ.out; omega, HXJ.out])
            go_wp2_with (first | (go_at_call 19; refine (fwd_any _ _).mono ?_; rintro e w1 ⟨rfl, hb1⟩; have HR3 := hide (HR2.out.below hb1); have HB3 := hide (below_go HB2.out hb1); clear hb1) | (at_builtin; refine app_act rfl _ _ rfl w.heap.size _ LL 1 (xf + xj) rfl ?h1 rfl ?h2 ?h3 ?_))
            case h1 => exact HR3.out.alloc _
            case h2 => have := HLEN.out; have := HLN.out; omega
            case h3 => exact HB3.out.size
            intro v' w2 hown hgr
            have HO4 := hide hown
            have HB4 := hide (hgr w (below_go HB3.out (below_one _ _)) (Nat.le_refl _))
            clear hown hgr
            go_wp2_with (first | (go_at_call 20; refine (bwd_any _ _).mono ?_; rintro e w3 ⟨rfl, hb1⟩; have HR5 := hide (HO4.out.below hb1); have HB5 := hide (below_go HB4.out hb1); clear hb1) | (at_builtin; refine app_act rfl _ _ rfl w.heap.size _ (LL ++ [(1, xf + xj)]) 2 xj rfl ?h1 rfl ?h2 ?h3 ?_))
            case h1 => exact HR5.out.alloc _
            case h2 => rw [List.length_append]; have := HLEN.out; have := HLN.out; simp; omega
            case h3 => exact HB5.out.size
            intro v6 w6 hown hgr
            have HO6 := hide (show OwnA w6 w.heap.size v6 (fwdL k ++ turnL k M (j + 1)) by rw [HT.out, List.append_assoc]; exact hown)
            have HB6 := hide (hgr w (below_go HB5.out (below_one _ _)) (Nat.le_refl _))
            clear hown hgr
            go_wp2
            go_roundw
            case rel => exact ⟨j + 1, _, by have := HXJ.out; have := HMM.out; omega, by have := HXJ.out; omega, rfl, HO6.out, HB6.out⟩
            case measure => have := HXJ.out; have := HMM.out; simp [intOf]; omega
          · have HT := hide (show fwdL k ++ turnL k M (j + 1) = LL ++ [(2, xj)] by
              unfold turnL
              rw [if_neg (by have := HXF.out; have := HXJ.out; have := HMM.out; omega), List.append_nil, ← List.append_assoc, HLL.out, HXJ.out])
            go_wp2_with (first | (go_at_call 20; refine (bwd_any _ _).mono ?_; rintro e w3 ⟨rfl, hb1⟩; have HR5 := hide (HR2.out.below hb1); have HB5 := hide (below_go HB2.out hb1); clear hb1) | (at_builtin; refine app_act rfl _ _ rfl w.heap.size _ LL 2 xj rfl ?h1 rfl ?h2 ?h3 ?_))
            case h1 => exact HR5.out.alloc _
            case h2 => have := HLEN.out; have := HLN.out; omega
            case h3 => exact HB5.out.size
            intro v6 w6 hown hgr
            have HO6 := hide (show OwnA w6 w.heap.size v6 (fwdL k ++ turnL k M (j + 1)) by rw [HT.out]; exact hown)
            have HB6 := hide (hgr w (below_go HB5.out (below_one _ _)) (Nat.le_refl _))
            clear hown hgr
            go_wp2
            go_roundw
            case rel => exact ⟨j + 1, _, by have := HXJ.out; have := HMM.out; omega, by have := HXJ.out; omega, rfl, HO6.out, HB6.out⟩
            case measure => have := HXJ.out; have := HMM.out; simp [intOf]; omega
        · have HE := hide (show OwnA wr w.heap.size (.slice sa2 LN sk2) (fwdL k ++ turnL k M M) by
            have h := HR2.out
            rw [← HLL.out, show j = M by have := HXJ.out; have := HMM.out; omega] at h
            exact h)
          go_wp2
          exact bodyPost_ret (v := .slice sa2 LN sk2) (by simp [results, Try.results15, go_sem]) rfl ⟨_, rfl, HE.out, HB2.out⟩
end Go.Proofs.Ytgdggaieekakhah
