/- What Encode of package wire comes to, all of it. -/
import Derived.Test.YtaajlggpjholeahDoorWrC1
import Derived.BigQuiet
namespace Go.Proofs.YtaajlggpjholeahDoor
open Go.RowKit
set_option maxHeartbeats 8000000 in
set_option maxRecDepth 100000 in
theorem wsums_any (v : Value) (l : List Int) (w : World) (hv : IsBys w v l) : Calls Tryd.prog 24 #[v] w fun e w' => ∃ s0 s1, e = .returned (.agg #[.int .u8 s0, .int .u8 s1]) ∧ sumsG 0 0 l = [s0, s1] ∧ 0 ≤ s0 ∧ s0 < 255 ∧ 0 ≤ s1 ∧ s1 < 255 ∧ Below w.heap.size w w' := by
  obtain ⟨a, cap, rfl, h2, h3, h5, h4⟩ := hv
  obtain ⟨n, hn⟩ : ∃ n, l.length = n := ⟨_, rfl⟩
  have H4 := hide h4
  have H5 := hide h5
  have HN := hide hn
  rw [hn] at h2 ⊢
  have hmx : (n : Int) ≤ 9223372036854775807 := by unfold maxLen at h3; omega
  obtain ⟨W1, hW1⟩ : ∃ x, x = w.alloc (.cells #[.int .u8 0, .int .u8 0] 60) := ⟨_, rfl⟩
  have HW1 := hide hW1
  obtain ⟨W2, hW2⟩ : ∃ x, x = W1.alloc (.cells #[.int .i64 0, .int .i64 0] 89) := ⟨_, rfl⟩
  have HW2 := hide hW2
  have HS1 := hide (show W1.heap.size = w.heap.size + 1 by rw [hW1, World.size_alloc])
  have HK1 := hide (show WBk W1 w.heap.size #[.int .u8 0, .int .u8 0] 60 by rw [hW1]; exact WBk.new _ _ _)
  have HK2 := hide (show WBk W2 (w.heap.size + 1) #[.int .i64 0, .int .i64 0] 89 by rw [← HS1.out, hW2]; exact WBk.new _ _ _)
  have HK3 := hide (show WBk W2 w.heap.size #[.int .u8 0, .int .u8 0] 60 by rw [hW2]; exact HK1.out.kept (below_one _ _))
  have HB2 := hide (show Below w.heap.size w W2 by rw [hW2]; exact bel_on (by rw [hW1]; exact below_one _ _) (below_one _ _))
  clear h4 h5 hn hW1 hW2
  go_enter Tryd.func24, Tryd.ntmps24
  go_wp2
  rw [← HW1.out, ← HW2.out]
  go_loopw [8, 5] (fun iv _ wr => ∃ (k : Nat) (xi x y X Y : Int), k ≤ n ∧ xi = (k : Int) ∧ iv = .int .i64 xi ∧ x = X % 255 ∧ y = Y % 255 ∧ WBk wr (w.heap.size + 1) #[.int .i64 x, .int .i64 y] 89 ∧ WBk wr w.heap.size #[.int .u8 0, .int .u8 0] 60 ∧ Below w.heap.size w wr ∧ sumsG 0 0 l = sumsG X Y (l.drop k)) (fun iv _ _ => n - (intOf iv).toNat)
  case atStart => exact ⟨0, 0, 0, 0, 0, 0, Nat.zero_le _, rfl, rfl, rfl, rfl, HK2.out, HK3.out, HB2.out, by rw [List.drop_zero]⟩
  case round =>
    obtain ⟨k, xi, x, y, X, Y, hk, hxi, rfl, hxX, hyY, hk1, hk2, hbl, hs⟩ := hrel
    have hx0 : 0 ≤ x := by omega
    have hx1 : x < 255 := by omega
    have hy0 : 0 ≤ y := by omega
    have hy1 : y < 255 := by omega
    have HXY := hide (And.intro hxX hyY)
    have HXI := hide hxi
    have HS := hide hs
    have HB1 := hide hk1
    have HB0 := hide hk2
    have HBL := hide hbl
    have hi0 : 0 ≤ xi := by omega
    have hi1 : xi ≤ (n : Int) := by omega
    have c0 := hk1.c (i := 0) rfl
    have c1 := hk1.c (i := 1) rfl
    have f0 := hk1.f 0
    have f1 := hk1.f 1
    clear hxi hs hxX hyY hk1 hk2 hbl
    by_cases hlt : xi < (n : Int)
    · have hkl : k < l.length := by have := HN.out; have := HXI.out; omega
      obtain ⟨d, hd⟩ : ∃ d, l[k]? = some d := ⟨_, List.getElem?_eq_getElem hkl⟩
      obtain ⟨d0, d1⟩ := H5.out d (List.mem_of_getElem? hd)
      obtain ⟨b1, o1, ha1, hc1⟩ := H4.out.resolve_left (fun e => by rw [e] at hd; simp at hd)
      subst ha1
      have e1 := (HBL.out.cell (World.block_lt_of_cell? w _ (hc1 k d hd))).trans (hc1 k d hd)
      rw [show k = xi.toNat by have := HXI.out; omega] at e1
      have HD := hide (show l.drop k = d :: l.drop (k + 1) by
        obtain ⟨hi, e⟩ := List.getElem?_eq_some_iff.1 hd
        rw [List.drop_eq_getElem_cons hi, e])
      have HR := hide (show sumsG 0 0 l = sumsG (X + d) (Y + (X + d) % 255) (l.drop (k + 1)) by rw [HS.out, HD.out, sumsG])
      obtain ⟨x', hx'⟩ : ∃ x', (x + d) % 255 = x' := ⟨_, rfl⟩
      obtain ⟨y', hy'⟩ : ∃ y', (y + x') % 255 = y' := ⟨_, rfl⟩
      have HX' := hide (show x' = (X + d) % 255 by have := HXY.out; omega)
      have HY' := hide (show y' = (Y + (X + d) % 255) % 255 by have := HXY.out; have := HX'.out; omega)
      have g0 : (wr.setCell ⟨w.heap.size + 1, 0, none⟩ (.int .i64 x')).cell? ⟨w.heap.size + 1, 0, none⟩ = some (.int .i64 x') := (HB1.out.set 0 _).c rfl
      have g1 : (wr.setCell ⟨w.heap.size + 1, 0, none⟩ (.int .i64 x')).cell? ⟨w.heap.size + 1, 1, none⟩ = some (.int .i64 y) := (HB1.out.set 0 _).c rfl
      have g2 : (wr.setCell ⟨w.heap.size + 1, 0, none⟩ (.int .i64 x')).frozen? ⟨w.heap.size + 1, 1, none⟩ = false := (HB1.out.set 0 _).f 1
      clear hc1 hd hkl
      go_wp2
      go_roundw
      case rel =>
        refine ⟨k + 1, _, x', y', X + d, _, by have := HXI.out; omega, by have := HXI.out; omega, rfl, HX'.out, HY'.out, ?_, ?_, ?_, HR.out⟩
        · exact (HB1.out.set 0 (.int .i64 x')).set 1 (.int .i64 y')
        · exact (HB0.out.other (by omega) _).other (by omega) _
        · exact (HBL.out.setCell (p := ⟨w.heap.size + 1, 0, none⟩) (Nat.le_succ _) _).setCell (p := ⟨w.heap.size + 1, 1, none⟩) (Nat.le_succ _) _
      case measure => have := HXI.out; simp [intOf]; omega
    · have HE := hide (show sumsG 0 0 l = [x, y] by
        rw [HS.out, List.drop_of_length_le (by have := HN.out; have := HXI.out; omega)]
        have := HXY.out
        rw [this.1, this.2]
        rfl)
      have hwx : IntKind.u8.wrap x = x := by rw [IntKind.wrap_u8]; omega
      have hwy : IntKind.u8.wrap y = y := by rw [IntKind.wrap_u8]; omega
      have z0 := HB0.out.c (i := 0) rfl
      have z1 := HB0.out.c (i := 1) rfl
      have z2 := HB0.out.f 0
      have z3 := HB0.out.f 1
      have HF := hide (((HB0.out.set 0 (.int .u8 x)).set 1 (.int .u8 y)))
      have q0 := HF.out.c (i := 0) rfl
      have q1 := HF.out.c (i := 1) rfl
      go_wp2
      refine bodyPost_ret (v := .agg #[.int .u8 x, .int .u8 y]) (by simp [results, Tryd.results24, go_sem, q0, q1]) rfl ⟨x, y, rfl, HE.out, hx0, hx1, hy0, hy1, ?_⟩
      exact (HBL.out.setCell (p := ⟨w.heap.size, 0, none⟩) (Nat.le_refl _) _).setCell (p := ⟨w.heap.size, 1, none⟩) (Nat.le_refl _) _
end Go.Proofs.YtaajlggpjholeahDoor
