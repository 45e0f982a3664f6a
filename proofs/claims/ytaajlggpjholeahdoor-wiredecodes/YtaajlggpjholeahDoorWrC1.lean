/- What Encode of package wire comes to, and what it calls. -/
import Derived.Test.YtaajlggpjholeahDoorWrE
import Derived.Test.YtaajlggpjholeahDoorMCheck
import Derived.Laws.OwnMore
namespace Go.Proofs.YtaajlggpjholeahDoor
open Go.RowKit
/-- A block of cells, as it lies. -/
def WBk (w : World) (B : Nat) (cs : Array Value) (t : TypeId) : Prop := w.heap[B]? = some (.cells cs t (0, 0))
theorem WBk.lt {w : World} {B : Nat} {cs : Array Value} {t : TypeId} (h : WBk w B cs t) : B < w.heap.size := (Array.getElem?_eq_some_iff.1 h).1
theorem WBk.c {w : World} {B : Nat} {cs : Array Value} {t : TypeId} (h : WBk w B cs t) {i : Nat} {x : Value} (hx : cs[i]? = some x) : w.cell? ⟨B, i, none⟩ = some x := by rw [Joins.cell_of_block h]; exact hx
theorem WBk.f {w : World} {B : Nat} {cs : Array Value} {t : TypeId} (h : WBk w B cs t) (i : Nat) : w.frozen? ⟨B, i, none⟩ = false := Joins.unfrozen_of_block h i
theorem WBk.bel {w w' : World} {N B : Nat} {cs : Array Value} {t : TypeId} (h : WBk w B cs t) (hb : Below N w w') (hB : B < N) : WBk w' B cs t := (hb.block B hB).trans h
theorem WBk.kept {w w' : World} {B : Nat} {cs : Array Value} {t : TypeId} (h : WBk w B cs t) (hb : Below w.heap.size w w') : WBk w' B cs t := h.bel hb h.lt
theorem WBk.new (w : World) (cs : Array Value) (t : TypeId) : WBk (w.alloc (.cells cs t)) w.heap.size cs t := heap_alloc_new w _
theorem WBk.set {w : World} {B : Nat} {cs : Array Value} {t : TypeId} (h : WBk w B cs t) (i : Nat) (y : Value) : WBk (w.setCell ⟨B, i, none⟩ y) B (cs.setIfInBounds i y) t := by
  unfold WBk
  rw [Joins.block_setCell h]
theorem WBk.other {w : World} {B B' i : Nat} {cs : Array Value} {t : TypeId} (h : WBk w B cs t) (hne : B ≠ B') (y : Value) : WBk (w.setCell ⟨B', i, none⟩ y) B cs t := ((grw_set w B' i y).block B h.lt (fun e => hne (Option.some.inj e))).trans h
theorem OwnY.baseLe {w : World} {base : Nat} {v : Value} {l : List Int} (h : OwnY w base v l) (hl : l ≠ []) : base ≤ w.heap.size := by
  rcases h.1.2 with ⟨_, q⟩ | ⟨g, cap, cur, e, _⟩
  · exact absurd (List.eq_nil_of_length_eq_zero q) hl
  · have := World.ownsRow.lt h.1 g (by rw [e]; rfl)
    omega
theorem wnumof_any (x : Int) (w : World) (h0 : -2147483647 ≤ x) (h1 : x ≤ 2147483647) : Calls Tryd.prog 38 #[.int .i64 x] w fun e w' => e = .returned (.int .i64 (zig x : Int)) ∧ w' = w := by
  have HZ := hide (zig_cast x)
  by_cases c : x < 0
  · have HE := hide (show -2 * x - 1 = (zig x : Int) by rw [HZ.out, if_neg (by omega)])
    have hwy0 : IntKind.i64.wrap (-2 * x) = -2 * x := by rw [IntKind.wrap_i64]; omega
    have hwy : IntKind.i64.wrap (-2 * x - 1) = -2 * x - 1 := by rw [IntKind.wrap_i64]; omega
    go_enter Tryd.func38, Tryd.ntmps38
    go_wp2
    go_ret
    exact ⟨ret_int HE.out, rfl⟩
  · have HE := hide (show 2 * x = (zig x : Int) by rw [HZ.out, if_pos (by omega)])
    have hwy0 : IntKind.i64.wrap (2 * x) = 2 * x := by rw [IntKind.wrap_i64]; omega
    go_enter Tryd.func38, Tryd.ntmps38
    go_wp2
    go_ret
    exact ⟨ret_int HE.out, rfl⟩
set_option maxHeartbeats 4000000 in
set_option maxRecDepth 100000 in
theorem wchk_any (v : Value) (k mi : Int) (b : Mx) (w : World) (hv : IsMsg w v k mi b) : Calls Tryd.prog 21 #[v] w fun e w' => e = .returned (errV (msgF k mi b)) ∧ Below w.heap.size w w' := by
  obtain ⟨s, rfl, hs⟩ := hv
  obtain ⟨r, hr⟩ : ∃ r, b.rows = r := ⟨_, rfl⟩
  obtain ⟨c, hc⟩ : ∃ c, b.cols = c := ⟨_, rfl⟩
  obtain ⟨sa, sk, hse, hs2⟩ := id hs
  obtain ⟨sn, hsn⟩ : ∃ x, b.cells.length = x := ⟨_, rfl⟩
  rw [hsn] at hse
  subst hse
  obtain ⟨s, hse⟩ : ∃ s, s = Value.slice sa sn sk := ⟨_, rfl⟩
  rw [← hse] at hs ⊢
  clear hsn hs2
  have HB := hide (below_one w (.cells #[.int .i64 k, .int .i64 mi, .int .i64 r, .int .i64 c, s] 26))
  have HF := hide (check_any (.agg #[.int .i64 b.rows, .int .i64 b.cols, s]) b (w.alloc (.cells #[.int .i64 k, .int .i64 mi, .int .i64 r, .int .i64 c, s] 26)) ⟨s, rfl, hs.below HB.out⟩)
  obtain ⟨E, hE⟩ : ∃ E, errV (fault b) = E := ⟨_, rfl⟩
  rw [hr, hc, hE] at HF
  have HE := hide hE
  rw [hr, hc]
  subst hse
  clear hs
  have HN := hide (show (k < 1 ∨ 2 < k ∨ mi < 0 ∨ 11 < mi) → Value.iface 32 (.int .i64 1) = errV (msgF k mi b) from fun h => by rw [← msgF_one h, err_ne (by decide)])
  have HA := hide (show ¬ (k < 1 ∨ 2 < k ∨ mi < 0 ∨ 11 < mi) → E = errV (msgF k mi b) from fun h => by rw [← hE, ← msgF_mat h])
  clear hr hc hE
  by_cases c1 : k = 1
  · subst c1
    by_cases c3 : mi < 0
    · go_enter Tryd.func21, Tryd.ntmps21
      go_wp2
      go_ret
      exact ⟨congrArg Ending.returned (HN.out (by omega)), HB.out⟩
    by_cases c4 : 12 ≤ mi
    · go_enter Tryd.func21, Tryd.ntmps21
      go_wp2
      go_ret
      exact ⟨congrArg Ending.returned (HN.out (by omega)), HB.out⟩
    go_enter Tryd.func21, Tryd.ntmps21
    go_wp2_with (go_at_call 37; refine HF.out.mono ?_; rintro e w1 ⟨rfl, hb1⟩)
    go_ret
    exact ⟨congrArg Ending.returned (HA.out (by omega)), bel_on HB.out hb1⟩
  by_cases c2 : k = 2
  · subst c2
    by_cases c3 : mi < 0
    · go_enter Tryd.func21, Tryd.ntmps21
      go_wp2
      go_ret
      exact ⟨congrArg Ending.returned (HN.out (by omega)), HB.out⟩
    by_cases c4 : 12 ≤ mi
    · go_enter Tryd.func21, Tryd.ntmps21
      go_wp2
      go_ret
      exact ⟨congrArg Ending.returned (HN.out (by omega)), HB.out⟩
    go_enter Tryd.func21, Tryd.ntmps21
    go_wp2_with (go_at_call 37; refine HF.out.mono ?_; rintro e w1 ⟨rfl, hb1⟩)
    go_ret
    exact ⟨congrArg Ending.returned (HA.out (by omega)), bel_on HB.out hb1⟩
  have q1 : (k != 1) = true := bne_iff_ne.2 c1
  have q2 : (k != 2) = true := bne_iff_ne.2 c2
  go_enter Tryd.func21, Tryd.ntmps21
  go_wp2
  go_ret
  exact ⟨congrArg Ending.returned (HN.out (by omega)), HB.out⟩
set_option maxHeartbeats 8000000 in
set_option maxRecDepth 100000 in
theorem wappnum_any (v : Value) (l : List Int) (base n : Nat) (x : Int) (w : World) (hv : OwnY w base v l) (hbs : base ≤ w.heap.size) (hx : x = (n : Int)) (hn : n < 128 ^ 9) (hl : l.length ≤ 3000) : Calls Tryd.prog 22 #[v, .int .i64 x] w fun e w' => ∃ s, e = .returned s ∧ OwnY w' base s (l ++ sev n) ∧ base ≤ w'.heap.size ∧ (∀ w0 : World, Below w0.heap.size w0 w → w0.heap.size ≤ base → Below w0.heap.size w0 w') ∧ AsideY w w' v s ∧ w.heap.size ≤ w'.heap.size := by
  have HV := hide hv
  have HX := hide hx
  have HN := hide hn
  have HL := hide hl
  have HBS := hide hbs
  clear hv hx hn hl hbs
  go_enter Tryd.func22, Tryd.ntmps22
  go_wp2
  go_loopw [0, 1] (fun bv iv wr => ∃ (k m : Nat) (xm : Int) (pre : List Int), 0 < k ∧ k ≤ 9 ∧ m < 128 ^ k ∧ xm = (m : Int) ∧ iv = .int .i64 xm ∧ OwnY wr base bv pre ∧ pre ++ sevF k m = l ++ sev n ∧ pre.length + k ≤ 3009 ∧ base ≤ wr.heap.size ∧ (∀ w0 : World, Below w0.heap.size w0 w → w0.heap.size ≤ base → Below w0.heap.size w0 wr) ∧ AsideY w wr v bv ∧ w.heap.size ≤ wr.heap.size) (fun _ iv _ => (intOf iv).toNat)
  case atStart => exact ⟨9, n, x, l, by omega, by omega, HN.out, HX.out, rfl, HV.out, rfl, by have := HL.out; omega, HBS.out, (fun w0 h _ => h), AsideY.refl _ _, Nat.le_refl _⟩
  case round =>
    obtain ⟨k, m, xm, pre, hk0, hk9, hm, hxm, rfl, hown, heq, hlen, hsz, hbel, hasd, hgrw⟩ := hrel
    have HAS := hide (And.intro hasd hgrw)
    have hbig : m < 9223372036854775808 := Nat.lt_of_lt_of_le hm (Nat.le_trans (Nat.pow_le_pow_right (by omega) hk9) (by decide))
    have hx0 : 0 ≤ xm := by omega
    have hx1 : xm ≤ 9223372036854775807 := by omega
    have HO := hide hown
    have HQ := hide heq
    have HM := hide hm
    have HXM := hide hxm
    have HBE := hide hbel
    have HSZ := hide hsz
    obtain ⟨k', rfl⟩ : ∃ k', k = k' + 1 := ⟨k - 1, by omega⟩
    clear hown heq hm hxm hbel hbig hsz hasd hgrw
    by_cases hlt : 128 ≤ xm
    · obtain ⟨d, hd⟩ : ∃ d, xm % 128 + 128 = d := ⟨_, rfl⟩
      have hwd : IntKind.u8.wrap (xm % 128 + 128) = d := by rw [hd, IntKind.wrap_u8]; omega
      have HD0 := hide (show 0 ≤ d ∧ d < 256 by omega)
      have HS := hide (show sevF (k' + 1) m = d :: sevF k' (m / 128) by
        have := HXM.out
        rw [sevF, if_neg (by omega), show ((128 + m % 128 : Nat) : Int) = d by omega])
      have HLT := hide (OwnY.lit wr [d] (by simp) (fun z hz => by have := HD0.out; simp at hz; omega))
      clear hd
      go_wp2_with (at_builtin; refine app_bysW rfl _ _ rfl base _ (.slice (some ⟨wr.heap.size, 0, none⟩) 1 1) pre [d] rfl (HO.out.below (below_one _ _)) rfl HLT.out.isBys HLT.out.nilOk ?h1 ?h2 ?_)
      case h1 => first | omega | (simp; omega)
      case h2 => have := HSZ.out; first | omega | (rw [World.size_alloc]; omega)
      intro v' w2 hown hgr has2 hsz2
      have HA2 := hide (show AsideY w w2 v v' ∧ w.heap.size ≤ w2.heap.size from ⟨(HAS.out.1.trans HAS.out.2 (AsideY.below (below_one _ _) (Nat.le_refl _))).trans (Nat.le_trans HAS.out.2 (below_one _ _).size) has2, Nat.le_trans HAS.out.2 (Nat.le_trans (Nat.le_succ _) hsz2)⟩)
      clear has2 hsz2
      have HR := hide (show OwnY w2 base v' (pre ++ [d]) ∧ (∀ w0 : World, Below w0.heap.size w0 w → w0.heap.size ≤ base → Below w0.heap.size w0 w2) from ⟨hown, fun w0 h1 h2 => hgr w0 (bel_on (HBE.out w0 h1 h2) (below_one _ _)) h2⟩)
      have HS2 := hide (hown.baseLe (by simp))
      clear hown hgr
      go_wp2
      go_roundw
      case rel =>
        have hk1 := div_pow HM.out
        refine ⟨k', m / 128, _, pre ++ [d], ?_, by omega, hk1, by have := HXM.out; omega, rfl, HR.out.1, ?_, by simp; omega, HS2.out, HR.out.2, HA2.out⟩
        · rcases Nat.eq_zero_or_pos k' with e | e
          · rw [e] at hk1; simp at hk1; have := HXM.out; omega
          · exact e
        · rw [List.append_assoc, ← HQ.out, HS.out]; rfl
      case measure => simp [intOf]; omega
    · have hwd : IntKind.u8.wrap xm = xm := by rw [IntKind.wrap_u8]; omega
      have HS := hide (show l ++ sev n = pre ++ [xm] by
        have := HXM.out
        rw [← HQ.out, sevF, if_pos (by omega), HXM.out])
      have HLT := hide (OwnY.lit wr [xm] (by simp) (fun z hz => by simp at hz; omega))
      go_wp2_with (at_builtin; refine app_bysW rfl _ _ rfl base _ (.slice (some ⟨wr.heap.size, 0, none⟩) 1 1) pre [xm] rfl (HO.out.below (below_one _ _)) rfl HLT.out.isBys HLT.out.nilOk ?h1 ?h2 ?_)
      case h1 => first | omega | (simp; omega)
      case h2 => have := HSZ.out; first | omega | (rw [World.size_alloc]; omega)
      intro v' w2 hown hgr has2 hsz2
      have HA2 := hide (show AsideY w w2 v v' ∧ w.heap.size ≤ w2.heap.size from ⟨(HAS.out.1.trans HAS.out.2 (AsideY.below (below_one _ _) (Nat.le_refl _))).trans (Nat.le_trans HAS.out.2 (below_one _ _).size) has2, Nat.le_trans HAS.out.2 (Nat.le_trans (Nat.le_succ _) hsz2)⟩)
      clear has2 hsz2
      have HR := hide (show OwnY w2 base v' (l ++ sev n) ∧ base ≤ w2.heap.size ∧ (∀ w0 : World, Below w0.heap.size w0 w → w0.heap.size ≤ base → Below w0.heap.size w0 w2) from ⟨by rw [HS.out]; exact hown, hown.baseLe (by simp), fun w0 h1 h2 => hgr w0 (bel_on (HBE.out w0 h1 h2) (below_one _ _)) h2⟩)
      clear hown hgr
      go_wp2
      exact bodyPost_ret (v := v') (by simp [results, Tryd.results22, go_sem]) rfl ⟨_, rfl, HR.out.1, HR.out.2.1, HR.out.2.2, HA2.out⟩
end Go.Proofs.YtaajlggpjholeahDoor
