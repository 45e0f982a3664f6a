/- What build, Wave and Turns of package plan come to. -/
import Derived.Test.YtgdggaieekakhahPnB
namespace Go.Proofs.Ytgdggaieekakhah
open Go.RowKit
theorem pn_new1 (V : World) (x : Value) (t : TypeId) {B : Nat} (hB : V.heap.size = B) : (V.alloc (.cells #[x] t)).cell? ⟨B, 0, none⟩ = some x := by subst hB; simp
theorem numE_make (S M : Int) : numE S M = makeE S M := by
  unfold numE makeE
  by_cases c : S < 1 ∨ 6 < S ∨ M < 1 ∨ 12 < M
  · rw [if_pos (by omega), if_pos c]
  · rw [if_neg (by omega), if_neg c]
theorem turnL_ne (first M i : Nat) (h : 0 < i) : turnL first M i ≠ [] := by
  obtain ⟨j, rfl⟩ : ∃ j, i = j + 1 := ⟨i - 1, by omega⟩
  unfold turnL
  simp
theorem stageX_ne (S M : Nat) (wave : Bool) (s : Nat) (h : 0 < M) : stageX S M wave s ≠ [] := by
  unfold stageX
  intro e
  exact turnL_ne _ M M h (List.append_eq_nil_iff.1 e).2
theorem makeE_in {S M : Int} (h : makeE S M = 0) : 1 ≤ S ∧ S ≤ 6 ∧ 1 ≤ M ∧ M ≤ 12 := by
  unfold makeE at h
  split at h
  · cases h
  · omega
set_option maxHeartbeats 8000000 in
set_option maxRecDepth 100000 in
theorem build_any (K : Nat) (cap : Array Value) (eg : ∀ args w, (callFunc K args).run Try.prog w = .ok (.enter K args) w) (S M : Int) (wave : Bool) (w : World)
    (hG : makeE S M = 0 → ∀ (W : World) (k : Nat) (xi : Int), xi = (k : Int) → k < S.toNat → Below w.heap.size w W → Calls Try.prog K (#[.int .i64 xi] ++ cap) W fun e w' => e = .returned (.int .i64 (firstN S.toNat M.toNat wave k : Int)) ∧ w' = W) :
    Calls Try.prog 8 #[.int .i64 S, .int .i64 M, .func (.func K) #[] cap] w fun e w' => ∃ s, e = .returned (.tuple #[s, errV (makeE S M)]) ∧ IsPlan w' s (makeX S M wave) ∧ (makeE S M = 0 → LastP w.heap.size w' s (makeX S M wave)) ∧ Below w.heap.size w w' := by
  have HF := hide (numbers_any S M w)
  rw [numE_make] at HF
  obtain ⟨E, hE⟩ : ∃ E, makeE S M = E := ⟨_, rfl⟩
  by_cases c : makeE S M = 0
  · obtain ⟨b1, b2, b3, b4⟩ := makeE_in c
    have HG := hide (hG c)
    rw [c, err_eq rfl] at HF ⊢
    obtain ⟨s, hs⟩ : ∃ s : Nat, S = (s : Int) := ⟨S.toNat, by omega⟩
    obtain ⟨m, hm⟩ : ∃ m : Nat, M = (m : Int) := ⟨M.toNat, by omega⟩
    have HSM := hide (And.intro hs hm)
    have HX := hide (show makeX S M wave = planN s m wave s by unfold makeX; rw [if_neg (by omega), show S.toNat = s by omega, show M.toNat = m by omega]; rfl)
    rw [show S.toNat = s by omega, show M.toNat = m by omega] at HG
    rw [HX.out]
    have hmk := run_mkp 32 23 1 24 (.slice none 0 0) Try.underlying23 infoActs S s hs (by omega) (by omega)
    have HO0 := hide (OwnP.made (w := w) (base := w.heap.size) (cap := s) (madeCells (Value.slice none 0 0).cells (s * 1)) (Nat.le_refl _) (by unfold maxLen; omega) (size_madeCells _ _))
    have HB0 := hide (below_one w (.cells (madeCells (Value.slice none 0 0).cells (s * 1)) 32))
    obtain ⟨W0, hW0⟩ : ∃ W0, W0 = w.alloc (.cells (madeCells (Value.slice none 0 0).cells (s * 1)) 32) := ⟨_, rfl⟩
    rw [← hW0] at HO0 HB0
    replace hmk := (hmk w).trans (by rw [← hW0])
    have hs6 : s ≤ 6 := by omega
    have hm12 : m ≤ 12 := by omega
    have hm1 : 1 ≤ m := by omega
    clear hG hE c hs hm hW0
    go_enter Try.func8, Try.ntmps8
    go_wp2_with (go_at_call 14; refine HF.out.mono ?_; rintro e w' ⟨rfl, rfl⟩)
    clear hmk
    go_loopw [9, 20] (fun ov sv wr => ∃ (k : Nat) (xi : Int), k ≤ s ∧ xi = (k : Int) ∧ sv = .int .i64 xi ∧ OwnP wr w'.heap.size ov (planN s m wave k) ∧ (0 < k → LastP w'.heap.size wr ov (planN s m wave k)) ∧ Below w'.heap.size w' wr) (fun _ sv _ => s - (intOf sv).toNat)
    case atStart => exact ⟨0, 0, Nat.zero_le _, rfl, rfl, HO0.out, fun h => absurd h (Nat.lt_irrefl 0), HB0.out⟩
    case round =>
      obtain ⟨k, xi, hk, hxi, rfl, hro, hla, hbw⟩ := hrel
      have HRO := hide hro
      have HLA := hide hla
      have HBW := hide hbw
      have HXI := hide hxi
      have hx0 : 0 ≤ xi := by omega
      have hx1 : xi ≤ 6 := by omega
      obtain ⟨oa, ok, hoe⟩ := hro.shape
      rw [planN_len] at hoe
      subst hoe
      clear hro hbw hxi hla
      by_cases hlt : xi < S
      · obtain ⟨fi, hfi⟩ : ∃ fi : Nat, firstN s m wave k = fi := ⟨_, rfl⟩
        have hfi12 : fi ≤ 12 := by rw [← hfi]; unfold firstN; split <;> omega
        have HC := hide (HG.out wr k xi HXI.out (by have := HXI.out; have := HSM.out; omega) HBW.out)
        rw [hfi] at HC
        have HT := hide (taket_any fi m (fi : Int) M wr rfl HSM.out.2 hfi12 hm12)
        obtain ⟨LL, hLL⟩ : ∃ LL, fwdL fi ++ turnL fi m m = LL := ⟨_, rfl⟩
        have HST := hide (show LL = stageX s m wave k by rw [← hLL, ← hfi]; rfl)
        rw [hLL] at HT
        clear hfi hLL
        go_wp2_with (first | (go_at_fn K; refine HC.out.mono ?_; rintro e w1 ⟨rfl, rfl⟩) | (go_at_call 15; refine HT.out.mono ?_; rintro e w2 ⟨s1, rfl, ho1, hb1⟩; obtain ⟨ua, uk, rfl⟩ := ho1.shape; have HO1 := hide ho1; have HB1 := hide hb1; clear ho1 hb1) | (at_builtin; refine app_last rfl _ _ rfl w'.heap.size _ _ (planN s m wave k) LL rfl HRO.out HB1.out HO1.out ?h1 rfl ?h2 ?h3 ?_))
        case h1 => rw [HST.out]; exact stageX_ne _ _ _ _ (by omega)
        case h2 => rw [planN_len]; omega
        case h3 => exact HBW.out.size
        intro v' w3 hown hlast hgr
        have HO2 := hide (show OwnP w3 w'.heap.size v' (planN s m wave (k + 1)) by rw [planN_succ, ← HST.out]; exact hown)
        have HL2 := hide (show LastP w'.heap.size w3 v' (planN s m wave (k + 1)) by rw [planN_succ, ← HST.out]; exact hlast)
        have HB2 := hide (hgr w' (below_go (below_go HBW.out HB1.out) (below_one _ _)) (Nat.le_refl _))
        clear hown hgr hlast
        go_wp2
        go_roundw
        case rel => exact ⟨k + 1, _, by have := HXI.out; have := HSM.out; omega, by have := HXI.out; omega, rfl, HO2.out, fun _ => HL2.out, HB2.out⟩
        case measure => have := HXI.out; have := HSM.out; simp [intOf]; omega
      · obtain rfl : k = s := by have := HXI.out; have := HSM.out; omega
        go_wp2
        exact bodyPost_ret (v := .tuple #[.slice oa k ok, .nilIface]) (by simp [results, Try.results8, go_sem]) rfl ⟨_, rfl, HRO.out.isPlan, by first | exact HLA.out (by have := HSM.out; omega) | exact fun _ => HLA.out (by have := HSM.out; omega), HBW.out⟩
  · have HX := hide (show makeX S M wave = [] by unfold makeX; unfold makeE at c; split at c <;> simp_all)
    rw [HX.out]
    rw [hE] at c HF ⊢
    rw [err_ne c] at HF ⊢
    have HC := hide c
    clear hG c hE
    go_enter Try.func8, Try.ntmps8
    go_wp2_with (go_at_call 14; refine HF.out.mono ?_; rintro e w' ⟨rfl, rfl⟩)
    exact bodyPost_ret (v := .tuple #[.slice none 0 0, .iface 46 (.int .i64 E)]) (by simp [results, Try.results8, go_sem]) rfl ⟨_, rfl, IsPlan.nil _, fun e => absurd e HC.out, Below.refl _ _⟩
/-- What a plan is built of. -/
def Built (w w' : World) (S M : Int) (wave : Bool) (e : Ending) : Prop := ∃ s, e = .returned (.tuple #[s, errV (makeE S M)]) ∧ IsPlan w' s (makeX S M wave) ∧ (makeE S M = 0 → LastP w.heap.size w' s (makeX S M wave)) ∧ Below w.heap.size w w'
set_option maxRecDepth 100000 in
theorem wave_gives (W : World) (xi M : Int) (B : Nat) (h : W.cell? ⟨B, 0, none⟩ = some (.int .i64 M)) : Calls Try.prog 9 (#[.int .i64 xi] ++ #[.pointer (some ⟨B, 0, none⟩)]) W fun e w' => e = .returned (.int .i64 M) ∧ w' = W := by
  go_enter Try.func9, Try.ntmps9
  go_wp2
  go_ret
  exact ⟨rfl, rfl⟩
set_option maxHeartbeats 1600000 in
set_option maxRecDepth 100000 in
theorem turns_gives (W : World) (xi S M : Int) (B C : Nat) (h : W.cell? ⟨B, 0, none⟩ = some (.int .i64 S)) (h2 : W.cell? ⟨C, 0, none⟩ = some (.int .i64 M)) (h0 : 0 ≤ xi) (h1 : xi < S) (hS : S ≤ 6) : Calls Try.prog 10 (#[.int .i64 xi] ++ #[.pointer (some ⟨B, 0, none⟩), .pointer (some ⟨C, 0, none⟩)]) W fun e w' => e = .returned (.int .i64 (if M < S - 1 - xi then M else S - 1 - xi)) ∧ w' = W := by
  have w1 : IntKind.i64.wrap (S - 1) = S - 1 := wrap_in (by omega) (by omega)
  have w2 : IntKind.i64.wrap (S - 1 - xi) = S - 1 - xi := wrap_in (by omega) (by omega)
  by_cases c : M < S - 1 - xi
  · rw [if_pos c]
    go_enter Try.func10, Try.ntmps10
    go_wp2
    go_ret
    exact ⟨rfl, rfl⟩
  · rw [if_neg c]
    go_enter Try.func10, Try.ntmps10
    go_wp2
    go_ret
    exact ⟨rfl, rfl⟩
set_option maxHeartbeats 1600000 in
set_option maxRecDepth 100000 in
theorem pwave_any (S M : Int) (w : World) : Calls Try.prog 5 #[.int .i64 S, .int .i64 M] w (fun e w' => Built w w' S M true e) := by
  have eg := enters_of (f := 9) Try.func9 (by kernel_rfl) rfl
  have HB0 := hide (below_one w (.cells #[.int .i64 M] 3))
  have HC := hide (build_any 9 #[.pointer (some ⟨w.heap.size, 0, none⟩)] eg S M true (w.alloc (.cells #[.int .i64 M] 3)) (fun hz W k xi hxi hk hb => by
    obtain ⟨b1, b2, b3, b4⟩ := makeE_in hz
    have := wave_gives W xi M w.heap.size (cell_bel hb (by simp))
    rw [show ((firstN S.toNat M.toNat true k : Nat) : Int) = M by unfold firstN; rw [if_pos (.inl rfl)]; omega]
    exact this))
  clear eg
  obtain ⟨E, hE⟩ : ∃ E, errV (makeE S M) = E := ⟨_, rfl⟩
  rw [hE] at HC
  have HE := hide hE
  clear hE
  go_enter Try.func5, Try.ntmps5
  go_wp2_with (go_at_call 8; refine HC.out.mono ?_; rintro e w1 ⟨s, rfl, hp, hl, hb1⟩)
  have HP := hide hp
  have HL := hide hl
  have HB1 := hide (below_go HB0.out hb1)
  clear hp hl hb1
  go_wp2
  exact bodyPost_ret (v := .tuple #[s, E]) (by simp [results, Try.results5, go_sem]) rfl ⟨s, by rw [HE.out], HP.out, fun e => (HL.out e).mono HB0.out.size, HB1.out⟩
set_option maxHeartbeats 1600000 in
set_option maxRecDepth 100000 in
theorem pturns_any (S M : Int) (w : World) : Calls Try.prog 6 #[.int .i64 S, .int .i64 M] w (fun e w' => Built w w' S M false e) := by
  have eg := enters_of (f := 10) Try.func10 (by kernel_rfl) rfl
  have HB0 := hide (below_go (below_one w (.cells #[.int .i64 S] 3)) (below_one (w.alloc (.cells #[.int .i64 S] 3)) (.cells #[.int .i64 M] 3)))
  have HC := hide (build_any 10 #[.pointer (some ⟨w.heap.size, 0, none⟩), .pointer (some ⟨w.heap.size + 1, 0, none⟩)] eg S M false ((w.alloc (.cells #[.int .i64 S] 3)).alloc (.cells #[.int .i64 M] 3)) (fun hz W k xi hxi hk hb => by
    obtain ⟨b1, b2, b3, b4⟩ := makeE_in hz
    have h1 : (w.alloc (.cells #[.int .i64 S] 3)).cell? ⟨w.heap.size, 0, none⟩ = some (.int .i64 S) := by simp
    have h2 : ((w.alloc (.cells #[.int .i64 S] 3)).alloc (.cells #[.int .i64 M] 3)).cell? ⟨w.heap.size + 1, 0, none⟩ = some (.int .i64 M) := pn_new1 _ _ _ (by simp)
    have := turns_gives W xi S M w.heap.size (w.heap.size + 1) (cell_bel (below_go (below_one _ _) hb) h1) (cell_bel hb h2) (by omega) (by omega) b2
    rw [show ((firstN S.toNat M.toNat false k : Nat) : Int) = if M < S - 1 - xi then M else S - 1 - xi by
      unfold firstN
      by_cases c : M < S - 1 - xi
      · rw [if_pos c, if_pos (.inr (by omega))]; omega
      · rw [if_neg c, if_neg (fun e => e.elim (fun q => by cases q) (fun q => by omega))]; omega]
    exact this))
  clear eg
  obtain ⟨E, hE⟩ : ∃ E, errV (makeE S M) = E := ⟨_, rfl⟩
  rw [hE] at HC
  have HE := hide hE
  clear hE
  go_enter Try.func6, Try.ntmps6
  go_wp2_with (go_at_call 8; refine HC.out.mono ?_; rintro e w1 ⟨s, rfl, hp, hl, hb1⟩)
  have HP := hide hp
  have HL := hide hl
  have HB1 := hide (below_go HB0.out hb1)
  clear hp hl hb1
  go_wp2
  exact bodyPost_ret (v := .tuple #[s, E]) (by simp [results, Try.results6, go_sem]) rfl ⟨s, by rw [HE.out], HP.out, fun e => (HL.out e).mono HB0.out.size, HB1.out⟩
end Go.Proofs.Ytgdggaieekakhah
