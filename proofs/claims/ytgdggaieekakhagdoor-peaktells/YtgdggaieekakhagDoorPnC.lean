/- What Check, goesBackInOrder and Even of package plan come to. -/
import Derived.Test.YtgdggaieekakhagDoorPnS
import Derived.Test.YtgdggaieekakhagDoorPnD
import Derived.Test.YtgdggaieekakhagDoorPlR3
import Derived.Carry
namespace Go.Proofs.YtgdggaieekakhagDoor
open Go.RowKit
/-- The deeds of the first k stages. -/
def doneTo (p : List (List (Int × Int))) : Nat → List (Int × Int × Int)
  | 0 => []
  | k + 1 => doneTo p k ++ deedsOf (k : Int) (stA p k)
theorem doneTo_lt (p : List (List (Int × Int))) : ∀ (k : Nat) (d : Int × Int × Int), d ∈ doneTo p k → d.1 < (k : Int)
  | 0, d, h => by simp [doneTo] at h
  | k + 1, d, h => by
    unfold doneTo at h
    rw [List.mem_append] at h
    rcases h with h | h
    · have := doneTo_lt p k d h; omega
    · unfold deedsOf at h
      obtain ⟨a, _, rfl⟩ := List.mem_map.1 h
      show (k : Int) < ((k + 1 : Nat) : Int)
      omega
theorem numE_far {p : List (List (Int × Int))} {m : Int} (h : numE (p.length : Int) m ≠ 0) : rangeP p m := by
  unfold numE at h
  unfold rangeP
  by_cases c : m < 1 ∨ 12 < m ∨ (p.length : Int) < 1 ∨ 6 < (p.length : Int)
  · exact c
  · rw [if_neg c] at h; exact absurd rfl h
theorem numE_near {p : List (List (Int × Int))} {m : Int} (h : numE (p.length : Int) m = 0) : ¬ rangeP p m := by
  unfold numE at h
  unfold rangeP
  by_cases c : m < 1 ∨ 12 < m ∨ (p.length : Int) < 1 ∨ 6 < (p.length : Int)
  · rw [if_pos c] at h; cases h
  · exact c
theorem below_own {w u v : World} {B : Nat} (h : Below w.heap.size w u) (hg : u.grownBy v (some B)) (hB : w.heap.size ≤ B) : Below w.heap.size w v := h.grown hg h.size (fun k hk => by have := Option.some.inj hk; omega)
set_option maxHeartbeats 16000000 in
set_option maxRecDepth 100000 in
theorem pcheck_any (v : Value) (p : List (List (Int × Int))) (m : Int) (w : World) (hv : IsPlan w v p) : Calls Tryd.prog 28 #[v, .int .i64 m] w fun e w' => e = .returned (errV (planE p m)) ∧ Below w.heap.size w w' := by
  have hlen := hv.len
  unfold maxLen at hlen
  have HV := hide hv
  obtain ⟨a, cap, rfl, h2, h3, h4⟩ := hv
  obtain ⟨n, hn⟩ : ∃ n, p.length = n := ⟨_, rfl⟩
  have HN := hide hn
  have H4 := hide h4
  have HF := hide (numbers_any (n : Int) m w)
  by_cases c1 : numE (n : Int) m = 0
  · rw [c1, err_eq rfl] at HF
    have hr := numE_near (p := p) (m := m) (by rw [hn]; exact c1)
    have HR := hide hr
    unfold rangeP at hr
    rw [hn] at hr
    obtain ⟨b, off, ha, hcl⟩ := h4.resolve_left (fun e => by rw [e] at hn; simp at hn; omega)
    subst ha
    have HP := hide (fun (W : World) (hb : Below w.heap.size w W) (s : Nat) (hs : s < n) => plan_cell hcl W hb (s := s) (by rw [hn]; exact hs))
    have hn6 : n ≤ 6 := by omega
    have hn1 : 1 ≤ n := by omega
    have hm1 : 1 ≤ m := by omega
    have hm2 : m ≤ 12 := by omega
    have HD0 := hide (Deeds.new w)
    have hmm := @run_makeMap Tryd.prog
    rw [hn] at h2 hlen HV ⊢
    clear hcl c1 hr h4 H4 hn
    go_enter Tryd.func28, Tryd.ntmps28
    go_wp2_with (go_at_call 33; refine HF.out.mono ?_; rintro e w' ⟨rfl, rfl⟩)
    go_loopw [20] (fun sv wr => ∃ (k : Nat) (xi : Int), k ≤ n ∧ xi = (k : Int) ∧ sv = .int .i64 xi ∧ Below w'.heap.size w' wr ∧ Deeds wr w'.heap.size (doneTo p k) ∧ ∀ j l, j < k → p[j]? = some l → actsE l m = 0) (fun sv _ => n - (intOf sv).toNat)
    case atStart => exact ⟨0, 0, Nat.zero_le _, rfl, rfl, below_one _ _, HD0.out, fun j l hj _ => by omega⟩
    case round =>
      obtain ⟨k, xi, hk, hxi, rfl, hb, hd, he⟩ := hrel
      have HB := hide hb
      have HD := hide hd
      have HE := hide he
      have HXI := hide hxi
      have hx0 : 0 ≤ xi := by omega
      have hx6 : xi ≤ 6 := by omega
      clear hb hd he hxi
      by_cases hlt : xi < (n : Int)
      · obtain ⟨la, lc, hce, hac⟩ := HP.out wr HB.out k (by have := HXI.out; omega)
        rw [show k = xi.toNat by have := HXI.out; omega] at hce
        obtain ⟨l, hl⟩ := stage_at (p := p) (i := k) (by have := HN.out; have := HXI.out; omega)
        have HL := hide hl
        have HC := hide (stage_any xi m _ (stA p k) w'.heap.size (doneTo p k) wr hac HD.out ⟨hx0, by omega⟩ ⟨hm1, hm2⟩ (fun d hd => by have := doneTo_lt p k d hd; have := HXI.out; omega))
        rw [stA_at hl] at HC
        rw [show (stA p xi.toNat).length = (stA p k).length by rw [show xi.toNat = k by have := HXI.out; omega], stA_at hl] at hce
        obtain ⟨E, hE⟩ : ∃ E, actsE l m = E := ⟨_, rfl⟩
        rw [hE] at HC
        have HEE := hide hE
        obtain ⟨ln, hln⟩ : ∃ ln, l.length = ln := ⟨_, rfl⟩
        rw [hln] at hce HC
        clear hac hl hE hln
        by_cases hE0 : E = 0
        · subst hE0
          rw [err_eq rfl] at HC
          have HU := hide (show ∀ j l, j < k + 1 → p[j]? = some l → actsE l m = 0 by
            intro j l' hj hl'
            rcases Nat.lt_or_ge j k with h | h
            · exact HE.out j l' h hl'
            · have e : l' = l := Option.some.inj (by rw [← hl', show j = k by omega, HL.out])
              rw [e]; exact HEE.out)
          go_wp2_with (go_at_call 34; refine HC.out.mono ?_; rintro e w1 ⟨rfl, hd1, hg1⟩)
          have HB1 := hide (below_own HB.out hg1 (Nat.le_refl _))
          have HD1 := hide (show Deeds w1 w'.heap.size (doneTo p (k + 1)) by have := hd1 (by first | rfl | trivial); rw [HXI.out] at this; unfold doneTo; rw [stA_at HL.out]; exact this)
          clear hd1 hg1
          go_wp2
          go_roundw
          case rel => exact ⟨k + 1, _, by have := HXI.out; omega, by have := HXI.out; omega, rfl, HB1.out, HD1.out, HU.out⟩
          case measure => have := HXI.out; simp [intOf]; omega
        · rw [err_ne hE0] at HC
          have HS := hide (stagesE_at HE.out HL.out (by rw [HEE.out]; exact hE0))
          rw [HEE.out] at HS
          have HA := hide (show E = planE p m by rw [HS.out]; exact planE_acts HR.out (by rw [← HS.out]; exact hE0))
          have HE0 := hide hE0
          clear hE0
          go_wp2_with (go_at_call 34; refine HC.out.mono ?_; rintro e w1 ⟨rfl, hd1, hg1⟩)
          have HB1 := hide (below_own HB.out hg1 (Nat.le_refl _))
          clear hd1 hg1
          go_wp2
          go_ret
          exact ⟨ret_err (err_of HA.out HE0.out), HB1.out⟩
      · have HS := hide (show stagesE m p = 0 from (stagesE_no (fun j x hx => HE.out j x (by have := HN.out; have := HXI.out; have := (List.getElem?_eq_some_iff.1 hx).1; omega) hx)).symm)
        have HPE := hide (planE_end HR.out HS.out)
        obtain ⟨M, hM⟩ : ∃ M : Nat, m = (M : Int) := ⟨m.toNat, by omega⟩
        obtain ⟨w1, hrun, hd1, hg1⟩ := HD.out.clear
        have HB1 := hide (below_own HB.out hg1 (Nat.le_refl _))
        have HC := hide (cando_any _ p M w'.heap.size w1 (HV.out.below HB1.out) hd1 (by rw [HN.out]; exact hn1) (by rw [HN.out]; exact hn6) (by omega) (by rw [← hM]; exact HS.out))
        obtain ⟨q, hq⟩ : ∃ q, doneB p = q := ⟨_, rfl⟩
        rw [hq] at HC HPE
        clear hM hd1 hg1 hq
        cases q
        · have HA := hide (show 6 = planE p m by rw [HPE.out]; rfl)
          go_wp2_with (go_at_call 35; refine HC.out.mono ?_; rintro e w2 ⟨rfl, hg2⟩)
          have HB2 := hide (below_own HB1.out hg2 (Nat.le_refl _))
          clear hg2
          go_wp2
          go_ret
          exact ⟨ret_err (err_of HA.out (by decide)), HB2.out⟩
        · have HA := hide (show 0 = planE p m by rw [HPE.out]; rfl)
          go_wp2_with (go_at_call 35; refine HC.out.mono ?_; rintro e w2 ⟨rfl, hg2⟩)
          have HB2 := hide (below_own HB1.out hg2 (Nat.le_refl _))
          clear hg2
          go_wp2
          go_ret
          exact ⟨ret_err (err_no HA.out), HB2.out⟩
  · have HA := hide (planE_far (numE_far (p := p) (m := m) (by rw [hn]; exact c1)))
    rw [show numE (n : Int) m = 1 by unfold numE at c1 ⊢; split at c1 <;> simp_all, err_ne (by decide)] at HF
    rw [hn] at h2 hlen ⊢
    clear c1 hn h4 HV
    go_enter Tryd.func28, Tryd.ntmps28
    go_wp2_with (go_at_call 33; refine HF.out.mono ?_; rintro e w' ⟨rfl, rfl⟩)
    go_ret
    exact ⟨ret_err (err_of HA.out (by decide)), Below.refl _ _⟩
end Go.Proofs.YtgdggaieekakhagDoor
