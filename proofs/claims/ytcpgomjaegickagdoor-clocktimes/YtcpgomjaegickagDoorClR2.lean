/- What TimesFault and Spans of the document's answer come to. -/
import Derived.Test.YtcpgomjaegickagDoorClR1
import Derived.Test.YtcpgomjaegickagDoorPlR3
namespace Go.Proofs.YtcpgomjaegickagDoor
open Go.RowKit
set_option maxHeartbeats 16000000 in
set_option maxRecDepth 100000 in
theorem rspans_any (v u : Value) (p q : List (List (Int × Int))) (w : World) (hv : IsPlan w v p) (hu : IsPlan w u q) : Calls Tryd.prog 8 #[v, u] w fun e w' => e = .returned (.bool (sameP p q)) ∧ Below w.heap.size w w' := by
  have hlen := hv.len
  have hlen' := hu.len
  unfold maxLen at hlen hlen'
  obtain ⟨a, cap, rfl, h2, h3, h4⟩ := hv
  obtain ⟨a', cap', rfl, h2', h3', h4'⟩ := hu
  obtain ⟨n, hn⟩ : ∃ n, p.length = n := ⟨_, rfl⟩
  obtain ⟨n', hn'⟩ : ∃ n, q.length = n := ⟨_, rfl⟩
  have HN := hide (And.intro hn hn')
  have H4 := hide h4
  have H4' := hide h4'
  rw [hn] at h2 hlen ⊢
  rw [hn'] at h2' hlen' ⊢
  clear hn hn' h4 h4'
  by_cases c1 : n = n'
  rotate_left 1
  · have HA := hide (sameP_no (a := p) (b := q) (fun e => c1 (by rw [← HN.out.1, ← HN.out.2, e])))
    have nb : ((n : Int) != (n' : Int)) = true := by simp; omega
    clear c1
    go_enter Tryd.func8, Tryd.ntmps8
    go_wp2
    go_ret
    exact ⟨ret_bool HA.out, Below.refl _ _⟩
  subst c1
  have nb : ((n : Int) != (n : Int)) = false := by simp
  go_enter Tryd.func8, Tryd.ntmps8
  go_wp2
  go_loopw [5] (fun sv wr => ∃ (k d : Nat) (xi : Int), k ≤ n ∧ xi = (k : Int) ∧ sv = .int .i64 xi ∧ wr = w.drewN d ∧ ∀ j x y, j < k → p[j]? = some x → q[j]? = some y → x = y) (fun sv _ => n - (intOf sv).toNat)
  case atStart => exact ⟨0, 0, 0, Nat.zero_le _, rfl, rfl, rfl, fun j x y hj _ _ => by omega⟩
  case round =>
    obtain ⟨k, d, xi, hk, hxi, rfl, rfl, he⟩ := hrel
    have HE := hide he
    have HXI := hide hxi
    have hx0 : 0 ≤ xi := by omega
    have hx1 : xi ≤ 9223372036854775807 := by omega
    clear he hxi
    by_cases hlt : xi < (n : Int)
    · obtain ⟨x, hx⟩ := stage_at (p := p) (i := k) (by have := HN.out.1; have := HXI.out; omega)
      obtain ⟨y, hy⟩ := stage_at (p := q) (i := k) (by have := HN.out.2; have := HXI.out; omega)
      obtain ⟨b, off, ha, hcl⟩ := H4.out.resolve_left (fun e => by rw [e] at hx; simp at hx)
      obtain ⟨b', off', ha', hcl'⟩ := H4'.out.resolve_left (fun e => by rw [e] at hy; simp at hy)
      subst ha ha'
      obtain ⟨s, hs, hi⟩ := hcl k x hx
      obtain ⟨s', hs', hi'⟩ := hcl' k y hy
      rw [show k = xi.toNat by have := HXI.out; omega] at hs hs'
      have hll := hi.len
      have hll' := hi'.len
      unfold maxLen at hll hll'
      obtain ⟨la, lc, hse, l2, l3, l4⟩ := hi
      obtain ⟨la', lc', hse', l2', l3', l4'⟩ := hi'
      subst hse hse'
      obtain ⟨ln, hln⟩ : ∃ z, x.length = z := ⟨_, rfl⟩
      obtain ⟨ln', hln'⟩ : ∃ z, y.length = z := ⟨_, rfl⟩
      rw [hln] at hs hll l2
      rw [hln'] at hs' hll' l2'
      have HX := hide hx
      have HY := hide hy
      have HL4 := hide l4
      have HL4' := hide l4'
      have HLN := hide (And.intro hln hln')
      clear hx hy hcl hcl' l4 l4' hln hln'
      by_cases c2 : ln = ln'
      rotate_left 1
      · have HA := hide (sameP_no (plan_ne HX.out HY.out (fun e => c2 (by rw [← HLN.out.1, ← HLN.out.2, e]))))
        have nl : ((ln : Int) != (ln' : Int)) = true := by simp; omega
        clear c2
        go_wp2
        go_quiet (fail)
        go_wp2
        go_ret
        exact ⟨ret_bool HA.out, bel_d2 _ _ _⟩
      subst c2
      have nl : ((ln : Int) != (ln : Int)) = false := by simp
      go_wp2
      go_quiet (fail)
      go_wp2
      go_loopw [6] (fun iv w2 => ∃ (j d2 : Nat) (xj : Int), j ≤ ln ∧ xj = (j : Int) ∧ iv = .int .i64 xj ∧ w2 = w.drewN d2 ∧ ∀ i s t, i < j → x[i]? = some s → y[i]? = some t → s = t) (fun iv _ => ln - (intOf iv).toNat)
      case atStart => exact ⟨0, d + nq, 0, Nat.zero_le _, rfl, rfl, by first | rfl | (rw [World.drewN_drewN]), fun i s t hi _ _ => by omega⟩
      case round =>
        obtain ⟨j, d2, xj, hj, hxj, rfl, rfl, he2⟩ := hrel
        have HE2 := hide he2
        have HXJ := hide hxj
        have hy0 : 0 ≤ xj := by omega
        have hy1 : xj ≤ 9223372036854775807 := by omega
        clear he2 hxj
        by_cases hlt2 : xj < (ln : Int)
        · obtain ⟨s, hsx⟩ := act_at (l := x) (i := j) (by have := HLN.out.1; have := HXJ.out; omega)
          obtain ⟨t, hty⟩ := act_at (l := y) (i := j) (by have := HLN.out.2; have := HXJ.out; omega)
          obtain ⟨b2, off2, ha, hcl2⟩ := HL4.out.resolve_left (fun e => by rw [e] at hsx; simp at hsx)
          obtain ⟨b3, off3, ha', hcl3⟩ := HL4'.out.resolve_left (fun e => by rw [e] at hty; simp at hty)
          subst ha ha'
          obtain ⟨d11, d12⟩ := hcl2 j s hsx
          obtain ⟨d21, d22⟩ := hcl3 j t hty
          rw [show j = xj.toNat by have := HXJ.out; omega] at d11 d12 d21 d22
          obtain ⟨sk, sm⟩ := s
          obtain ⟨tk, tm⟩ := t
          dsimp only at d11 d12 d21 d22
          have HSX := hide hsx
          have HTY := hide hty
          clear hcl2 hcl3 hsx hty
          have HNX := hide (fun (h : (sk, sm) = (tk, tm)) => show ∀ i s t, i < j + 1 → x[i]? = some s → y[i]? = some t → s = t by
            intro i s t hi hs ht
            rcases Nat.lt_or_ge i j with h' | h'
            · exact HE2.out i s t h' hs ht
            · rw [show i = j by omega, HSX.out] at hs
              rw [show i = j by omega, HTY.out] at ht
              rw [← Option.some.inj hs, ← Option.some.inj ht]; exact h)
          have HNE := hide (fun (h : (sk, sm) ≠ (tk, tm)) => sameP_no (plan_ne HX.out HY.out (acts_ne HSX.out HTY.out h)))
          by_cases e1 : sk = tk
          · by_cases e2 : sm = tm
            · have HU := hide (HNX.out (by rw [e1, e2]))
              go_wp2
              go_quiet (fail)
              go_wp2
              go_roundw
              case rel => exact ⟨j + 1, _, _, by have := HXJ.out; omega, by have := HXJ.out; omega, rfl, rfl, HU.out⟩
              case measure => have := HXJ.out; simp [intOf]; omega
            · have HA := hide (HNE.out (fun e => e2 (Prod.mk.inj e).2))
              have n2 : (sm == tm) = false := by simpa using e2
              clear e2
              go_wp2
              go_quiet (fail)
              go_wp2
              go_ret
              exact ⟨ret_bool HA.out, bel_d2 _ _ _⟩
          · have HA := hide (HNE.out (fun e => e1 (Prod.mk.inj e).1))
            have n1 : (sk == tk) = false := by simpa using e1
            clear e1
            go_wp2
            go_quiet (fail)
            go_wp2
            go_ret
            exact ⟨ret_bool HA.out, bel_d2 _ _ _⟩
        · have HU := hide (show ∀ j x y, j < k + 1 → p[j]? = some x → q[j]? = some y → x = y by
            intro j' x' y' hj' hx' hy'
            rcases Nat.lt_or_ge j' k with h | h
            · exact HE.out j' x' y' h hx' hy'
            · rw [show j' = k by omega, HX.out] at hx'
              rw [show j' = k by omega, HY.out] at hy'
              rw [← Option.some.inj hx', ← Option.some.inj hy']
              exact list_eq (by rw [HLN.out.1, HLN.out.2]) (fun i s t hs ht => HE2.out i s t (by have := HLN.out.1; have := HXJ.out; have := (List.getElem?_eq_some_iff.1 hs).1; omega) hs ht))
          go_wp2
          go_roundw
          case rel => exact ⟨k + 1, _, _, by have := HXI.out; omega, by have := HXI.out; omega, rfl, rfl, HU.out⟩
          case measure => have := HXI.out; simp [intOf]; omega
    · have HA := hide (sameP_yes (a := p) (b := q) (list_eq (by rw [HN.out.1, HN.out.2]) (fun i s t hs ht => HE.out i s t (by have := HN.out.1; have := HXI.out; have := (List.getElem?_eq_some_iff.1 hs).1; omega) hs ht)))
      go_wp2
      go_ret
      exact ⟨ret_bool HA.out, below_drewN _ _⟩
def okC (x : Int) : Bool := decide (1 ≤ x) && decide (x ≤ 1000000)
/-- What is wrong with a plan and with what its stages take. -/
def timE (p : List (List (Int × Int))) (m : Int) (th bk : List Int) : Int := if planE p m = 0 then (if th.length = p.length ∧ bk.length = p.length then (if (∀ x ∈ th, okC x = true) ∧ (∀ x ∈ bk, okC x = true) then 0 else 1) else 2) else planE p m
theorem timE_plan {p : List (List (Int × Int))} {m : Int} {th bk : List Int} (h : planE p m ≠ 0) : planE p m = timE p m th bk := by unfold timE; rw [if_neg h]
theorem timE_len {p : List (List (Int × Int))} {m : Int} {th bk : List Int} (h : planE p m = 0) (h2 : ¬ (th.length = p.length ∧ bk.length = p.length)) : 2 = timE p m th bk := by unfold timE; rw [if_pos h, if_neg h2]
theorem timE_bad {p : List (List (Int × Int))} {m : Int} {th bk : List Int} (h : planE p m = 0) (h2 : th.length = p.length ∧ bk.length = p.length) {x : Int} (hx : x ∈ th ∨ x ∈ bk) (hb : ¬ (1 ≤ x ∧ x ≤ 1000000)) : 1 = timE p m th bk := by
  unfold timE
  rw [if_pos h, if_pos h2, if_neg]
  rintro ⟨q1, q2⟩
  have : okC x = true := by rcases hx with r | r; exact q1 x r; exact q2 x r
  unfold okC at this
  simp at this
  exact hb this
theorem timE_ok {p : List (List (Int × Int))} {m : Int} {th bk : List Int} (h : planE p m = 0) (h2 : th.length = p.length ∧ bk.length = p.length) (h3 : ∀ x ∈ th, 1 ≤ x ∧ x ≤ 1000000) (h4 : ∀ x ∈ bk, 1 ≤ x ∧ x ≤ 1000000) : 0 = timE p m th bk := by
  unfold timE
  rw [if_pos h, if_pos h2, if_pos]
  exact ⟨fun x hx => by unfold okC; simp [h3 x hx], fun x hx => by unfold okC; simp [h4 x hx]⟩
theorem timE_in {p : List (List (Int × Int))} {m : Int} {th bk : List Int} (h : timE p m th bk = 0) : planE p m = 0 ∧ th.length = p.length ∧ bk.length = p.length ∧ (∀ x ∈ th, 1 ≤ x ∧ x ≤ 1000000) ∧ (∀ x ∈ bk, 1 ≤ x ∧ x ≤ 1000000) := by
  unfold timE at h
  by_cases c1 : planE p m = 0
  · rw [if_pos c1] at h
    by_cases c2 : th.length = p.length ∧ bk.length = p.length
    · rw [if_pos c2] at h
      by_cases c3 : (∀ x ∈ th, okC x = true) ∧ (∀ x ∈ bk, okC x = true)
      · refine ⟨c1, c2.1, c2.2, fun x hx => ?_, fun x hx => ?_⟩
        · have := c3.1 x hx; unfold okC at this; simpa using this
        · have := c3.2 x hx; unfold okC at this; simpa using this
      · rw [if_neg c3] at h; cases h
    · rw [if_neg c2] at h; cases h
  · rw [if_neg c1] at h; exact absurd h c1
theorem costs_of {p : List (List (Int × Int))} {th bk : List Int} (h1 : th.length = p.length) (h2 : bk.length = p.length) (h3 : ∀ x ∈ th, 1 ≤ x ∧ x ≤ 1000000) (h4 : ∀ x ∈ bk, 1 ≤ x ∧ x ≤ 1000000) : Costs p th bk := by
  intro s hs a
  unfold lngA
  split
  · rw [List.getElem?_eq_getElem (by omega)]; exact h4 _ (List.getElem_mem _)
  · rw [List.getElem?_eq_getElem (by omega)]; exact h3 _ (List.getElem_mem _)
set_option maxHeartbeats 16000000 in
set_option maxRecDepth 100000 in
theorem rtfault_any (v v1 v2 : Value) (p : List (List (Int × Int))) (th bk : List Int) (m : Int) (w : World) (hv : IsPlan w v p) (hi1 : IsInts w v1 th) (hi2 : IsInts w v2 bk) : Calls Tryd.prog 5 #[v, .int .i64 m, v1, v2] w fun e w' => e = .returned (.int .i64 (timE p m th bk)) ∧ Below w.heap.size w w' := by
  have HF := hide (rplan_any v p m w hv)
  have hlen := hv.len
  have hlen1 := hi1.len
  have hlen2 := hi2.len
  unfold maxLen at hlen hlen1 hlen2
  obtain ⟨a, cap, rfl, g2, g3, g4⟩ := hv
  obtain ⟨a1, cap1, rfl, k2, k3, k4⟩ := hi1
  obtain ⟨a2, cap2, rfl, j2, j3, j4⟩ := hi2
  obtain ⟨n, hn⟩ : ∃ n, p.length = n := ⟨_, rfl⟩
  obtain ⟨n1, hn1⟩ : ∃ n, th.length = n := ⟨_, rfl⟩
  obtain ⟨n2, hn2⟩ : ∃ n, bk.length = n := ⟨_, rfl⟩
  obtain ⟨E, hE⟩ : ∃ E, planE p m = E := ⟨_, rfl⟩
  have HE := hide hE
  have HN := hide (And.intro hn (And.intro hn1 hn2))
  have H1 := hide k4
  have H2 := hide j4
  rw [hn] at g2 hlen HF ⊢
  rw [hn1] at k2 hlen1 ⊢
  rw [hn2] at j2 hlen2 ⊢
  rw [hE] at HF
  clear g4 k4 j4 hn hn1 hn2 hE
  by_cases c1 : E = 0
  rotate_left 1
  · have HA := hide (show E = timE p m th bk by rw [← HE.out]; exact timE_plan (by rw [HE.out]; exact c1))
    have nE : (E != 0) = true := by simpa using c1
    clear c1
    go_enter Tryd.func5, Tryd.ntmps5
    go_wp2_with (go_at_call 16; refine HF.out.mono ?_; rintro e w1 ⟨rfl, hb1⟩)
    go_ret
    exact ⟨ret_int HA.out, hb1⟩
  subst c1
  by_cases c2 : n1 = n
  rotate_left 1
  · have HA := hide (show 2 = timE p m th bk from timE_len HE.out (fun e => c2 (by rw [← HN.out.2.1, ← HN.out.1]; exact e.1)))
    have nE : ((n1 : Int) != (n : Int)) = true := by simp; omega
    clear c2
    go_enter Tryd.func5, Tryd.ntmps5
    go_wp2_with (go_at_call 16; refine HF.out.mono ?_; rintro e w1 ⟨rfl, hb1⟩)
    go_ret
    exact ⟨ret_int HA.out, hb1⟩
  by_cases c3 : n2 = n
  rotate_left 1
  · have HA := hide (show 2 = timE p m th bk from timE_len HE.out (fun e => c3 (by rw [← HN.out.2.2, ← HN.out.1]; exact e.2)))
    have nE : ((n2 : Int) != (n : Int)) = true := by simp; omega
    subst c2
    clear c3
    go_enter Tryd.func5, Tryd.ntmps5
    go_wp2_with (go_at_call 16; refine HF.out.mono ?_; rintro e w1 ⟨rfl, hb1⟩)
    go_ret
    exact ⟨ret_int HA.out, hb1⟩
  subst c2 c3
  have HLE := hide (show th.length = p.length ∧ bk.length = p.length from ⟨by rw [HN.out.2.1, HN.out.1], by rw [HN.out.2.2, HN.out.1]⟩)
  go_enter Tryd.func5, Tryd.ntmps5
  go_wp2_with (go_at_call 16; refine HF.out.mono ?_; rintro e w1 ⟨rfl, hb1⟩)
  have HB1 := hide hb1
  clear hb1
  go_loopw [10] (fun iv wr => ∃ (k : Nat) (xi : Int), k ≤ n2 ∧ xi = (k : Int) ∧ iv = .int .i64 xi ∧ wr = w1 ∧ ∀ j x, j < k → (th[j]? = some x ∨ bk[j]? = some x) → 1 ≤ x ∧ x ≤ 1000000) (fun iv _ => n2 - (intOf iv).toNat)
  case atStart => exact ⟨0, 0, Nat.zero_le _, rfl, rfl, rfl, fun j x hj _ => by omega⟩
  case round =>
    obtain ⟨k, xi, hk, hxi, rfl, hw, he⟩ := hrel
    subst hw
    have HE2 := hide he
    have HXI := hide hxi
    have hx0 : 0 ≤ xi := by omega
    have hx1 : xi ≤ 9223372036854775807 := by omega
    clear he hxi
    by_cases hlt : xi < (n2 : Int)
    · have hk1 : k < th.length := by have := HN.out.2.1; have := HXI.out; omega
      have hk2 : k < bk.length := by have := HN.out.2.2; have := HXI.out; omega
      obtain ⟨t1, ht1⟩ : ∃ x, th[k]? = some x := ⟨_, List.getElem?_eq_getElem hk1⟩
      obtain ⟨t2, ht2⟩ : ∃ x, bk[k]? = some x := ⟨_, List.getElem?_eq_getElem hk2⟩
      obtain ⟨b1, o1, ha1, hc1⟩ := H1.out.resolve_left (fun e => by rw [e] at ht1; simp at ht1)
      obtain ⟨b2, o2, ha2, hc2⟩ := H2.out.resolve_left (fun e => by rw [e] at ht2; simp at ht2)
      subst ha1 ha2
      have d1 := cell_bel HB1.out (hc1 k t1 ht1)
      have d2 := cell_bel HB1.out (hc2 k t2 ht2)
      rw [show k = xi.toNat by have := HXI.out; omega] at d1 d2
      have HT := hide (And.intro ht1 ht2)
      clear hk1 hk2 ht1 ht2 hc1 hc2
      by_cases e1 : t1 < 1
      · have HA := hide (show 1 = timE p m th bk from timE_bad HE.out HLE.out (.inl (List.mem_of_getElem? HT.out.1)) (by omega))
        go_wp2
        go_ret
        exact ⟨ret_int HA.out, HB1.out⟩
      by_cases e2 : 1000000 < t1
      · have HA := hide (show 1 = timE p m th bk from timE_bad HE.out HLE.out (.inl (List.mem_of_getElem? HT.out.1)) (by omega))
        go_wp2
        go_ret
        exact ⟨ret_int HA.out, HB1.out⟩
      by_cases e3 : t2 < 1
      · have HA := hide (show 1 = timE p m th bk from timE_bad HE.out HLE.out (.inr (List.mem_of_getElem? HT.out.2)) (by omega))
        go_wp2
        go_ret
        exact ⟨ret_int HA.out, HB1.out⟩
      by_cases e4 : 1000000 < t2
      · have HA := hide (show 1 = timE p m th bk from timE_bad HE.out HLE.out (.inr (List.mem_of_getElem? HT.out.2)) (by omega))
        go_wp2
        go_ret
        exact ⟨ret_int HA.out, HB1.out⟩
      have HU := hide (show ∀ j x, j < k + 1 → (th[j]? = some x ∨ bk[j]? = some x) → 1 ≤ x ∧ x ≤ 1000000 by
        intro j x hj hx
        rcases Nat.lt_or_ge j k with h | h
        · exact HE2.out j x h hx
        · rw [show j = k by omega, HT.out.1, HT.out.2] at hx
          rcases hx with q | q
          · have := Option.some.inj q; omega
          · have := Option.some.inj q; omega)
      go_wp2
      go_roundw
      case rel => exact ⟨k + 1, _, by have := HXI.out; omega, by have := HXI.out; omega, rfl, by first | rfl | trivial, HU.out⟩
      case measure => have := HXI.out; simp [intOf]; omega
    · have key : ∀ (l : List Int), l.length = n2 → (∀ (j : Nat) x, l[j]? = some x → th[j]? = some x ∨ bk[j]? = some x) → ∀ x ∈ l, 1 ≤ x ∧ x ≤ 1000000 := fun l hl hs x hx => by
        obtain ⟨i, hi, rfl⟩ := List.getElem_of_mem hx
        exact HE2.out i _ (by have := HXI.out; omega) (hs i _ (List.getElem?_eq_getElem hi))
      have HA := hide (show 0 = timE p m th bk from timE_ok HE.out HLE.out (key th HN.out.2.1 (fun j x h => .inl h)) (key bk HN.out.2.2 (fun j x h => .inr h)))
      clear key
      go_wp2
      go_ret
      exact ⟨ret_int HA.out, HB1.out⟩
end Go.Proofs.YtcpgomjaegickagDoor
