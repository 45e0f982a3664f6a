/- What is wrong with cuts, by package cut and by the document's answer. -/
import Derived.Test.YtlbcmebifmebgafDoorCtC1
import Derived.Deep.RegionHeld3
namespace Go.Proofs.YtlbcmebifmebgafDoor
open Go.RowKit
/-- The end of the stage ahead of i: from 0. -/
def prv (es : List Int) : Nat → Int
  | 0 => 0
  | i + 1 => (es[i]?).getD 0
theorem prv_at {es : List Int} {i : Nat} {x : Int} (h : es[i]? = some x) : prv es (i + 1) = x := by
  show (es[i]?).getD 0 = x
  rw [h]; rfl
def rising (es : List Int) : Prop := ∀ i, i < es.length → prv es i < prv es (i + 1)
def endsE (es : List Int) (n : Int) : Int := if n < 1 ∨ 12 < n then 1 else if es.length < 1 ∨ 6 < es.length then 2 else if (∀ i, i < es.length → prv es i < prv es (i + 1)) ∧ prv es es.length = n then 0 else 5
theorem endsE_lay {es : List Int} {n : Int} (h : n < 1 ∨ 12 < n) : 1 = endsE es n := by unfold endsE; rw [if_pos h]
theorem endsE_len {es : List Int} {n : Int} (h : ¬ (n < 1 ∨ 12 < n)) (h' : es.length < 1 ∨ 6 < es.length) : 2 = endsE es n := by unfold endsE; rw [if_neg h, if_pos h']
theorem endsE_bad {es : List Int} {n : Int} (h : ¬ (n < 1 ∨ 12 < n)) (h' : ¬ (es.length < 1 ∨ 6 < es.length)) (h2 : ¬ (rising es ∧ prv es es.length = n)) : 5 = endsE es n := by unfold endsE; rw [if_neg h, if_neg h', if_neg (show ¬ ((∀ i, i < es.length → prv es i < prv es (i + 1)) ∧ prv es es.length = n) from h2)]
theorem endsE_ok {es : List Int} {n : Int} (h : ¬ (n < 1 ∨ 12 < n)) (h' : ¬ (es.length < 1 ∨ 6 < es.length)) (h2 : rising es ∧ prv es es.length = n) : 0 = endsE es n := by unfold endsE; rw [if_neg h, if_neg h', if_pos (show (∀ i, i < es.length → prv es i < prv es (i + 1)) ∧ prv es es.length = n from h2)]
theorem endsE_in {es : List Int} {n : Int} (h : endsE es n = 0) : (1 ≤ n ∧ n ≤ 12) ∧ (1 ≤ es.length ∧ es.length ≤ 6) ∧ rising es ∧ prv es es.length = n := by
  unfold endsE at h
  by_cases c1 : n < 1 ∨ 12 < n
  · rw [if_pos c1] at h; cases h
  · rw [if_neg c1] at h
    by_cases c2 : es.length < 1 ∨ 6 < es.length
    · rw [if_pos c2] at h; cases h
    · rw [if_neg c2] at h
      by_cases c3 : (∀ i, i < es.length → prv es i < prv es (i + 1)) ∧ prv es es.length = n
      · exact ⟨by omega, by omega, c3⟩
      · rw [if_neg c3] at h; cases h
theorem bel_dd (w : World) (q n : Nat) : Below w.heap.size w ((w.drewN q).drewN n) := bel_nx (below_drewN w q) (below_drewN _ n)
theorem prv_pos {es : List Int} {i : Nat} (h : ∀ j, j < i → prv es j < prv es (j + 1)) : (i : Int) ≤ prv es i := by
  induction i with
  | zero => exact Int.le_refl _
  | succ i ih =>
    have := ih (fun j hj => h j (by omega))
    have := h i (by omega)
    omega
set_option maxHeartbeats 1600000 in
set_option maxRecDepth 100000 in
theorem ctcheck_any (v : Value) (es : List Int) (m : Int) (w : World) (hv : IsInts w v es) : Calls Tryd.prog 4 #[v, .int .i64 m] w fun e w' => e = .returned (errV (endsE es m)) ∧ w' = w := by
  have hlen := hv.len
  unfold maxLen at hlen
  obtain ⟨a, cap, rfl, h2, h3, h4⟩ := hv
  obtain ⟨n, hn⟩ : ∃ n, es.length = n := ⟨_, rfl⟩
  rw [hn] at h2 hlen ⊢
  have HN := hide hn
  have H4 := hide h4
  have HF := hide (layers_any m w)
  clear hn h4
  by_cases c0 : m < 1 ∨ 12 < m
  · have HE := hide (endsE_lay (es := es) c0)
    rw [← layE_bad c0, err_ne (by decide)] at HF
    clear c0
    go_enter Tryd.func4, Tryd.ntmps4
    go_wp2_with (go_at_call 13; refine HF.out.mono ?_; rintro e w' ⟨rfl, rfl⟩)
    go_ret
    exact ⟨ret_err (err_of HE.out (by decide)), rfl⟩
  · rw [← layE_ok c0, err_eq rfl] at HF
    have HC0 := hide c0
    clear c0
    by_cases c1 : n < 1
    · have HE := hide (endsE_len HC0.out (.inl (by rw [HN.out]; exact c1)))
      have c1' : (n : Int) < 1 := by omega
      clear c1
      go_enter Tryd.func4, Tryd.ntmps4
      go_wp2_with (go_at_call 13; refine HF.out.mono ?_; rintro e w' ⟨rfl, rfl⟩)
      go_ret
      exact ⟨ret_err (err_of HE.out (by decide)), rfl⟩
    · by_cases c2 : 6 < n
      · have HE := hide (endsE_len HC0.out (.inr (by rw [HN.out]; exact c2)))
        have c1' : ¬ (n : Int) < 1 := by omega
        have c2' : 6 < (n : Int) := by omega
        clear c1 c2
        go_enter Tryd.func4, Tryd.ntmps4
        go_wp2_with (go_at_call 13; refine HF.out.mono ?_; rintro e w' ⟨rfl, rfl⟩)
        go_ret
        exact ⟨ret_err (err_of HE.out (by decide)), rfl⟩
      · have HL := hide (show ¬ (es.length < 1 ∨ 6 < es.length) by rw [HN.out]; omega)
        have c1' : ¬ (n : Int) < 1 := by omega
        have c2' : ¬ 6 < (n : Int) := by omega
        clear c1 c2
        go_enter Tryd.func4, Tryd.ntmps4
        go_wp2_with (go_at_call 13; refine HF.out.mono ?_; rintro e w' ⟨rfl, rfl⟩)
        go_loop [6, 25] (fun s i => ∃ (k : Nat) (y : Int), k ≤ n ∧ i = .int .i64 k ∧ s = .int .i64 y ∧ y = prv es k ∧ ∀ j, j < k → prv es j < prv es (j + 1)) (fun _ i => n - (intOf i).toNat)
        case atStart => exact ⟨0, 0, Nat.zero_le _, rfl, rfl, rfl, fun j hj => by omega⟩
        case round =>
          obtain ⟨k, y, hk, rfl, rfl, hy, he⟩ := hrel
          have HY := hide hy
          have HE := hide he
          clear he hy
          by_cases hlt : k < n
          · obtain ⟨x, hx⟩ := some_at (cs := es) (p := k) (by have := HN.out; omega)
            obtain ⟨b, off, rfl, hcl⟩ := H4.out.resolve_left (fun e => by rw [e] at hx; simp at hx)
            have cx := hcl k x hx
            have HX := hide (prv_at hx)
            have hlt' : (k : Int) < (n : Int) := by omega
            clear hcl hx
            by_cases c3 : x ≤ y
            · have HB := hide (endsE_bad HC0.out HL.out (fun e => by have := e.1 k (by rw [HN.out]; exact hlt); rw [HX.out, ← HY.out] at this; omega))
              go_wp2
              go_ret
              exact ⟨ret_err (err_of HB.out (by decide)), rfl⟩
            · have HU := hide (show ∀ j, j < k + 1 → prv es j < prv es (j + 1) by
                intro j hj
                rcases Nat.lt_or_ge j k with h | h
                · exact HE.out j h
                · rw [show j = k by omega, HX.out, ← HY.out]; omega)
              go_wp2
              go_round
              case rel => exact ⟨k + 1, x, by omega, by go_num, rfl, HX.out.symm, HU.out⟩
              case measure => simp [intOf]; omega
          · have hkn : k = es.length := by have := HN.out; omega
            by_cases c3 : y = m
            · have HB := hide (endsE_ok HC0.out HL.out ⟨fun i hi => HE.out i (by omega), by rw [← hkn, ← HY.out]; exact c3⟩)
              have n3 : (y != m) = false := by simp [c3]
              clear c3 hkn
              go_wp2
              go_ret
              exact ⟨ret_err (err_no HB.out), rfl⟩
            · have HB := hide (endsE_bad HC0.out HL.out (fun e => by have := e.2; rw [← hkn, ← HY.out] at this; exact c3 this))
              have n3 : (y != m) = true := by simpa using c3
              clear c3 hkn
              go_wp2
              go_ret
              exact ⟨ret_err (err_of HB.out (by decide)), rfl⟩
set_option maxHeartbeats 4000000 in
set_option maxRecDepth 100000 in
theorem rends_any (v : Value) (es : List Int) (m : Int) (w : World) (hv : IsInts w v es) : Calls Tryd.prog 5 #[v, .int .i64 m] w fun e w' => e = .returned (.int .i64 (endsE es m)) ∧ Below w.heap.size w w' := by
  have hlen := hv.len
  unfold maxLen at hlen
  obtain ⟨a, cap, rfl, h2, h3, h4⟩ := hv
  obtain ⟨n, hn⟩ : ∃ n, es.length = n := ⟨_, rfl⟩
  rw [hn] at h2 hlen ⊢
  have HN := hide hn
  have H4 := hide h4
  clear hn h4
  by_cases c0 : m < 1
  · have HE := hide (endsE_lay (es := es) (.inl c0))
    go_enter Tryd.func5, Tryd.ntmps5
    go_wp2
    go_ret
    exact ⟨ret_int HE.out, Below.refl _ _⟩
  by_cases c0' : 12 < m
  · have HE := hide (endsE_lay (es := es) (.inr c0'))
    go_enter Tryd.func5, Tryd.ntmps5
    go_wp2
    go_ret
    exact ⟨ret_int HE.out, Below.refl _ _⟩
  have HC0 := hide (show ¬ (m < 1 ∨ 12 < m) by omega)
  by_cases c1 : n = 0
  · have HE := hide (endsE_len HC0.out (.inl (by rw [HN.out]; omega)))
    subst c1
    go_enter Tryd.func5, Tryd.ntmps5
    go_wp2
    go_ret
    exact ⟨ret_int HE.out, Below.refl _ _⟩
  have n1 : ((n : Int) == 0) = false := by simpa using c1
  by_cases c2 : 6 < n
  · have HE := hide (endsE_len HC0.out (.inr (by rw [HN.out]; exact c2)))
    have c2' : 6 < (n : Int) := by omega
    clear c1 c2
    go_enter Tryd.func5, Tryd.ntmps5
    go_wp2
    go_ret
    exact ⟨ret_int HE.out, Below.refl _ _⟩
  have HL := hide (show ¬ (es.length < 1 ∨ 6 < es.length) by rw [HN.out]; omega)
  have c2' : ¬ 6 < (n : Int) := by omega
  have c1' : 1 ≤ n := by omega
  clear c1 c2
  go_enter Tryd.func5, Tryd.ntmps5
  go_wp2
  go_loopw [5] (fun i wr => ∃ (k q : Nat) (xi : Int), k ≤ n ∧ xi = (k : Int) ∧ i = .int .i64 xi ∧ wr = w.drewN q ∧ ∀ j, j < k → prv es j < prv es (j + 1)) (fun i _ => n - (intOf i).toNat)
  case atStart => exact ⟨0, 0, 0, Nat.zero_le _, rfl, rfl, rfl, fun j hj => by omega⟩
  case round =>
    obtain ⟨k, q, xi, hk, hxi, rfl, rfl, he⟩ := hrel
    have HE := hide he
    have HXI := hide hxi
    have hx0 : 0 ≤ xi := by omega
    have hx6 : xi ≤ 6 := by omega
    have hxn : xi.toNat = k := by omega
    clear he hxi
    by_cases hlt : k < n
    · obtain ⟨x, hx⟩ := some_at (cs := es) (p := k) (by have := HN.out; omega)
      obtain ⟨b, off, rfl, hcl⟩ := H4.out.resolve_left (fun e => by rw [e] at hx; simp at hx)
      have cx := hcl k x hx
      have HX := hide (prv_at hx)
      have hlt' : xi < (n : Int) := by have := HXI.out; omega
      rw [← hxn] at cx
      have HXN := hide hxn
      clear hxn
      by_cases c3 : x < 1
      · have HB := hide (endsE_bad HC0.out HL.out (fun e => by
          have h1 := e.1 k (by rw [HN.out]; exact hlt)
          have h2 := prv_pos HE.out
          rw [HX.out] at h1; omega))
        clear hcl hx
        go_wp2
        go_quiet (fail)
        go_wp2
        go_ret
        exact ⟨ret_int HB.out, bel_dd _ _ _⟩
      · by_cases c4 : k = 0
        · have HK : Hid (¬ 0 < xi) := hide (by have := HXI.out; omega)
          have HU := hide (show ∀ j, j < k + 1 → prv es j < prv es (j + 1) by
            intro j hj
            rw [show j = k by omega, HX.out, c4]
            show (0 : Int) < x
            omega)
          clear c4 hcl hx
          go_wp2
          refine wp_region_quiet_lit (by kernel_rfl) (by kernel_rfl) ?_
          iterate 9 (quiet_step (fail))
          iterate 12 (refine wpQuiet_step (fun K hK => ?_); go_simp; first | (rw [if_neg (Int.not_lt.2 HK.out)]; refine hK _ ?_; clear hK K) | (refine hK _ ?_; clear hK K))
          refine wpQuiet_nil ?_
          intro _ hw'
          obtain ⟨nq, hw''⟩ := hw'
          subst hw''
          go_wp2
          exact ⟨⟨k + 1, _, _, by omega, by have := HXI.out; omega, rfl, rfl, HU.out⟩, by have := HXI.out; simp [intOf]; omega⟩
        · obtain ⟨y, hy⟩ := some_at (cs := es) (p := k - 1) (by have := HN.out; omega)
          have cy := hcl (k - 1) y hy
          have HY := hide (prv_at hy)
          rw [show k - 1 + 1 = k by omega] at HY
          have k0 : 0 < xi := by have := HXI.out; omega
          obtain ⟨xp, hxp⟩ : ∃ xp, IntKind.i64.wrap (xi - 1) = xp := ⟨_, rfl⟩
          have hxp' : xp = xi - 1 := by rw [← hxp]; exact wrap_in (by omega) (by omega)
          rw [show k - 1 = xp.toNat by have := HXN.out; omega] at cy
          have hp0 : 0 ≤ xp := by omega
          have hpn : xp < (n : Int) := by omega
          clear hxp'
          clear hcl hx hy c4
          by_cases c5 : x ≤ y
          · have HB := hide (endsE_bad HC0.out HL.out (fun e => by have := e.1 k (by rw [HN.out]; exact hlt); rw [HX.out, HY.out] at this; omega))
            go_wp2
            go_quiet (fail)
            go_wp2
            go_ret
            exact ⟨ret_int HB.out, bel_dd _ _ _⟩
          · have HU := hide (show ∀ j, j < k + 1 → prv es j < prv es (j + 1) by
              intro j hj
              rcases Nat.lt_or_ge j k with h | h
              · exact HE.out j h
              · rw [show j = k by omega, HX.out, HY.out]; omega)
            go_wp2
            go_quiet (fail)
            go_wp2
            go_roundw
            case rel => exact ⟨k + 1, _, _, by omega, by have := HXI.out; omega, rfl, rfl, HU.out⟩
            case measure => have := HXI.out; simp [intOf]; omega
    · have hkn : k = es.length := by have := HN.out; omega
      have hge : ¬ xi < (n : Int) := by have := HXI.out; omega
      obtain ⟨y, hy⟩ := some_at (cs := es) (p := n - 1) (by have := HN.out; omega)
      obtain ⟨b, off, rfl, hcl⟩ := H4.out.resolve_left (fun e => by rw [e] at hy; simp at hy)
      have cy := hcl (n - 1) y hy
      have HY := hide (prv_at hy)
      rw [show n - 1 + 1 = es.length by have := HN.out; omega] at HY
      have hn1 : ((n : Int) - 1).toNat = n - 1 := by omega
      clear hcl hy
      by_cases c3 : y = m
      · have HB := hide (endsE_ok HC0.out HL.out ⟨fun i hi => HE.out i (by omega), by rw [HY.out]; exact c3⟩)
        have n3 : (y != m) = false := by simp [c3]
        clear c3 hkn
        go_wp2
        go_ret
        exact ⟨ret_int HB.out, below_drewN _ _⟩
      · have HB := hide (endsE_bad HC0.out HL.out (fun e => by have := e.2; rw [HY.out] at this; exact c3 this))
        have n3 : (y != m) = true := by simpa using c3
        clear c3 hkn
        go_wp2
        go_ret
        exact ⟨ret_int HB.out, below_drewN _ _⟩
end Go.Proofs.YtlbcmebifmebgafDoor
