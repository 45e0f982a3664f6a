/- What is wrong with costs and with cuts, by package cut and by the document's answer; the sum of some costs. -/
import Derived.Test.YtlbcmebifmebgafCtP
import Derived.Test.YtlbcmebifmebgafMFill
namespace Go.Proofs.Ytlbcmebifmebgaf
open Go.RowKit
theorem bel_nx {w u v : World} (h : Below w.heap.size w u) (k : Below u.heap.size u v) : Below w.heap.size w v := h.trans (k.mono h.size)
theorem bel_al {V u : World} {o : Obj} (h : Below V.heap.size V u) : Below V.heap.size V (u.alloc o) := bel_nx h (below_one _ _)
def okC (x : Int) : Bool := decide (0 ≤ x) && decide (x ≤ 1000000)
def costsE (cs : List Int) : Int := if cs.all okC then 0 else 1
theorem costsE_no {cs : List Int} {k : Nat} {x : Int} (h : cs[k]? = some x) (hx : okC x = false) : 1 = costsE cs := by
  unfold costsE; rw [if_neg]; intro e; rw [List.all_eq_true] at e; rw [e x (List.mem_of_getElem? h)] at hx; cases hx
theorem costsE_yes {cs : List Int} (h : ∀ k x, k < cs.length → cs[k]? = some x → okC x = true) : 0 = costsE cs := by
  unfold costsE; rw [if_pos]; rw [List.all_eq_true]; intro x hx
  obtain ⟨k, hk, rfl⟩ := List.getElem_of_mem hx
  exact h k _ hk (List.getElem?_eq_getElem hk)
theorem costsE_in {cs : List Int} (h : costsE cs = 0) : ∀ c ∈ cs, 0 ≤ c ∧ c ≤ 1000000 := by
  intro c hc
  unfold costsE at h
  by_cases e : cs.all okC
  · have := List.all_eq_true.1 e c hc
    simpa [okC] using this
  · rw [if_neg e] at h; cases h
theorem costsE_of {cs : List Int} (h : ∀ c ∈ cs, 0 ≤ c ∧ c ≤ 1000000) : costsE cs = 0 := by
  unfold costsE; rw [if_pos]; rw [List.all_eq_true]; intro x hx; simpa [okC] using h x hx
theorem costsE_two (cs : List Int) : costsE cs = 0 ∨ costsE cs = 1 := by unfold costsE; split <;> simp
set_option maxHeartbeats 1600000 in
set_option maxRecDepth 100000 in
theorem costs_any (v : Value) (cs : List Int) (w : World) (hv : IsInts w v cs) : Calls Try.prog 23 #[v] w fun e w' => e = .returned (errV (costsE cs)) ∧ w' = w := by
  have hlen := hv.len
  unfold maxLen at hlen
  obtain ⟨a, cap, rfl, h2, h3, h4⟩ := hv
  obtain ⟨n, hn⟩ : ∃ n, cs.length = n := ⟨_, rfl⟩
  rw [hn] at h2 hlen ⊢
  have HN := hide hn
  have H4 := hide h4
  clear hn h4
  go_enter Try.func23, Try.ntmps23
  go_wp2
  go_loop [7] (fun i => ∃ k : Nat, k ≤ n ∧ i = .int .i64 k ∧ ∀ j x, j < k → cs[j]? = some x → okC x = true) (fun i => n - (intOf i).toNat)
  case atStart => exact ⟨0, Nat.zero_le _, rfl, fun j x hj _ => by omega⟩
  case round =>
    obtain ⟨k, hk, rfl, he⟩ := hrel
    have HE := hide he
    clear he
    by_cases hlt : k < n
    · obtain ⟨x, hx⟩ := some_at (cs := cs) (p := k) (by have := HN.out; omega)
      obtain ⟨b, off, rfl, hcl⟩ := H4.out.resolve_left (fun e => by rw [e] at hx; simp at hx)
      have cx := hcl k x hx
      have HX := hide hx
      have hlt' : (k : Int) < (n : Int) := by omega
      clear hcl hx
      by_cases c1 : x < 0
      · have HI := hide (show okC x = false by simp [okC]; omega)
        go_wp2
        go_ret
        exact ⟨ret_err (err_of (costsE_no HX.out HI.out) (by decide)), rfl⟩
      · by_cases c2 : 1000000 < x
        · have HI := hide (show okC x = false by simp [okC]; omega)
          go_wp2
          go_ret
          exact ⟨ret_err (err_of (costsE_no HX.out HI.out) (by decide)), rfl⟩
        · have HI := hide (show okC x = true by simp [okC]; omega)
          go_wp2
          go_round
          case rel => exact ⟨k + 1, by omega, by go_num, fun j y hj hy => by
            rcases Nat.lt_or_ge j k with h | h
            · exact HE.out j y h hy
            · have e : y = x := Option.some.inj (by rw [← hy, show j = k by omega, HX.out])
              rw [e]; exact HI.out⟩
          case measure => simp [intOf]; omega
    · go_wp2
      go_ret
      exact ⟨ret_err (err_no (costsE_yes fun j x hj hx => HE.out j x (by have := HN.out; omega) hx)), rfl⟩
def layE (n : Int) : Int := if n < 1 ∨ 12 < n then 1 else 0
theorem layE_bad {n : Int} (h : n < 1 ∨ 12 < n) : 1 = layE n := by unfold layE; rw [if_pos h]
theorem layE_ok {n : Int} (h : ¬ (n < 1 ∨ 12 < n)) : 0 = layE n := by unfold layE; rw [if_neg h]
theorem layers_any (n : Int) (w : World) : Calls Try.prog 22 #[.int .i64 n] w fun e w' => e = .returned (errV (layE n)) ∧ w' = w := by
  by_cases c1 : n < 1
  · have HE := hide (layE_bad (.inl c1))
    go_enter Try.func22, Try.ntmps22
    go_wp2
    go_ret
    exact ⟨ret_err (err_of HE.out (by decide)), rfl⟩
  · by_cases c2 : 12 < n
    · have HE := hide (layE_bad (.inr c2))
      go_enter Try.func22, Try.ntmps22
      go_wp2
      go_ret
      exact ⟨ret_err (err_of HE.out (by decide)), rfl⟩
    · have HE := hide (layE_ok (n := n) (by omega))
      go_enter Try.func22, Try.ntmps22
      go_wp2
      go_ret
      exact ⟨ret_err (err_no HE.out), rfl⟩
set_option maxHeartbeats 1600000 in
set_option maxRecDepth 100000 in
theorem ctsum_any (v : Value) (cs : List Int) (w : World) (hv : IsInts w v cs) (hc : ∀ c ∈ cs, 0 ≤ c ∧ c ≤ 1000000) (hl : cs.length ≤ 12) : Calls Try.prog 27 #[v] w fun e w' => e = .returned (.int .i64 (preS cs cs.length)) ∧ w' = w := by
  obtain ⟨a, cap, rfl, h2, h3, h4⟩ := hv
  obtain ⟨n, hn⟩ : ∃ n, cs.length = n := ⟨_, rfl⟩
  rw [hn] at h2 hl ⊢
  have HN := hide hn
  have H4 := hide h4
  have HC := hide hc
  clear hn h4 hc
  go_enter Try.func27, Try.ntmps27
  go_wp2
  go_loop [3, 8] (fun s i => ∃ k : Nat, k ≤ n ∧ i = .int .i64 k ∧ s = .int .i64 (preS cs k)) (fun _ i => n - (intOf i).toNat)
  case atStart => exact ⟨0, Nat.zero_le _, rfl, by rw [preS_zero]⟩
  case round =>
    obtain ⟨k, hk, rfl, rfl⟩ := hrel
    by_cases hlt : k < n
    · obtain ⟨x, hx⟩ := some_at (cs := cs) (p := k) (by have := HN.out; omega)
      obtain ⟨b, off, rfl, hcl⟩ := H4.out.resolve_left (fun e => by rw [e] at hx; simp at hx)
      have cx := hcl k x hx
      have HX := hide (preS_succ hx)
      have hx1 := HC.out x (List.mem_of_getElem? hx)
      have hb := preS_bound HC.out k
      have hb0 := preS_mono (fun c h => (HC.out c h).1) 0 k (Nat.zero_le _)
      rw [preS_zero] at hb0
      have hlt' : (k : Int) < (n : Int) := by omega
      obtain ⟨s, hs⟩ : ∃ s, preS cs k = s := ⟨_, rfl⟩
      rw [hs] at hb hb0 HX ⊢
      have hb1 : s ≤ 12000000 := by omega
      clear hcl hx hs hb
      go_wp2
      go_round
      case rel => exact ⟨k + 1, by omega, by go_num, by rw [HX.out]⟩
      case measure => simp [intOf]; omega
    · obtain rfl : k = n := by omega
      go_wp2
      go_ret
      exact ⟨rfl, rfl⟩
end Go.Proofs.Ytlbcmebifmebgaf
