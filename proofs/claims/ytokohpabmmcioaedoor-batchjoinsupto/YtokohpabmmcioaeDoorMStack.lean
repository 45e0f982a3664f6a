/- What the helpers of Stack of package mat come to. Condition: not more than two million matrices. -/
import Derived.Test.YtokohpabmmcioaeDoorMatA
import Derived.Test.YtokohpabmmcioaeDoorPlain
namespace Go.Proofs.YtokohpabmmcioaeDoor
open Go.RowKit
theorem mx_at {w : World} {ms : List Mx} {b off : Nat} (hcl : ∀ i m, ms[i]? = some m → ∃ s, w.cell? ⟨b, off + i * 3, none⟩ = some (.int .i64 m.rows) ∧ w.cell? ⟨b, off + i * 3 + 1, none⟩ = some (.int .i64 m.cols) ∧ w.cell? ⟨b, off + i * 3 + 2, none⟩ = some s ∧ IsInts w s m.cells) {k : Nat} {x : Mx} (hx : ms[k]? = some x) {wr : World} (hb : Below w.heap.size w wr) :
    ∃ sa sn sc, wr.cell? ⟨b, off + k * 3, none⟩ = some (.int .i64 x.rows) ∧ wr.cell? ⟨b, off + k * 3 + 1, none⟩ = some (.int .i64 x.cols) ∧ wr.cell? ⟨b, off + k * 3 + 2, none⟩ = some (.slice sa sn sc) ∧ IsInts w (.slice sa sn sc) x.cells := by
  obtain ⟨s, c0, c1, c2, hs⟩ := hcl k x hx
  obtain ⟨sa, sn, sc, rfl⟩ := hs.shape
  exact ⟨sa, sn, sc, cell_below hb c0, cell_below hb c1, cell_below hb c2, hs⟩
/-- There is one, and all have as many columns. -/
def sameC (ms : List Mx) : Bool := decide (ms ≠ [] ∧ ∀ x ∈ ms, x.cols = (ms.headD noMx).cols)
theorem sameC_no {ms : List Mx} {k : Nat} {x y : Mx} (hx : ms[k]? = some x) (hy : ms[0]? = some y) (h : ¬ x.cols = y.cols) : false = sameC ms := by
  unfold sameC
  rw [eq_comm, decide_eq_false_iff_not]
  intro e
  have := e.2 x (List.mem_of_getElem? hx)
  cases ms with
  | nil => simp at hx
  | cons z l => simp at hy; subst hy; exact h this
theorem sameC_nil : false = sameC [] := by simp [sameC]
theorem sameC_yes {ms : List Mx} (h0 : 0 < ms.length) (h : ∀ k x y, k < ms.length → ms[k]? = some x → ms[0]? = some y → x.cols = y.cols) : true = sameC ms := by
  unfold sameC
  rw [eq_comm, decide_eq_true_iff]
  cases ms with
  | nil => simp at h0
  | cons z l =>
    refine ⟨by simp, fun x hx => ?_⟩
    obtain ⟨k, hk, rfl⟩ := List.getElem_of_mem hx
    exact h k _ z hk (List.getElem?_eq_getElem hk) rfl
set_option maxHeartbeats 1600000 in
set_option maxRecDepth 100000 in
theorem samecols_any (v : Value) (ms : List Mx) (w : World) (hv : IsMxs w v ms) : Calls Tryd.prog 35 #[v] w fun e w' => e = .returned (.bool (sameC ms)) ∧ Below w.heap.size w w' := by
  have hlen := hv.len
  unfold maxLen at hlen
  obtain ⟨a, cap, rfl, h2, h3, h4⟩ := hv
  obtain ⟨n, hn⟩ : ∃ n, ms.length = n := ⟨_, rfl⟩
  have HN := hide hn
  have H4 := hide h4
  rw [hn] at h2 hlen ⊢
  clear hn h4
  go_enter Tryd.func35, Tryd.ntmps35
  go_wp2
  go_loopw [7] (fun i wr => ∃ k : Nat, k ≤ n ∧ i = .int .i64 k ∧ Below w.heap.size w wr ∧ ∀ j x y, j < k → ms[j]? = some x → ms[0]? = some y → x.cols = y.cols) (fun i _ => n - (intOf i).toNat)
  case atStart => exact ⟨0, Nat.zero_le _, rfl, Below.refl _ _, fun j x y hj _ _ => by omega⟩
  case round =>
    obtain ⟨k, hk, rfl, hbw, he⟩ := hrel
    have HE := hide he
    have HB := hide hbw
    clear he hbw
    by_cases hlt : k < n
    · obtain ⟨x, hx⟩ : ∃ x, ms[k]? = some x := ⟨ms[k]'(by have := HN.out; omega), List.getElem?_eq_getElem _⟩
      obtain ⟨y, hy⟩ : ∃ y, ms[0]? = some y := ⟨ms[0]'(by have := HN.out; omega), List.getElem?_eq_getElem _⟩
      obtain ⟨b, off, rfl, hcl⟩ := H4.out.resolve_left (fun e => by rw [e] at hx; simp at hx)
      obtain ⟨sa, sn, sc, d0, d1, d2, _⟩ := mx_at hcl hx HB.out
      obtain ⟨ta, tn, tc, _, e1, _, _⟩ := mx_at hcl hy (below_next HB.out (below_one _ (.cells #[.int .i64 x.rows, .int .i64 x.cols, .slice sa sn sc] 24)))
      rw [Nat.zero_mul, Nat.add_zero] at e1
      have HX := hide (And.intro hx hy)
      have hlt' : (k : Int) < (n : Int) := by omega
      have hn0 : (0 : Int) < (n : Int) := by omega
      clear hcl hx hy
      by_cases hf : x.cols = y.cols
      · have hq := eqF hf
        have HF := hide hf
        clear hf
        go_wp2
        go_quiet (fail)
        go_wp2
        exact ⟨⟨k + 1, by omega, by go_num, (below_next HB.out (below_one _ _)).trans ((below_drewN _ _).mono (by have := HB.out.size; simp; omega)), fun j z u hj hz hu => by
          rcases Nat.lt_or_ge j k with h | h
          · exact HE.out j z u h hz hu
          · have e : z = x := Option.some.inj (by rw [← hz, show j = k by omega, HX.out.1])
            have e' : u = y := Option.some.inj (by rw [← hu, HX.out.2])
            rw [e, e']; exact HF.out⟩, by simp [intOf]; omega⟩
      · have hq := eqT hf
        have HF := hide hf
        clear hf
        go_wp2
        go_quiet (fail)
        go_wp2
        go_ret
        exact ⟨ret_bool (sameC_no HX.out.1 HX.out.2 HF.out), (below_next HB.out (below_one _ _)).trans ((below_drewN _ _).mono (by have := HB.out.size; simp; omega))⟩
    · by_cases hz : n = 0
      · have hz' : ¬ (0 : Int) < (n : Int) := by omega
        go_wp2
        go_ret
        have e : ms = [] := List.eq_nil_of_length_eq_zero (by rw [HN.out]; exact hz)
        refine ⟨ret_bool ?_, HB.out⟩
        rw [e]; first | exact sameC_nil | (simp [sameC, hz])
      · have hz' : (0 : Int) < (n : Int) := by omega
        go_wp2
        go_ret
        exact ⟨ret_bool ((show decide _ = true by simp; omega).trans (sameC_yes (by rw [HN.out]; omega) (fun j x y hj hx hy => HE.out j x y (by have := HN.out; omega) hx hy))), HB.out⟩
/-- How many rows there are. -/
def sumR : List Mx → Int
  | [] => 0
  | m :: l => m.rows + sumR l
theorem sumR_snoc (l : List Mx) (m : Mx) : sumR (l ++ [m]) = sumR l + m.rows := by
  induction l with
  | nil => simp [sumR]
  | cons x l ih => simp only [List.cons_append, sumR, ih]; omega
theorem take_snoc {ms : List Mx} {k : Nat} {x : Mx} (hx : ms[k]? = some x) : ms.take (k + 1) = ms.take k ++ [x] := by
  rw [List.take_add_one, hx]; rfl
theorem sumR_bd {ms : List Mx} (h : ∀ x ∈ ms, 0 ≤ x.rows ∧ x.rows ≤ 24) : 0 ≤ sumR ms ∧ sumR ms ≤ 24 * ms.length := by
  induction ms with
  | nil => simp [sumR]
  | cons x l ih =>
    have := ih (fun y hy => h y (by simp [hy]))
    have := h x (by simp)
    simp only [sumR, List.length_cons]
    omega
set_option maxHeartbeats 1600000 in
set_option maxRecDepth 100000 in
theorem countrows_any (v : Value) (ms : List Mx) (w : World) (hv : IsMxs w v ms) (hb : ∀ x ∈ ms, 0 ≤ x.rows ∧ x.rows ≤ 24) (hmax : ms.length ≤ 2000000) : Calls Tryd.prog 36 #[v] w fun e w' => e = .returned (.int .i64 (sumR ms)) ∧ Below w.heap.size w w' := by
  obtain ⟨a, cap, rfl, h2, h3, h4⟩ := hv
  obtain ⟨n, hn⟩ : ∃ n, ms.length = n := ⟨_, rfl⟩
  have HN := hide hn
  have H4 := hide h4
  have HBD := hide hb
  rw [hn] at h2 hmax ⊢
  clear hn h4 hb
  go_enter Tryd.func36, Tryd.ntmps36
  go_wp2
  go_loopw [3, 8] (fun s i wr => ∃ k : Nat, k ≤ n ∧ i = .int .i64 k ∧ s = .int .i64 (sumR (ms.take k)) ∧ Below w.heap.size w wr) (fun _ i _ => n - (intOf i).toNat)
  case atStart => exact ⟨0, Nat.zero_le _, rfl, rfl, Below.refl _ _⟩
  case round =>
    obtain ⟨k, hk, rfl, rfl, hbw⟩ := hrel
    have HB := hide hbw
    clear hbw
    have hs := sumR_bd (ms := ms.take k) (fun x hx => HBD.out x (List.mem_of_mem_take hx))
    have hs2 : (ms.take k).length ≤ 2000000 := by rw [List.length_take]; omega
    obtain ⟨S, hS⟩ : ∃ S, sumR (ms.take k) = S := ⟨_, rfl⟩
    rw [hS] at hs ⊢
    have hS0 : 0 ≤ S := hs.1
    have hS1 : S ≤ 48000000 := by omega
    have HS := hide hS
    clear hs hs2 hS
    by_cases hlt : k < n
    · obtain ⟨x, hx⟩ : ∃ x, ms[k]? = some x := ⟨ms[k]'(by have := HN.out; omega), List.getElem?_eq_getElem _⟩
      obtain ⟨b, off, rfl, hcl⟩ := H4.out.resolve_left (fun e => by rw [e] at hx; simp at hx)
      obtain ⟨sa, sn, sc, d0, d1, d2, _⟩ := mx_at hcl hx HB.out
      have hxb := HBD.out x (List.mem_of_getElem? hx)
      have hxb0 := hxb.1
      have hxb1 := hxb.2
      have HX := hide hx
      have hlt' : (k : Int) < (n : Int) := by omega
      clear hcl hx hxb
      go_wp2
      go_roundw
      case rel => exact ⟨k + 1, by omega, by go_num, by rw [take_snoc HX.out, sumR_snoc, HS.out], below_next HB.out (below_one _ _)⟩
      case measure => simp [intOf]; omega
    · go_wp2
      go_ret
      exact ⟨ret_int (by rw [← HS.out, List.take_of_length_le (by have := HN.out; omega)]), HB.out⟩
end Go.Proofs.YtokohpabmmcioaeDoor
