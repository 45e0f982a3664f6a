/- What MatFault of the document's answer comes to: what is wrong with a matrix. -/
import Derived.Test.YtaajlggpjholeahDoorSame
namespace Go.Proofs.YtaajlggpjholeahDoor
open Go.RowKit
def inEnds (x : Int) : Bool := decide (-2147483647 ≤ x) && decide (x ≤ 2147483647)
/-- Rows and columns are such as may be. -/
def okSides (m : Mx) : Bool := decide (0 ≤ m.rows) && decide (m.rows ≤ 24) && decide (0 ≤ m.cols) && decide (m.cols ≤ 12)
def fault (m : Mx) : Int := if okSides m = false then 1 else if (m.cells.length : Int) ≠ m.rows * m.cols then 2 else if m.cells.all inEnds = false then 1 else 0
theorem fault_side {m : Mx} (h : m.rows < 0 ∨ 24 < m.rows ∨ m.cols < 0 ∨ 12 < m.cols) : 1 = fault m := by
  unfold fault; rw [if_pos (by simp [okSides]; omega)]
theorem fault_in {m : Mx} (h : 0 ≤ m.rows ∧ m.rows ≤ 24 ∧ 0 ≤ m.cols ∧ m.cols ≤ 12) : okSides m = true := by simp [okSides]; omega
theorem fault_len {m : Mx} (h : okSides m = true) (hl : (m.cells.length : Int) ≠ m.rows * m.cols) : 2 = fault m := by
  unfold fault; rw [if_neg (by simp [h]), if_pos hl]
theorem fault_cell {m : Mx} (h : okSides m = true) (hl : (m.cells.length : Int) = m.rows * m.cols) (hc : m.cells.all inEnds = false) : 1 = fault m := by
  unfold fault; rw [if_neg (by simp [h]), if_neg (by simp [hl]), if_pos hc]
theorem fault_none {m : Mx} (h : okSides m = true) (hl : (m.cells.length : Int) = m.rows * m.cols) (hc : m.cells.all inEnds = true) : 0 = fault m := by
  unfold fault; rw [if_neg (by simp [h]), if_neg (by simp [hl]), if_neg (by simp [hc])]
theorem all_no {zs : List Int} {k : Nat} {x : Int} (h : zs[k]? = some x) (hx : inEnds x = false) : zs.all inEnds = false := by
  rw [List.all_eq_false]; exact ⟨x, List.mem_of_getElem? h, by simp [hx]⟩
theorem all_yes {zs : List Int} (h : ∀ k x, k < zs.length → zs[k]? = some x → inEnds x = true) : zs.all inEnds = true := by
  rw [List.all_eq_true]; intro x hx
  obtain ⟨k, hk, rfl⟩ := List.getElem_of_mem hx
  exact h k _ hk (List.getElem?_eq_getElem hk)
theorem rc_bd (r c : Int) (h : 0 ≤ r ∧ r ≤ 24 ∧ 0 ≤ c ∧ c ≤ 12) : 0 ≤ r * c ∧ r * c ≤ 288 := by
  refine ⟨Int.mul_nonneg h.1 h.2.2.1, ?_⟩
  have h1 : r * c ≤ 24 * c := Int.mul_le_mul_of_nonneg_right h.2.1 h.2.2.1
  omega
set_option maxHeartbeats 1600000 in
set_option maxRecDepth 100000 in
theorem fault_any (v : Value) (m : Mx) (w : World) (hv : IsMx w v m) : Calls Tryd.prog 25 #[v] w fun e w' => e = .returned (.int .i64 (fault m)) ∧ Below w.heap.size w w' := by
  obtain ⟨s, rfl, hs⟩ := hv
  obtain ⟨r, hr⟩ : ∃ r, m.rows = r := ⟨_, rfl⟩
  obtain ⟨c, hc⟩ : ∃ c, m.cols = c := ⟨_, rfl⟩
  have hlen := hs.len
  unfold maxLen at hlen
  rw [hr, hc]
  by_cases hside : r < 0 ∨ 24 < r ∨ c < 0 ∨ 12 < c
  · have HF := hide (fault_side (m := m) (by rw [hr, hc]; exact hside))
    clear hs hr hc
    by_cases c1 : r < 0
    · clear hside
      go_enter Tryd.func25, Tryd.ntmps25
      go_wp2
      go_ret
      exact ⟨ret_int HF.out, below_one _ _⟩
    · by_cases c2 : 24 < r
      · clear hside
        go_enter Tryd.func25, Tryd.ntmps25
        go_wp2
        go_ret
        exact ⟨ret_int HF.out, below_one _ _⟩
      · by_cases c3 : c < 0
        · clear hside
          go_enter Tryd.func25, Tryd.ntmps25
          go_wp2
          go_ret
          exact ⟨ret_int HF.out, below_one _ _⟩
        · have c4 : 12 < c := by omega
          clear hside
          go_enter Tryd.func25, Tryd.ntmps25
          go_wp2
          go_ret
          exact ⟨ret_int HF.out, below_one _ _⟩
  · have c1 : 0 ≤ r := by omega
    have c2 : r ≤ 24 := by omega
    have c3 : 0 ≤ c := by omega
    have c4 : c ≤ 12 := by omega
    have hbd := rc_bd r c ⟨c1, c2, c3, c4⟩
    have hok := fault_in (m := m) (by rw [hr, hc]; exact ⟨c1, c2, c3, c4⟩)
    clear hside
    obtain ⟨a, cap, rfl, h2, h3, h4⟩ := hs
    obtain ⟨n, hn⟩ : ∃ n, m.cells.length = n := ⟨_, rfl⟩
    rw [hn] at h2 hlen ⊢
    by_cases hl : (n : Int) = r * c
    · have g1 : ((n : Int) != r * c) = false := by simp [hl]
      have HL := hide (show (m.cells.length : Int) = m.rows * m.cols by rw [hn, hr, hc]; exact hl)
      have HN := hide hn
      have HO := hide hok
      have H4 := hide h4
      have hn288 : n ≤ 288 := by omega
      clear hok hl hn hr hc h4
      go_enter Tryd.func25, Tryd.ntmps25
      go_wp2
      go_loop [3] (fun i => ∃ k : Nat, k ≤ n ∧ i = .int .i64 k ∧ ∀ j x, j < k → m.cells[j]? = some x → inEnds x = true) (fun i => n - (intOf i).toNat)
      case atStart => exact ⟨0, Nat.zero_le _, rfl, fun j x hj _ => by omega⟩
      case round =>
        obtain ⟨k, hk, rfl, he⟩ := hrel
        have HE := hide he
        clear he
        by_cases hlt : k < n
        · obtain ⟨x, hx⟩ : ∃ x, m.cells[k]? = some x := ⟨m.cells[k]'(by have := HN.out; omega), List.getElem?_eq_getElem _⟩
          obtain ⟨b, off, rfl, hcl⟩ := H4.out.resolve_left (fun e => by rw [e] at hx; simp at hx)
          have cx := fun o => cell_past (hcl k x hx) o
          have HX := hide hx
          have hlt' : (k : Int) < (n : Int) := by omega
          clear hcl hx
          go_wp2
          · have hb : inEnds x = false := by
              have : x < -2147483647 ∨ 2147483647 < x := by assumption
              simp [inEnds]; omega
            go_ret
            exact ⟨ret_int (fault_cell HO.out HL.out (all_no HX.out hb)), below_one _ _⟩
          · go_round
            case rel => exact ⟨k + 1, by omega, by go_num, fun j y hj hy => by
              rcases Nat.lt_or_ge j k with h | h
              · exact HE.out j y h hy
              · have e : y = x := Option.some.inj (by rw [← hy, show j = k by omega, HX.out])
                have : -2147483647 ≤ x ∧ x ≤ 2147483647 := by assumption
                rw [e]; simp [inEnds]; omega⟩
            case measure => simp [intOf]; omega
          · have hb : inEnds x = false := by
              have : x < -2147483647 := by assumption
              simp [inEnds]; omega
            go_ret
            exact ⟨ret_int (fault_cell HO.out HL.out (all_no HX.out hb)), below_one _ _⟩
        · go_wp2
          go_ret
          exact ⟨ret_int (fault_none HO.out HL.out (all_yes fun j x hj hx => HE.out j x (by have := HN.out; omega) hx)), below_one _ _⟩
    · have g1 : ((n : Int) != r * c) = true := by simp [hl]
      have HF := hide (fault_len hok (by rw [hn, hr, hc]; exact hl))
      clear hl hok h4 hn hr hc
      go_enter Tryd.func25, Tryd.ntmps25
      go_wp2
      go_ret
      exact ⟨ret_int HF.out, below_one _ _⟩
end Go.Proofs.YtaajlggpjholeahDoor
