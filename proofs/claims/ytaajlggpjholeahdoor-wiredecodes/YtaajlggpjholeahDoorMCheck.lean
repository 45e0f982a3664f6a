/- What Check of package mat comes to: the fault of a matrix as an error. -/
import Derived.Test.YtaajlggpjholeahDoorRFault
import Derived.Test.YtaajlggpjholeahDoorFix
namespace Go.Proofs.YtaajlggpjholeahDoor
open Go.RowKit
/-- An Errno as an error; OK is nil. -/
def errV (k : Int) : Value := if k = 0 then .nilIface else .iface 32 (.int .i64 k)
theorem ret_err {k : Int} {v : Value} (h : v = errV k) : Ending.returned v = .returned (errV k) := by rw [h]
theorem err_of {k j : Int} (h : j = k) (hj : j ≠ 0) : Value.iface 32 (.int .i64 j) = errV k := by subst h; unfold errV; rw [if_neg hj]
theorem err_no {k : Int} (h : 0 = k) : Value.nilIface = errV k := by subst h; rfl
theorem ends_iff (x : Int) : inEnds x = true ↔ -2147483647 ≤ x ∧ x ≤ 2147483647 := by simp [inEnds]
theorem cl_same {x : Int} (h : inEnds x = true) : (x != cl x) = false := by
  rw [ends_iff] at h; rw [cl_in x h.1 h.2]; simp
theorem cl_off {x : Int} (h : inEnds x = false) : (x != cl x) = true := by
  have h' : ¬ (-2147483647 ≤ x ∧ x ≤ 2147483647) := fun e => by rw [(ends_iff x).2 e] at h; cases h
  rw [bne_iff_ne]
  have := cl_bd x
  omega
set_option maxHeartbeats 1600000 in
set_option maxRecDepth 100000 in
theorem check_any (v : Value) (m : Mx) (w : World) (hv : IsMx w v m) : Calls Tryd.prog 37 #[v] w fun e w' => e = .returned (errV (fault m)) ∧ Below w.heap.size w w' := by
  obtain ⟨s, rfl, hs⟩ := hv
  obtain ⟨r, hr⟩ : ∃ r, m.rows = r := ⟨_, rfl⟩
  obtain ⟨c, hc⟩ : ∃ c, m.cols = c := ⟨_, rfl⟩
  have hlen := hs.len
  unfold maxLen at hlen
  rw [hr, hc]
  by_cases hside : r < 0 ∨ 24 < r ∨ c < 0 ∨ 12 < c
  · have HF := hide (err_of (fault_side (m := m) (by rw [hr, hc]; exact hside)) (by decide))
    clear hs hr hc
    by_cases c1 : r < 0
    · clear hside
      go_enter Tryd.func37, Tryd.ntmps37
      go_wp2
      go_ret
      exact ⟨ret_err HF.out, below_one _ _⟩
    · by_cases c2 : 24 < r
      · clear hside
        go_enter Tryd.func37, Tryd.ntmps37
        go_wp2
        go_ret
        exact ⟨ret_err HF.out, below_one _ _⟩
      · by_cases c3 : c < 0
        · clear hside
          go_enter Tryd.func37, Tryd.ntmps37
          go_wp2
          go_ret
          exact ⟨ret_err HF.out, below_one _ _⟩
        · have c4 : 12 < c := by omega
          clear hside
          go_enter Tryd.func37, Tryd.ntmps37
          go_wp2
          go_ret
          exact ⟨ret_err HF.out, below_one _ _⟩
  · have c1 : 0 ≤ r := by omega
    have c2 : r ≤ 24 := by omega
    have c3 : 0 ≤ c := by omega
    have c4 : c ≤ 12 := by omega
    have hbd := rc_bd r c ⟨c1, c2, c3, c4⟩
    have hok := fault_in (m := m) (by rw [hr, hc]; exact ⟨c1, c2, c3, c4⟩)
    clear hside
    obtain ⟨a, cap, rfl, h2, h3, h4⟩ := hs
    obtain ⟨n, hn⟩ : ∃ n, m.cells.length = n := ⟨_, rfl⟩
    rw [hn] at h2 hlen ⊢
    by_cases hl : (n : Int) = r * c
    · have g1 : ((n : Int) != r * c) = false := by simp [hl]
      have HL := hide (show (m.cells.length : Int) = m.rows * m.cols by rw [hn, hr, hc]; exact hl)
      have HN := hide hn
      have HO := hide hok
      have H4 := hide h4
      have hn288 : n ≤ 288 := by omega
      clear hok hl hn hr hc h4
      go_enter Tryd.func37, Tryd.ntmps37
      go_wp2
      go_loop [37] (fun i => ∃ k : Nat, k ≤ n ∧ i = .int .i64 k ∧ ∀ j x, j < k → m.cells[j]? = some x → inEnds x = true) (fun i => n - (intOf i).toNat)
      case atStart => exact ⟨0, Nat.zero_le _, rfl, fun j x hj _ => by omega⟩
      case round =>
        obtain ⟨k, hk, rfl, he⟩ := hrel
        have HE := hide he
        clear he
        by_cases hlt : k < n
        · obtain ⟨x, hx⟩ : ∃ x, m.cells[k]? = some x := ⟨m.cells[k]'(by have := HN.out; omega), List.getElem?_eq_getElem _⟩
          obtain ⟨b, off, rfl, hcl⟩ := H4.out.resolve_left (fun e => by rw [e] at hx; simp at hx)
          have cx := fun o => cell_past (hcl k x hx) o
          have HX := hide hx
          have hlt' : (k : Int) < (n : Int) := by omega
          clear hcl hx
          cases hin : inEnds x with
          | false =>
            have hb := cl_off hin
            have HI := hide hin
            clear hin
            go_wp2_with (go_at_call 45; refine (clamp_any _ _).mono ?_; rintro e w' ⟨rfl, rfl⟩)
            go_ret
            exact ⟨ret_err (err_of (fault_cell HO.out HL.out (all_no HX.out HI.out)) (by decide)), below_one _ _⟩
          | true =>
            have hb := cl_same hin
            have HI := hide hin
            clear hin
            go_wp2_with (go_at_call 45; refine (clamp_any _ _).mono ?_; rintro e w' ⟨rfl, rfl⟩)
            go_round
            case rel => exact ⟨k + 1, by omega, by go_num, fun j y hj hy => by
              rcases Nat.lt_or_ge j k with h | h
              · exact HE.out j y h hy
              · have e : y = x := Option.some.inj (by rw [← hy, show j = k by omega, HX.out])
                rw [e]; exact HI.out⟩
            case measure => simp [intOf]; omega
        · go_wp2
          go_ret
          exact ⟨ret_err (err_no (fault_none HO.out HL.out (all_yes fun j x hj hx => HE.out j x (by have := HN.out; omega) hx))), below_one _ _⟩
    · have g1 : ((n : Int) != r * c) = true := by simp [hl]
      have HF := hide (err_of (fault_len hok (by rw [hn, hr, hc]; exact hl)) (by decide))
      clear hl hok h4 hn hr hc
      go_enter Tryd.func37, Tryd.ntmps37
      go_wp2
      go_ret
      exact ⟨ret_err HF.out, below_one _ _⟩
end Go.Proofs.YtaajlggpjholeahDoor
