/- What Parse of the document's answer comes to at a text that is no number's: 0, and that there is none. -/
import Derived.Test.YtlfipljabbgocaaDoorRText
namespace Go.Proofs.YtlfipljabbgocaaDoor
open Go.RowKit
theorem rparse_long (s : ByteArray) (w : World) (h : 18 < s.size) (hm : s.size ≤ maxLen) : Calls Tryd.prog 10 #[.string s] w fun e w' => e = .returned (.tuple #[.int .i64 0, .bool false]) ∧ w' = w := by
  unfold maxLen at hm
  go_enter Tryd.func10, Tryd.ntmps10
  go_wp2
  go_ret2
  exact ⟨rfl, rfl⟩
set_option maxHeartbeats 8000000 in
set_option maxRecDepth 100000 in
theorem rparse_no_plus (s : ByteArray) (w : World) (h : s.size ≤ 18) (hc : ∀ z : Int, (tx (cl z) == s.toList) = false) (hp : 0 < s.size) (h0 : s[0].toNat ≠ 45) :
    Calls Tryd.prog 10 #[.string s] w fun e w' => e = .returned (.tuple #[.int .i64 0, .bool false]) ∧ w' = w := by
  have hb0 : ((s[0].toNat : Int) == 45) = false := beq_eq_false_iff_ne.2 (by omega)
  clear h0
  go_enter Tryd.func10, Tryd.ntmps10
  go_wp2
  go_loop [4, 6] (fun i n => ∃ (k : Nat) (m : Int), k ≤ s.size ∧ i = .int .i64 k ∧ n = .int .i64 m) (fun i _ => s.size - (intOf i).toNat)
  case atStart => exact ⟨0, 0, by omega, rfl, rfl⟩
  case round =>
    obtain ⟨k, m, hk, rfl, rfl⟩ := hrel
    by_cases hlt : k < s.size
    · by_cases hdot : s[k].toNat = 46
      · have hd1 : ((s[k].toNat : Int) == 46) = true := beq_iff_eq.2 (by omega)
        have hd2 : (s[k].toNat : Int) < 48 := by omega
        clear hdot
        go_wp2
        go_loop [4, 7, 8] (fun i p q => ∃ (k j : Nat) (t : Int), k ≤ s.size ∧ j ≤ 8 ∧ i = .int .i64 k ∧ q = .int .i64 j ∧ p = .int .i64 t) (fun i _ _ => s.size - (intOf i).toNat)
        case atStart => exact ⟨k + 1, 0, 0, by omega, by omega, by go_num, rfl, rfl⟩
        case round =>
          obtain ⟨k, j, t, hk, hj, rfl, rfl, rfl⟩ := hrel
          by_cases hlt : k < s.size
          · go_wp2
            · exact ⟨⟨k + 1, j + 1, _, by omega, by omega, by go_num, by go_num, rfl⟩, by simp [intOf]; omega⟩
            all_goals
              go_loop [7, 8] (fun p q => ∃ (j : Nat) (t : Int), j ≤ 8 ∧ q = .int .i64 j ∧ p = .int .i64 t) (fun _ q => 8 - (intOf q).toNat)
              case atStart => first | exact ⟨0, 0, Nat.zero_le _, rfl, rfl⟩ | exact ⟨_, _, hj, rfl, rfl⟩
              case round =>
                obtain ⟨j, t, hj, rfl, rfl⟩ := hrel
                by_cases hj8 : j < 8
                · go_wp2
                  exact ⟨⟨j + 1, _, by omega, by go_num, rfl⟩, by simp [intOf]; omega⟩
                · go_wp2_with (go_at_call 8; refine (rtext_any _ _).mono ?_; rintro e w' ⟨rfl, rfl⟩)
                  go_ret2
                  exact ⟨rfl, rfl⟩
          · go_wp2
            go_loop [7, 8] (fun p q => ∃ (j : Nat) (t : Int), j ≤ 8 ∧ q = .int .i64 j ∧ p = .int .i64 t) (fun _ q => 8 - (intOf q).toNat)
            case atStart => first | exact ⟨0, 0, Nat.zero_le _, rfl, rfl⟩ | exact ⟨_, _, hj, rfl, rfl⟩
            case round =>
              obtain ⟨j, t, hj, rfl, rfl⟩ := hrel
              by_cases hj8 : j < 8
              · go_wp2
                exact ⟨⟨j + 1, _, by omega, by go_num, rfl⟩, by simp [intOf]; omega⟩
              · go_wp2_with (go_at_call 8; refine (rtext_any _ _).mono ?_; rintro e w' ⟨rfl, rfl⟩)
                go_ret2
                exact ⟨rfl, rfl⟩
      · have hd1 : ((s[k].toNat : Int) == 46) = false := beq_eq_false_iff_ne.2 (by omega)
        clear hdot
        go_wp2
        · exact ⟨⟨k + 1, _, by omega, by go_num, rfl⟩, by simp [intOf]; omega⟩
        all_goals
          go_loop [7, 8] (fun p q => ∃ (j : Nat) (t : Int), j ≤ 8 ∧ q = .int .i64 j ∧ p = .int .i64 t) (fun _ q => 8 - (intOf q).toNat)
          case atStart => first | exact ⟨0, 0, Nat.zero_le _, rfl, rfl⟩ | exact ⟨_, _, hj, rfl, rfl⟩
          case round =>
            obtain ⟨j, t, hj, rfl, rfl⟩ := hrel
            by_cases hj8 : j < 8
            · go_wp2
              exact ⟨⟨j + 1, _, by omega, by go_num, rfl⟩, by simp [intOf]; omega⟩
            · go_wp2_with (go_at_call 8; refine (rtext_any _ _).mono ?_; rintro e w' ⟨rfl, rfl⟩)
              go_ret2
              exact ⟨rfl, rfl⟩
    · go_wp2
      go_loop [7, 8] (fun p q => ∃ (j : Nat) (t : Int), j ≤ 8 ∧ q = .int .i64 j ∧ p = .int .i64 t) (fun _ q => 8 - (intOf q).toNat)
      case atStart => first | exact ⟨0, 0, Nat.zero_le _, rfl, rfl⟩ | exact ⟨_, _, hj, rfl, rfl⟩
      case round =>
        obtain ⟨j, t, hj, rfl, rfl⟩ := hrel
        by_cases hj8 : j < 8
        · go_wp2
          exact ⟨⟨j + 1, _, by omega, by go_num, rfl⟩, by simp [intOf]; omega⟩
        · go_wp2_with (go_at_call 8; refine (rtext_any _ _).mono ?_; rintro e w' ⟨rfl, rfl⟩)
          go_ret2
          exact ⟨rfl, rfl⟩
set_option maxHeartbeats 8000000 in
set_option maxRecDepth 100000 in
theorem rparse_no_minus (s : ByteArray) (w : World) (h : s.size ≤ 18) (hc : ∀ z : Int, (tx (cl z) == s.toList) = false) (hp : 0 < s.size) (h0 : s[0].toNat = 45) :
    Calls Tryd.prog 10 #[.string s] w fun e w' => e = .returned (.tuple #[.int .i64 0, .bool false]) ∧ w' = w := by
  have hb0 : ((s[0].toNat : Int) == 45) = true := beq_iff_eq.2 (by omega)
  clear h0
  go_enter Tryd.func10, Tryd.ntmps10
  go_wp2
  go_loop [4, 6] (fun i n => ∃ (k : Nat) (m : Int), k ≤ s.size ∧ i = .int .i64 k ∧ n = .int .i64 m) (fun i _ => s.size - (intOf i).toNat)
  case atStart => exact ⟨1, 0, by omega, rfl, rfl⟩
  case round =>
    obtain ⟨k, m, hk, rfl, rfl⟩ := hrel
    by_cases hlt : k < s.size
    · by_cases hdot : s[k].toNat = 46
      · have hd1 : ((s[k].toNat : Int) == 46) = true := beq_iff_eq.2 (by omega)
        have hd2 : (s[k].toNat : Int) < 48 := by omega
        clear hdot
        go_wp2
        go_loop [4, 7, 8] (fun i p q => ∃ (k j : Nat) (t : Int), k ≤ s.size ∧ j ≤ 8 ∧ i = .int .i64 k ∧ q = .int .i64 j ∧ p = .int .i64 t) (fun i _ _ => s.size - (intOf i).toNat)
        case atStart => exact ⟨k + 1, 0, 0, by omega, by omega, by go_num, rfl, rfl⟩
        case round =>
          obtain ⟨k, j, t, hk, hj, rfl, rfl, rfl⟩ := hrel
          by_cases hlt : k < s.size
          · go_wp2
            · exact ⟨⟨k + 1, j + 1, _, by omega, by omega, by go_num, by go_num, rfl⟩, by simp [intOf]; omega⟩
            all_goals
              go_loop [7, 8] (fun p q => ∃ (j : Nat) (t : Int), j ≤ 8 ∧ q = .int .i64 j ∧ p = .int .i64 t) (fun _ q => 8 - (intOf q).toNat)
              case atStart => first | exact ⟨0, 0, Nat.zero_le _, rfl, rfl⟩ | exact ⟨_, _, hj, rfl, rfl⟩
              case round =>
                obtain ⟨j, t, hj, rfl, rfl⟩ := hrel
                by_cases hj8 : j < 8
                · go_wp2
                  exact ⟨⟨j + 1, _, by omega, by go_num, rfl⟩, by simp [intOf]; omega⟩
                · go_wp2_with (go_at_call 8; refine (rtext_any _ _).mono ?_; rintro e w' ⟨rfl, rfl⟩)
                  go_ret2
                  exact ⟨rfl, rfl⟩
          · go_wp2
            go_loop [7, 8] (fun p q => ∃ (j : Nat) (t : Int), j ≤ 8 ∧ q = .int .i64 j ∧ p = .int .i64 t) (fun _ q => 8 - (intOf q).toNat)
            case atStart => first | exact ⟨0, 0, Nat.zero_le _, rfl, rfl⟩ | exact ⟨_, _, hj, rfl, rfl⟩
            case round =>
              obtain ⟨j, t, hj, rfl, rfl⟩ := hrel
              by_cases hj8 : j < 8
              · go_wp2
                exact ⟨⟨j + 1, _, by omega, by go_num, rfl⟩, by simp [intOf]; omega⟩
              · go_wp2_with (go_at_call 8; refine (rtext_any _ _).mono ?_; rintro e w' ⟨rfl, rfl⟩)
                go_ret2
                exact ⟨rfl, rfl⟩
      · have hd1 : ((s[k].toNat : Int) == 46) = false := beq_eq_false_iff_ne.2 (by omega)
        clear hdot
        go_wp2
        · exact ⟨⟨k + 1, _, by omega, by go_num, rfl⟩, by simp [intOf]; omega⟩
        all_goals
          go_loop [7, 8] (fun p q => ∃ (j : Nat) (t : Int), j ≤ 8 ∧ q = .int .i64 j ∧ p = .int .i64 t) (fun _ q => 8 - (intOf q).toNat)
          case atStart => first | exact ⟨0, 0, Nat.zero_le _, rfl, rfl⟩ | exact ⟨_, _, hj, rfl, rfl⟩
          case round =>
            obtain ⟨j, t, hj, rfl, rfl⟩ := hrel
            by_cases hj8 : j < 8
            · go_wp2
              exact ⟨⟨j + 1, _, by omega, by go_num, rfl⟩, by simp [intOf]; omega⟩
            · go_wp2_with (go_at_call 8; refine (rtext_any _ _).mono ?_; rintro e w' ⟨rfl, rfl⟩)
              go_ret2
              exact ⟨rfl, rfl⟩
    · go_wp2
      go_loop [7, 8] (fun p q => ∃ (j : Nat) (t : Int), j ≤ 8 ∧ q = .int .i64 j ∧ p = .int .i64 t) (fun _ q => 8 - (intOf q).toNat)
      case atStart => first | exact ⟨0, 0, Nat.zero_le _, rfl, rfl⟩ | exact ⟨_, _, hj, rfl, rfl⟩
      case round =>
        obtain ⟨j, t, hj, rfl, rfl⟩ := hrel
        by_cases hj8 : j < 8
        · go_wp2
          exact ⟨⟨j + 1, _, by omega, by go_num, rfl⟩, by simp [intOf]; omega⟩
        · go_wp2_with (go_at_call 8; refine (rtext_any _ _).mono ?_; rintro e w' ⟨rfl, rfl⟩)
          go_ret2
          exact ⟨rfl, rfl⟩
set_option maxHeartbeats 4000000 in
set_option maxRecDepth 100000 in
theorem rparse_no_empty (s : ByteArray) (w : World) (hc : ∀ z : Int, (tx (cl z) == s.toList) = false) (h0 : s.size = 0) :
    Calls Tryd.prog 10 #[.string s] w fun e w' => e = .returned (.tuple #[.int .i64 0, .bool false]) ∧ w' = w := by
  go_enter Tryd.func10, Tryd.ntmps10
  go_wp2
  go_loop [4, 6] (fun i n => i = .int .i64 0 ∧ n = .int .i64 0) (fun i _ => s.size - (intOf i).toNat)
  case atStart => exact ⟨rfl, rfl⟩
  case round =>
    obtain ⟨rfl, rfl⟩ := hrel
    go_wp2
    go_loop [7, 8] (fun p q => ∃ (j : Nat) (t : Int), j ≤ 8 ∧ q = .int .i64 j ∧ p = .int .i64 t) (fun _ q => 8 - (intOf q).toNat)
    case atStart => first | exact ⟨0, 0, Nat.zero_le _, rfl, rfl⟩ | exact ⟨_, _, hj, rfl, rfl⟩
    case round =>
      obtain ⟨j, t, hj, rfl, rfl⟩ := hrel
      by_cases hj8 : j < 8
      · go_wp2
        exact ⟨⟨j + 1, _, by omega, by go_num, rfl⟩, by simp [intOf]; omega⟩
      · go_wp2_with (go_at_call 8; refine (rtext_any _ _).mono ?_; rintro e w' ⟨rfl, rfl⟩)
        go_ret2
        exact ⟨rfl, rfl⟩
theorem rparse_no (l : List UInt8) (w : World) (hl : l.length ≤ maxLen) (h : ∀ y : Int, -2147483647 ≤ y → y ≤ 2147483647 → tx y ≠ l) : Calls Tryd.prog 10 #[.string ⟨l.toArray⟩] w fun e w' => e = .returned (.tuple #[.int .i64 0, .bool false]) ∧ w' = w := by
  have hc : ∀ z : Int, (tx (cl z) == (⟨l.toArray⟩ : ByteArray).toList) = false := fun z => by have := h (cl z) (cl_bd z).1 (cl_bd z).2; simpa using this
  have hs : (⟨l.toArray⟩ : ByteArray).size = l.length := by simp [ByteArray.size]
  by_cases h1 : 18 < l.length
  · exact rparse_long _ w (by omega) (by omega)
  · by_cases h2 : l.length = 0
    · exact rparse_no_empty _ w hc (by omega)
    · by_cases h3 : ((⟨l.toArray⟩ : ByteArray)[0]'(by omega)).toNat = 45
      · exact rparse_no_minus _ w (by omega) hc (by omega) h3
      · exact rparse_no_plus _ w (by omega) hc (by omega) h3
end Go.Proofs.YtlfipljabbgocaaDoor
