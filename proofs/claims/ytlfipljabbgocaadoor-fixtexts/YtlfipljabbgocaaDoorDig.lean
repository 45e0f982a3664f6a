/- What digitsOf and powerOfTen of package fix come to: a short text of digits as a number. -/
import Derived.Test.YtlfipljabbgocaaDoorFix
namespace Go.Proofs.YtlfipljabbgocaaDoor
open Go.RowKit
def isDig (c : UInt8) : Bool := decide (48 ≤ c.toNat) && decide (c.toNat ≤ 57)
def dig (l : List UInt8) : Bool := l.all isDig
def dv (l : List UInt8) : Nat := l.foldl (fun n c => n * 10 + (c.toNat - 48)) 0
theorem dv_snoc (l : List UInt8) (c : UInt8) : dv (l ++ [c]) = dv l * 10 + (c.toNat - 48) := by simp [dv]
theorem dig_snoc (l : List UInt8) (c : UInt8) : dig (l ++ [c]) = (dig l && isDig c) := by simp [dig]
theorem dv_lt : ∀ (k : Nat) (l : List UInt8), l.length = k → dig l = true → dv l < 10 ^ k
  | 0, l, h, _ => by rw [List.length_eq_zero_iff] at h; subst h; decide
  | k + 1, l, h, hd => by
    obtain ⟨a, c, rfl⟩ : ∃ a c, l = a ++ [c] := ⟨l.dropLast, l.getLast (by intro e; simp [e] at h), (List.dropLast_concat_getLast _).symm⟩
    rw [dig_snoc] at hd
    simp only [Bool.and_eq_true] at hd
    have := dv_lt k a (by simpa using h) hd.1
    have hc := hd.2
    simp [isDig] at hc
    rw [dv_snoc, Nat.pow_succ]; omega
theorem take_snoc (s : ByteArray) (k : Nat) (h : k < s.size) : s.data.toList.take (k + 1) = s.data.toList.take k ++ [s[k]] := by
  rw [List.take_succ_eq_append_getElem (by simpa using h)]; rfl
theorem dig_not (s : ByteArray) (k : Nat) (h : k < s.size) (hc : isDig s[k] = false) : dig s.data.toList = false := by
  unfold dig; rw [List.all_eq_false]
  exact ⟨s[k], by rw [← List.take_append_drop (k + 1) s.data.toList, take_snoc s k h]; simp, by simp [hc]⟩
def dvo (l : List UInt8) : Int := if dig l then dv l else 0
theorem dvo_yes {l : List UInt8} (h : dig l = true) : (dv l : Int) = dvo l := by unfold dvo; rw [if_pos h]
theorem dvo_no {l : List UInt8} (h : dig l = false) : 0 = dvo l := by unfold dvo; rw [if_neg (by simp [h])]
theorem dig_long (s : ByteArray) (m : Int) (w : World) (h : m < s.size) (_hm : s.size ≤ maxLen) : Calls Tryd.prog 23 #[.string s, .int .i64 m] w fun e w' => e = .returned (.tuple #[.int .i64 0, .bool false]) ∧ w' = w := by
  unfold maxLen at _hm
  go_enter Tryd.func23, Tryd.ntmps23
  go_wp2
  go_ret2
  exact ⟨rfl, rfl⟩
theorem ret_id {a b : Int} {p q : Bool} (h : a = b) (h' : p = q) : Ending.returned (.tuple #[.int .i64 a, .bool p]) = .returned (.tuple #[.int .i64 b, .bool q]) := by rw [h, h']
set_option maxHeartbeats 800000 in
set_option maxRecDepth 100000 in
theorem dig_short (s : ByteArray) (m : Int) (w : World) (h : s.size ≤ m) (hm : m ≤ 8) : Calls Tryd.prog 23 #[.string s, .int .i64 m] w fun e w' => e = .returned (.tuple #[.int .i64 (dvo s.data.toList), .bool (dig s.data.toList)]) ∧ w' = w := by
  go_enter Tryd.func23, Tryd.ntmps23
  go_wp2
  go_loop [6, 7] (fun t i => ∃ k : Nat, k ≤ s.size ∧ i = .int .i64 k ∧ t = .int .i64 (dv (s.data.toList.take k)) ∧ dig (s.data.toList.take k) = true) (fun _ i => s.size - (intOf i).toNat)
  case atStart => exact ⟨0, Nat.zero_le _, rfl, rfl, rfl⟩
  case round =>
    obtain ⟨k, hk, rfl, rfl, hd⟩ := hrel
    have hb := dv_lt k (s.data.toList.take k) (by simp; omega) hd
    have hp : 10 ^ k ≤ 10 ^ 8 := Nat.pow_le_pow_right (by omega) (by omega)
    have hb' : dv (s.data.toList.take k) < 100000000 := by omega
    clear hb hp
    by_cases hlt : k < s.size
    · have HS := dv_snoc (s.data.toList.take k) s[k]
      have HD := dig_snoc (s.data.toList.take k) s[k]
      rw [← take_snoc s k hlt] at HS HD
      have HS' : Hid _ := HS
      have HD' : Hid _ := HD
      have Hd : Hid _ := hd
      have Hn : Hid (isDig s[k] = false → dig s.data.toList = false) := dig_not s k hlt
      clear HS HD hd
      go_wp2
      · have hx : ((s[k]).toNat : Int) < 48 ∨ 57 < ((s[k]).toNat : Int) := by assumption
        have hn := Hn.out (by simp [isDig]; omega)
        go_ret2
        exact ⟨ret_id (dvo_no hn) hn.symm, rfl⟩
      · have hx : 48 ≤ ((s[k]).toNat : Int) ∧ ((s[k]).toNat : Int) ≤ 57 := by assumption
        go_round
        case rel => exact ⟨k + 1, by omega, by go_num, by rw [HS'.out]; go_num, by rw [HD'.out, Hd.out]; simp [isDig]; omega⟩
        case measure => simp [intOf]; omega
      · have hx : ((s[k]).toNat : Int) < 48 := by assumption
        have hn := Hn.out (by simp [isDig]; omega)
        go_ret2
        exact ⟨ret_id (dvo_no hn) hn.symm, rfl⟩
    · have e : s.data.toList.take k = s.data.toList := List.take_of_length_le (by simp; omega)
      rw [e] at hd
      have He : Hid _ := e
      have Hd : Hid _ := hd
      clear e hd
      go_wp2
      go_ret2
      exact ⟨ret_id (by rw [He.out, dvo_yes Hd.out]) Hd.out.symm, rfl⟩
set_option maxHeartbeats 800000 in
theorem pow_any (n : Nat) (w : World) (h : n ≤ 8) : Calls Tryd.prog 24 #[.int .i64 n] w fun e w' => e = .returned (.int .i64 (10 ^ n : Nat)) ∧ w' = w := by
  go_enter Tryd.func24, Tryd.ntmps24
  go_wp2
  go_loop [3, 5] (fun t i => ∃ k : Nat, k ≤ n ∧ i = .int .i64 k ∧ t = .int .i64 (10 ^ k : Nat)) (fun _ i => n - (intOf i).toNat)
  case atStart => exact ⟨0, Nat.zero_le _, rfl, rfl⟩
  case round =>
    obtain ⟨k, hk, rfl, rfl⟩ := hrel
    have hp : 10 ^ k ≤ 10 ^ 8 := Nat.pow_le_pow_right (by omega) (by omega)
    obtain ⟨q, hq⟩ : ∃ q, q = 10 ^ k := ⟨_, rfl⟩
    rw [← hq] at hp
    have hs : 10 ^ (k + 1) = q * 10 := by rw [Nat.pow_succ, hq]
    rw [← hq]
    have Hq : Hid _ := hq
    have Hs : Hid _ := hs
    clear hq hs
    have hp' : q ≤ 100000000 := by omega
    clear hp
    by_cases hlt : k < n
    · go_wp2
      go_round
      case rel => exact ⟨k + 1, by omega, by go_num, by rw [Hs.out]; go_num⟩
      case measure => simp [intOf]; omega
    · go_wp2
      go_ret
      exact ⟨ret_int (by rw [Hq.out, show k = n by omega]; simp), rfl⟩
end Go.Proofs.YtlfipljabbgocaaDoor
