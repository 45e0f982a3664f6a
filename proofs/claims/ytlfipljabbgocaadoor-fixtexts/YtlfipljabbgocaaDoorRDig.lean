/- What Digits of the document's answer comes to: a number's decimal digits. For numbers from 0 to below ten to the ninth. -/
import Derived.Test.YtlfipljabbgocaaDoorText
namespace Go.Proofs.YtlfipljabbgocaaDoor
open Go.RowKit
theorem ten_at : ∀ d, d < 10 → ((⟨#[48, 49, 50, 51, 52, 53, 54, 55, 56, 57]⟩ : ByteArray).extract d (d + 1)) = ⟨[UInt8.ofNat (48 + d)].toArray⟩ := by
  intro d hd
  rcases (show d = 0 ∨ d = 1 ∨ d = 2 ∨ d = 3 ∨ d = 4 ∨ d = 5 ∨ d = 6 ∨ d = 7 ∨ d = 8 ∨ d = 9 by omega) with rfl | rfl | rfl | rfl | rfl | rfl | rfl | rfl | rfl | rfl <;> rfl
theorem dec_more {n : Nat} (h : 10 ≤ n) (t : List UInt8) : Lib.decDigits n ++ t = Lib.decDigits (n / 10) ++ ([UInt8.ofNat (48 + n % 10)] ++ t) := by
  rw [Lib.decDigits, dif_neg (by omega)]; simp
theorem str_one (d : Nat) (t : List UInt8) : Value.string ((⟨#[48 + UInt8.ofNat d]⟩ : ByteArray) ++ (⟨t.toArray⟩ : ByteArray)) = .string ⟨([UInt8.ofNat (48 + d)] ++ t).toArray⟩ := by
  have e : (48 : UInt8) + UInt8.ofNat d = UInt8.ofNat (48 + d) := by simp
  rw [e]; exact congrArg Value.string (ba_app [UInt8.ofNat (48 + d)] t)
set_option maxHeartbeats 800000 in
theorem rdigits_any (n : Nat) (w : World) (h : n < 1000000000) : Calls Tryd.prog 20 #[.int .i64 n] w fun e w' => e = .returned (.string ⟨(Lib.decDigits n).toArray⟩) ∧ w' = w := by
  have hlen := decDigits_le 8 n (by omega)
  go_enter Tryd.func20, Tryd.ntmps20
  go_wp2
  go_loop [0, 3] (fun i s => ∃ (m : Nat) (t : List UInt8), m ≤ n ∧ i = .int .i64 m ∧ s = .string ⟨t.toArray⟩ ∧ Lib.decDigits m ++ t = Lib.decDigits n) (fun i _ => (intOf i).toNat)
  case atStart => exact ⟨n, [], Nat.le_refl _, rfl, rfl, by simp⟩
  case round =>
    obtain ⟨m, t, hm, rfl, rfl, he⟩ := hrel
    have htl : t.length ≤ 9 := by have := congrArg List.length he; simp at this; omega
    by_cases hlt : 10 ≤ m
    · have e1 := ten_at (m % 10) (by omega)
      rw [dec_more hlt] at he
      have He : Hid _ := he
      clear he
      go_wp2
      go_round
      case rel => exact ⟨m / 10, _, by omega, by go_num, str_one _ _, He.out⟩
      case measure => simp [intOf]; omega
    · have e1 := ten_at m (by omega)
      have e2 := Lib.decDigits_one (show m < 10 by omega)
      rw [e2] at he
      have He : Hid _ := he
      clear he e2
      go_wp2
      go_ret
      exact ⟨congrArg Ending.returned ((str_one _ _).trans (by rw [He.out])), rfl⟩
end Go.Proofs.YtlfipljabbgocaaDoor
