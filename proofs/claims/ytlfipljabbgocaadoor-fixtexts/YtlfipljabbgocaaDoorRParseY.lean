/- What Parse of the document's answer comes to at a number's own text without a point: the number. -/
import Derived.Test.YtlfipljabbgocaaDoorRParse
namespace Go.Proofs.YtlfipljabbgocaaDoor
open Go.RowKit
theorem rtext_at (x z : Int) (w : World) (h : x = z) : Calls Tryd.prog 8 #[.int .i64 x] w fun e w' => e = .returned (.string ⟨(tx (cl z)).toArray⟩) ∧ w' = w := by
  subst h; exact rtext_any x w
theorem ret_yes {a b : Int} (h : a = b) : Ending.returned (.tuple #[.int .i64 a, .bool true]) = .returned (.tuple #[.int .i64 b, .bool true]) := by rw [h]
set_option maxHeartbeats 1600000 in
set_option maxRecDepth 100000 in
theorem ry_pos (s : ByteArray) (w : World) (a0 L : Nat) (d : Nat → Nat) (z : Int) (hsz : s.size ≤ 18) (hp0 : 0 < s.size) (hb0 : ((s[0].toNat : Int) == 45) = false) (ha0 : a0 = 0) (h1 : ∀ k, k < L → ∃ h : a0 + k < s.size, 48 ≤ s[a0 + k].toNat ∧ s[a0 + k].toNat ≤ 57 ∧ d (k + 1) = d k * 10 + (s[a0 + k].toNat - 48)) (hd0 : d 0 = 0) (hdb : ∀ k, k ≤ L → d k < 10000000)
    (hend : a0 + L = s.size) (hz : z = ((d L : Nat) : Int) * 256) (hc : (tx (cl z) == s.toList) = true) :
    Calls Tryd.prog 10 #[.string s] w fun e w' => e = .returned (.tuple #[.int .i64 z, .bool true]) ∧ w' = w := by
  have hL : a0 + L ≤ s.size := by omega
  have H1 : Hid _ := h1
  have Hd : Hid _ := hdb
  have He : Hid _ := hend
  have Hz : Hid _ := hz
  have HA : Hid _ := ha0
  have HD0 : Hid _ := hd0
  clear h1 hdb hend hz ha0 hd0
  go_enter Tryd.func10, Tryd.ntmps10
  go_wp2
  go_loop [4, 6] (fun i n => ∃ (k p : Nat) (v : Int), k ≤ L ∧ p = a0 + k ∧ v = (d k : Int) ∧ i = .int .i64 p ∧ n = .int .i64 v) (fun i _ => s.size - (intOf i).toNat)
  case atStart => exact ⟨0, 0, 0, by omega, by have := HA.out; omega, by rw [HD0.out]; rfl, rfl, rfl⟩
  case round =>
    obtain ⟨k, p, v, hk, hp, hv, rfl, rfl⟩ := hrel
    have hvb0 : 0 ≤ v := by omega
    have hvb : v < 10000000 := by have := Hd.out k hk; omega
    have hps : p ≤ s.size := by omega
    have Hp : Hid _ := hp
    have Hv : Hid _ := hv
    clear hp hv
    by_cases hkl : k < L
    · obtain ⟨hlt, c1, c2, c3⟩ : ∃ h : p < s.size, 48 ≤ s[p].toNat ∧ s[p].toNat ≤ 57 ∧ d (k + 1) = d k * 10 + (s[p].toNat - 48) := by rw [Hp.out]; exact H1.out k hkl
      have C3 : Hid _ := c3
      clear c3
      have c1' : 48 ≤ (s[p].toNat : Int) := by omega
      have c2' : (s[p].toNat : Int) ≤ 57 := by omega
      clear c1 c2
      go_wp2
      exact ⟨⟨k + 1, p + 1, (d (k + 1) : Int), by omega, by have := Hp.out; omega, rfl, by go_num, congrArg (Value.int .i64) (by have h5 := C3.out; have h6 := Hv.out; omega)⟩, by simp [intOf]; omega⟩
    ·
      have hq : ¬ p < s.size := by have := He.out; have := Hp.out; omega
      have hkL : k = L := by omega
      have HvL : Hid (v = (d L : Int)) := by rw [Hid, Hv.out, hkL]
      clear hkL
      go_wp2
      go_loop [7, 8] (fun a b => ∃ j : Nat, j ≤ 8 ∧ b = .int .i64 j ∧ a = .int .i64 0) (fun _ b => 8 - (intOf b).toNat)
      case atStart => exact ⟨0, by omega, rfl, rfl⟩
      case round =>
        obtain ⟨j, hj, rfl, rfl⟩ := hrel
        by_cases hj8 : j < 8
        · go_wp2
          exact ⟨⟨j + 1, by omega, by go_num, rfl⟩, by simp [intOf]; omega⟩
        ·
          go_wp2_with fail
          refine (rtext_at _ z _ ?hx).mono ?_
          case hx => have h1 := Hz.out; have h2 := HvL.out; omega
          rintro e w' ⟨rfl, rfl⟩
          go_wp2
          go_ret2
          exact ⟨ret_yes (by have h1 := Hz.out; have h2 := HvL.out; omega), rfl⟩
set_option maxHeartbeats 1600000 in
set_option maxRecDepth 100000 in
theorem ry_neg (s : ByteArray) (w : World) (a0 L : Nat) (d : Nat → Nat) (z : Int) (hsz : s.size ≤ 18) (hp0 : 0 < s.size) (hb0 : ((s[0].toNat : Int) == 45) = true) (ha0 : a0 = 1) (h1 : ∀ k, k < L → ∃ h : a0 + k < s.size, 48 ≤ s[a0 + k].toNat ∧ s[a0 + k].toNat ≤ 57 ∧ d (k + 1) = d k * 10 + (s[a0 + k].toNat - 48)) (hd0 : d 0 = 0) (hdb : ∀ k, k ≤ L → d k < 10000000)
    (hend : a0 + L = s.size) (hz : z = -(((d L : Nat) : Int) * 256)) (hc : (tx (cl z) == s.toList) = true) :
    Calls Tryd.prog 10 #[.string s] w fun e w' => e = .returned (.tuple #[.int .i64 z, .bool true]) ∧ w' = w := by
  have hL : a0 + L ≤ s.size := by omega
  have H1 : Hid _ := h1
  have Hd : Hid _ := hdb
  have He : Hid _ := hend
  have Hz : Hid _ := hz
  have HA : Hid _ := ha0
  have HD0 : Hid _ := hd0
  clear h1 hdb hend hz ha0 hd0
  go_enter Tryd.func10, Tryd.ntmps10
  go_wp2
  go_loop [4, 6] (fun i n => ∃ (k p : Nat) (v : Int), k ≤ L ∧ p = a0 + k ∧ v = (d k : Int) ∧ i = .int .i64 p ∧ n = .int .i64 v) (fun i _ => s.size - (intOf i).toNat)
  case atStart => exact ⟨0, 1, 0, by omega, by have := HA.out; omega, by rw [HD0.out]; rfl, rfl, rfl⟩
  case round =>
    obtain ⟨k, p, v, hk, hp, hv, rfl, rfl⟩ := hrel
    have hvb0 : 0 ≤ v := by omega
    have hvb : v < 10000000 := by have := Hd.out k hk; omega
    have hps : p ≤ s.size := by omega
    have Hp : Hid _ := hp
    have Hv : Hid _ := hv
    clear hp hv
    by_cases hkl : k < L
    · obtain ⟨hlt, c1, c2, c3⟩ : ∃ h : p < s.size, 48 ≤ s[p].toNat ∧ s[p].toNat ≤ 57 ∧ d (k + 1) = d k * 10 + (s[p].toNat - 48) := by rw [Hp.out]; exact H1.out k hkl
      have C3 : Hid _ := c3
      clear c3
      have c1' : 48 ≤ (s[p].toNat : Int) := by omega
      have c2' : (s[p].toNat : Int) ≤ 57 := by omega
      clear c1 c2
      go_wp2
      exact ⟨⟨k + 1, p + 1, (d (k + 1) : Int), by omega, by have := Hp.out; omega, rfl, by go_num, congrArg (Value.int .i64) (by have h5 := C3.out; have h6 := Hv.out; omega)⟩, by simp [intOf]; omega⟩
    ·
      have hq : ¬ p < s.size := by have := He.out; have := Hp.out; omega
      have hkL : k = L := by omega
      have HvL : Hid (v = (d L : Int)) := by rw [Hid, Hv.out, hkL]
      clear hkL
      go_wp2
      go_loop [7, 8] (fun a b => ∃ j : Nat, j ≤ 8 ∧ b = .int .i64 j ∧ a = .int .i64 0) (fun _ b => 8 - (intOf b).toNat)
      case atStart => exact ⟨0, by omega, rfl, rfl⟩
      case round =>
        obtain ⟨j, hj, rfl, rfl⟩ := hrel
        by_cases hj8 : j < 8
        · go_wp2
          exact ⟨⟨j + 1, by omega, by go_num, rfl⟩, by simp [intOf]; omega⟩
        ·
          go_wp2_with fail
          refine (rtext_at _ z _ ?hx).mono ?_
          case hx => have h1 := Hz.out; have h2 := HvL.out; omega
          rintro e w' ⟨rfl, rfl⟩
          go_wp2
          go_ret2
          exact ⟨ret_yes (by have h1 := Hz.out; have h2 := HvL.out; omega), rfl⟩
end Go.Proofs.YtlfipljabbgocaaDoor
