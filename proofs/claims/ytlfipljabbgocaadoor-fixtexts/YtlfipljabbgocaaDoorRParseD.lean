/- What Parse of the document's answer comes to at a number's own text that has a point: the number. -/
import Derived.Test.YtlfipljabbgocaaDoorRParseY
namespace Go.Proofs.YtlfipljabbgocaaDoor
open Go.RowKit
set_option maxHeartbeats 1600000 in
set_option maxRecDepth 100000 in
theorem ry_posd (s : ByteArray) (w : World) (a0 L M T : Nat) (d e : Nat → Nat) (z : Int) (hsz : s.size ≤ 18) (hp0 : 0 < s.size) (hb0 : ((s[0].toNat : Int) == 45) = false) (ha0 : a0 = 0) (h1 : ∀ k, k < L → ∃ h : a0 + k < s.size, 48 ≤ s[a0 + k].toNat ∧ s[a0 + k].toNat ≤ 57 ∧ d (k + 1) = d k * 10 + (s[a0 + k].toNat - 48)) (hd0 : d 0 = 0) (hdb : ∀ k, k ≤ L → d k < 10000000)
    (hdot : ∃ h : a0 + L < s.size, s[a0 + L].toNat = 46) (h2 : ∀ j, j < M → ∃ h : a0 + L + 1 + j < s.size, 48 ≤ s[a0 + L + 1 + j].toNat ∧ s[a0 + L + 1 + j].toNat ≤ 57 ∧ e (j + 1) = e j * 10 + (s[a0 + L + 1 + j].toNat - 48)) (hend : a0 + L + 1 + M = s.size) (he0 : e 0 = 0) (hM : M ≤ 8) (heb : ∀ j, j ≤ M → e j < 100000000) (hT : e M * 10 ^ (8 - M) = T) (hTb : T < 100000000) (hz : z = ((d L : Nat) : Int) * 256 + ((T : Nat) : Int) / 390625) (hc : (tx (cl z) == s.toList) = true) :
    Calls Tryd.prog 10 #[.string s] w fun e w' => e = .returned (.tuple #[.int .i64 z, .bool true]) ∧ w' = w := by
  have hL : a0 + L ≤ s.size := by omega
  have H1 : Hid _ := h1
  have Hd : Hid _ := hdb
  have He : Hid _ := hend
  have Hz : Hid _ := hz
  have HA : Hid _ := ha0
  have HD0 : Hid _ := hd0
  have HDOT : Hid _ := hdot
  have H2 : Hid _ := h2
  have HEB : Hid _ := heb
  have HT : Hid _ := hT
  have HTb : Hid _ := hTb
  have HE0 : Hid _ := he0
  clear h1 hdb hend hz ha0 hd0 hdot h2 heb hT hTb he0
  go_enter Tryd.func10, Tryd.ntmps10
  go_wp2
  go_loop [4, 6] (fun i n => ∃ (k p : Nat) (v : Int), k ≤ L ∧ p = a0 + k ∧ v = (d k : Int) ∧ i = .int .i64 p ∧ n = .int .i64 v) (fun i _ => s.size - (intOf i).toNat)
  case atStart => exact ⟨0, 0, 0, by omega, by have := HA.out; omega, by rw [HD0.out]; rfl, rfl, rfl⟩
  case round =>
    obtain ⟨k, p, v, hk, hp, hv, rfl, rfl⟩ := hrel
    have hvb0 : 0 ≤ v := by omega
    have hvb : v < 10000000 := by have := Hd.out k hk; omega
    have hps : p ≤ s.size := by omega
    have Hp : Hid _ := hp
    have Hv : Hid _ := hv
    clear hp hv
    by_cases hkl : k < L
    · obtain ⟨hlt, c1, c2, c3⟩ : ∃ h : p < s.size, 48 ≤ s[p].toNat ∧ s[p].toNat ≤ 57 ∧ d (k + 1) = d k * 10 + (s[p].toNat - 48) := by rw [Hp.out]; exact H1.out k hkl
      have C3 : Hid _ := c3
      clear c3
      have c1' : 48 ≤ (s[p].toNat : Int) := by omega
      have c2' : (s[p].toNat : Int) ≤ 57 := by omega
      clear c1 c2
      go_wp2
      exact ⟨⟨k + 1, p + 1, (d (k + 1) : Int), by omega, by have := Hp.out; omega, rfl, by go_num, congrArg (Value.int .i64) (by have h5 := C3.out; have h6 := Hv.out; omega)⟩, by simp [intOf]; omega⟩
    ·
      have hkL : k = L := by omega
      have HvL : Hid (v = (d L : Int)) := by rw [Hid, Hv.out, hkL]
      have hpL : p = a0 + L := by rw [Hp.out, hkL]
      have HpL : Hid _ := hpL
      obtain ⟨hq, hq46⟩ : ∃ h : p < s.size, s[p].toNat = 46 := by rw [hpL]; exact HDOT.out
      have hd1 : ((s[p].toNat : Int) == 46) = true := beq_iff_eq.2 (by omega)
      have hd2 : (s[p].toNat : Int) < 48 := by omega
      clear hkL hpL hq46
      go_wp2
      go_loop [4, 7, 8] (fun i a b => ∃ (j g : Nat) (u : Int), j ≤ M ∧ g = a0 + L + 1 + j ∧ u = (e j : Int) ∧ i = .int .i64 g ∧ b = .int .i64 j ∧ a = .int .i64 u) (fun i _ _ => s.size - (intOf i).toNat)
      case atStart => exact ⟨0, p + 1, 0, by omega, by have := HpL.out; omega, by rw [HE0.out]; rfl, by go_num, rfl, rfl⟩
      case round =>
        obtain ⟨j, g, u, hj, hg, hu, rfl, rfl, rfl⟩ := hrel
        have hub0 : 0 ≤ u := by omega
        have hub : u < 100000000 := by have := HEB.out j hj; omega
        have hgs : g ≤ s.size := by have := He.out; omega
        have Hg : Hid _ := hg
        have Hu : Hid _ := hu
        clear hg hu
        by_cases hjM : j < M
        · obtain ⟨hlt, c1, c2, c3⟩ : ∃ h : g < s.size, 48 ≤ s[g].toNat ∧ s[g].toNat ≤ 57 ∧ e (j + 1) = e j * 10 + (s[g].toNat - 48) := by rw [Hg.out]; exact H2.out j hjM
          have C3 : Hid _ := c3
          clear c3
          have c1' : 48 ≤ (s[g].toNat : Int) := by omega
          have c2' : (s[g].toNat : Int) ≤ 57 := by omega
          have hj8 : (j : Int) < 8 := by omega
          clear c1 c2
          go_wp2
          exact ⟨⟨j + 1, g + 1, (e (j + 1) : Int), by omega, by have := Hg.out; omega, rfl, by go_num, by go_num, congrArg (Value.int .i64) (by have h5 := C3.out; have h6 := Hu.out; omega)⟩, by simp [intOf]; omega⟩
        · have hge : ¬ g < s.size := by have := He.out; have := Hg.out; omega
          have hjE : j = M := by omega
          have HuM : Hid (u = (e M : Int)) := by rw [Hid, Hu.out, hjE]
          have HjE : Hid _ := hjE
          clear hjE
          go_wp2
          go_loop [7, 8] (fun a b => ∃ (i : Nat) (t : Int), i ≤ 8 ∧ (∃ t0 : Nat, t = (t0 : Int) ∧ t0 * 10 ^ (8 - i) = T) ∧ b = .int .i64 i ∧ a = .int .i64 t) (fun _ b => 8 - (intOf b).toNat)
          case atStart => exact ⟨j, u, by omega, ⟨e M, HuM.out, by rw [HjE.out]; exact HT.out⟩, rfl, rfl⟩
          case round =>
            obtain ⟨i, t, hi, ⟨t0, ht0, ht⟩, rfl, rfl⟩ := hrel
            have hb9 : t0 < 100000000 := Nat.lt_of_le_of_lt (by rw [← ht]; exact Nat.le_mul_of_pos_right _ (Nat.pow_pos (by omega))) HTb.out
            have ht1 : 0 ≤ t := by omega
            have ht2 : t < 100000000 := by omega
            have Ht : Hid _ := ht
            have Ht0 : Hid _ := ht0
            clear ht ht0 hb9
            by_cases hi8 : i < 8
            · have hstep : t0 * 10 * 10 ^ (8 - (i + 1)) = T := by rw [← Ht.out, show 8 - i = (8 - (i + 1)) + 1 by omega, Nat.pow_succ, Nat.mul_assoc, Nat.mul_comm 10]
              have HS : Hid _ := hstep
              clear hstep
              go_wp2
              exact ⟨⟨i + 1, t * 10, by omega, ⟨t0 * 10, by have := Ht0.out; omega, HS.out⟩, by go_num, rfl⟩, by simp [intOf]; omega⟩
            · have htT : t0 = T := by have := Ht.out; rw [show 8 - i = 0 by omega] at this; omega
              have HtT : Hid _ := htT
              clear htT
              go_wp2_with fail
              refine (rtext_at _ z _ ?hx).mono ?_
              case hx => have h1 := Hz.out; have h2 := HvL.out; have h3 := HtT.out; have h4 := Ht0.out; omega
              rintro e w' ⟨rfl, rfl⟩
              go_wp2
              go_ret2
              exact ⟨ret_yes (by have h1 := Hz.out; have h2 := HvL.out; have h3 := HtT.out; have h4 := Ht0.out; omega), rfl⟩
set_option maxHeartbeats 1600000 in
set_option maxRecDepth 100000 in
theorem ry_negd (s : ByteArray) (w : World) (a0 L M T : Nat) (d e : Nat → Nat) (z : Int) (hsz : s.size ≤ 18) (hp0 : 0 < s.size) (hb0 : ((s[0].toNat : Int) == 45) = true) (ha0 : a0 = 1) (h1 : ∀ k, k < L → ∃ h : a0 + k < s.size, 48 ≤ s[a0 + k].toNat ∧ s[a0 + k].toNat ≤ 57 ∧ d (k + 1) = d k * 10 + (s[a0 + k].toNat - 48)) (hd0 : d 0 = 0) (hdb : ∀ k, k ≤ L → d k < 10000000)
    (hdot : ∃ h : a0 + L < s.size, s[a0 + L].toNat = 46) (h2 : ∀ j, j < M → ∃ h : a0 + L + 1 + j < s.size, 48 ≤ s[a0 + L + 1 + j].toNat ∧ s[a0 + L + 1 + j].toNat ≤ 57 ∧ e (j + 1) = e j * 10 + (s[a0 + L + 1 + j].toNat - 48)) (hend : a0 + L + 1 + M = s.size) (he0 : e 0 = 0) (hM : M ≤ 8) (heb : ∀ j, j ≤ M → e j < 100000000) (hT : e M * 10 ^ (8 - M) = T) (hTb : T < 100000000) (hz : z = -(((d L : Nat) : Int) * 256 + ((T : Nat) : Int) / 390625)) (hc : (tx (cl z) == s.toList) = true) :
    Calls Tryd.prog 10 #[.string s] w fun e w' => e = .returned (.tuple #[.int .i64 z, .bool true]) ∧ w' = w := by
  have hL : a0 + L ≤ s.size := by omega
  have H1 : Hid _ := h1
  have Hd : Hid _ := hdb
  have He : Hid _ := hend
  have Hz : Hid _ := hz
  have HA : Hid _ := ha0
  have HD0 : Hid _ := hd0
  have HDOT : Hid _ := hdot
  have H2 : Hid _ := h2
  have HEB : Hid _ := heb
  have HT : Hid _ := hT
  have HTb : Hid _ := hTb
  have HE0 : Hid _ := he0
  clear h1 hdb hend hz ha0 hd0 hdot h2 heb hT hTb he0
  go_enter Tryd.func10, Tryd.ntmps10
  go_wp2
  go_loop [4, 6] (fun i n => ∃ (k p : Nat) (v : Int), k ≤ L ∧ p = a0 + k ∧ v = (d k : Int) ∧ i = .int .i64 p ∧ n = .int .i64 v) (fun i _ => s.size - (intOf i).toNat)
  case atStart => exact ⟨0, 1, 0, by omega, by have := HA.out; omega, by rw [HD0.out]; rfl, rfl, rfl⟩
  case round =>
    obtain ⟨k, p, v, hk, hp, hv, rfl, rfl⟩ := hrel
    have hvb0 : 0 ≤ v := by omega
    have hvb : v < 10000000 := by have := Hd.out k hk; omega
    have hps : p ≤ s.size := by omega
    have Hp : Hid _ := hp
    have Hv : Hid _ := hv
    clear hp hv
    by_cases hkl : k < L
    · obtain ⟨hlt, c1, c2, c3⟩ : ∃ h : p < s.size, 48 ≤ s[p].toNat ∧ s[p].toNat ≤ 57 ∧ d (k + 1) = d k * 10 + (s[p].toNat - 48) := by rw [Hp.out]; exact H1.out k hkl
      have C3 : Hid _ := c3
      clear c3
      have c1' : 48 ≤ (s[p].toNat : Int) := by omega
      have c2' : (s[p].toNat : Int) ≤ 57 := by omega
      clear c1 c2
      go_wp2
      exact ⟨⟨k + 1, p + 1, (d (k + 1) : Int), by omega, by have := Hp.out; omega, rfl, by go_num, congrArg (Value.int .i64) (by have h5 := C3.out; have h6 := Hv.out; omega)⟩, by simp [intOf]; omega⟩
    ·
      have hkL : k = L := by omega
      have HvL : Hid (v = (d L : Int)) := by rw [Hid, Hv.out, hkL]
      have hpL : p = a0 + L := by rw [Hp.out, hkL]
      have HpL : Hid _ := hpL
      obtain ⟨hq, hq46⟩ : ∃ h : p < s.size, s[p].toNat = 46 := by rw [hpL]; exact HDOT.out
      have hd1 : ((s[p].toNat : Int) == 46) = true := beq_iff_eq.2 (by omega)
      have hd2 : (s[p].toNat : Int) < 48 := by omega
      clear hkL hpL hq46
      go_wp2
      go_loop [4, 7, 8] (fun i a b => ∃ (j g : Nat) (u : Int), j ≤ M ∧ g = a0 + L + 1 + j ∧ u = (e j : Int) ∧ i = .int .i64 g ∧ b = .int .i64 j ∧ a = .int .i64 u) (fun i _ _ => s.size - (intOf i).toNat)
      case atStart => exact ⟨0, p + 1, 0, by omega, by have := HpL.out; omega, by rw [HE0.out]; rfl, by go_num, rfl, rfl⟩
      case round =>
        obtain ⟨j, g, u, hj, hg, hu, rfl, rfl, rfl⟩ := hrel
        have hub0 : 0 ≤ u := by omega
        have hub : u < 100000000 := by have := HEB.out j hj; omega
        have hgs : g ≤ s.size := by have := He.out; omega
        have Hg : Hid _ := hg
        have Hu : Hid _ := hu
        clear hg hu
        by_cases hjM : j < M
        · obtain ⟨hlt, c1, c2, c3⟩ : ∃ h : g < s.size, 48 ≤ s[g].toNat ∧ s[g].toNat ≤ 57 ∧ e (j + 1) = e j * 10 + (s[g].toNat - 48) := by rw [Hg.out]; exact H2.out j hjM
          have C3 : Hid _ := c3
          clear c3
          have c1' : 48 ≤ (s[g].toNat : Int) := by omega
          have c2' : (s[g].toNat : Int) ≤ 57 := by omega
          have hj8 : (j : Int) < 8 := by omega
          clear c1 c2
          go_wp2
          exact ⟨⟨j + 1, g + 1, (e (j + 1) : Int), by omega, by have := Hg.out; omega, rfl, by go_num, by go_num, congrArg (Value.int .i64) (by have h5 := C3.out; have h6 := Hu.out; omega)⟩, by simp [intOf]; omega⟩
        · have hge : ¬ g < s.size := by have := He.out; have := Hg.out; omega
          have hjE : j = M := by omega
          have HuM : Hid (u = (e M : Int)) := by rw [Hid, Hu.out, hjE]
          have HjE : Hid _ := hjE
          clear hjE
          go_wp2
          go_loop [7, 8] (fun a b => ∃ (i : Nat) (t : Int), i ≤ 8 ∧ (∃ t0 : Nat, t = (t0 : Int) ∧ t0 * 10 ^ (8 - i) = T) ∧ b = .int .i64 i ∧ a = .int .i64 t) (fun _ b => 8 - (intOf b).toNat)
          case atStart => exact ⟨j, u, by omega, ⟨e M, HuM.out, by rw [HjE.out]; exact HT.out⟩, rfl, rfl⟩
          case round =>
            obtain ⟨i, t, hi, ⟨t0, ht0, ht⟩, rfl, rfl⟩ := hrel
            have hb9 : t0 < 100000000 := Nat.lt_of_le_of_lt (by rw [← ht]; exact Nat.le_mul_of_pos_right _ (Nat.pow_pos (by omega))) HTb.out
            have ht1 : 0 ≤ t := by omega
            have ht2 : t < 100000000 := by omega
            have Ht : Hid _ := ht
            have Ht0 : Hid _ := ht0
            clear ht ht0 hb9
            by_cases hi8 : i < 8
            · have hstep : t0 * 10 * 10 ^ (8 - (i + 1)) = T := by rw [← Ht.out, show 8 - i = (8 - (i + 1)) + 1 by omega, Nat.pow_succ, Nat.mul_assoc, Nat.mul_comm 10]
              have HS : Hid _ := hstep
              clear hstep
              go_wp2
              exact ⟨⟨i + 1, t * 10, by omega, ⟨t0 * 10, by have := Ht0.out; omega, HS.out⟩, by go_num, rfl⟩, by simp [intOf]; omega⟩
            · have htT : t0 = T := by have := Ht.out; rw [show 8 - i = 0 by omega] at this; omega
              have HtT : Hid _ := htT
              clear htT
              go_wp2_with fail
              refine (rtext_at _ z _ ?hx).mono ?_
              case hx => have h1 := Hz.out; have h2 := HvL.out; have h3 := HtT.out; have h4 := Ht0.out; omega
              rintro e w' ⟨rfl, rfl⟩
              go_wp2
              go_ret2
              exact ⟨ret_yes (by have h1 := Hz.out; have h2 := HvL.out; have h3 := HtT.out; have h4 := Ht0.out; omega), rfl⟩
end Go.Proofs.YtlfipljabbgocaaDoor
