/- What Text of the document's answer comes to: the very text that package fix's Text comes to. For every int. -/
import Derived.Test.YtlfipljabbgocaaDoorRDig
import Derived.Test.YtlfipljabbgocaaDoorRTxt
import Derived.Test.YtlfipljabbgocaaDoorRClamp
namespace Go.Proofs.YtlfipljabbgocaaDoor
open Go.RowKit
def strLen : Value → Nat | .string b => b.size | _ => 0
theorem rclamp_at (x z : Int) (w : World) (h : cl x = z) : Calls Tryd.prog 19 #[.int .i64 x] w fun e w' => e = .returned (.int .i64 z) ∧ w' = w := by
  subst h; exact rclamp_any x w
theorem rdigits_int (n : Int) (w : World) (h0 : 0 ≤ n) (h : n < 1000000000) : Calls Tryd.prog 20 #[.int .i64 n] w fun e w' => e = .returned (.string ⟨(Lib.decDigits n.toNat).toArray⟩) ∧ w' = w := by
  obtain ⟨m, rfl⟩ := Int.eq_ofNat_of_zero_le h0
  exact rdigits_any m w (by omega)
theorem bp_not {r : Nat} (h : r ≠ 0) : bp r = 46 :: bpd 8 r := by unfold bp; rw [if_neg h]
theorem bp_nil {r : Nat} (h : r = 0) : bp r = [] := by unfold bp; rw [if_pos h]
theorem ret_four {a b c d e : List UInt8} (h : e = a ++ b ++ c ++ d) : Ending.returned (.string ((⟨a.toArray⟩ : ByteArray) ++ (⟨b.toArray⟩ : ByteArray) ++ (⟨c.toArray⟩ : ByteArray) ++ (⟨d.toArray⟩ : ByteArray))) = .returned (.string ⟨e.toArray⟩) := by
  rw [ba_app, ba_app, ba_app, h]
theorem ret_two {a b e : List UInt8} (h : e = a ++ b) : Ending.returned (.string ((⟨a.toArray⟩ : ByteArray) ++ (⟨b.toArray⟩ : ByteArray))) = .returned (.string ⟨e.toArray⟩) := by
  rw [ba_app, h]
theorem ba_of {b : ByteArray} {l : List UInt8} (h : b.data.toList = l) : b = ⟨l.toArray⟩ := by
  subst h; apply ByteArray.ext; simp
theorem strLen_l (t : List UInt8) : strLen (.string ⟨t.toArray⟩) = t.length := by simp [strLen, ByteArray.size]
theorem strLen_c (t : List UInt8) : strLen (.string ((⟨#[48]⟩ : ByteArray) ++ (⟨t.toArray⟩ : ByteArray))) = t.length + 1 := by
  have := ba_app [48] t
  rw [show ((⟨#[48]⟩ : ByteArray) ++ (⟨t.toArray⟩ : ByteArray)) = ⟨(48 :: t).toArray⟩ from this, strLen_l]; rfl
theorem last_at {b : ByteArray} {l : List UInt8} {n : Nat} (h : b.data.toList = l) (hn : b.size = n + 1) : l.getLast? = some (b[n]'(by omega)) := by
  subst h
  rw [List.getLast?_eq_getElem?]
  have hl : b.data.toList.length = n + 1 := by simpa using hn
  rw [hl, Nat.add_sub_cancel, List.getElem?_eq_getElem (by omega)]
  rfl
theorem ext_list {b : ByteArray} {l m : List UInt8} {n : Nat} (h : b.data.toList = l) (hm : l.take n = m) : (b.extract 0 n).data.toList = m := by
  subst h; rw [← hm]; simp
set_option maxHeartbeats 800000 in
set_option maxRecDepth 100000 in
theorem rtext_neg0 (x : Int) (y : Nat) (w : World) (h0 : 1 ≤ y) (h1 : y ≤ 2147483647) (H : Hid (cl x = -(y : Int))) (hz : y % 256 = 0) : Calls Tryd.prog 8 #[.int .i64 x] w fun e w' => e = .returned (.string ⟨(tx (-(y : Int))).toArray⟩) ∧ w' = w := by
  have HT : Hid _ := tx_neg y h0
  have hl1 := decDigits_le 6 (y / 256) (by omega)
  have hb0 : ((y : Int) % 256 * 390625 == 0) = true := by simp; omega
  go_enter Tryd.func8, Tryd.ntmps8
  go_wp2_with (first | (go_at_call 19; refine (rclamp_at _ _ _ H.out).mono ?_; rintro e w' ⟨rfl, rfl⟩) | (go_at_call 20; refine (rdigits_int _ _ (by omega) (by omega)).mono ?_; rintro e w' ⟨rfl, rfl⟩))
  go_ret
  exact ⟨ret_two (a := [45]) (HT.out.trans (by rw [show ((y : Int) / 256).toNat = y / 256 by omega, bp_nil (show ((y : Int) % 256).toNat = 0 by omega)]; simp)), rfl⟩
set_option maxHeartbeats 800000 in
set_option maxRecDepth 100000 in
theorem rtext_pos0 (x : Int) (y : Nat) (w : World) (h1 : y ≤ 2147483647) (H : Hid (cl x = (y : Int))) (hz : y % 256 = 0) : Calls Tryd.prog 8 #[.int .i64 x] w fun e w' => e = .returned (.string ⟨(tx ((y : Int))).toArray⟩) ∧ w' = w := by
  have HT : Hid _ := tx_pos y
  have hl1 := decDigits_le 6 (y / 256) (by omega)
  have hb0 : ((y : Int) % 256 * 390625 == 0) = true := by simp; omega
  go_enter Tryd.func8, Tryd.ntmps8
  go_wp2_with (first | (go_at_call 19; refine (rclamp_at _ _ _ H.out).mono ?_; rintro e w' ⟨rfl, rfl⟩) | (go_at_call 20; refine (rdigits_int _ _ (by omega) (by omega)).mono ?_; rintro e w' ⟨rfl, rfl⟩))
  go_ret
  exact ⟨ret_two (a := []) (HT.out.trans (by rw [show ((y : Int) / 256).toNat = y / 256 by omega, bp_nil (show ((y : Int) % 256).toNat = 0 by omega)]; simp)), rfl⟩
set_option maxHeartbeats 1600000 in
set_option maxRecDepth 100000 in
theorem rtext_neg1 (x : Int) (y r : Nat) (w : World) (h0 : 1 ≤ y) (h1 : y ≤ 2147483647) (H : Hid (cl x = -(y : Int))) (hr : r = y % 256) (hz : r ≠ 0) : Calls Tryd.prog 8 #[.int .i64 x] w fun e w' => e = .returned (.string ⟨(tx (-(y : Int))).toArray⟩) ∧ w' = w := by
  have HT : Hid _ := tx_neg y h0
  have hl1 := decDigits_le 6 (y / 256) (by omega)
  have hb0 : ((y : Int) % 256 * 390625 == 0) = false := beq_eq_false_iff_ne.2 (by omega)
  have hP := part_pad r (by omega) hz
  have hL := (part_dd r (by omega) hz).2
  have hl2 := decDigits_le 7 (r * 390625) (by omega)
  have hl3 := bpd_le 8 r
  obtain ⟨u, hu⟩ : ∃ u, bpd 8 r = u := ⟨_, rfl⟩
  rw [hu] at hP hL hl3
  have HP : Hid _ := hP
  have HL : Hid _ := hL
  have HU : Hid _ := hu
  have hR : ((y : Int) % 256 * 390625).toNat = r * 390625 := by omega
  have HR : Hid _ := hR
  have Hr : Hid _ := hr
  have HZ : Hid _ := hz
  clear hP hL hu hR hr hz
  go_enter Tryd.func8, Tryd.ntmps8
  go_wp2_with (first | (go_at_call 19; refine (rclamp_at _ _ _ H.out).mono ?_; rintro e w' ⟨rfl, rfl⟩) | (go_at_call 20; refine (rdigits_int _ _ (by omega) (by omega)).mono ?_; rintro e w' ⟨rfl, rfl⟩))
  go_loop [6] (fun s => ∃ t : List UInt8, s = .string ⟨t.toArray⟩ ∧ t.length ≤ 8 ∧ pad t = u ++ List.replicate (8 - u.length) 48) (fun s => 8 - strLen s)
  case atStart => exact ⟨_, congrArg (fun n => Value.string ⟨(Lib.decDigits n).toArray⟩) HR.out, by omega, HP.out⟩
  case round =>
    obtain ⟨t, rfl, ht, hp⟩ := hrel
    by_cases hlt : t.length < 8
    · have Hp : Hid _ := (pad_cons t hlt).trans hp
      clear hp
      go_wp2
      exact ⟨⟨48 :: t, congrArg Value.string (ba_app [48] t), by simp; omega, Hp.out⟩, by rw [strLen_c, strLen_l]; omega⟩
    · rw [pad_full t (by omega)] at hp
      have Hp : Hid _ := hp
      clear hp
      go_wp2
      go_loop [6] (fun s => ∃ (i : Nat) (b : ByteArray), s = .string b ∧ i ≤ 8 ∧ b.data.toList = u ++ List.replicate i 48) (fun s => strLen s)
      case atStart => exact ⟨8 - u.length, _, rfl, by omega, Hp.out⟩
      case round =>
        obtain ⟨i, b, rfl, hi, hb⟩ := hrel
        obtain ⟨c1, c2, c3⟩ := last_cases u i HL.out.2 HL.out.1
        obtain ⟨n, hn⟩ : ∃ n, b.size = n + 1 := by
          have e1 := congrArg List.length hb
          have e2 : u.length ≠ 0 := fun e => HL.out.2 (List.length_eq_zero_iff.1 e)
          simp at e1
          exact ⟨b.size - 1, by omega⟩
        have hla := last_at hb hn
        have hs8 : n < 20 := by
          have e1 := congrArg List.length hb
          simp at e1; omega
        have HB : Hid _ := hb
        have C2 : Hid _ := c2
        have C3 : Hid _ := c3
        have HLA : Hid _ := hla
        clear hb c1 c2 c3 hla
        go_wp2
        · have hx : ((b[n]'(by omega)).toNat : Int) == 48 := by assumption
          have hx' : b[n]'(by omega) = 48 := UInt8.toNat_inj.1 (by have := beq_iff_eq.1 hx; simp; omega)
          obtain ⟨j, rfl⟩ := C2.out (by rw [HLA.out, hx'])
          have hlen : (u ++ List.replicate (j + 1) (48 : UInt8)).length = n + 1 := by rw [← HB.out]; simpa using hn
          exact ⟨⟨j, _, rfl, by omega, ext_list HB.out (strip_one u j n hlen)⟩, by simp [strLen]; omega⟩
        · have hx : (((b[n]'(by omega)).toNat : Int) == 48) = false := by assumption
          have hi0 : i = 0 := C3.out (by
            rw [HLA.out]; intro e
            have e' : b[n]'(by omega) = 48 := Option.some.inj e
            rw [e'] at hx; simp at hx)
          have hbu : b = ⟨u.toArray⟩ := ba_of (by rw [HB.out, hi0]; simp)
          go_ret
          exact ⟨(congrArg (fun q : ByteArray => Ending.returned (.string ((⟨[45].toArray⟩ : ByteArray) ++ (⟨(Lib.decDigits (y / 256)).toArray⟩ : ByteArray) ++ (⟨[46].toArray⟩ : ByteArray) ++ q))) hbu).trans (ret_four (HT.out.trans (by rw [show ((y : Int) / 256).toNat = y / 256 by omega, show ((y : Int) % 256).toNat = r by have := Hr.out; omega, bp_not HZ.out, HU.out]; simp))), rfl⟩
set_option maxHeartbeats 1600000 in
set_option maxRecDepth 100000 in
theorem rtext_pos1 (x : Int) (y r : Nat) (w : World) (h1 : y ≤ 2147483647) (H : Hid (cl x = (y : Int))) (hr : r = y % 256) (hz : r ≠ 0) : Calls Tryd.prog 8 #[.int .i64 x] w fun e w' => e = .returned (.string ⟨(tx ((y : Int))).toArray⟩) ∧ w' = w := by
  have HT : Hid _ := tx_pos y
  have hl1 := decDigits_le 6 (y / 256) (by omega)
  have hb0 : ((y : Int) % 256 * 390625 == 0) = false := beq_eq_false_iff_ne.2 (by omega)
  have hP := part_pad r (by omega) hz
  have hL := (part_dd r (by omega) hz).2
  have hl2 := decDigits_le 7 (r * 390625) (by omega)
  have hl3 := bpd_le 8 r
  obtain ⟨u, hu⟩ : ∃ u, bpd 8 r = u := ⟨_, rfl⟩
  rw [hu] at hP hL hl3
  have HP : Hid _ := hP
  have HL : Hid _ := hL
  have HU : Hid _ := hu
  have hR : ((y : Int) % 256 * 390625).toNat = r * 390625 := by omega
  have HR : Hid _ := hR
  have Hr : Hid _ := hr
  have HZ : Hid _ := hz
  clear hP hL hu hR hr hz
  go_enter Tryd.func8, Tryd.ntmps8
  go_wp2_with (first | (go_at_call 19; refine (rclamp_at _ _ _ H.out).mono ?_; rintro e w' ⟨rfl, rfl⟩) | (go_at_call 20; refine (rdigits_int _ _ (by omega) (by omega)).mono ?_; rintro e w' ⟨rfl, rfl⟩))
  go_loop [6] (fun s => ∃ t : List UInt8, s = .string ⟨t.toArray⟩ ∧ t.length ≤ 8 ∧ pad t = u ++ List.replicate (8 - u.length) 48) (fun s => 8 - strLen s)
  case atStart => exact ⟨_, congrArg (fun n => Value.string ⟨(Lib.decDigits n).toArray⟩) HR.out, by omega, HP.out⟩
  case round =>
    obtain ⟨t, rfl, ht, hp⟩ := hrel
    by_cases hlt : t.length < 8
    · have Hp : Hid _ := (pad_cons t hlt).trans hp
      clear hp
      go_wp2
      exact ⟨⟨48 :: t, congrArg Value.string (ba_app [48] t), by simp; omega, Hp.out⟩, by rw [strLen_c, strLen_l]; omega⟩
    · rw [pad_full t (by omega)] at hp
      have Hp : Hid _ := hp
      clear hp
      go_wp2
      go_loop [6] (fun s => ∃ (i : Nat) (b : ByteArray), s = .string b ∧ i ≤ 8 ∧ b.data.toList = u ++ List.replicate i 48) (fun s => strLen s)
      case atStart => exact ⟨8 - u.length, _, rfl, by omega, Hp.out⟩
      case round =>
        obtain ⟨i, b, rfl, hi, hb⟩ := hrel
        obtain ⟨c1, c2, c3⟩ := last_cases u i HL.out.2 HL.out.1
        obtain ⟨n, hn⟩ : ∃ n, b.size = n + 1 := by
          have e1 := congrArg List.length hb
          have e2 : u.length ≠ 0 := fun e => HL.out.2 (List.length_eq_zero_iff.1 e)
          simp at e1
          exact ⟨b.size - 1, by omega⟩
        have hla := last_at hb hn
        have hs8 : n < 20 := by
          have e1 := congrArg List.length hb
          simp at e1; omega
        have HB : Hid _ := hb
        have C2 : Hid _ := c2
        have C3 : Hid _ := c3
        have HLA : Hid _ := hla
        clear hb c1 c2 c3 hla
        go_wp2
        · have hx : ((b[n]'(by omega)).toNat : Int) == 48 := by assumption
          have hx' : b[n]'(by omega) = 48 := UInt8.toNat_inj.1 (by have := beq_iff_eq.1 hx; simp; omega)
          obtain ⟨j, rfl⟩ := C2.out (by rw [HLA.out, hx'])
          have hlen : (u ++ List.replicate (j + 1) (48 : UInt8)).length = n + 1 := by rw [← HB.out]; simpa using hn
          exact ⟨⟨j, _, rfl, by omega, ext_list HB.out (strip_one u j n hlen)⟩, by simp [strLen]; omega⟩
        · have hx : (((b[n]'(by omega)).toNat : Int) == 48) = false := by assumption
          have hi0 : i = 0 := C3.out (by
            rw [HLA.out]; intro e
            have e' : b[n]'(by omega) = 48 := Option.some.inj e
            rw [e'] at hx; simp at hx)
          have hbu : b = ⟨u.toArray⟩ := ba_of (by rw [HB.out, hi0]; simp)
          go_ret
          exact ⟨(congrArg (fun q : ByteArray => Ending.returned (.string ((⟨([] : List UInt8).toArray⟩ : ByteArray) ++ (⟨(Lib.decDigits (y / 256)).toArray⟩ : ByteArray) ++ (⟨[46].toArray⟩ : ByteArray) ++ q))) hbu).trans (ret_four (HT.out.trans (by rw [show ((y : Int) / 256).toNat = y / 256 by omega, show ((y : Int) % 256).toNat = r by have := Hr.out; omega, bp_not HZ.out, HU.out]; simp))), rfl⟩
theorem rtext_any (x : Int) (w : World) : Calls Tryd.prog 8 #[.int .i64 x] w fun e w' => e = .returned (.string ⟨(tx (cl x)).toArray⟩) ∧ w' = w := by
  have hb := cl_bd x
  by_cases h : cl x < 0
  · obtain ⟨y, hy⟩ : ∃ y : Nat, cl x = -(y : Int) := ⟨(cl x).natAbs, by omega⟩
    rw [hy]
    by_cases hz : y % 256 = 0
    · exact rtext_neg0 x y w (by omega) (by omega) hy hz
    · exact rtext_neg1 x y _ w (by omega) (by omega) hy rfl hz
  · obtain ⟨y, hy⟩ : ∃ y : Nat, cl x = (y : Int) := ⟨(cl x).natAbs, by omega⟩
    rw [hy]
    by_cases hz : y % 256 = 0
    · exact rtext_pos0 x y w (by omega) hy hz
    · exact rtext_pos1 x y _ w (by omega) hy rfl hz
end Go.Proofs.YtlfipljabbgocaaDoor
