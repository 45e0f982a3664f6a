/- What Parse of package fix comes to. -/
import Derived.Test.YtlfipljabbgocaaDoorText
import Derived.Test.YtlfipljabbgocaaDoorCut
import Derived.Test.YtlfipljabbgocaaDoorDig
namespace Go.Proofs.YtlfipljabbgocaaDoor
open Go.RowKit
theorem dig_bad (l : List UInt8) (m : Nat) (hm : m ≤ 8) (hl : l.length ≤ maxLen) (h : m < l.length ∨ dig l = false) (w : World) : Calls Tryd.prog 23 #[.string ⟨l.toArray⟩, .int .i64 m] w fun e w' => e = .returned (.tuple #[.int .i64 0, .bool false]) ∧ w' = w := by
  by_cases hlt : m < l.length
  · exact dig_long ⟨l.toArray⟩ m w (by simp [ByteArray.size]; omega) (by simpa [ByteArray.size] using hl)
  · have hd : dig l = false := by rcases h with h | h; exact absurd h hlt; exact h
    have := dig_short ⟨l.toArray⟩ m w (by simp [ByteArray.size]; omega) (by omega)
    simpa [dvo, hd] using this
theorem dig_good (l : List UInt8) (m : Nat) (hm : m ≤ 8) (h : l.length ≤ m) (hd : dig l = true) (n : Nat) (hn : dv l = n) (w : World) : Calls Tryd.prog 23 #[.string ⟨l.toArray⟩, .int .i64 m] w fun e w' => e = .returned (.tuple #[.int .i64 n, .bool true]) ∧ w' = w := by
  have := dig_short ⟨l.toArray⟩ m w (by simp [ByteArray.size]; omega) (by omega)
  simpa [dvo, hd, hn] using this
/-- What CutPrefix and Cut make of a text: the sign, what is ahead of the point, what is behind it. -/
structure Parts (l r a b : List UInt8) (bl : Bool) : Prop where
  pre : ∀ w, Calls Tryd.prog 21 #[.string ⟨l.toArray⟩, .string ⟨#[45]⟩] w fun e w' => e = .returned (.tuple #[.string ⟨r.toArray⟩, .bool bl]) ∧ w' = w
  cut : ∀ w, Calls Tryd.prog 22 #[.string ⟨r.toArray⟩, .string ⟨#[46]⟩] w fun e w' => ∃ f n, e = .returned (.tuple #[.string ⟨a.toArray⟩, .string ⟨b.toArray⟩, .bool f]) ∧ w' = w.drewN n
theorem dig_some (l : List UInt8) (m : Nat) (hm : m ≤ 8) (hl : l.length ≤ maxLen) (w : World) : Calls Tryd.prog 23 #[.string ⟨l.toArray⟩, .int .i64 m] w fun e w' => ∃ n q, e = .returned (.tuple #[.int .i64 n, .bool q]) ∧ w' = w := by
  by_cases h : m < l.length ∨ dig l = false
  · refine (dig_bad l m hm hl h w).mono ?_
    rintro e w' ⟨rfl, rfl⟩; exact ⟨_, _, rfl, rfl⟩
  · refine (dig_good l m hm (by omega) (by cases hd : dig l; exact absurd (.inr hd) h; rfl) _ rfl w).mono ?_
    rintro e w' ⟨rfl, rfl⟩; exact ⟨_, _, rfl, rfl⟩
theorem below_drewN (w : World) (n : Nat) : Below w.heap.size w (w.drewN n) := ⟨rfl, rfl, rfl, Nat.le_refl _, fun _ _ => rfl⟩
set_option maxHeartbeats 800000 in
theorem parse_A (l r a b : List UInt8) (bl : Bool) (w : World) (hp : Parts l r a b bl) (hb : b.length ≤ maxLen) (ha : a.length ≤ maxLen) (h : 7 < a.length ∨ dig a = false) : Calls Tryd.prog 9 #[.string ⟨l.toArray⟩] w fun e w' => e = .returned (.tuple #[.int .i64 0, .iface 30 (.int .i64 7)]) ∧ Below w.heap.size w w' := by
  have Ha : Hid _ := h
  clear h
  go_enter Tryd.func9, Tryd.ntmps9
  go_wp2_with fail
  refine (hp.pre _).mono ?_
  rintro e w' ⟨rfl, rfl⟩
  go_wp2_with fail
  refine (hp.cut _).mono ?_
  rintro e w' ⟨f, n, rfl, rfl⟩
  go_wp2_with fail
  refine (dig_bad a 7 (by omega) ha Ha.out _).mono ?_
  rintro e w' ⟨rfl, rfl⟩
  go_wp2_with fail
  refine (dig_some b 8 (by omega) hb _).mono ?_
  rintro e w' ⟨m, q, rfl, rfl⟩
  go_wp2
  go_ret2
  exact ⟨rfl, below_drewN _ _⟩
set_option maxHeartbeats 800000 in
theorem parse_B (l r a b : List UInt8) (bl : Bool) (w : World) (hp : Parts l r a b bl) (hb : b.length ≤ maxLen) (ha : a.length ≤ 7) (hda : dig a = true) (h : 8 < b.length ∨ dig b = false) : Calls Tryd.prog 9 #[.string ⟨l.toArray⟩] w fun e w' => e = .returned (.tuple #[.int .i64 0, .iface 30 (.int .i64 7)]) ∧ Below w.heap.size w w' := by
  have Ha : Hid _ := h
  have Hd : Hid _ := hda
  clear h hda
  go_enter Tryd.func9, Tryd.ntmps9
  go_wp2_with fail
  refine (hp.pre _).mono ?_
  rintro e w' ⟨rfl, rfl⟩
  go_wp2_with fail
  refine (hp.cut _).mono ?_
  rintro e w' ⟨f, n, rfl, rfl⟩
  go_wp2_with fail
  refine (dig_good a 7 (by omega) ha Hd.out _ rfl _).mono ?_
  rintro e w' ⟨rfl, rfl⟩
  go_wp2_with fail
  refine (dig_bad b 8 (by omega) hb Ha.out _).mono ?_
  rintro e w' ⟨rfl, rfl⟩
  go_wp2
  go_ret2
  exact ⟨rfl, below_drewN _ _⟩
theorem pow_at (n p : Nat) (h : n ≤ 8) (hp : 10 ^ n = p) (w : World) : Calls Tryd.prog 24 #[.int .i64 n] w fun e w' => e = .returned (.int .i64 p) ∧ w' = w := by
  subst hp; exact pow_any n w h
theorem pow_drewN {w : World} (n : Nat) (h : Pow w) : Pow (w.drewN n) := h
/-- The number that the loose reading gives. -/
def rdN (a b : List UInt8) : Nat := dv a * 256 + dv b * 256 / 10 ^ b.length
theorem rdN_int (a b : List UInt8) (n m p : Nat) (h1 : dv a = n) (h2 : dv b = m) (h3 : 10 ^ b.length = p) : ((rdN a b : Nat) : Int) = (n : Int) * 256 + (m : Int) * 256 / (p : Int) := by
  unfold rdN; rw [h1, h2, h3]; simp
theorem text_at (x z : Int) (w : World) (ht : Pow w) (h : x = z) : Calls Tryd.prog 7 #[.int .i64 x] w fun e w' => e = .returned (.string ⟨(tx (cl z)).toArray⟩) ∧ Below w.heap.size w w' := by
  subst h; exact text_any x w ht
theorem ret_ok {a b : Int} (h : a = b) : Ending.returned (.tuple #[.int .i64 a, .nilIface]) = .returned (.tuple #[.int .i64 b, .nilIface]) := by rw [h]
set_option maxHeartbeats 1600000 in
theorem parse_pos_eq (l r a b : List UInt8) (z : Int) (w : World) (hP : Pow w) (hpt : Parts l r a b false) (hb : b.length ≤ 8) (ha : a.length ≤ 7) (hda : dig a = true) (hdb : dig b = true) (hz : z = ((rdN a b : Nat) : Int)) (hc : (tx (cl z) == l) = true) : Calls Tryd.prog 9 #[.string ⟨l.toArray⟩] w fun e w' => e = .returned (.tuple #[.int .i64 z, .nilIface]) ∧ Below w.heap.size w w' := by
  have Hd : Hid _ := hda
  have Hb : Hid _ := hdb
  have b1 : dv a < 10000000 := Nat.lt_of_lt_of_le (dv_lt _ a rfl hda) (Nat.pow_le_pow_right (n := 10) (j := 7) (by omega) (by omega))
  have b2 : dv b < 100000000 := Nat.lt_of_lt_of_le (dv_lt _ b rfl hdb) (Nat.pow_le_pow_right (n := 10) (j := 8) (by omega) (by omega))
  obtain ⟨n, hn⟩ : ∃ n, dv a = n := ⟨_, rfl⟩
  obtain ⟨m, hm⟩ : ∃ m, dv b = m := ⟨_, rfl⟩
  obtain ⟨p, hp⟩ : ∃ p, 10 ^ b.length = p := ⟨_, rfl⟩
  have HR : Hid _ := rdN_int a b n m p hn hm hp
  rw [hn] at b1
  rw [hm] at b2
  have p0 : 0 < p := by rw [← hp]; exact Nat.pow_pos (by omega)
  have Hn : Hid _ := hn
  have Hm : Hid _ := hm
  have Hp : Hid _ := hp
  have Hz : Hid _ := hz
  have q1 : (0 : Int) ≤ (m : Int) * 256 / (p : Int) := by exact Int.ediv_nonneg (by omega) (by omega)
  have q2 : (m : Int) * 256 / (p : Int) ≤ 25600000000 := Int.le_trans (Int.ediv_le_self _ (by omega)) (by omega)
  clear hda hdb hn hm hp hz
  go_enter Tryd.func9, Tryd.ntmps9
  go_wp2_with fail
  refine (hpt.pre _).mono ?_
  rintro e w' ⟨rfl, rfl⟩
  go_wp2_with fail
  refine (hpt.cut _).mono ?_
  rintro e w' ⟨f, k, rfl, rfl⟩
  go_wp2_with fail
  refine (dig_good a 7 (by omega) ha Hd.out n Hn.out _).mono ?_
  rintro e w' ⟨rfl, rfl⟩
  go_wp2_with fail
  refine (dig_good b 8 (by omega) hb Hb.out m Hm.out _).mono ?_
  rintro e w' ⟨rfl, rfl⟩
  go_wp2_with fail
  refine (pow_at b.length p (by omega) Hp.out _).mono ?_
  rintro e w' ⟨rfl, rfl⟩
  go_wp2_with fail
  refine (text_at _ z _ (pow_drewN k hP) (by have h1 := Hz.out; have h2 := HR.out; omega)).mono ?_
  rintro e w1 ⟨rfl, hb1⟩
  go_wp2
  go_ret2
  exact ⟨ret_ok (by have h1 := Hz.out; have h2 := HR.out; omega), (below_drewN _ _).trans hb1⟩
set_option maxHeartbeats 1600000 in
theorem parse_pos_ne (l r a b : List UInt8) (z : Int) (w : World) (hP : Pow w) (hpt : Parts l r a b false) (hb : b.length ≤ 8) (ha : a.length ≤ 7) (hda : dig a = true) (hdb : dig b = true) (hz : z = ((rdN a b : Nat) : Int)) (hc : (tx (cl z) == l) = false) : Calls Tryd.prog 9 #[.string ⟨l.toArray⟩] w fun e w' => e = .returned (.tuple #[.int .i64 0, .iface 30 (.int .i64 7)]) ∧ Below w.heap.size w w' := by
  have Hd : Hid _ := hda
  have Hb : Hid _ := hdb
  have b1 : dv a < 10000000 := Nat.lt_of_lt_of_le (dv_lt _ a rfl hda) (Nat.pow_le_pow_right (n := 10) (j := 7) (by omega) (by omega))
  have b2 : dv b < 100000000 := Nat.lt_of_lt_of_le (dv_lt _ b rfl hdb) (Nat.pow_le_pow_right (n := 10) (j := 8) (by omega) (by omega))
  obtain ⟨n, hn⟩ : ∃ n, dv a = n := ⟨_, rfl⟩
  obtain ⟨m, hm⟩ : ∃ m, dv b = m := ⟨_, rfl⟩
  obtain ⟨p, hp⟩ : ∃ p, 10 ^ b.length = p := ⟨_, rfl⟩
  have HR : Hid _ := rdN_int a b n m p hn hm hp
  rw [hn] at b1
  rw [hm] at b2
  have p0 : 0 < p := by rw [← hp]; exact Nat.pow_pos (by omega)
  have Hn : Hid _ := hn
  have Hm : Hid _ := hm
  have Hp : Hid _ := hp
  have Hz : Hid _ := hz
  have q1 : (0 : Int) ≤ (m : Int) * 256 / (p : Int) := by exact Int.ediv_nonneg (by omega) (by omega)
  have q2 : (m : Int) * 256 / (p : Int) ≤ 25600000000 := Int.le_trans (Int.ediv_le_self _ (by omega)) (by omega)
  clear hda hdb hn hm hp hz
  go_enter Tryd.func9, Tryd.ntmps9
  go_wp2_with fail
  refine (hpt.pre _).mono ?_
  rintro e w' ⟨rfl, rfl⟩
  go_wp2_with fail
  refine (hpt.cut _).mono ?_
  rintro e w' ⟨f, k, rfl, rfl⟩
  go_wp2_with fail
  refine (dig_good a 7 (by omega) ha Hd.out n Hn.out _).mono ?_
  rintro e w' ⟨rfl, rfl⟩
  go_wp2_with fail
  refine (dig_good b 8 (by omega) hb Hb.out m Hm.out _).mono ?_
  rintro e w' ⟨rfl, rfl⟩
  go_wp2_with fail
  refine (pow_at b.length p (by omega) Hp.out _).mono ?_
  rintro e w' ⟨rfl, rfl⟩
  go_wp2_with fail
  refine (text_at _ z _ (pow_drewN k hP) (by have h1 := Hz.out; have h2 := HR.out; omega)).mono ?_
  rintro e w1 ⟨rfl, hb1⟩
  go_wp2
  go_ret2
  exact ⟨rfl, (below_drewN _ _).trans hb1⟩
set_option maxHeartbeats 1600000 in
theorem parse_neg_eq (l r a b : List UInt8) (z : Int) (w : World) (hP : Pow w) (hpt : Parts l r a b true) (hb : b.length ≤ 8) (ha : a.length ≤ 7) (hda : dig a = true) (hdb : dig b = true) (hz : z = -((rdN a b : Nat) : Int)) (hc : (tx (cl z) == l) = true) : Calls Tryd.prog 9 #[.string ⟨l.toArray⟩] w fun e w' => e = .returned (.tuple #[.int .i64 z, .nilIface]) ∧ Below w.heap.size w w' := by
  have Hd : Hid _ := hda
  have Hb : Hid _ := hdb
  have b1 : dv a < 10000000 := Nat.lt_of_lt_of_le (dv_lt _ a rfl hda) (Nat.pow_le_pow_right (n := 10) (j := 7) (by omega) (by omega))
  have b2 : dv b < 100000000 := Nat.lt_of_lt_of_le (dv_lt _ b rfl hdb) (Nat.pow_le_pow_right (n := 10) (j := 8) (by omega) (by omega))
  obtain ⟨n, hn⟩ : ∃ n, dv a = n := ⟨_, rfl⟩
  obtain ⟨m, hm⟩ : ∃ m, dv b = m := ⟨_, rfl⟩
  obtain ⟨p, hp⟩ : ∃ p, 10 ^ b.length = p := ⟨_, rfl⟩
  have HR : Hid _ := rdN_int a b n m p hn hm hp
  rw [hn] at b1
  rw [hm] at b2
  have p0 : 0 < p := by rw [← hp]; exact Nat.pow_pos (by omega)
  have Hn : Hid _ := hn
  have Hm : Hid _ := hm
  have Hp : Hid _ := hp
  have Hz : Hid _ := hz
  have q1 : (0 : Int) ≤ (m : Int) * 256 / (p : Int) := by exact Int.ediv_nonneg (by omega) (by omega)
  have q2 : (m : Int) * 256 / (p : Int) ≤ 25600000000 := Int.le_trans (Int.ediv_le_self _ (by omega)) (by omega)
  clear hda hdb hn hm hp hz
  go_enter Tryd.func9, Tryd.ntmps9
  go_wp2_with fail
  refine (hpt.pre _).mono ?_
  rintro e w' ⟨rfl, rfl⟩
  go_wp2_with fail
  refine (hpt.cut _).mono ?_
  rintro e w' ⟨f, k, rfl, rfl⟩
  go_wp2_with fail
  refine (dig_good a 7 (by omega) ha Hd.out n Hn.out _).mono ?_
  rintro e w' ⟨rfl, rfl⟩
  go_wp2_with fail
  refine (dig_good b 8 (by omega) hb Hb.out m Hm.out _).mono ?_
  rintro e w' ⟨rfl, rfl⟩
  go_wp2_with fail
  refine (pow_at b.length p (by omega) Hp.out _).mono ?_
  rintro e w' ⟨rfl, rfl⟩
  go_wp2_with fail
  refine (text_at _ z _ (pow_drewN k hP) (by have h1 := Hz.out; have h2 := HR.out; omega)).mono ?_
  rintro e w1 ⟨rfl, hb1⟩
  go_wp2
  go_ret2
  exact ⟨ret_ok (by have h1 := Hz.out; have h2 := HR.out; omega), (below_drewN _ _).trans hb1⟩
set_option maxHeartbeats 1600000 in
theorem parse_neg_ne (l r a b : List UInt8) (z : Int) (w : World) (hP : Pow w) (hpt : Parts l r a b true) (hb : b.length ≤ 8) (ha : a.length ≤ 7) (hda : dig a = true) (hdb : dig b = true) (hz : z = -((rdN a b : Nat) : Int)) (hc : (tx (cl z) == l) = false) : Calls Tryd.prog 9 #[.string ⟨l.toArray⟩] w fun e w' => e = .returned (.tuple #[.int .i64 0, .iface 30 (.int .i64 7)]) ∧ Below w.heap.size w w' := by
  have Hd : Hid _ := hda
  have Hb : Hid _ := hdb
  have b1 : dv a < 10000000 := Nat.lt_of_lt_of_le (dv_lt _ a rfl hda) (Nat.pow_le_pow_right (n := 10) (j := 7) (by omega) (by omega))
  have b2 : dv b < 100000000 := Nat.lt_of_lt_of_le (dv_lt _ b rfl hdb) (Nat.pow_le_pow_right (n := 10) (j := 8) (by omega) (by omega))
  obtain ⟨n, hn⟩ : ∃ n, dv a = n := ⟨_, rfl⟩
  obtain ⟨m, hm⟩ : ∃ m, dv b = m := ⟨_, rfl⟩
  obtain ⟨p, hp⟩ : ∃ p, 10 ^ b.length = p := ⟨_, rfl⟩
  have HR : Hid _ := rdN_int a b n m p hn hm hp
  rw [hn] at b1
  rw [hm] at b2
  have p0 : 0 < p := by rw [← hp]; exact Nat.pow_pos (by omega)
  have Hn : Hid _ := hn
  have Hm : Hid _ := hm
  have Hp : Hid _ := hp
  have Hz : Hid _ := hz
  have q1 : (0 : Int) ≤ (m : Int) * 256 / (p : Int) := by exact Int.ediv_nonneg (by omega) (by omega)
  have q2 : (m : Int) * 256 / (p : Int) ≤ 25600000000 := Int.le_trans (Int.ediv_le_self _ (by omega)) (by omega)
  clear hda hdb hn hm hp hz
  go_enter Tryd.func9, Tryd.ntmps9
  go_wp2_with fail
  refine (hpt.pre _).mono ?_
  rintro e w' ⟨rfl, rfl⟩
  go_wp2_with fail
  refine (hpt.cut _).mono ?_
  rintro e w' ⟨f, k, rfl, rfl⟩
  go_wp2_with fail
  refine (dig_good a 7 (by omega) ha Hd.out n Hn.out _).mono ?_
  rintro e w' ⟨rfl, rfl⟩
  go_wp2_with fail
  refine (dig_good b 8 (by omega) hb Hb.out m Hm.out _).mono ?_
  rintro e w' ⟨rfl, rfl⟩
  go_wp2_with fail
  refine (pow_at b.length p (by omega) Hp.out _).mono ?_
  rintro e w' ⟨rfl, rfl⟩
  go_wp2_with fail
  refine (text_at _ z _ (pow_drewN k hP) (by have h1 := Hz.out; have h2 := HR.out; omega)).mono ?_
  rintro e w1 ⟨rfl, hb1⟩
  go_wp2
  go_ret2
  exact ⟨rfl, (below_drewN _ _).trans hb1⟩
end Go.Proofs.YtlfipljabbgocaaDoor
