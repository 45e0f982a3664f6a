/- What Parse of package fix comes to at every text: the number of which it is the text, or that there is none. Conditions: the text is no longer than a string may be; the table of powers of ten that Itoa reads is as its text lays it. -/
import Derived.Test.YtlfipljabbgocaaDoorParse
namespace Go.Proofs.YtlfipljabbgocaaDoor
open Go.RowKit
theorem dig_mem {l : List UInt8} (h : dig l = true) {c : UInt8} (hc : c ∈ l) : 48 ≤ c.toNat ∧ c.toNat ≤ 57 := by
  have := List.all_eq_true.1 h c hc
  simpa [isDig] using this
theorem dig_noDot {l : List UInt8} (h : dig l = true) : (46 : UInt8) ∉ l := fun e => by have := dig_mem h e; simp at this
theorem dec_dig (u : Nat) : dig (Lib.decDigits u) = true ∧ dv (Lib.decDigits u) = u := by
  induction u using Nat.strongRecOn with
  | _ u ih =>
    by_cases h : u < 10
    · rw [Lib.decDigits_one h]
      have e : (UInt8.ofNat (48 + u)).toNat = 48 + u := by simp; omega
      constructor
      · simp only [dig, isDig, List.all_cons, List.all_nil, e]; simp; omega
      · simp only [dv, List.foldl_cons, List.foldl_nil, e]; omega
    · obtain ⟨h1, h2⟩ := ih (u / 10) (by omega)
      have e : (UInt8.ofNat (48 + u % 10)).toNat = 48 + u % 10 := by simp; omega
      rw [Lib.decDigits, dif_neg h, dig_snoc, dv_snoc, h1, h2, e]
      constructor
      · simp only [isDig, e]; simp; omega
      · omega
theorem dec_ne (u : Nat) : Lib.decDigits u ≠ [] := by
  rw [Lib.decDigits]; split <;> simp
theorem bpd_facts : ∀ t, t < 256 → dig (bpd 8 t) = true ∧ (bpd 8 t).length ≤ 8 ∧ dv (bpd 8 t) * 256 / 10 ^ (bpd 8 t).length = t := by decide +kernel
theorem head_dig {l r : List UInt8} (h : dig l = true) (hn : l ≠ []) : (l ++ r).head? ≠ some 45 := by
  cases l with
  | nil => exact absurd rfl hn
  | cons x l =>
    intro e
    have hx : x = 45 := by simpa using e
    have := dig_mem h (List.mem_cons_self (a := x) (l := l))
    rw [hx] at this; simp at this
theorem pts {l r a b : List UInt8} {bl f : Bool} (h1 : ∀ w, Calls Tryd.prog 21 #[.string ⟨l.toArray⟩, .string ⟨#[45]⟩] w fun e w' => e = .returned (.tuple #[.string ⟨r.toArray⟩, .bool bl]) ∧ w' = w)
    (h2 : ∀ w, Calls Tryd.prog 22 #[.string ⟨r.toArray⟩, .string ⟨#[46]⟩] w fun e w' => e = .returned (.tuple #[.string ⟨a.toArray⟩, .string ⟨b.toArray⟩, .bool f]) ∧ ∃ n, w' = w.drewN n) : Parts l r a b bl :=
  ⟨h1, fun w => (h2 w).mono (by rintro e w' ⟨rfl, n, rfl⟩; exact ⟨f, n, rfl, rfl⟩)⟩
theorem cut_parts {l r : List UInt8} {bl : Bool} (hl : r.length ≤ maxLen) (h1 : ∀ w, Calls Tryd.prog 21 #[.string ⟨l.toArray⟩, .string ⟨#[45]⟩] w fun e w' => e = .returned (.tuple #[.string ⟨r.toArray⟩, .bool bl]) ∧ w' = w) :
    ∃ a b, Parts l r a b bl ∧ a.length ≤ r.length ∧ b.length ≤ r.length := by
  rcases dot_parts r with h | ⟨a, b, rfl, h⟩
  · exact ⟨r, [], pts h1 (cut_no r h), Nat.le_refl _, by simp⟩
  · exact ⟨a, b, pts h1 (cut_yes a b h (by simpa using hl)), by simp, by simp; omega⟩
/-- Of a text that is no number's there is none. -/
theorem parse_no (l : List UInt8) (w : World) (hP : Pow w) (hl : l.length ≤ maxLen) (h : ∀ y : Int, -2147483647 ≤ y → y ≤ 2147483647 → tx y ≠ l) :
    Calls Tryd.prog 9 #[.string ⟨l.toArray⟩] w fun e w' => e = .returned (.tuple #[.int .i64 0, .iface 30 (.int .i64 7)]) ∧ Below w.heap.size w w' := by
  have hne : ∀ z : Int, (tx (cl z) == l) = false := fun z => by have := h (cl z) (cl_bd z).1 (cl_bd z).2; simpa using this
  obtain ⟨r, bl, hr, h1⟩ : ∃ (r : List UInt8) (bl : Bool), r.length ≤ l.length ∧ ∀ w, Calls Tryd.prog 21 #[.string ⟨l.toArray⟩, .string ⟨#[45]⟩] w fun e w' => e = .returned (.tuple #[.string ⟨r.toArray⟩, .bool bl]) ∧ w' = w := by
    by_cases hh : l.head? = some 45
    · cases l with
      | nil => simp at hh
      | cons x t => obtain rfl : x = 45 := by simpa using hh
                    exact ⟨t, true, by simp, pre_yes t⟩
    · exact ⟨l, false, Nat.le_refl _, pre_no l hh⟩
  obtain ⟨a, b, hp, ha, hb⟩ := cut_parts (by omega) h1
  by_cases c1 : 7 < a.length ∨ dig a = false
  · exact parse_A l r a b bl w hp (by omega) (by omega) c1
  · have d1 : dig a = true := by cases hd : dig a; exact absurd (.inr hd) c1; rfl
    by_cases c2 : 8 < b.length ∨ dig b = false
    · exact parse_B l r a b bl w hp (by omega) (by omega) d1 c2
    · have d2 : dig b = true := by cases hd : dig b; exact absurd (.inr hd) c2; rfl
      cases bl
      · exact parse_pos_ne l r a b _ w hP hp (by omega) (by omega) d1 d2 rfl (hne _)
      · exact parse_neg_ne l r a b _ w hP hp (by omega) (by omega) d1 d2 rfl (hne _)
theorem two_parts (n : Nat) (hn : n ≤ 2147483647) {l : List UInt8} {bl : Bool} (h1 : ∀ w, Calls Tryd.prog 21 #[.string ⟨l.toArray⟩, .string ⟨#[45]⟩] w fun e w' => e = .returned (.tuple #[.string ⟨(Lib.decDigits (n / 256) ++ bp (n % 256)).toArray⟩, .bool bl]) ∧ w' = w) :
    ∃ r a b, Parts l r a b bl ∧ b.length ≤ 8 ∧ a.length ≤ 7 ∧ dig a = true ∧ dig b = true ∧ rdN a b = n := by
  obtain ⟨g1, g2⟩ := dec_dig (n / 256)
  have g3 := decDigits_le 6 (n / 256) (by omega)
  by_cases h0 : n % 256 = 0
  · refine ⟨_, _, [], pts (f := false) h1 ?_, by simp, g3, g1, rfl, by unfold rdN; rw [g2, show dv ([] : List UInt8) * 256 / 10 ^ ([] : List UInt8).length = 0 from by decide]; omega⟩
    rw [h0]
    simpa [bp] using cut_no _ (dig_noDot g1)
  · obtain ⟨e1, e2, e3⟩ := bpd_facts (n % 256) (by omega)
    refine ⟨_, _, bpd 8 (n % 256), pts (f := true) h1 ?_, e2, g3, g1, e1, by unfold rdN; rw [g2, e3]; omega⟩
    have hb : bp (n % 256) = 46 :: bpd 8 (n % 256) := by unfold bp; rw [if_neg h0]
    rw [hb]
    exact cut_yes _ _ (dig_noDot g1) (by unfold maxLen; omega)
/-- A number's text leads back to it. -/
theorem parse_yes (y : Int) (w : World) (hP : Pow w) (h0 : -2147483647 ≤ y) (h1 : y ≤ 2147483647) :
    Calls Tryd.prog 9 #[.string ⟨(tx y).toArray⟩] w fun e w' => e = .returned (.tuple #[.int .i64 y, .nilIface]) ∧ Below w.heap.size w w' := by
  have hc : (tx (cl y) == tx y) = true := by rw [cl_in y h0 h1]; simp
  by_cases hy : y < 0
  · obtain ⟨n, rfl⟩ : ∃ n : Nat, y = -(n : Int) := ⟨y.natAbs, by omega⟩
    have e : tx (-(n : Int)) = 45 :: (Lib.decDigits (n / 256) ++ bp (n % 256)) := by
      unfold tx; rw [if_pos hy, show (-(n : Int)).natAbs = n by omega]; rfl
    obtain ⟨r, a, b, hp, q1, q2, q3, q4, q5⟩ := two_parts n (by omega) (l := tx (-(n : Int))) (bl := true) (by rw [e]; exact pre_yes _)
    exact parse_neg_eq _ r a b _ w hP hp q1 q2 q3 q4 (by rw [q5]) hc
  · obtain ⟨n, rfl⟩ : ∃ n : Nat, y = (n : Int) := ⟨y.natAbs, by omega⟩
    have e : tx (n : Int) = Lib.decDigits (n / 256) ++ bp (n % 256) := by
      unfold tx; rw [if_neg hy, show (n : Int).natAbs = n by omega]; rfl
    obtain ⟨r, a, b, hp, q1, q2, q3, q4, q5⟩ := two_parts n (by omega) (l := tx (n : Int)) (bl := false) (by rw [e]; exact pre_no _ (head_dig (dec_dig _).1 (dec_ne _)))
    exact parse_pos_eq _ r a b _ w hP hp q1 q2 q3 q4 (by rw [q5]) hc
end Go.Proofs.YtlfipljabbgocaaDoor
