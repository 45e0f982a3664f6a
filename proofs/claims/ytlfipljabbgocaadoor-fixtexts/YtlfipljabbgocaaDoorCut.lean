/- What strings.Cut at a point and strings.CutPrefix at a minus come to, on lists of bytes. For strings of every length. -/
import Derived.Test.YtlfipljabbgocaaDoorRows
import Derived.WalkKit
import Derived.WalkSpells
import Derived.WalkLawsBesides
import Derived.Outline
import Derived.Deep.QuietTactic
import Derived.BigQuiet
import Derived.Test.YtlfipljabbgocaaDoorShelf
import Derived.Test.YtlfipljabbgocaaDoorShelfS
import Derived.Test.YtlfipljabbgocaaDoorFix
namespace Go.Proofs.YtlfipljabbgocaaDoor
open Go.RowKit
theorem index_none : ∀ (l : List UInt8), (46 : UInt8) ∉ l → Lib.indexByte l 46 = -1
  | [], _ => rfl
  | b :: l, h => by
    have hb : ¬ b = 46 := fun e => h (by simp [e])
    have := index_none l (fun e => h (by simp [e]))
    simp [Lib.indexByte, hb, this]
theorem index_at : ∀ (a b : List UInt8), (46 : UInt8) ∉ a → Lib.indexByte (a ++ 46 :: b) 46 = a.length
  | [], b, _ => by simp [Lib.indexByte]
  | x :: a, b, h => by
    have hx : ¬ x = 46 := fun e => h (by simp [e])
    have ih := index_at a b (fun e => h (by simp [e]))
    simp only [List.cons_append, Lib.indexByte, ih, List.length_cons]
    rw [if_neg (by simpa using hx), if_neg (by simp)]; omega
theorem dot_parts : ∀ (l : List UInt8), (46 : UInt8) ∉ l ∨ ∃ a b, l = a ++ 46 :: b ∧ (46 : UInt8) ∉ a
  | [] => .inl (by simp)
  | x :: l => by
    by_cases hx : x = 46
    · exact .inr ⟨[], l, by simp [hx], by simp⟩
    · rcases dot_parts l with h | ⟨a, b, rfl, h⟩
      · exact .inl (by simp [h]; exact fun e => hx e.symm)
      · exact .inr ⟨x :: a, b, rfl, by simp [h]; exact fun e => hx e.symm⟩
theorem byte_any (l : List UInt8) (w : World) : Calls Tryd.prog 42 #[.string ⟨l.toArray⟩, .int .u8 46] w fun e w' => e = .returned (.int .i64 (Lib.indexByte l 46)) ∧ w' = w :=
  Tryd.stringslite_IndexByte ⟨l.toArray⟩ 46 w
set_option maxHeartbeats 800000 in
set_option maxRecDepth 100000 in
theorem index_any (l : List UInt8) (w : World) : Calls Tryd.prog 33 #[.string ⟨l.toArray⟩, .string ⟨#[46]⟩] w fun e w' => e = .returned (.int .i64 (Lib.indexByte l 46)) ∧ w' = w := by
  by_cases h : l = [46]
  · subst h
    go_enter Tryd.func33, Tryd.ntmps33
    go_wp2
    go_ret
    exact ⟨ret_int (by simp [Lib.indexByte]), rfl⟩
  · have hb : (([46] : List UInt8) == l) = false := by simp; exact fun e => h e.symm
    clear h
    go_enter Tryd.func33, Tryd.ntmps33
    go_wp2_with (go_at_call 42; refine (byte_any _ _).mono ?_; rintro e w' ⟨rfl, rfl⟩)
    go_ret
    exact ⟨rfl, rfl⟩
set_option maxHeartbeats 800000 in
theorem cut0_no (l : List UInt8) (h : (46 : UInt8) ∉ l) (w : World) : Calls Tryd.prog 29 #[.string ⟨l.toArray⟩, .string ⟨#[46]⟩] w fun e w' => e = .returned (.tuple #[.string ⟨l.toArray⟩, .string ⟨#[]⟩, .bool false]) ∧ ∃ n, w' = w.drewN n := by
  have hi := index_none l h
  go_enter Tryd.func29, Tryd.ntmps29
  go_wp2_with (go_at_call 33; refine (index_any _ _).mono ?_; rintro e w' ⟨rfl, rfl⟩)
  go_ret3
  exact ⟨rfl, 0, rfl⟩
theorem ext_head (a b : List UInt8) : (⟨(a ++ 46 :: b).toArray⟩ : ByteArray).extract 0 a.length = ⟨a.toArray⟩ := by
  apply ByteArray.ext; simp
theorem ext_tail (a b : List UInt8) : (⟨(a ++ 46 :: b).toArray⟩ : ByteArray).extract (a.length + 1) (a.length + (b.length + 1)) = ⟨b.toArray⟩ := by
  apply ByteArray.ext; simp; exact List.take_of_length_le (by omega)
set_option maxHeartbeats 800000 in
theorem cut0_yes (a b : List UInt8) (h : (46 : UInt8) ∉ a) (hl : a.length + (b.length + 1) ≤ maxLen) (w : World) : Calls Tryd.prog 29 #[.string ⟨(a ++ 46 :: b).toArray⟩, .string ⟨#[46]⟩] w fun e w' => e = .returned (.tuple #[.string ⟨a.toArray⟩, .string ⟨b.toArray⟩, .bool true]) ∧ ∃ n, w' = w.drewN n := by
  have hi := index_at a b h
  have e1 := ext_head a b
  have e2 := ext_tail a b
  unfold maxLen at hl
  clear h
  go_enter Tryd.func29, Tryd.ntmps29
  go_wp2_with (go_at_call 33; refine (index_any _ _).mono ?_; rintro e w' ⟨rfl, rfl⟩)
  go_quiet (fail)
  go_wp2
  go_ret3
  exact ⟨rfl, _, rfl⟩
set_option maxHeartbeats 800000 in
theorem cut_no (l : List UInt8) (h : (46 : UInt8) ∉ l) (w : World) : Calls Tryd.prog 22 #[.string ⟨l.toArray⟩, .string ⟨#[46]⟩] w fun e w' => e = .returned (.tuple #[.string ⟨l.toArray⟩, .string ⟨#[]⟩, .bool false]) ∧ ∃ n, w' = w.drewN n := by
  go_enter Tryd.func22, Tryd.ntmps22
  go_wp2_with (go_at_call 29; refine (cut0_no _ h _).mono ?_; rintro e w' ⟨rfl, n, rfl⟩)
  go_ret3
  exact ⟨rfl, _, rfl⟩
set_option maxHeartbeats 800000 in
theorem cut_yes (a b : List UInt8) (h : (46 : UInt8) ∉ a) (hl : a.length + (b.length + 1) ≤ maxLen) (w : World) : Calls Tryd.prog 22 #[.string ⟨(a ++ 46 :: b).toArray⟩, .string ⟨#[46]⟩] w fun e w' => e = .returned (.tuple #[.string ⟨a.toArray⟩, .string ⟨b.toArray⟩, .bool true]) ∧ ∃ n, w' = w.drewN n := by
  go_enter Tryd.func22, Tryd.ntmps22
  go_wp2_with (go_at_call 29; refine (cut0_yes _ _ h hl _).mono ?_; rintro e w' ⟨rfl, n, rfl⟩)
  go_ret3
  exact ⟨rfl, _, rfl⟩
theorem pre_no (l : List UInt8) (h : l.head? ≠ some 45) (w : World) : Calls Tryd.prog 21 #[.string ⟨l.toArray⟩, .string ⟨#[45]⟩] w fun e w' => e = .returned (.tuple #[.string ⟨l.toArray⟩, .bool false]) ∧ w' = w := by
  have hp : Lib.hasPrefix l [45] = false := by
    cases l with
    | nil => rfl
    | cons x r => simp at h; simp [Lib.hasPrefix, List.isPrefixOf]; exact fun e => h e.symm
  have := Tryd.strings_CutPrefix ⟨l.toArray⟩ ⟨#[45]⟩ w
  simpa [Lib.trimPrefix, hp] using this
theorem pre_yes (l : List UInt8) (w : World) : Calls Tryd.prog 21 #[.string ⟨(45 :: l).toArray⟩, .string ⟨#[45]⟩] w fun e w' => e = .returned (.tuple #[.string ⟨l.toArray⟩, .bool true]) ∧ w' = w := by
  have hp : Lib.hasPrefix (45 :: l) [45] = true := by simp [Lib.hasPrefix, List.isPrefixOf]
  have := Tryd.strings_CutPrefix ⟨(45 :: l).toArray⟩ ⟨#[45]⟩ w
  simpa [Lib.trimPrefix, hp] using this
end Go.Proofs.YtlfipljabbgocaaDoor
