/- The walk of the law FixTexts: it returns true for every int and every text. Conditions: the table of powers of ten and the library's variable errors.errorType are as their texts lay them. -/
import Derived.Test.YtlfipljabbgocaaDoorRParseAll
import Derived.Test.YtlfipljabbgocaaDoorWBack
import Derived.Test.YtlfipljabbgocaaDoorTold
namespace Go.Proofs.YtlfipljabbgocaaDoor
open Go.RowKit
theorem Handle.on {w w1 : World} (h : Handle w) (hb : Below w.heap.size w w1) : Handle w1 :=
  (hb.cell (p := ⟨0, 0, none⟩) (World.block_lt_of_cell? w _ h)).trans h
set_option maxHeartbeats 800000 in
theorem texts_no (x : Int) (l : List UInt8) (w : World) (hP : Pow w) (hH : Handle w) (hl : l.length ≤ maxLen) (h : ∀ y : Int, -2147483647 ≤ y → y ≤ 2147483647 → tx y ≠ l) :
    Calls Tryd.prog 3 #[.int .i64 x, .string ⟨l.toArray⟩] w fun e w' => e = .returned (.bool true) ∧ Below w.heap.size w w' := by
  have H : Hid _ := h
  clear h
  go_enter Tryd.func3, Tryd.ntmps3
  go_wp2_with fail
  refine (text_any _ _ hP).mono ?_
  rintro e w1 ⟨rfl, hb1⟩
  have P1 := hP.on hb1
  have H1 := hH.on hb1
  have s1 := hb1.size
  go_wp2_with fail
  refine (rtext_any _ _).mono ?_
  rintro e w1' ⟨rfl, rfl⟩
  go_wp2_with fail
  refine (parse_no l _ P1 hl H.out).mono ?_
  rintro e w2 ⟨rfl, hb2⟩
  have H2 := H1.on hb2
  have s2 := hb2.size
  go_wp2_with fail
  refine (rparse_no l _ hl H.out).mono ?_
  rintro e w2' ⟨rfl, rfl⟩
  go_wp2_with fail
  refine (error_hit _ _ _ H2).mono ?_
  rintro e w3 ⟨rfl, hb3⟩
  go_wp2
  go_ret
  exact ⟨rfl, (hb1.trans (hb2.mono (by omega))).trans (hb3.mono (by omega))⟩
set_option maxHeartbeats 800000 in
theorem texts_yes (x y : Int) (w : World) (hP : Pow w) (h0 : -2147483647 ≤ y) (h1 : y ≤ 2147483647) :
    Calls Tryd.prog 3 #[.int .i64 x, .string ⟨(tx y).toArray⟩] w fun e w' => e = .returned (.bool true) ∧ Below w.heap.size w w' := by
  go_enter Tryd.func3, Tryd.ntmps3
  go_wp2_with fail
  refine (text_any _ _ hP).mono ?_
  rintro e w1 ⟨rfl, hb1⟩
  have P1 := hP.on hb1
  have s1 := hb1.size
  go_wp2_with fail
  refine (rtext_any _ _).mono ?_
  rintro e w1' ⟨rfl, rfl⟩
  go_wp2_with fail
  refine (parse_yes y _ P1 h0 h1).mono ?_
  rintro e w2 ⟨rfl, hb2⟩
  go_wp2_with fail
  refine (rparse_yes y _ h0 h1).mono ?_
  rintro e w2' ⟨rfl, rfl⟩
  go_wp2
  go_ret
  exact ⟨rfl, hb1.trans (hb2.mono (by omega))⟩
theorem texts_walk (x : Int) (s : ByteArray) (w : World) (hP : Pow w) (hH : Handle w) (hs : s.size ≤ maxLen) :
    Calls Tryd.prog 3 #[.int .i64 x, .string s] w fun e w' => e = .returned (.bool true) ∧ Below w.heap.size w w' := by
  have e : s = ⟨s.data.toList.toArray⟩ := ba_of rfl
  by_cases h : ∃ y : Int, (-2147483647 ≤ y ∧ y ≤ 2147483647) ∧ tx y = s.data.toList
  · obtain ⟨y, ⟨h0, h1⟩, hy⟩ := h
    rw [e, ← hy]; exact texts_yes x y w hP h0 h1
  · rw [e]; exact texts_no x _ w hP hH (by simpa using hs) (fun y h0 h1 hy => h ⟨y, ⟨h0, h1⟩, hy⟩)
end Go.Proofs.YtlfipljabbgocaaDoor
