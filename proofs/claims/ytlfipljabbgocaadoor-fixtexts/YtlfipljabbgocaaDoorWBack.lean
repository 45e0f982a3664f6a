/- The walk of the law FixBack: it returns true for every two ints. Condition: the table of powers of ten that Itoa reads is as its text lays it. -/
import Derived.Test.YtlfipljabbgocaaDoorTxBack
import Derived.Test.YtlfipljabbgocaaDoorFact
namespace Go.Proofs.YtlfipljabbgocaaDoor
open Go.RowKit
theorem Pow.lt {w : World} (h : Pow w) : 2 < w.heap.size :=
  World.block_lt_of_cell? w ⟨2, 0, none⟩ (Lib.TabIs.cell h (by kernel_rfl) 0 (by decide))
theorem Pow.on {w w1 : World} (h : Pow w) (hb : Below w.heap.size w w1) : Pow w1 :=
  var?_below hb (by kernel_rfl) h.lt h
set_option maxHeartbeats 800000 in
theorem back_walk (a b : Int) (w : World) (hP : Pow w) : Calls Tryd.prog 6 #[.int .i64 a, .int .i64 b] w fun e w' => e = .returned (.bool true) ∧ Below w.heap.size w w' := by
  have ht := tx_eq (cl a) (cl b)
  have hc := cl_bd a
  have HC : Hid _ := hc
  clear hc
  go_enter Tryd.func6, Tryd.ntmps6
  go_wp2_with fail
  refine (fact_any _ hP).mono ?_
  rintro e w1 ⟨rfl, hb1⟩
  have P1 := hP.on hb1
  have s1 := hb1.size
  go_wp2_with fail
  refine (text_any _ _ P1).mono ?_
  rintro e w2 ⟨rfl, hb2⟩
  have P2 := P1.on hb2
  have s2 := hb2.size
  go_wp2_with fail
  refine (text_any _ _ P2).mono ?_
  rintro e w3 ⟨rfl, hb3⟩
  have P3 := P2.on hb3
  have s3 := hb3.size
  go_wp2_with fail
  refine (parse_yes _ _ P3 HC.out.1 HC.out.2).mono ?_
  rintro e w4 ⟨rfl, hb4⟩
  have s4 := hb4.size
  go_wp2_with (go_at_call 15; refine (clamp_any _ _).mono ?_; rintro e w' ⟨rfl, rfl⟩)
  go_ret
  exact ⟨rfl, ((hb1.trans (hb2.mono (by omega))).trans (hb3.mono (by omega))).trans (hb4.mono (by omega))⟩
end Go.Proofs.YtlfipljabbgocaaDoor
