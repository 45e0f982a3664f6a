/- What Pick of package galleysame comes to: some number from 0 on, below n. -/
import Derived.Test.YtaajlggpjholeahDoorRows
import Derived.Test.YtaajlggpjholeahDoorPlain
namespace Go.Proofs.YtaajlggpjholeahDoor
open Go.RowKit
set_option maxHeartbeats 400000 in
theorem pick_any (c n : Int) (w : World) (h0 : -9223372036854775808 ≤ c) (h1 : c ≤ 9223372036854775807) (hn : 0 < n) (hn1 : n ≤ 1000000) : Calls Tryd.prog 15 #[.int .i64 c, .int .i64 n] w fun e w' => ∃ k : Nat, e = .returned (.int .i64 (k : Int)) ∧ (k : Int) < n ∧ w' = w := by
  have hz : ¬ n = 0 := by omega
  by_cases hc : c < 0
  · have hm0 := Int.emod_nonneg (-(c + 1)) hz
    have hm1 := Int.emod_lt_of_pos (-(c + 1)) hn
    have hm : (-(c + 1)).tmod n = (-(c + 1)) % n := Int.tmod_eq_emod_of_nonneg (by omega)
    have HM := hide (And.intro hm0 (And.intro hm1 hm))
    clear hm0 hm1 hm
    go_enter Tryd.func15, Tryd.ntmps15
    go_wp2
    go_ret
    refine ⟨((-(c + 1)) % n).toNat, ?_, ?_, rfl⟩
    · refine ret_int ?_
      have := HM.out.1
      rw [Int.toNat_of_nonneg this, ← HM.out.2.2]
      first | rfl | rw [Int.neg_tmod]
    · have := HM.out.1; have := HM.out.2.1; omega
  · have hm0 := Int.emod_nonneg c hz
    have hm1 := Int.emod_lt_of_pos c hn
    have hm : c.tmod n = c % n := Int.tmod_eq_emod_of_nonneg (by omega)
    have HM := hide (And.intro hm0 (And.intro hm1 hm))
    clear hm0 hm1 hm
    go_enter Tryd.func15, Tryd.ntmps15
    go_wp2
    go_ret
    refine ⟨(c % n).toNat, ?_, ?_, rfl⟩
    · refine ret_int ?_
      have := HM.out.1
      rw [Int.toNat_of_nonneg this, ← HM.out.2.2]
    · have := HM.out.1; have := HM.out.2.1; omega
end Go.Proofs.YtaajlggpjholeahDoor
