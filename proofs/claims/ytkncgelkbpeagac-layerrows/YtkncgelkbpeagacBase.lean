/- Small facts that the walks share: endings that are equal, facts kept from the walk, worlds of which nothing old has turned; division that rounds towards 0. No program in sight. -/
import Derived.WalkKit
import Derived.WalkSpells
import Derived.WalkLawsBesides
import Derived.Outline
import Derived.Deep.QuietTactic
import Derived.Test.YtkncgelkbpeagacNum
namespace Go.Proofs.Ytkncgelkbpeagac
open Go.RowKit
theorem hide {p : Prop} (h : p) : Hid p := h
theorem ret_int {k : IntKind} {a b : Int} (h : a = b) : Ending.returned (.int k a) = .returned (.int k b) := by rw [h]
theorem ret_bool {p q : Bool} (h : p = q) : Ending.returned (.bool p) = .returned (.bool q) := by rw [h]
theorem ret_str {l l' : List UInt8} (h : l = l') : Ending.returned (.string ⟨l.toArray⟩) = .returned (.string ⟨l'.toArray⟩) := by rw [h]
theorem below_drewN (w : World) (n : Nat) : Below w.heap.size w (w.drewN n) := ⟨rfl, rfl, rfl, Nat.le_refl _, fun _ _ => rfl⟩
theorem below_one (w : World) (o : Obj) : Below w.heap.size w (w.alloc o) := (Below.refl _ _).alloc (Nat.le_refl _) o
theorem tdiv_256 (x : Int) : x.tdiv 256 = if 0 ≤ x then x / 256 else -(-x / 256) := by
  split
  · exact Int.tdiv_eq_ediv_of_nonneg (by assumption)
  · have e : x.tdiv 256 = -((-x).tdiv 256) := by rw [Int.neg_tdiv]; omega
    rw [e, Int.tdiv_eq_ediv_of_nonneg (by omega)]
theorem tmod_256 (x : Int) : x.tmod 256 = if 0 ≤ x then x % 256 else -(-x % 256) := by
  split
  · exact Int.tmod_eq_emod_of_nonneg (by assumption)
  · have e : x.tmod 256 = -((-x).tmod 256) := by rw [Int.neg_tmod]; omega
    rw [e, Int.tmod_eq_emod_of_nonneg (by omega)]
theorem down_up (x : Int) (h : 0 ≤ x.tmod 256) : x.tdiv 256 = x / 256 := by
  rw [tmod_256] at h; rw [tdiv_256]; split at h <;> split <;> omega
theorem down_lo (x : Int) (h0 : -4611686014132420609 ≤ x) (h1 : x ≤ 4611686014132420609) (h : x.tmod 256 < 0) : wrap64 (x.tdiv 256 - 1) = x / 256 := by
  rw [tmod_256] at h; rw [tdiv_256]; unfold wrap64; split at h <;> split <;> omega
end Go.Proofs.Ytkncgelkbpeagac
