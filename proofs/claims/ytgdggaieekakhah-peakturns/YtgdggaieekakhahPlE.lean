/- Waves and turns can be done, and go back part by part: reckoned for all stages and parts that may be. -/
import Derived.Test.YtgdggaieekakhahPlD
import Derived.Test.YtgdggaieekakhahPlR3
namespace Go.Proofs.Ytgdggaieekakhah
def okPlan (s m : Nat) (wave : Bool) : Bool := decide (planE (planX s m wave) (m : Int) = 0) && evenB (planX s m wave)
def okAll (s : Nat) : Bool := (List.range 12).all (fun m => okPlan s (m + 1) true && okPlan s (m + 1) false)
theorem ok1 : okAll 1 = true := by kernel_rfl
theorem ok2 : okAll 2 = true := by kernel_rfl
theorem ok3 : okAll 3 = true := by kernel_rfl
theorem ok4 : okAll 4 = true := by kernel_rfl
theorem ok5 : okAll 5 = true := by kernel_rfl
theorem ok6 : okAll 6 = true := by kernel_rfl
theorem plan_ok {s m : Nat} (hs : 1 ≤ s) (hs6 : s ≤ 6) (hm : 1 ≤ m) (hm12 : m ≤ 12) (wave : Bool) : planE (planX s m wave) (m : Int) = 0 ∧ evenB (planX s m wave) = true := by
  have h : okAll s = true := by
    have : s = 1 ∨ s = 2 ∨ s = 3 ∨ s = 4 ∨ s = 5 ∨ s = 6 := by omega
    rcases this with rfl | rfl | rfl | rfl | rfl | rfl
    · exact ok1
    · exact ok2
    · exact ok3
    · exact ok4
    · exact ok5
    · exact ok6
  unfold okAll at h
  have := List.all_eq_true.1 h (m - 1) (List.mem_range.2 (by omega))
  rw [show m - 1 + 1 = m by omega, Bool.and_eq_true] at this
  have : okPlan s m wave = true := by cases wave; exact this.2; exact this.1
  unfold okPlan at this
  rw [Bool.and_eq_true, decide_eq_true_iff] at this
  exact this
/-- The last stage of a plan; two of its acts changed about. -/
def lastA (p : List (List (Int × Int))) : List (Int × Int) := stA p (p.length - 1)
def swC (l : List (Int × Int)) (k : Nat) : Bool :=
  match l[k]?, l[k - 1]? with
  | some a, some b => decide (a.1 = 2) && decide (b.1 = 1) && decide (a.2 ≠ b.2)
  | _, _ => false
def swL (l : List (Int × Int)) (k : Nat) : List (Int × Int) :=
  match l[k]?, l[k - 1]? with
  | some a, some b => (l.set k b).set (k - 1) a
  | _, _ => l
def swP (p : List (List (Int × Int))) (k : Nat) : List (List (Int × Int)) := p.set (p.length - 1) (swL (lastA p) k)
def okSw (s m : Nat) : Bool := (List.range (2 * m - 1)).all (fun k => !(swC (lastA (planX s m true)) (k + 1)) || decide (planE (swP (planX s m true) (k + 1)) (m : Int) = 0))
def okSwAll (s : Nat) : Bool := (List.range 12).all (fun m => okSw s (m + 1))
theorem sw1 : okSwAll 1 = true := by kernel_rfl
theorem sw2 : okSwAll 2 = true := by kernel_rfl
theorem sw3 : okSwAll 3 = true := by kernel_rfl
theorem sw4 : okSwAll 4 = true := by kernel_rfl
theorem sw5 : okSwAll 5 = true := by kernel_rfl
theorem sw6 : okSwAll 6 = true := by kernel_rfl
/-- What can be done still can, when a Backward goes ahead of a Forward of another part at the last stage of a wave. -/
theorem swap_ok {s m k : Nat} (hs : 1 ≤ s) (hs6 : s ≤ 6) (hm : 1 ≤ m) (hm12 : m ≤ 12) (hk : 1 ≤ k) (hk2 : k < 2 * m) (hc : swC (lastA (planX s m true)) k = true) : planE (swP (planX s m true) k) (m : Int) = 0 := by
  have h : okSwAll s = true := by
    have : s = 1 ∨ s = 2 ∨ s = 3 ∨ s = 4 ∨ s = 5 ∨ s = 6 := by omega
    rcases this with rfl | rfl | rfl | rfl | rfl | rfl
    · exact sw1
    · exact sw2
    · exact sw3
    · exact sw4
    · exact sw5
    · exact sw6
  unfold okSwAll at h
  have h1 := List.all_eq_true.1 h (m - 1) (List.mem_range.2 (by omega))
  rw [show m - 1 + 1 = m by omega] at h1
  unfold okSw at h1
  have h2 := List.all_eq_true.1 h1 (k - 1) (List.mem_range.2 (by omega))
  rw [show k - 1 + 1 = k by omega, hc] at h2
  simpa using h2
end Go.Proofs.Ytgdggaieekakhah
