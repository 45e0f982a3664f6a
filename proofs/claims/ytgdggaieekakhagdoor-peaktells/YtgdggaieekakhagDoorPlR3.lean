/- What EvenOf and Plans of the document's answer come to. -/
import Derived.Test.YtgdggaieekakhagDoorPlR2
namespace Go.Proofs.YtgdggaieekakhagDoor
open Go.RowKit
/-- The Backwards of one stage go part by part. -/
def evenA : Int → List (Int × Int) → Bool
  | _, [] => true
  | last, a :: t => if a.1 = 2 ∧ a.2 < last then false else evenA (if a.1 = 2 then a.2 else last) t
def evenB (p : List (List (Int × Int))) : Bool := p.all (evenA (-1))
theorem evenA_drop {l : List (Int × Int)} {i : Nat} {a : Int × Int} (h : l[i]? = some a) (last : Int) : evenA last (l.drop i) = if a.1 = 2 ∧ a.2 < last then false else evenA (if a.1 = 2 then a.2 else last) (l.drop (i + 1)) := by
  obtain ⟨hi, rfl⟩ := List.getElem?_eq_some_iff.1 h
  rw [List.drop_eq_getElem_cons hi]
  rfl
theorem evenB_no {p : List (List (Int × Int))} {s : Nat} {l : List (Int × Int)} (h : p[s]? = some l) (he : evenA (-1) l = false) : false = evenB p := by
  rw [eq_comm]; unfold evenB; rw [List.all_eq_false]; exact ⟨l, List.mem_of_getElem? h, by simp [he]⟩
theorem evenB_yes {p : List (List (Int × Int))} (h : ∀ s l, s < p.length → p[s]? = some l → evenA (-1) l = true) : true = evenB p := by
  rw [eq_comm]; unfold evenB; rw [List.all_eq_true]; intro l hl
  obtain ⟨s, hs, rfl⟩ := List.getElem_of_mem hl
  exact h s _ hs (List.getElem?_eq_getElem hs)
theorem plan_ne {a b : List (List (Int × Int))} {s : Nat} {x y : List (Int × Int)} (hx : a[s]? = some x) (hy : b[s]? = some y) (h : x ≠ y) : a ≠ b := fun e => by rw [e, hy] at hx; exact h (Option.some.inj hx).symm
theorem acts_ne {a b : List (Int × Int)} {s : Nat} {x y : Int × Int} (hx : a[s]? = some x) (hy : b[s]? = some y) (h : x ≠ y) : a ≠ b := fun e => by rw [e, hy] at hx; exact h (Option.some.inj hx).symm
theorem list_eq {α : Type} {a b : List α} (hl : a.length = b.length) (h : ∀ (i : Nat) x y, a[i]? = some x → b[i]? = some y → x = y) : a = b := by
  apply List.ext_getElem?
  intro i
  by_cases hi : i < a.length
  · rw [List.getElem?_eq_getElem hi, List.getElem?_eq_getElem (by omega), h i _ _ (List.getElem?_eq_getElem hi) (List.getElem?_eq_getElem (by omega))]
  · rw [List.getElem?_eq_none (by omega), List.getElem?_eq_none (by omega)]
def sameP (a b : List (List (Int × Int))) : Bool := decide (a = b)
theorem sameP_no {a b : List (List (Int × Int))} (h : a ≠ b) : false = sameP a b := by unfold sameP; rw [eq_comm, decide_eq_false_iff_not]; exact h
theorem sameP_yes {a b : List (List (Int × Int))} (h : a = b) : true = sameP a b := by unfold sameP; rw [eq_comm, decide_eq_true_iff]; exact h
end Go.Proofs.YtgdggaieekakhagDoor
