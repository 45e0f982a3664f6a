/- Cells of matrices laid one behind the other in a list of one's own; the first fault of some matrices. No program in sight. -/
import Derived.Test.YtokohpabmmcioaeDoorMStk
import Derived.Test.YtokohpabmmcioaeDoorThree
namespace Go.Proofs.YtokohpabmmcioaeDoor
open Go.RowKit
theorem faults_app (l r : List Mx) : faults (l ++ r) = if faults l = 0 then faults r else faults l := by
  induction l with
  | nil => simp [faults]
  | cons x l ih =>
    by_cases h : fault x = 0
    · have e : ∀ q, faults (x :: q) = faults q := fun q => by show (if fault x = 0 then faults q else fault x) = _; rw [if_pos h]
      rw [List.cons_append, e, e, ih]
    · have e : ∀ q, faults (x :: q) = fault x := fun q => by show (if fault x = 0 then faults q else fault x) = _; rw [if_neg h]
      rw [List.cons_append, e, e, if_neg h]
theorem faults_snoc (l : List Mx) (x : Mx) : faults (l ++ [x]) = if faults l = 0 then fault x else faults l := by rw [faults_app, faults_one]
theorem faults_part {ms : List Mx} {k : Nat} {F : Int} (h : faults (ms.take k) = F) (hF : ¬ F = 0) : faults ms = F := by
  have := faults_app (ms.take k) (ms.drop k)
  rw [List.take_append_drop, h, if_neg hF] at this
  exact this
/-- The cells of all, one behind the other. -/
def catC (l : List Mx) : List Int := (l.map Mx.cells).flatten
theorem catC_snoc (l : List Mx) (x : Mx) : catC (l ++ [x]) = catC l ++ x.cells := by simp [catC]
theorem catC_len {l : List Mx} (h : ∀ x ∈ l, ∃ R C, Good x R C) : (catC l).length ≤ 288 * l.length := by
  induction l with
  | nil => simp [catC]
  | cons x l ih =>
    have := ih (fun y hy => h y (by simp [hy]))
    obtain ⟨R, C, g⟩ := h x (by simp)
    have h1 := Nat.mul_le_mul g.hR g.hC
    have h2 := g.l
    have e : (catC (x :: l)).length = x.cells.length + (catC l).length := by simp [catC]
    rw [e, List.length_cons]
    omega
theorem own_shape {w : World} {base : Nat} {e : TypeId} {v : Value} {n : Nat} {xs : List Value} (h : w.ownsRow base e 1 v n xs) : ∃ a n k, v = .slice a n k := by
  rcases h.2 with ⟨rfl, _⟩ | ⟨g, cap, cur, rfl, _⟩
  · exact ⟨_, _, _, rfl⟩
  · exact ⟨_, _, _, rfl⟩
theorem own_set {w : World} {base : Nat} {e : TypeId} {v : Value} {n : Nat} {xs : List Value} (h : w.ownsRow base e 1 v n xs) {B : Nat} (hB : B < base) (q : Nat) (u : Value) : (w.setCell ⟨B, q, none⟩ u).ownsRow base e 1 v n xs := by
  refine World.ownsRow.kept (row := some B) h (grown_set (World.grownBy.refl w (some B)) q u) ?_
  cases e : v.ownBlock with
  | none => exact .inl rfl
  | some k => exact .inr (fun e' => by have := (World.ownsRow.lt h k e).1; have := Option.some.inj e'; omega)
theorem own_ints {w : World} {base : Nat} {e : TypeId} {v : Value} {zs : List Int} (h : w.ownsRow base e 1 v zs.length (zs.map (Value.int .i64))) (hm : zs.length ≤ maxLen) : IsInts w v zs := by
  have hc := fun g q => World.ownsRow.cells h (g := g) q
  rcases h.2 with ⟨rfl, h0⟩ | ⟨g, cap, cur, rfl, _, _, h3, h4, _, _⟩
  · have : zs = [] := List.eq_nil_of_length_eq_zero h0
    subst this; exact IsInts.nil w
  · refine ⟨some ⟨g, 0, none⟩, cap, rfl, h3, h4, .inr ⟨g, 0, rfl, fun i x hx => ?_⟩⟩
    have := hc g rfl i (.int .i64 x) (by simp [hx])
    rw [Addr.add_lit] at this; exact this
theorem size_set (w : World) (a : Addr) (v : Value) : (w.setCell a v).heap.size = w.heap.size := by simp [World.setCell]
theorem own_drew {w : World} {base : Nat} {e : TypeId} {v : Value} {n : Nat} {xs : List Value} (h : w.ownsRow base e 1 v n xs) : w.drew.ownsRow base e 1 v n xs := by
  refine World.ownsRow.kept (row := none) h ⟨rfl, rfl, rfl, Nat.le_refl _, fun _ _ _ => rfl⟩ ?_
  cases e : v.ownBlock with
  | none => exact .inl rfl
  | some k => exact .inr (by simp)
end Go.Proofs.YtokohpabmmcioaeDoor
