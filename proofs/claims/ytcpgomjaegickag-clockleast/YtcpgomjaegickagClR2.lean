/- What TimesFault and Spans of the document's answer come to. -/
import Derived.Test.YtcpgomjaegickagClR1
import Derived.Test.YtcpgomjaegickagPlR3
namespace Go.Proofs.Ytcpgomjaegickag
open Go.RowKit
def okC (x : Int) : Bool := decide (1 ≤ x) && decide (x ≤ 1000000)
/-- What is wrong with a plan and with what its stages take. -/
def timE (p : List (List (Int × Int))) (m : Int) (th bk : List Int) : Int := if planE p m = 0 then (if th.length = p.length ∧ bk.length = p.length then (if (∀ x ∈ th, okC x = true) ∧ (∀ x ∈ bk, okC x = true) then 0 else 1) else 2) else planE p m
theorem timE_plan {p : List (List (Int × Int))} {m : Int} {th bk : List Int} (h : planE p m ≠ 0) : planE p m = timE p m th bk := by unfold timE; rw [if_neg h]
theorem timE_len {p : List (List (Int × Int))} {m : Int} {th bk : List Int} (h : planE p m = 0) (h2 : ¬ (th.length = p.length ∧ bk.length = p.length)) : 2 = timE p m th bk := by unfold timE; rw [if_pos h, if_neg h2]
theorem timE_bad {p : List (List (Int × Int))} {m : Int} {th bk : List Int} (h : planE p m = 0) (h2 : th.length = p.length ∧ bk.length = p.length) {x : Int} (hx : x ∈ th ∨ x ∈ bk) (hb : ¬ (1 ≤ x ∧ x ≤ 1000000)) : 1 = timE p m th bk := by
  unfold timE
  rw [if_pos h, if_pos h2, if_neg]
  rintro ⟨q1, q2⟩
  have : okC x = true := by rcases hx with r | r; exact q1 x r; exact q2 x r
  unfold okC at this
  simp at this
  exact hb this
theorem timE_ok {p : List (List (Int × Int))} {m : Int} {th bk : List Int} (h : planE p m = 0) (h2 : th.length = p.length ∧ bk.length = p.length) (h3 : ∀ x ∈ th, 1 ≤ x ∧ x ≤ 1000000) (h4 : ∀ x ∈ bk, 1 ≤ x ∧ x ≤ 1000000) : 0 = timE p m th bk := by
  unfold timE
  rw [if_pos h, if_pos h2, if_pos]
  exact ⟨fun x hx => by unfold okC; simp [h3 x hx], fun x hx => by unfold okC; simp [h4 x hx]⟩
theorem timE_in {p : List (List (Int × Int))} {m : Int} {th bk : List Int} (h : timE p m th bk = 0) : planE p m = 0 ∧ th.length = p.length ∧ bk.length = p.length ∧ (∀ x ∈ th, 1 ≤ x ∧ x ≤ 1000000) ∧ (∀ x ∈ bk, 1 ≤ x ∧ x ≤ 1000000) := by
  unfold timE at h
  by_cases c1 : planE p m = 0
  · rw [if_pos c1] at h
    by_cases c2 : th.length = p.length ∧ bk.length = p.length
    · rw [if_pos c2] at h
      by_cases c3 : (∀ x ∈ th, okC x = true) ∧ (∀ x ∈ bk, okC x = true)
      · refine ⟨c1, c2.1, c2.2, fun x hx => ?_, fun x hx => ?_⟩
        · have := c3.1 x hx; unfold okC at this; simpa using this
        · have := c3.2 x hx; unfold okC at this; simpa using this
      · rw [if_neg c3] at h; cases h
    · rw [if_neg c2] at h; cases h
  · rw [if_neg c1] at h; exact absurd h c1
theorem costs_of {p : List (List (Int × Int))} {th bk : List Int} (h1 : th.length = p.length) (h2 : bk.length = p.length) (h3 : ∀ x ∈ th, 1 ≤ x ∧ x ≤ 1000000) (h4 : ∀ x ∈ bk, 1 ≤ x ∧ x ≤ 1000000) : Costs p th bk := by
  intro s hs a
  unfold lngA
  split
  · rw [List.getElem?_eq_getElem (by omega)]; exact h4 _ (List.getElem_mem _)
  · rw [List.getElem?_eq_getElem (by omega)]; exact h3 _ (List.getElem_mem _)
end Go.Proofs.Ytcpgomjaegickag
