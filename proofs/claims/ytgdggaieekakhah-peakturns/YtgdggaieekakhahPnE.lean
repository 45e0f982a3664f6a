/- What goesBackInOrder and Even of package plan come to. -/
import Derived.Test.YtgdggaieekakhahPnC
namespace Go.Proofs.Ytgdggaieekakhah
open Go.RowKit
/-- Are the Backwards those of the parts from k on, in their order? -/
def gob : Int → List (Int × Int) → Bool
  | _, [] => true
  | k, a :: t => if a.1 = 2 then (if a.2 = k then gob (k + 1) t else false) else gob k t
theorem gob_drop {l : List (Int × Int)} {i : Nat} {a : Int × Int} (h : l[i]? = some a) (k : Int) : gob k (l.drop i) = if a.1 = 2 then (if a.2 = k then gob (k + 1) (l.drop (i + 1)) else false) else gob k (l.drop (i + 1)) := by
  obtain ⟨hi, rfl⟩ := List.getElem?_eq_some_iff.1 h
  rw [List.drop_eq_getElem_cons hi]
  rfl
theorem evenA_low : ∀ {t : List (Int × Int)} {x last : Int}, (2, x) ∈ t → x < last → evenA last t = false
  | [], x, last, h, _ => by simp at h
  | a :: t, x, last, h, hx => by
    unfold evenA
    by_cases c : a.1 = 2 ∧ a.2 < last
    · rw [if_pos c]
    · rw [if_neg c]
      rcases List.mem_cons.1 h with e | h
      · exact absurd ⟨by rw [← e], by rw [← e]; exact hx⟩ c
      · refine evenA_low h ?_
        by_cases d : a.1 = 2
        · rw [if_pos d]
          have : ¬ a.2 < last := fun q => c ⟨d, q⟩
          omega
        · rw [if_neg d]; exact hx
theorem gob_even {m : Int} : ∀ {t : List (Int × Int)} {k last : Int}, t.Nodup → (∀ x, (2, x) ∈ t → k ≤ x ∧ x < m) → (∀ x, k ≤ x → x < m → (2, x) ∈ t) → last ≤ k → gob k t = evenA last t
  | [], k, last, _, _, _, _ => rfl
  | (ak, y) :: t, k, last, hn, h1, h2, hl => by
    obtain ⟨n1, n2⟩ := List.nodup_cons.1 hn
    unfold gob evenA
    dsimp only
    by_cases c : ak = 2
    · subst c
      obtain ⟨y1, y2⟩ := h1 y (by simp)
      rw [if_pos rfl, if_pos rfl, if_neg (show ¬ ((2 : Int) = 2 ∧ y < last) from fun e => by have := e.2; omega)]
      by_cases d : y = k
      · subst d
        rw [if_pos rfl]
        refine gob_even (m := m) n2 (fun x hx => ?_) (fun x hx1 hx2 => ?_) (by omega)
        · have := h1 x (by simp [hx])
          have : x ≠ y := fun e => n1 (by rw [← e]; exact hx)
          omega
        · rcases List.mem_cons.1 (h2 x (by omega) hx2) with e | e
          · have := (Prod.mk.inj e).2; omega
          · exact e
      · rw [if_neg d, eq_comm]
        refine evenA_low (x := k) ?_ (by omega)
        rcases List.mem_cons.1 (h2 k (by omega) (by omega)) with e | e
        · exact absurd (Prod.mk.inj e).2.symm d
        · exact e
    · rw [if_neg c, if_neg (fun e => c e.1), if_neg c]
      refine gob_even (m := m) n2 (fun x hx => h1 x (by simp [hx])) (fun x hx1 hx2 => ?_) hl
      rcases List.mem_cons.1 (h2 x hx1 hx2) with e | e
      · exact absurd (Prod.mk.inj e).1.symm c
      · exact e
theorem gob_ok {l : List (Int × Int)} {m : Nat} (h : actsE l (m : Int) = 0) : gob 0 l = evenA (-1) l := by
  obtain ⟨q1, q2, q3, _⟩ := actsE_in h
  refine gob_even (m := (m : Int)) (apart_nodup q2) (fun x hx => ?_) (fun x hx1 hx2 => ?_) (by decide)
  · obtain ⟨_, _, r3, r4⟩ := q1 _ hx
    exact ⟨r3, r4⟩
  · exact act_in q1 q2 q3 ⟨show (1 : Int) ≤ 2 by decide, Int.le_refl 2, hx1, hx2⟩
/-- Is it even? Check comes first. -/
def evenX (p : List (List (Int × Int))) (m : Int) : Bool := if planE p m = 0 then evenB p else false
end Go.Proofs.Ytgdggaieekakhah
