/- What TimesOf of the document's answer comes to: the table of times. -/
import Derived.Test.YtcpgomjaegickagClC
import Derived.Test.YtcpgomjaegickagPlR2
import Derived.Deep.LoopGhost
import Derived.Deep.CutRange
import Derived.BigQuiet
namespace Go.Proofs.Ytcpgomjaegickag
open Go.RowKit
theorem plan_facts {p : List (List (Int × Int))} {m : Nat} (h : planE p (m : Int) = 0) : AllIn p ∧ doneB p = true ∧ 1 ≤ p.length ∧ p.length ≤ 6 ∧ 1 ≤ m ∧ m ≤ 12 ∧ ∀ s, s < p.length → (stA p s).length = 2 * m ∧ ∀ a ∈ stA p s, okA (m : Int) a := by
  obtain ⟨h1, h2, h3⟩ := planE_in h
  unfold rangeP at h1
  have hst : ∀ k, k < p.length → actsE (stA p k) (m : Int) = 0 := fun k hk => by
    obtain ⟨l, hl⟩ := stage_at hk
    rw [stA_at hl]
    exact stagesE_in h2 k l hl
  refine ⟨fun s k hs hk a ha => ?_, h3, by omega, by omega, by omega, by omega, fun s hs => ?_⟩
  · obtain ⟨q1, _⟩ := actsE_in (hst s hs)
    obtain ⟨r1, r2, r3, _⟩ := actsE_in (hst k hk)
    obtain ⟨i, hi⟩ := List.getElem?_of_mem (act_in r1 r2 r3 (q1 a ha))
    rw [whr_idx r2 hi]; omega
  · obtain ⟨r1, r2, r3, _⟩ := actsE_in (hst s hs)
    have := acts_len r1 r2
    exact ⟨by omega, r1⟩
def noT (p : List (List (Int × Int))) (k : Nat) : List (List (Int × Int)) := (List.range k).map (fun s => noS (stA p s).length)
theorem noT_succ (p : List (List (Int × Int))) (k : Nat) : noT p (k + 1) = noT p k ++ [noS (stA p k).length] := by simp [noT, List.range_succ]
theorem noT_len (p : List (List (Int × Int))) (k : Nat) : (noT p k).length = k := by simp [noT]
theorem noT_at {p : List (List (Int × Int))} {k s : Nat} (h : s < k) : stA (noT p k) s = noS (stA p s).length := stA_at (by unfold noT; simp [h])
theorem noT_shp (p : List (List (Int × Int))) : Shp p (noT p p.length) := ⟨noT_len _ _, fun s hs => by rw [noT_at hs]; simp [noS]⟩
theorem noT_bd (p : List (List (Int × Int))) : BdT (noT p p.length) 0 := ⟨Int.le_refl 0, fun t j x hx => by
  have ht : t < p.length := by
    rcases Nat.lt_or_ge t p.length with q | q
    · exact q
    · rw [stA_out (by rw [noT_len]; exact q)] at hx; simp at hx
  rw [noT_at ht] at hx
  obtain ⟨hj, e⟩ := List.getElem?_eq_some_iff.1 hx
  have : x = (0, 0) := by rw [← e]; simp [noS]
  subst this
  exact ⟨Int.le_refl 0, Int.le_refl 0, Int.le_refl 0⟩⟩
theorem ints_cell {w : World} {b off : Nat} {l : List Int} (h : ∀ i x, l[i]? = some x → w.cell? ⟨b, off + i, none⟩ = some (.int .i64 x)) {s : Nat} (hs : s < l.length) {W : World} (hb : Below w.heap.size w W) : W.cell? ⟨b, off + s, none⟩ = some (.int .i64 ((l[s]?).getD 0)) := by
  have := h s l[s] (List.getElem?_eq_getElem hs)
  rw [List.getElem?_eq_getElem hs]
  exact cell_bel hb this
theorem whr_lt (a : Int × Int) : ∀ l : List (Int × Int), whr a l < (l.length : Int)
  | [] => by simp [whr]
  | x :: t => by
    have := whr_lt a t
    unfold whr
    rw [List.length_cons]
    split
    · omega
    · split <;> omega
/-- How many rounds may still come. -/
def mea (p : List (List (Int × Int))) (g : List Nat) (more : Bool) : Nat := sumN (lens p) p.length - sumN g p.length + if more then 1 else 0
def bnd (p : List (List (Int × Int))) (g : List Nat) (more : Bool) : Int := ((sumN (lens p) p.length + 1 - mea p g more : Nat) : Int) * 200000000
theorem bnd_nonneg (p : List (List (Int × Int))) (g : List Nat) (more : Bool) : 0 ≤ bnd p g more := by unfold bnd; omega
theorem lens_sum {p : List (List (Int × Int))} {m : Nat} (h : ∀ s, s < p.length → (stA p s).length = 2 * m) : ∀ k, k ≤ p.length → sumN (lens p) k = 2 * m * k
  | 0, _ => by simp [sumN]
  | k + 1, hk => by
    have := lens_sum h k (by omega)
    have h1 := h k (by omega)
    unfold sumN
    rw [this, lens_at, h1, Nat.mul_succ]
end Go.Proofs.Ytcpgomjaegickag
