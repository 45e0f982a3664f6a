/- What PlanFault of the document's answer comes to. -/
import Derived.Test.YtgdggaieekakhahPlR1
import Derived.Test.YtgdggaieekakhahRBlank
import Derived.Deep.LoopGhost
namespace Go.Proofs.Ytgdggaieekakhah
open Go.RowKit
/-- How far a round of all stages has come. -/
structure PassI (p : List (List (Int × Int))) (f : List Nat) (s : Nat) (more : Bool) : Prop where
  len : f.length = p.length
  und : Und p f
  bd : ∀ t, t < p.length → atN f t ≤ atN (lens p) t
  no : more = false → ∀ t, t < s → ¬ Can p f t
theorem PassI.step {p : List (List (Int × Int))} {f : List Nat} {s : Nat} {more : Bool} (h : PassI p f s more) (hc : Can p f s) : PassI p (bump f s) s true := by
  have hs := hc.lt
  refine ⟨by rw [bump_len]; exact h.len, h.und.step h.len hc, fun t ht => ?_, fun e => by cases e⟩
  rw [atN_bump (by rw [h.len]; exact hs.1)]
  by_cases e : t = s
  · subst e; rw [if_pos rfl, lens_at]; exact hs.2
  · rw [if_neg e]; exact h.bd t ht
theorem PassI.next {p : List (List (Int × Int))} {f : List Nat} {s : Nat} {more : Bool} (h : PassI p f s more) (hc : ¬ Can p f s) : PassI p f (s + 1) more :=
  ⟨h.len, h.und, h.bd, fun e t ht => by
    rcases Nat.lt_or_ge t s with q | q
    · exact h.no e t q
    · obtain rfl : t = s := by omega
      exact hc⟩
theorem PassI.first {p : List (List (Int × Int))} {f : List Nat} {s : Nat} {more : Bool} (h : PassI p f s more) : PassI p f 0 false := ⟨h.len, h.und, h.bd, fun _ t ht => by omega⟩
theorem PassI.sum {p : List (List (Int × Int))} {f : List Nat} {s : Nat} {more : Bool} (h : PassI p f s more) : sumN f p.length ≤ sumN (lens p) p.length := sumN_le h.bd
theorem PassI.end_ {p : List (List (Int × Int))} {f : List Nat} (h : PassI p f p.length false) : doneB p = true ↔ ∀ s, s < p.length → atN f s = (stA p s).length := done_iff h.und (fun s hs => h.no rfl s hs)
theorem sum_step {p : List (List (Int × Int))} {f : List Nat} {s : Nat} {more : Bool} (h : PassI p f s more) (hc : Can p f s) : sumN (bump f s) p.length = sumN f p.length + 1 := by
  have hs := hc.lt
  rw [sumN_bump (by rw [h.len]; exact hs.1), if_pos hs.1]
def natI (f : List Nat) : List Int := f.map (fun (x : Nat) => (x : Int))
theorem natI_at {f : List Nat} {s : Nat} (h : s < f.length) : (natI f)[s]? = some (atN f s : Int) := by simp [natI, atN, h]
theorem natI_bump {f : List Nat} {s : Nat} : (natI f).set s ((atN f s : Int) + 1) = natI (bump f s) := by
  unfold natI bump
  rw [List.map_set]
  simp
theorem natI_zero (p : List (List (Int × Int))) : tab p.length (fun _ => 0) = natI (zeroN p) := by
  unfold natI zeroN
  rw [tab_zero, List.map_replicate]; rfl
/-- The acts of each stage, read in whatever world has grown. -/
theorem plan_cell {w : World} {p : List (List (Int × Int))} {b off : Nat} (hc : ∀ i l, p[i]? = some l → ∃ s, w.cell? ⟨b, off + i, none⟩ = some s ∧ IsActs w s l) (W : World) (hb : Below w.heap.size w W) {s : Nat} (hs : s < p.length) :
    ∃ la lc, W.cell? ⟨b, off + s, none⟩ = some (.slice la (stA p s).length lc) ∧ IsActs W (.slice la (stA p s).length lc) (stA p s) := by
  obtain ⟨l, hl⟩ := stage_at hs
  obtain ⟨u, h1, h2⟩ := hc s l hl
  rw [stA_at hl]
  obtain ⟨a, cap, rfl⟩ := h2.shape
  exact ⟨a, cap, cell_bel hb h1, h2.below hb⟩
theorem can_yes {p : List (List (Int × Int))} {f : List Nat} {s : Nat} {a : Int × Int} (h : (stA p s)[atN f s]? = some a) (hn : ∀ k, k < p.length → nbA a s k → whr a (stA p k) < (atN f k : Int)) : Can p f s := ⟨a, h, hn⟩
theorem can_no {p : List (List (Int × Int))} {f : List Nat} {s k : Nat} {a : Int × Int} (h : (stA p s)[atN f s]? = some a) (hk : k < p.length) (hn : nbA a s k) (hw : ¬ whr a (stA p k) < (atN f k : Int)) : ¬ Can p f s := by
  rintro ⟨b, h1, h2⟩
  rw [h] at h1
  obtain rfl := Option.some.inj h1
  exact hw (h2 k hk hn)
theorem can_out {p : List (List (Int × Int))} {f : List Nat} {s : Nat} (h : ¬ atN f s < (stA p s).length) : ¬ Can p f s := fun hc => h hc.lt.2
theorem below_go {w u v : World} (h : Below w.heap.size w u) (k : Below u.heap.size u v) : Below w.heap.size w v := h.trans (k.mono h.size)
end Go.Proofs.Ytgdggaieekakhah
