/- A box of a call's own that is written again beside a list of ints that grows; what the law BatchJoins reckons, as plain data. No program in sight. -/
import Derived.Test.YtokohpabmmcioaeDoorBatL
import Derived.Test.YtokohpabmmcioaeDoorCatC
import Derived.Test.YtokohpabmmcioaeDoorReg
namespace Go.Proofs.YtokohpabmmcioaeDoor
open Go.RowKit
/-- Box B holds these cells and may be written. -/
def Mut6 (w : World) (B : Nat) (cs : List Value) : Prop := Box w B cs ∧ Free w B
theorem Mut6.put {w : World} {B : Nat} {cs : List Value} (h : Mut6 w B cs) (q : Nat) (x : Value) : Mut6 (w.setCell ⟨B, q, none⟩ x) B (cs.set q x) := ⟨h.1.put q x, fun j => by rw [World.frozen?_setCell]; exact h.2 j⟩
theorem Mut6.drew {w : World} {B : Nat} {cs : List Value} (h : Mut6 w B cs) : Mut6 w.drew B cs := ⟨h.1, h.2⟩
theorem Mut6.grown {w w' : World} {g : Option Nat} {B : Nat} {cs : List Value} (h : Mut6 w B cs) (hg : w.grownBy w' g) (hlt : B < w.heap.size) (hne : some B ≠ g) : Mut6 w' B cs := ⟨fun j x hx => hg.cell (h.1 j x hx) hne, fun j => grown_frozen hg (h.2 j) hlt hne⟩
theorem Mut6.new (V : World) (cs : List Value) (t : TypeId) {B : Nat} (hB : V.heap.size = B) : Mut6 (V.alloc (.cells cs.toArray t)) B cs := ⟨Box.new V cs t hB, Free.new V _ t hB⟩
theorem Mut6.below {w w' : World} {B : Nat} {cs : List Value} (h : Mut6 w B cs) (hb : Below w.heap.size w w') (hlt : B < w.heap.size) : Mut6 w' B cs := ⟨h.1.below hb, h.2.below hb hlt⟩
theorem grown_more {w u v : World} {B : Nat} {g : Option Nat} (h : w.grownBy u (some B)) (k : u.grownBy v g) (hg : ∀ b, g = some b → w.heap.size ≤ b) : w.grownBy v (some B) :=
  ⟨k.os.trans h.os, k.tape.trans h.tape, k.output.trans h.output, Nat.le_trans h.size k.size, fun b hb hne => (k.block b (Nat.lt_of_lt_of_le hb h.size) (fun e => by have := hg b e.symm; omega)).trans (h.block b hb hne)⟩
theorem grown_below {w u v : World} {B : Nat} (h : w.grownBy u (some B)) (k : Below u.heap.size u v) : w.grownBy v (some B) := grown_more h (below_grown k) (fun b e => by cases e)
theorem own_below {w w' : World} {base : Nat} {e : TypeId} {v : Value} {n : Nat} {xs : List Value} (h : w.ownsRow base e 1 v n xs) (hb : Below w.heap.size w w') : w'.ownsRow base e 1 v n xs := World.ownsRow.kept h (below_grown hb) (by cases hv : v.ownBlock <;> simp)
/-- What lies in other blocks than B is read the same. -/
theorem IsInts.beside {w w' : World} {B : Nat} {s : Value} {zs : List Int} (h : IsInts w s zs) (hg : w.grownBy w' (some B)) (hne : zs = [] ∨ s.ownBlock ≠ some B) : IsInts w' s zs := by
  rcases hne with h0 | h0
  · exact h.nilAny h0
  · exact h.stay (fun p x hp hx => hg.cell hx (fun e => h0 (by rw [hp, e])))
/-- What a round over one half comes to. -/
def halfE (s : Int) (ms : List Mx) : Int := if s ≠ 0 then s else if sameC ms = false then 2 else 0
def firstE (ds : List (Mx × Mx)) : Int := if ds = [] then 2 else bfaults ds
theorem first_good {ds : List (Mx × Mx)} (h : firstE ds = 0) : ds ≠ [] ∧ ∀ d ∈ ds, (∃ R C, Good d.1 R C) ∧ (∃ R C, Good d.2 R C) ∧ d.1.rows = d.2.rows := by
  unfold firstE at h
  by_cases h0 : ds = []
  · rw [if_pos h0] at h; cases h
  · rw [if_neg h0] at h
    refine ⟨h0, fun d hd => ?_⟩
    obtain ⟨f1, f2, f3, _⟩ := bat_good (bfaults_all h d hd)
    exact ⟨good_of f1, good_of f2, f3⟩
theorem faults_map {ds : List (Mx × Mx)} {f : Mx × Mx → Mx} (h : ∀ d ∈ ds, ∃ R C, Good (f d) R C) : faults (ds.map f) = 0 := by
  refine (faults_no (fun j x hx => ?_)).symm
  obtain ⟨d, hd, rfl⟩ := List.mem_map.1 (List.mem_of_getElem? hx)
  obtain ⟨R, C, g⟩ := h d hd
  exact g.fault
theorem sumR_map {ds : List (Mx × Mx)} (h : ∀ d ∈ ds, d.1.rows = d.2.rows) : sumR (ds.map Prod.fst) = sumR (ds.map Prod.snd) := by
  induction ds with
  | nil => rfl
  | cons d l ih =>
    show d.1.rows + sumR (l.map Prod.fst) = d.2.rows + sumR (l.map Prod.snd)
    rw [h d (by simp), ih (fun x hx => h x (by simp [hx]))]
/-- All that the law says of some batches is what Join says. -/
theorem joins_says (ds : List (Mx × Mx)) (S E2 E3 E4 : Int) (h2 : E2 = halfE (firstE ds) (ds.map Prod.fst)) (hS : E2 = 0 → S = sumR (ds.map Prod.fst)) (h3 : E3 = if E2 = 0 ∧ 24 < S then 3 else E2) (h4 : E4 = halfE E3 (ds.map Prod.snd)) : E4 = joinE ds := by
  by_cases h0 : ds = []
  · have e1 : firstE ds = 2 := by unfold firstE; rw [if_pos h0]
    have e2 : E2 = 2 := by rw [h2, e1]; rfl
    have e3 : E3 = 2 := by rw [h3, e2, if_neg (by simp)]
    rw [h4, e3]; unfold joinE; rw [if_pos h0]; rfl
  · by_cases hb : bfaults ds = 0
    · have e1 : firstE ds = 0 := by unfold firstE; rw [if_neg h0, hb]
      obtain ⟨_, hg⟩ := first_good e1
      have f1 : faults (ds.map Prod.fst) = 0 := faults_map (fun d hd => (hg d hd).1)
      have f2 : faults (ds.map Prod.snd) = 0 := faults_map (fun d hd => (hg d hd).2.1)
      have fs := sumR_map (fun d hd => (hg d hd).2.2)
      have ej : joinE ds = stkE ds := by unfold joinE; rw [if_neg h0, if_neg (by simp [hb])]
      rw [ej]
      rw [e1] at h2
      unfold halfE at h2 h4
      rw [if_neg (by simp)] at h2
      by_cases c1 : sameC (ds.map Prod.fst) = false
      · rw [if_pos c1] at h2
        have e3 : E3 = 2 := by rw [h3, h2, if_neg (by simp)]
        rw [h4, e3, if_pos (by decide)]
        have : stackE (ds.map Prod.fst) = 2 := by unfold stackE; rw [if_neg (by simp [f1]), if_pos c1]
        unfold stkE; rw [this, if_pos (by decide)]
      · rw [if_neg c1] at h2
        have hS' := hS h2
        by_cases c2 : 24 < S
        · have e3 : E3 = 3 := by rw [h3, if_pos ⟨h2, c2⟩]
          rw [h4, e3, if_pos (by decide)]
          have : stackE (ds.map Prod.fst) = 3 := by unfold stackE; rw [if_neg (by simp [f1]), if_neg c1, if_pos (by rw [← hS']; exact c2)]
          unfold stkE; rw [this, if_pos (by decide)]
        · have e3 : E3 = 0 := by rw [h3, if_neg (fun e => c2 e.2), h2]
          rw [h4, e3, if_neg (show ¬ ((0 : Int) ≠ 0) by simp)]
          have : stackE (ds.map Prod.fst) = 0 := by unfold stackE; rw [if_neg (by simp [f1]), if_neg c1, if_neg (by rw [← hS']; exact c2)]
          unfold stkE; rw [this, if_neg (show ¬ ((0 : Int) ≠ 0) by simp)]
          unfold stackE
          rw [f2, if_neg (show ¬ ((0 : Int) ≠ 0) by simp)]
          by_cases c3 : sameC (ds.map Prod.snd) = false
          · rw [if_pos c3, if_pos c3]
          · rw [if_neg c3, if_neg c3, if_neg (by rw [← fs, ← hS']; exact c2)]
    · have e1 : firstE ds = bfaults ds := by unfold firstE; rw [if_neg h0]
      have e2 : E2 = bfaults ds := by rw [h2, e1]; unfold halfE; rw [if_pos hb]
      have e3 : E3 = bfaults ds := by rw [h3, if_neg (fun e => hb (by rw [← e2]; exact e.1)), e2]
      rw [h4, e3]; unfold halfE joinE; rw [if_pos hb, if_neg h0, if_pos hb]
theorem joins_gives {ds : List (Mx × Mx)} (h : joinE ds = 0) : joinX ds = (⟨sumR (ds.map Prod.fst), ((ds.map Prod.fst).headD noMx).cols, catC (ds.map Prod.fst)⟩, ⟨sumR (ds.map Prod.snd), ((ds.map Prod.snd).headD noMx).cols, catC (ds.map Prod.snd)⟩) := by
  have h' := h
  unfold joinE at h'
  by_cases h0 : ds = []
  · rw [if_pos h0] at h'; cases h'
  · rw [if_neg h0] at h'
    by_cases hb : bfaults ds ≠ 0
    · rw [if_pos hb] at h'; exact absurd h' hb
    · rw [if_neg hb] at h'
      have h2 := h'
      unfold stkE at h2
      by_cases h1 : stackE (ds.map Prod.fst) ≠ 0
      · rw [if_pos h1] at h2; exact absurd h2 h1
      · rw [if_neg h1] at h2
        unfold joinX stkX
        rw [if_pos h, if_pos h']
        unfold stackX
        rw [if_pos (Decidable.not_not.1 h1), if_pos h2]; rfl
end Go.Proofs.YtokohpabmmcioaeDoor
