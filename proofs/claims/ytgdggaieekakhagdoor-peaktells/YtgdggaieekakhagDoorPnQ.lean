/- What was done and how far each stage has come; ready is 'can'. A scope whose label is jumped back to. -/
import Derived.Test.YtgdggaieekakhagDoorPnR
import Derived.ScopeJumps
import Derived.WalkMore
namespace Go.Proofs.YtgdggaieekakhagDoor
open Go.RowKit
/-- The deeds that were done are the acts up to where each stage has come. -/
def Known (p : List (List (Int × Int))) (f : List Nat) (L : List (Int × Int × Int)) : Prop := ∀ (s : Nat) (a : Int × Int), s < p.length → (((s : Int), a) ∈ L ↔ a ∈ (stA p s).take (atN f s))
theorem known_zero (p : List (List (Int × Int))) : Known p (zeroN p) [] := fun s a _ => by rw [zeroN_at]; simp
theorem known_step {p : List (List (Int × Int))} {f : List Nat} {L : List (Int × Int × Int)} (h : Known p f L) (hl : f.length = p.length) {s : Nat} {a : Int × Int} (hs : s < p.length) (ha : (stA p s)[atN f s]? = some a) : Known p (bump f s) (L ++ [((s : Int), a)]) := by
  intro t x ht
  rw [List.mem_append, h t x ht, atN_bump (by omega)]
  by_cases e : t = s
  · subst e
    rw [if_pos rfl, take_snoc ha, List.mem_append]
    simp
  · rw [if_neg e]
    constructor
    · rintro (q | q)
      · exact q
      · have := (Prod.mk.inj (List.mem_singleton.1 q)).1
        exact absurd (by omega) e
    · exact fun q => .inl q
theorem known_new {p : List (List (Int × Int))} {f : List Nat} {L : List (Int × Int × Int)} (h : Known p f L) {s : Nat} {a : Int × Int} (hs : s < p.length) (hap : apart (stA p s)) (ha : (stA p s)[atN f s]? = some a) : ((s : Int), a) ∉ L := by
  rw [h s a hs, take_iff hap ha]
  omega
/-- Has the stage k done the act? -/
theorem known_whr {p : List (List (Int × Int))} {f : List Nat} {L : List (Int × Int × Int)} (h : Known p f L) {k : Nat} (hk : k < p.length) {a : Int × Int} (hap : apart (stA p k)) (hm : a ∈ stA p k) : ((k : Int), a) ∈ L ↔ whr a (stA p k) < (atN f k : Int) := by
  obtain ⟨i, hi⟩ := List.getElem?_of_mem hm
  rw [h k a hk, take_iff hap hi, whr_idx hap hi]
  omega
theorem rdy_iff {p : List (List (Int × Int))} {f : List Nat} {L : List (Int × Int × Int)} {m : Nat} (hp : stagesE (m : Int) p = 0) (h : Known p f L) {s : Nat} (hs : s < p.length) {a : Int × Int} (ha : (stA p s)[atN f s]? = some a) : rdy L (p.length : Int) (s : Int) a.1 a.2 = true ↔ Can p f s := by
  have hst : ∀ k, k < p.length → actsE (stA p k) (m : Int) = 0 := fun k hk => by
    obtain ⟨l, hl⟩ := stage_at hk
    rw [stA_at hl]
    exact stagesE_in hp k l hl
  obtain ⟨ok1, ap1, ln1, ah1⟩ := actsE_in (hst s hs)
  have hoka := ok1 a (List.mem_of_getElem? ha)
  have hin : ∀ k, k < p.length → ∀ x, okA (m : Int) x → x ∈ stA p k := fun k hk x hx => by
    obtain ⟨q1, q2, q3, _⟩ := actsE_in (hst k hk)
    exact act_in q1 q2 q3 hx
  have hdone : ∀ k, k < p.length → (((k : Int), a) ∈ L ↔ whr a (stA p k) < (atN f k : Int)) := fun k hk => known_whr h hk (actsE_in (hst k hk)).2.1 (hin k hk a hoka)
  obtain ⟨ak, am⟩ := a
  obtain ⟨o1, o2, o3, o4⟩ := hoka
  dsimp only at o1 o2 o3 o4 ⊢
  have hk12 : ak = 1 ∨ ak = 2 := by omega
  rcases hk12 with e | e
  · subst e
    unfold rdy
    rw [if_pos rfl]
    by_cases c : s = 0
    · subst c
      constructor
      · exact fun _ => ⟨_, ha, fun k hk hn => by
          rcases hn with ⟨q, _⟩ | ⟨_, q⟩
          · exact absurd (show (1 : Int) = 2 from q) (by decide)
          · omega⟩
      · exact fun _ => by simp
    · obtain ⟨j, rfl⟩ : ∃ j, s = j + 1 := ⟨s - 1, by omega⟩
      have hj : j < p.length := by omega
      have e1 : (((j + 1 : Nat) : Int) - 1, (1 : Int), am) = ((j : Int), 1, am) := by rw [show ((j + 1 : Nat) : Int) - 1 = (j : Int) by omega]
      rw [e1]
      have e2 : decide (((j + 1 : Nat) : Int) = 0) = false := by simp; omega
      rw [e2, Bool.false_or, decide_eq_true_iff, hdone j hj]
      constructor
      · intro q
        refine ⟨_, ha, fun k hk hn => ?_⟩
        rcases hn with ⟨r, _⟩ | ⟨_, r⟩
        · exact absurd (show (1 : Int) = 2 from r) (by decide)
        · obtain rfl : k = j := by omega
          exact q
      · rintro ⟨b, hb, q⟩
        rw [ha] at hb
        obtain rfl := Option.some.inj hb
        exact q j hj (.inr ⟨show (1 : Int) ≠ 2 by decide, rfl⟩)
  · subst e
    unfold rdy
    rw [if_neg (by decide)]
    have hf : ((s : Int), (1 : Int), am) ∈ L := by
      rw [h s (1, am) hs]
      obtain ⟨i, hi⟩ := List.getElem?_of_mem (hin s hs (1, am) ⟨Int.le_refl 1, show (1 : Int) ≤ 2 by decide, o3, o4⟩)
      rw [take_iff ap1 hi]
      rcases Nat.lt_trichotomy i (atN f s) with q | q | q
      · exact q
      · rw [q, ha] at hi
        exact absurd (Prod.mk.inj (Option.some.inj hi)).1 (by decide)
      · exact absurd ⟨rfl, rfl⟩ (ah1 i (atN f s) _ _ q hi ha)
    have e1 : decide (((s : Int), (1 : Int), am) ∈ L) = true := by simpa using hf
    rw [e1, Bool.true_and]
    by_cases c : s + 1 = p.length
    · constructor
      · exact fun _ => ⟨_, ha, fun k hk hn => by
          rcases hn with ⟨_, q⟩ | ⟨q, _⟩
          · omega
          · exact absurd rfl q⟩
      · intro _
        have : decide ((s : Int) = (p.length : Int) - 1) = true := by simp; omega
        rw [this]; rfl
    · have hj : s + 1 < p.length := by omega
      have e2 : decide ((s : Int) = (p.length : Int) - 1) = false := by simp; omega
      have e3 : ((s : Int) + 1, (2 : Int), am) = (((s + 1 : Nat) : Int), 2, am) := by rw [show ((s + 1 : Nat) : Int) = (s : Int) + 1 by omega]
      rw [e2, Bool.false_or, decide_eq_true_iff, e3, hdone (s + 1) hj]
      constructor
      · intro q
        refine ⟨_, ha, fun k hk hn => ?_⟩
        rcases hn with ⟨_, r⟩ | ⟨r, _⟩
        · subst r; exact q
        · exact absurd rfl r
      · rintro ⟨b, hb, q⟩
        rw [ha] at hb
        obtain rfl := Option.some.inj hb
        exact q (s + 1) hj (.inl ⟨rfl, rfl⟩)
/-- How many deeds the map holds. -/
def mapSize (w : World) (b : Nat) : Nat := match w.heap[b]? with
  | some (.map es _) => es.size
  | _ => 0
theorem Deeds.size {w : World} {b : Nat} {L : List (Int × Int × Int)} (h : Deeds w b L) : mapSize w b = L.length := by
  obtain ⟨es, clock, hb, _, _, h4, _⟩ := h
  unfold mapSize; rw [hb]; exact h4
/-- A scope that runs up to its label once, and then from the label on. -/
theorem wp_scope_from {P : Program} {a : Act} {w : World} {Q : Exit → Act → World → Prop} {x rest : Code} (l : Nat) (J : Act → World → Prop) (μ : Act → World → Nat) (hf : findLabel x l = none)
    (first : x.wp P (Exit.then J (fun _ _ _ => False)) a w)
    (pass : ∀ a w, J a w → rest.wp P (Exit.jump l (fun a' w' => J a' w' ∧ μ a' w' < μ a w) Q) a w) : (Code.scope (Code.seq x (Code.seq (Code.label l) rest))).wp P Q a w := by
  refine wp_scope_jumps l J μ (rest := Code.seq Code.skip rest) (by simp [findLabel, hf]) ?_ (fun a w h => wp_seq (wp_skip (pass a w h)))
  refine wp_seq ?_
  refine Code.wp_mono ?_ first
  intro e a2 w2 h2
  cases e with
  | normal =>
    refine wp_seq (wp_label ?_)
    refine Code.wp_mono ?_ (pass a2 w2 h2)
    intro e a3 w3 h3
    cases e with
    | goto l' => exact ⟨h3.1, h3.2.1⟩
    | _ => exact h3
  | _ => exact h2.elim
end Go.Proofs.YtgdggaieekakhagDoor
