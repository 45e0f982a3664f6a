/- Plain facts on what was done, and where in memory it lies. -/
import Derived.Test.YtgdggaieekakhagDoorPnF
namespace Go.Proofs.YtgdggaieekakhagDoor
open Go.RowKit
theorem grow_of {w w' : World} (hb : Below w.heap.size w w') (r : Option Nat) : w.grownBy w' r := ⟨hb.os, hb.tape, hb.output, hb.size, fun k hk _ => hb.block k hk⟩
theorem pn_drew {V u : World} (h : Below V.heap.size V u) : Below V.heap.size V u.drew := below_dr h
theorem pn_drewN {V u : World} {n : Nat} (h : Below V.heap.size V u) : Below V.heap.size V (u.drewN n) := ⟨h.os, h.tape, h.output, h.size, h.block⟩
theorem pn_alloc {V u : World} {o : Obj} (h : Below V.heap.size V u) : Below V.heap.size V (u.alloc o) := below_go h (below_one _ _)
theorem pn_new3 (V : World) (x y z : Value) (t : TypeId) {W : World} (hb : Below (V.alloc (.cells #[x, y, z] t)).heap.size (V.alloc (.cells #[x, y, z] t)) W) {B : Nat} (hB : V.heap.size = B) : W.cell? ⟨B, 0, none⟩ = some x ∧ W.cell? ⟨B, 1, none⟩ = some y ∧ W.cell? ⟨B, 2, none⟩ = some z := by
  subst hB
  exact ⟨cell_bel hb (by simp), cell_bel hb (by simp), cell_bel hb (by simp)⟩
/-- A map's block holds no cells. -/
theorem Deeds.apart {w : World} {b : Nat} {L : List (Int × Int × Int)} (h : Deeds w b L) {p : Addr} {v : Value} (hc : w.cell? p = some v) : some p.block ≠ some b := by
  intro e
  have e := Option.some.inj e
  obtain ⟨es, clock, hb, _⟩ := h
  rw [← e] at hb
  simp [World.cell?, hb] at hc
theorem cell_grow {w w' : World} {b : Nat} {L : List (Int × Int × Int)} (h : Deeds w b L) (hg : w.grownBy w' (some b)) {p : Addr} {v : Value} (hc : w.cell? p = some v) : w'.cell? p = some v := hg.cell hc (h.apart hc)
theorem IsActs.deeds {w w' : World} {v : Value} {l : List (Int × Int)} {b : Nat} {L : List (Int × Int × Int)} (h : IsActs w v l) (hd : Deeds w b L) (hg : w.grownBy w' (some b)) : IsActs w' v l := by
  obtain ⟨a, cap, h1, h2, h3, h4⟩ := h
  refine ⟨a, cap, h1, h2, h3, h4.imp id ?_⟩
  rintro ⟨b', off, ha, hc⟩
  exact ⟨b', off, ha, fun i x hx => ⟨cell_grow hd hg (hc i x hx).1, cell_grow hd hg (hc i x hx).2⟩⟩
/-- The deeds of one stage. -/
def deedsOf (s : Int) (l : List (Int × Int)) : List (Int × Int × Int) := l.map (fun a => (s, a))
theorem mem_deedsOf {s : Int} {l : List (Int × Int)} {a : Int × Int} : (s, a) ∈ deedsOf s l ↔ a ∈ l := by
  unfold deedsOf
  rw [List.mem_map]
  constructor
  · rintro ⟨x, hx, e⟩
    rw [← (Prod.mk.inj e).2]; exact hx
  · exact fun h => ⟨a, h, rfl⟩
theorem mem_deeds {s : Int} {L : List (Int × Int × Int)} {l : List (Int × Int)} {a : Int × Int} (hL : ∀ d ∈ L, d.1 ≠ s) : (s, a) ∈ L ++ deedsOf s l ↔ a ∈ l := by
  rw [List.mem_append, mem_deedsOf]
  constructor
  · rintro (h | h)
    · exact absurd rfl (hL _ h)
    · exact h
  · exact fun h => .inr h
theorem take_snoc {l : List (Int × Int)} {k : Nat} {x : Int × Int} (h : l[k]? = some x) : l.take (k + 1) = l.take k ++ [x] := by
  rw [List.take_add_one, h]; rfl
theorem deeds_snoc {s : Int} {L : List (Int × Int × Int)} {l : List (Int × Int)} {k : Nat} {x : Int × Int} (h : l[k]? = some x) : L ++ deedsOf s (l.take (k + 1)) = L ++ deedsOf s (l.take k) ++ [(s, x)] := by
  rw [take_snoc h]; simp [deedsOf]
theorem deeds_apart {s : Int} {L : List (Int × Int × Int)} {l : List (Int × Int)} (h : (L ++ deedsOf s l).Nodup) : apart l := by
  have h2 : (deedsOf s l).Nodup := (List.nodup_append.1 h).2.1
  intro i k x y hk hx hy e
  subst e
  have a1 : (deedsOf s l)[i]? = some (s, x) := by simp [deedsOf, hx]
  have a2 : (deedsOf s l)[k]? = some (s, x) := by simp [deedsOf, hy]
  have := idx_at h2 a1
  have := idx_at h2 a2
  omega
theorem not_apart {l : List (Int × Int)} {k : Nat} {x : Int × Int} (h : l[k]? = some x) (hm : x ∈ l.take k) : ¬ apart l := by
  intro ha
  obtain ⟨i, hi⟩ := List.getElem?_of_mem hm
  have hlt : i < k := by
    have := (List.getElem?_eq_some_iff.1 hi).1
    rw [List.length_take] at this
    omega
  rw [List.getElem?_take, if_pos hlt] at hi
  exact ha k i x x hlt h hi rfl
theorem pos_deeds {s : Int} {L : List (Int × Int × Int)} {l : List (Int × Int)} (h : (L ++ deedsOf s l).Nodup) {i : Nat} {x : Int × Int} (hx : l[i]? = some x) : posD (s, x) (L ++ deedsOf s l) = ((L.length + i : Nat) : Int) :=
  posD_at h (by rw [List.getElem?_append_right (by omega)]; simp [deedsOf, hx])
/-- Where a Backward stands ahead of the Forward of its part. -/
theorem back_first {s : Int} {L : List (Int × Int × Int)} {l : List (Int × Int)} {m : Nat} (h : ∀ x ∈ l, okA (m : Int) x) (h2 : (L ++ deedsOf s l).Nodup) (h3 : ¬ (l.length : Int) < 2 * (m : Int)) {p : Nat} (hp : p < m)
    (hlt : posD (s, 2, (p : Int)) (L ++ deedsOf s l) < posD (s, 1, (p : Int)) (L ++ deedsOf s l)) : ¬ ahead l := by
  have ha := deeds_apart h2
  obtain ⟨i, hi⟩ := List.getElem?_of_mem (act_in h ha h3 (x := (1, (p : Int))) ⟨Int.le_refl 1, show (1 : Int) ≤ 2 by decide, Int.natCast_nonneg p, by show (p : Int) < m; omega⟩)
  obtain ⟨k, hk⟩ := List.getElem?_of_mem (act_in h ha h3 (x := (2, (p : Int))) ⟨show (1 : Int) ≤ 2 by decide, Int.le_refl 2, Int.natCast_nonneg p, by show (p : Int) < m; omega⟩)
  rw [pos_deeds h2 hi, pos_deeds h2 hk] at hlt
  exact fun hq => hq i k _ _ (by omega) hi hk ⟨rfl, rfl⟩
theorem all_ahead {s : Int} {L : List (Int × Int × Int)} {l : List (Int × Int)} {m : Nat} (h : ∀ x ∈ l, okA (m : Int) x) (h2 : (L ++ deedsOf s l).Nodup)
    (hq : ∀ p : Nat, p < m → ¬ posD (s, 2, (p : Int)) (L ++ deedsOf s l) < posD (s, 1, (p : Int)) (L ++ deedsOf s l)) : ahead l := by
  have ha := deeds_apart h2
  rintro i k ⟨xk, xm⟩ ⟨yk, ym⟩ hki hx hy ⟨e1, e2⟩
  dsimp only at e1 e2
  subst e1 e2
  obtain ⟨q1, q2, q3, q4⟩ := h _ (List.mem_of_getElem? hx)
  dsimp only at q1 q2 q3 q4
  obtain ⟨p, rfl⟩ : ∃ p : Nat, xm = (p : Int) := ⟨xm.toNat, by omega⟩
  have : xk = 1 ∨ xk = 2 := by omega
  rcases this with rfl | rfl
  · have := hq p (by omega)
    rw [pos_deeds h2 hx, pos_deeds h2 hy] at this
    omega
  · exact ha i k _ _ hki hx hy rfl
end Go.Proofs.YtgdggaieekakhagDoor
