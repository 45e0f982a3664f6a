/- A box of messages in memory: a struct with a channel, and what lies in the channel. -/
import Derived.Test.YtgedldbkghkahahDoorMbP
import Derived.Test.YtgedldbkghkahahDoorMCheckAll
import Derived.Conc.LoneCalls
import Derived.Conc.LoneSelect
namespace Go.Proofs.YtgedldbkghkahahDoor
open Go.RowKit
/-- A message that lies in a box: its cells lie in blocks of P. -/
def InQ (w : World) (P : Nat → Prop) (u : Value) (m : Int × Int × Mx) : Prop :=
  ∃ s, u = .agg #[.int .i64 m.1, .int .i64 m.2.1, .int .i64 m.2.2.rows, .int .i64 m.2.2.cols, s] ∧ IsInts w s m.2.2.cells ∧ (m.2.2.cells = [] ∨ ∀ a n c, s = .slice (some a) n c → P a.block)
theorem InQ.keep {X P : Nat → Prop} {w w' : World} {u : Value} {m : Int × Int × Mx} (h : InQ w P u m) (hk : Kept X w w') (hx : ∀ b, P b → ¬ X b) : InQ w' P u m := by
  obtain ⟨s, h1, h2, h3⟩ := h
  exact ⟨s, h1, hk.ints h2 (h3.imp id (fun q a n c e => hx _ (q a n c e))), h3⟩
theorem InQ.mono {P P' : Nat → Prop} {w : World} {u : Value} {m : Int × Int × Mx} (h : InQ w P u m) (hp : ∀ b, P b → P' b) : InQ w P' u m := by
  obtain ⟨s, h1, h2, h3⟩ := h
  exact ⟨s, h1, h2, h3.imp id (fun q a n c e => hp _ (q a n c e))⟩
theorem InQ.isMsg {P : Nat → Prop} {w : World} {u : Value} {m : Int × Int × Mx} (h : InQ w P u m) : IsMsg w u m.1 m.2.1 m.2.2 := by
  obtain ⟨s, h1, h2, _⟩ := h
  exact ⟨s, h1, h2⟩
/-- What lies in a channel. -/
def ChanIs (w : World) (P : Nat → Prop) (C n : Nat) (cl : Bool) (ms : List (Int × Int × Mx)) : Prop :=
  ∃ buf s r, w.heap[C]? = some (.chan n buf cl s r false) ∧ buf.size = ms.length ∧ ∀ (i : Nat) (u : Value) (m : Int × Int × Mx), buf[i]? = some u → ms[i]? = some m → InQ w P u m
structure BoxIs (w : World) (P : Nat → Prop) (B C n : Nat) (cl : Bool) (ms : List (Int × Int × Mx)) : Prop where
  bx : w.heap[B]? = some (.cells #[.chan (some C), .int .i32 0, .int .u32 0, .bool cl] 86 (0, 0))
  ch : ChanIs w P C n cl ms
  le : ms.length ≤ n
  pB : P B
  pC : P C
  ne : B ≠ C
  lt : ∀ b, P b → b < w.heap.size
theorem BoxIs.keep {X P : Nat → Prop} {w w' : World} {B C n : Nat} {cl : Bool} {ms : List (Int × Int × Mx)} (h : BoxIs w P B C n cl ms) (hk : Kept X w w') (hx : ∀ b, P b → ¬ X b) : BoxIs w' P B C n cl ms := by
  obtain ⟨buf, s, r, h1, h2, h3⟩ := h.ch
  exact ⟨(hk.block B (h.lt B h.pB) (hx B h.pB)).trans h.bx, ⟨buf, s, r, (hk.block C (h.lt C h.pC) (hx C h.pC)).trans h1, h2, fun i u m hu hm => (h3 i u m hu hm).keep hk hx⟩, h.le, h.pB, h.pC, h.ne, fun b hb => Nat.lt_of_lt_of_le (h.lt b hb) hk.size⟩
theorem keep_chan (X : Nat → Prop) (w : World) (C cap : Nat) (buf : Array Value) (cl : Bool) (s r : Nat) (tm : Bool) (hC : X C) : Kept X w (w.setChan C cap buf cl s r tm) :=
  ⟨rfl, rfl, rfl, by simp [World.setChan], fun k _ hk => by simp only [World.setChan]; rw [Array.getElem?_setIfInBounds_ne (fun e => hk (by rw [← e]; exact hC))]⟩
/-- A message more in the channel. -/
theorem BoxIs.push {P Pv : Nat → Prop} {w w' : World} {B C n : Nat} {ms : List (Int × Int × Mx)} {v : Value} {m : Int × Int × Mx} {buf : Array Value} {s r : Nat} (h : BoxIs w P B C n false ms) (hc : w.heap[C]? = some (.chan n buf false s r false)) (hbs : buf.size = ms.length) (hq : ∀ (i : Nat) (u : Value) (m : Int × Int × Mx), buf[i]? = some u → ms[i]? = some m → InQ w P u m) (hv : InQ w Pv v m) (hvl : ∀ b, Pv b → b < w.heap.size) (hvC : ¬ Pv C) (hroom : ms.length < n) (hw : w' = w.setChan C n (buf.push v) false (s + 1) r false) :
    BoxIs w' (fun b => P b ∨ Pv b) B C n false (ms ++ [m]) := by
  subst hw
  have hk := keep_chan (fun b => b = C) w C n (buf.push v) false (s + 1) r false rfl
  -- no message that lies there has its cells in the channel's own block
  have hnC : ∀ u m, InQ w P u m → InQ (w.setChan C n (buf.push v) false (s + 1) r false) (fun b => P b ∨ Pv b) u m := fun u m hm => by
    obtain ⟨t, h1, h2, h3⟩ := hm
    refine ⟨t, h1, ?_, h3.imp id (fun q a n c e => .inl (q a n c e))⟩
    obtain ⟨a, cap, g1, g2, g3, g4⟩ := h2
    refine ⟨a, cap, g1, g2, g3, g4.imp id ?_⟩
    rintro ⟨b, off, ha, hcell⟩
    refine ⟨b, off, ha, fun i x hx => hk.cell (fun e => ?_) (hcell i x hx)⟩
    have hh := hcell i x hx
    have e' : b = C := e
    subst e'
    simp [World.cell?, hc] at hh
  refine ⟨(hk.block B (h.lt B h.pB) h.ne).trans h.bx, ⟨buf.push v, s + 1, r, Go.Conc.heap_setChan w C n _ false (s + 1) r false (h.lt C h.pC), by rw [Array.size_push, hbs, List.length_append]; rfl, fun i u m' hu hm => ?_⟩, by rw [List.length_append]; exact hroom, .inl h.pB, .inl h.pC, h.ne, fun b hb => ?_⟩
  · rcases Nat.lt_or_ge i ms.length with q | q
    · rw [Array.getElem?_push_lt (by omega)] at hu
      rw [List.getElem?_append_left q] at hm
      exact hnC u m' (hq i u m' (by rw [← hu]; exact Array.getElem?_eq_getElem (by omega)) hm)
    · rw [List.getElem?_append_right q] at hm
      have hi : i = ms.length := by
        have := (List.getElem?_eq_some_iff.1 hm).1
        simp at this
        omega
      subst hi
      rw [← hbs, Array.getElem?_push_size] at hu
      rw [Nat.sub_self] at hm
      obtain rfl := Option.some.inj hu
      obtain rfl : m = m' := Option.some.inj hm
      exact (hv.keep hk (fun b hb e => hvC (by rw [← e]; exact hb))).mono (fun b hb => .inr hb)
  · rw [Go.Conc.size_setChan]
    rcases hb with hb | hb
    · exact h.lt b hb
    · exact hvl b hb
/-- The first one goes. -/
theorem BoxIs.pop {P : Nat → Prop} {w w' : World} {B C n : Nat} {cl : Bool} {ms : List (Int × Int × Mx)} {m : Int × Int × Mx} {buf : Array Value} {s r : Nat} (h : BoxIs w P B C n cl (m :: ms)) (hc : w.heap[C]? = some (.chan n buf cl s r false)) (hbs : buf.size = (m :: ms).length) (hq : ∀ (i : Nat) (u : Value) (m' : Int × Int × Mx), buf[i]? = some u → (m :: ms)[i]? = some m' → InQ w P u m') (hw : w' = w.setChan C n (buf.extract 1 buf.size) cl s (r + 1) false) :
    BoxIs w' P B C n cl ms ∧ InQ w' P (buf.getD 0 undef) m := by
  subst hw
  have hk := keep_chan (fun b => b = C) w C n (buf.extract 1 buf.size) cl s (r + 1) false rfl
  have hnC : ∀ u m, InQ w P u m → InQ (w.setChan C n (buf.extract 1 buf.size) cl s (r + 1) false) P u m := fun u m hm => by
    obtain ⟨t, h1, h2, h3⟩ := hm
    refine ⟨t, h1, ?_, h3⟩
    obtain ⟨a, cap, g1, g2, g3, g4⟩ := h2
    refine ⟨a, cap, g1, g2, g3, g4.imp id ?_⟩
    rintro ⟨b, off, ha, hcell⟩
    refine ⟨b, off, ha, fun i x hx => hk.cell (fun e => ?_) (hcell i x hx)⟩
    have hh := hcell i x hx
    have e' : b = C := e
    subst e'
    simp [World.cell?, hc] at hh
  have hlen : buf.size = ms.length + 1 := hbs
  refine ⟨⟨(hk.block B (h.lt B h.pB) h.ne).trans h.bx, ⟨_, s, r + 1, Go.Conc.heap_setChan w C n _ cl s (r + 1) false (h.lt C h.pC), by rw [Array.size_extract]; omega, fun i u m' hu hm => ?_⟩, Nat.le_of_succ_le h.le, h.pB, h.pC, h.ne, fun b hb => by rw [Go.Conc.size_setChan]; exact h.lt b hb⟩, ?_⟩
  · have hi := (List.getElem?_eq_some_iff.1 hm).1
    rw [Array.getElem?_extract, if_pos (by omega)] at hu
    exact hnC u m' (hq (1 + i) u m' hu (by rw [Nat.add_comm]; exact hm))
  · refine hnC _ m (hq 0 _ m ?_ rfl)
    rw [Array.getD_eq_getD_getElem?, Array.getElem?_eq_getElem (by omega)]
    rfl
theorem eq_of_heap {u v : World} (h : ∀ k : Nat, u.heap[k]? = v.heap[k]?) (h1 : u.tape = v.tape) (h2 : u.drawn = v.drawn) (h3 : u.os = v.os) (h4 : u.output = v.output) : u = v := by
  obtain ⟨a1, a2, a3, a4, a5⟩ := u
  obtain ⟨b1, b2, b3, b4, b5⟩ := v
  obtain rfl : a1 = b1 := Array.ext_getElem? h
  dsimp only at h1 h2 h3 h4
  subst h1 h2 h3 h4
  rfl
/-- A lock that is taken and left again. -/
theorem lock_round {W : World} {B : Nat} {x0 x2 x3 : Value} {t : TypeId} (hb : W.heap[B]? = some (.cells #[x0, .int .i32 0, x2, x3] t (0, 0))) : (W.setCell ⟨B, 1, none⟩ (.int .i32 1)).setCell ⟨B, 1, none⟩ (.int .i32 0) = W := by
  refine eq_of_heap (fun k => ?_) rfl rfl rfl rfl
  by_cases e : k = B
  · subst e
    rw [Joins.block_setCell (Joins.block_setCell hb (i := 1) _) (i := 1) _, hb]
    rfl
  · rw [Below.heap_setCell _ _ _ k e, Below.heap_setCell _ _ _ k e]
theorem lock_chan {W : World} {B C n : Nat} {buf : Array Value} {cl : Bool} {s r : Nat} {x0 x2 x3 : Value} {t : TypeId} (hb : W.heap[B]? = some (.cells #[x0, .int .i32 0, x2, x3] t (0, 0))) (hne : B ≠ C) : ((W.setCell ⟨B, 1, none⟩ (.int .i32 1)).setChan C n buf cl s r false).setCell ⟨B, 1, none⟩ (.int .i32 0) = W.setChan C n buf cl s r false := by
  have hc : ∀ (U : World) (k : Nat), k ≠ C → (U.setChan C n buf cl s r false).heap[k]? = U.heap[k]? := fun U k hk => by
    simp only [World.setChan]; rw [Array.getElem?_setIfInBounds_ne (fun e => hk e.symm)]
  refine eq_of_heap (fun k => ?_) rfl rfl rfl rfl
  by_cases e : k = B
  · subst e
    rw [hc _ _ hne, hb]
    have h1 := (hc (W.setCell ⟨k, 1, none⟩ (.int .i32 1)) k hne).trans (Joins.block_setCell hb (i := 1) _)
    rw [Joins.block_setCell h1 (i := 1) _]
    rfl
  · rw [Below.heap_setCell _ _ _ k e]
    by_cases f : k = C
    · subst f
      simp only [World.setChan, Array.getElem?_setIfInBounds_self, World.size_setCell]
    · rw [hc _ _ f, hc _ _ f, Below.heap_setCell _ _ _ k e]
end Go.Proofs.YtgedldbkghkahahDoor
