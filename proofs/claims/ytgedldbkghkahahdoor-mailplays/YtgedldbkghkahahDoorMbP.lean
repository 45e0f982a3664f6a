/- What stays where all blocks stay but some; a list of messages that grows and is cut at its beginning. No program in sight. -/
import Derived.Test.YtgedldbkghkahahDoorWrR3
import Derived.ArgAppend
import Derived.Deep.MidRow
import Derived.Deep.Upon
namespace Go.Proofs.YtgedldbkghkahahDoor
open Go.RowKit
/-- All blocks stay but those of X. -/
structure Kept (X : Nat → Prop) (w w' : World) : Prop where
  os : w'.os = w.os
  tape : w'.tape = w.tape
  output : w'.output = w.output
  size : w.heap.size ≤ w'.heap.size
  block : ∀ k, k < w.heap.size → ¬ X k → w'.heap[k]? = w.heap[k]?
theorem Kept.refl (X : Nat → Prop) (w : World) : Kept X w w := ⟨rfl, rfl, rfl, Nat.le_refl _, fun _ _ _ => rfl⟩
theorem Kept.trans {X Y : Nat → Prop} {w u v : World} (h : Kept X w u) (k : Kept Y u v) (hy : ∀ b, b < w.heap.size → Y b → X b) : Kept X w v :=
  ⟨k.os.trans h.os, k.tape.trans h.tape, k.output.trans h.output, Nat.le_trans h.size k.size, fun b hb hx => (k.block b (Nat.lt_of_lt_of_le hb h.size) (fun e => hx (hy b hb e))).trans (h.block b hb hx)⟩
theorem Kept.of {X : Nat → Prop} {w w' : World} (h : Below w.heap.size w w') : Kept X w w' := ⟨h.os, h.tape, h.output, h.size, fun k hk _ => h.block k hk⟩
theorem Kept.mono {X Y : Nat → Prop} {w w' : World} (h : Kept X w w') (hxy : ∀ b, b < w.heap.size → X b → Y b) : Kept Y w w' := ⟨h.os, h.tape, h.output, h.size, fun k hk hy => h.block k hk (fun e => hy (hxy k hk e))⟩
theorem Kept.set {X : Nat → Prop} (w : World) {B : Nat} (hB : X B) (q : Nat) (v : Value) : Kept X w (w.setCell ⟨B, q, none⟩ v) :=
  ⟨rfl, rfl, rfl, by simp [World.setCell], fun k _ hk => Below.heap_setCell _ _ _ k (fun e => hk (by rw [e]; exact hB))⟩
theorem Kept.cell {X : Nat → Prop} {w w' : World} (h : Kept X w w') {p : Addr} {v : Value} (hp : ¬ X p.block) (hc : w.cell? p = some v) : w'.cell? p = some v :=
  (World.cell?_of_block (h.block _ (World.block_lt_of_cell? w _ hc) hp)).trans hc
theorem Kept.below {X : Nat → Prop} {N : Nat} {w0 w w' : World} (hb : Below N w0 w) (h : Kept X w w') (hN : N ≤ w.heap.size) (hx : ∀ k, X k → N ≤ k) : Below N w0 w' :=
  ⟨h.os.trans hb.os, h.tape.trans hb.tape, h.output.trans hb.output, Nat.le_trans hb.size h.size, fun k hk => (h.block k (Nat.lt_of_lt_of_le hk hN) (fun e => absurd (hx k e) (by omega))).trans (hb.block k hk)⟩
theorem Kept.ints {X : Nat → Prop} {w w' : World} (h : Kept X w w') {s : Value} {zs : List Int} (hs : IsInts w s zs) (hx : zs = [] ∨ ∀ a n c, s = .slice (some a) n c → ¬ X a.block) : IsInts w' s zs := by
  obtain ⟨a, cap, h1, h2, h3, h4⟩ := hs
  refine ⟨a, cap, h1, h2, h3, ?_⟩
  rcases hx with hx | hx
  · exact .inl hx
  · rcases h4 with h4 | ⟨b, off, ha, hc⟩
    · exact .inl h4
    · refine .inr ⟨b, off, ha, fun i x hi => h.cell ?_ (hc i x hi)⟩
      exact hx ⟨b, off, none⟩ _ _ (by rw [h1, ha])
/-- A list of messages, five cells each, in block g. -/
def LIs (w : World) (v : Value) (g : Nat) (fl : List Value) (n : Nat) : Prop :=
  ∃ a cap, v = .slice a n cap ∧ n ≤ cap ∧ cap ≤ maxLen ∧ fl.length = n * 5 ∧ ((a = none ∧ n = 0 ∧ cap = 0) ∨ ∃ off, a = some ⟨g, off, none⟩ ∧ w.there g off (cap * 5) ∧ w.rangeAt g off fl ∧ g < w.heap.size)
theorem LIs.nil (w : World) (g : Nat) : LIs w (.slice none 0 0) g [] 0 := ⟨none, 0, rfl, Nat.le_refl _, Nat.zero_le _, rfl, .inl ⟨rfl, rfl, rfl⟩⟩
theorem LIs.shape {w : World} {v : Value} {g n : Nat} {fl : List Value} (h : LIs w v g fl n) : ∃ a k, v = .slice a n k := by obtain ⟨a, k, h1, _⟩ := h; exact ⟨a, k, h1⟩
theorem LIs.keep {X : Nat → Prop} {w w' : World} {v : Value} {g n : Nat} {fl : List Value} (h : LIs w v g fl n) (hk : Kept X w w') (hx : g < w.heap.size → ¬ X g) : LIs w' v g fl n := by
  obtain ⟨a, k, h1, h2, h3, h4, h5⟩ := h
  refine ⟨a, k, h1, h2, h3, h4, h5.imp id ?_⟩
  rintro ⟨off, ha, hth, hr, hg⟩
  have hb := hk.block g hg (hx hg)
  refine ⟨off, ha, fun j hj => ?_, fun j u hu => (World.cell?_of_block (a := ⟨g, off + j, none⟩) hb).trans (hr j u hu), Nat.lt_of_lt_of_le hg hk.size⟩
  rw [World.cell?_of_block (a := ⟨g, off + j, none⟩) hb, World.frozen?_of_block (a := ⟨g, off + j, none⟩) hb]
  exact hth j hj
theorem infoMsg : (Tryd.prog.info? 26).map (fun i => (i.zero, i.size, i.bytes)) = some (some (.agg #[.int .i64 0, .int .i64 0, .int .i64 0, .int .i64 0, .slice none 0 0]), 5, 56) := by kernel_rfl
theorem there_new {w : World} {g : Nat} {cs : Array Value} {t : TypeId} {n : Nat} (h : w.heap[g]? = some (.cells cs t (0, 0))) (hn : n ≤ cs.size) : w.there g 0 n := fun j hj => by
  rw [Nat.zero_add]
  refine ⟨?_, Joins.unfrozen_of_block h j⟩
  rw [Joins.cell_of_block h, Array.getElem?_eq_getElem (by omega)]
  rfl
theorem range_new {w : World} {g : Nat} {cs : Array Value} {t : TypeId} {l : List Value} (h : w.heap[g]? = some (.cells cs t (0, 0))) (hl : ∀ (j : Nat) (u : Value), l[j]? = some u → cs[j]? = some u) : w.rangeAt g 0 l := fun j u hu => by
  rw [Nat.zero_add, Joins.cell_of_block h]
  exact hl j u hu
theorem size_setCs (b : Nat) : ∀ (vs : List Value) (o : Nat) (w : World), (w.setCells b o vs).heap.size = w.heap.size
  | [], _, _ => rfl
  | v :: r, o, w => by rw [World.setCells, size_setCs b r]; simp [World.setCell]
theorem tape_setCs (b : Nat) : ∀ (vs : List Value) (o : Nat) (w : World), (w.setCells b o vs).tape = w.tape
  | [], _, _ => rfl
  | v :: r, o, w => by rw [World.setCells, tape_setCs b r]; rfl
/-- One message more. -/
theorem app_msg {w : World} {ops : Array Oper} {rest : List Oper} {o : Oper} {a : Act} {Q : Exit → Act → World → Prop} (hgd : o.guard = none) (s x : Operand)
    (ho : o.op = .call { callee := .builtin .append, args := #[s, x], argTypes := #[50, 50] }) (v : Value) (g n Bx : Nat) (fl x5 : List Value) (hs : a.eval s = v) (hl : LIs w v g fl n) (hx : a.eval x = .slice (some ⟨Bx, 0, none⟩) 1 1)
    (hc : w.rangeAt Bx 0 x5) (h5 : x5.length = 5) (h1 : ∀ u ∈ x5, u.oneCell' = true) (hn : n ≤ 1000)
    (h : ∀ v' g' w', LIs w' v' g' (fl ++ x5) (n + 1) → (g' = g ∨ w.heap.size ≤ g') → Kept (fun b => b = g) w w' → wpList Tryd.prog ops Q rest (a.put o.dst v') w') : wpList Tryd.prog ops Q (o :: rest) a w := by
  obtain ⟨e0, ei, hz0, hz1, hz2⟩ := info_parts infoMsg
  obtain ⟨ad, cap, rfl, h2, h3, h4, hor⟩ := hl
  have hcx : ∀ j u, x5[j]? = some u → w.cell? ((⟨Bx, 0, none⟩ : Addr).add j) = some u := fun j u hu => by rw [Addr.add_lit]; exact hc j u hu
  have hgrow : ∀ (old : Nat), LIs (w.drew.alloc (.cells (fl.toArray ++ x5.toArray ++ Builtin.zeroCells (#[.int .i64 0, .int .i64 0, .int .i64 0, .int .i64 0, .slice none 0 0]) (grownCap w (n + 1) old 26 - (n + 1))) 26)) (.slice (some ⟨w.heap.size, 0, none⟩) (n + 1) (grownCap w (n + 1) old 26)) w.heap.size (fl ++ x5) (n + 1) := fun old => by
    have hge := grownCap_ge w (n + 1) old 26
    have hcm : grownCap w (n + 1) old 26 ≤ maxLen := grownCap_le_maxLen w (n + 1) old _ (by unfold maxLen; omega)
    have hbk := heap_alloc_new w.drew (.cells (fl.toArray ++ x5.toArray ++ Builtin.zeroCells (#[.int .i64 0, .int .i64 0, .int .i64 0, .int .i64 0, .slice none 0 0]) (grownCap w (n + 1) old 26 - (n + 1))) 26)
    refine ⟨_, _, rfl, hge, hcm, by rw [List.length_append, h4, h5]; omega, .inr ⟨0, rfl, there_new hbk ?_, range_new hbk ?_, ?_⟩⟩
    · simp only [Array.size_append, List.size_toArray, size_zeroCells, h4, h5]
      simp only [List.length_cons, List.length_nil]
      omega
    · intro j u hu
      rw [Array.getElem?_append_left (by have := (List.getElem?_eq_some_iff.1 hu).1; simp only [Array.size_append, List.size_toArray]; rw [List.length_append] at this; exact this)]
      rw [List.append_toArray, List.getElem?_toArray]
      exact hu
    · rw [World.size_alloc]; exact Nat.lt_succ_self _
  have hkeep : ∀ ob, Kept (fun b => b = g) w (w.drew.alloc ob) := fun ob => ⟨rfl, rfl, rfl, by simp, fun k hk _ => Below.heap_alloc w.drew ob k hk⟩
  refine wpList_plain hgd fun K hK => ?_
  have fin : ∀ v' w', (Builtin.append_ #[50, 50] o.type #[.slice ad n cap, .slice (some ⟨Bx, 0, none⟩) 1 1]).run Tryd.prog w = .ok v' w' → wpList Tryd.prog ops Q rest (a.put o.dst v') w' → Oper.wp Tryd.prog o a w K Q := fun v' w' hr hw => by
    unfold Oper.wp
    simp [execOp, ho, resolve, invoke, builtin, hs, hx, hr, Result.andThen]
    exact hK _ _ hw
  rcases hor with ⟨rfl, rfl, rfl⟩ | ⟨off, rfl, hth, hr, hg⟩
  · have hfl : fl = [] := List.eq_nil_of_length_eq_zero (by omega)
    have hr := run_append_nil (P := Tryd.prog) w 50 o.type 26 e0 (.agg #[.int .i64 0, .int .i64 0, .int .i64 0, .int .i64 0, .slice none 0 0]) Tryd.underlying50 ei hz0 ⟨Bx, 0, none⟩ 1 1 x5 (by rw [hz1, h5]) hcx (by omega) (by omega) (by rw [hz2]; omega)
    have hq := hgrow 0
    subst hfl
    refine fin _ _ hr (h _ w.heap.size _ ?_ (.inr (Nat.le_refl _)) (hkeep _))
    simpa [Value.cells] using hq
  · by_cases hroom : n + 1 ≤ cap
    · have hsp : ∀ j, j < x5.length → (w.cell? ⟨g, off + n * e0.size + j, none⟩).isSome = true ∧ w.frozen? ⟨g, off + n * e0.size + j, none⟩ = false := fun j hj => by
        have := hth (n * 5 + j) (by omega)
        rw [hz1, Nat.add_assoc]
        exact this
      have hrr := run_append_room_cells (P := Tryd.prog) w 50 o.type 26 e0 Tryd.underlying50 ei g off n cap ⟨Bx, 0, none⟩ 1 1 x5 (by rw [hz1, h5]) hcx h1 hroom (fun j hj => (hsp j hj).1) (fun j hj => (hsp j hj).2)
      rw [hz1] at hrr hsp
      refine fin _ _ hrr (h _ g _ ⟨_, cap, rfl, hroom, h3, by rw [List.length_append, h4, h5]; omega, .inr ⟨off, rfl, ?_, ?_, ?_⟩⟩ (.inl rfl) ?_)
      · exact World.there_setCells hth g (off + n * 5) x5
      · intro j u hu
        rcases Nat.lt_or_ge j fl.length with q | q
        · rw [List.getElem?_append_left q] at hu
          rw [World.cell?_setCells_out g x5 _ w _ (fun _ _ => .inl (by show off + j < off + n * 5; omega))]
          exact hr j u hu
        · rw [List.getElem?_append_right q] at hu
          obtain ⟨hj, rfl⟩ := List.getElem?_eq_some_iff.1 hu
          have := World.cell?_setCells_in g x5 (off + n * 5) w (fun i hi => (hsp i hi).1) (j - fl.length) hj
          rw [show off + n * 5 + (j - fl.length) = off + j by omega] at this
          exact this
      · exact Nat.lt_of_lt_of_le hg (Nat.le_of_eq (by rw [size_setCs]))
      · exact ⟨World.os_setCells _ _ _ _, tape_setCs _ _ _ _, World.output_setCells _ _ _ _, Nat.le_of_eq (by rw [size_setCs]), fun k hk hne => World.heap_setCells_other _ _ _ _ hk hne⟩
    · have hrr := run_append_grow (P := Tryd.prog) w 50 o.type 26 e0 (.agg #[.int .i64 0, .int .i64 0, .int .i64 0, .int .i64 0, .slice none 0 0]) Tryd.underlying50 ei hz0 ⟨g, off, none⟩ n cap fl (by rw [hz1, h4]) (fun j u hu => by rw [Addr.add_lit]; exact hr j u hu) ⟨Bx, 0, none⟩ 1 1 x5 (by rw [hz1, h5]) hcx (by omega) (by omega) (growslice_fits (by omega) (by rw [hz2]; omega))
      exact fin _ _ hrr (h _ w.heap.size _ (hgrow cap) (.inr (Nat.le_refl _)) (hkeep _))
end Go.Proofs.YtgedldbkghkahahDoor
