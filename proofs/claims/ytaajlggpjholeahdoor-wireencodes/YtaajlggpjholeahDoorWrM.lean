/- Lists of bytes in memory: read, and grown by append. -/
import Derived.Test.YtaajlggpjholeahDoorWrP
import Derived.Test.YtaajlggpjholeahDoorMFill
import Derived.Test.YtaajlggpjholeahDoorAppWh
import Derived.Laws.AppendOwnNone
namespace Go.Proofs.YtaajlggpjholeahDoor
open Go.RowKit
theorem bel_on {w u v : World} (h : Below w.heap.size w u) (k : Below u.heap.size u v) : Below w.heap.size w v := h.trans (k.mono h.size)
/-- A slice value that reads as these bytes. -/
def IsBys (w : World) (v : Value) (l : List Int) : Prop :=
  ∃ (a : Option Addr) (cap : Nat), v = .slice a l.length cap ∧ l.length ≤ cap ∧ cap ≤ maxLen ∧ (∀ x ∈ l, 0 ≤ x ∧ x < 256) ∧ (l = [] ∨ ∃ b off, a = some ⟨b, off, none⟩ ∧ ∀ i x, l[i]? = some x → w.cell? ⟨b, off + i, none⟩ = some (.int .u8 x))
theorem IsBys.below {w w' : World} {v : Value} {l : List Int} (h : IsBys w v l) (hb : Below w.heap.size w w') : IsBys w' v l := by
  obtain ⟨a, cap, h1, h2, h3, h5, h4⟩ := h
  refine ⟨a, cap, h1, h2, h3, h5, h4.imp id ?_⟩
  rintro ⟨b, off, ha, hc⟩
  exact ⟨b, off, ha, fun i x hx => (hb.cell (World.block_lt_of_cell? w _ (hc i x hx))).trans (hc i x hx)⟩
theorem IsBys.len {w : World} {v : Value} {l : List Int} (h : IsBys w v l) : l.length ≤ maxLen := by obtain ⟨_, _, _, h2, h3, _⟩ := h; omega
theorem IsBys.shape {w : World} {v : Value} {l : List Int} (h : IsBys w v l) : ∃ a k, v = .slice a l.length k := by obtain ⟨a, cap, h1, _⟩ := h; exact ⟨a, cap, h1⟩
theorem IsBys.nil (w : World) : IsBys w (.slice none 0 0) [] := ⟨none, 0, rfl, Nat.le_refl _, Nat.zero_le _, fun x h => by simp at h, .inl rfl⟩
theorem infoByte : (Tryd.prog.info? 5).map (fun i => (i.zero, i.size, i.bytes)) = some (some (.int .u8 0), 1, 1) := by kernel_rfl
/-- A list of bytes of the call's own, that grows. -/
def OwnY (w : World) (base : Nat) (v : Value) (l : List Int) : Prop := w.ownsRow base 5 1 v l.length (l.map (Value.int .u8)) ∧ ∀ x ∈ l, 0 ≤ x ∧ x < 256
theorem OwnY.nil (w : World) (base : Nat) : OwnY w base (.slice none 0 0) [] := ⟨World.ownsRow_nil _ _ _ _, fun x h => by simp at h⟩
theorem OwnY.below {w w' : World} {base : Nat} {v : Value} {l : List Int} (h : OwnY w base v l) (hb : Below w.heap.size w w') : OwnY w' base v l := by
  refine ⟨World.ownsRow.kept (row := none) h.1 ⟨hb.os, hb.tape, hb.output, hb.size, fun k hk _ => hb.block k hk⟩ ?_, h.2⟩
  cases e : v.ownBlock with
  | none => exact .inl rfl
  | some k => exact .inr (by simp)
theorem OwnY.isBys {w : World} {base : Nat} {v : Value} {l : List Int} (h : OwnY w base v l) : IsBys w v l := by
  have hc := fun g e => World.ownsRow.cells h.1 (g := g) e
  obtain ⟨⟨h1, h2⟩, h5⟩ := h
  rcases h2 with ⟨rfl, e⟩ | ⟨g, cap, cur, rfl, _, _, h3, h4, _, _⟩
  · obtain rfl : l = [] := List.eq_nil_of_length_eq_zero e
    exact IsBys.nil w
  · refine ⟨some ⟨g, 0, none⟩, cap, rfl, h3, h4, h5, .inr ⟨g, 0, rfl, fun i x hx => ?_⟩⟩
    have := hc g rfl i (.int .u8 x) (by simp [hx])
    rw [Addr.add_lit] at this
    exact this
theorem OwnY.shape {w : World} {base : Nat} {v : Value} {l : List Int} (h : OwnY w base v l) : ∃ a k, v = .slice a l.length k := h.isBys.shape
/-- What one literal makes. -/
theorem OwnY.lit (w : World) (l : List Int) (hl : l.length ≤ 1000) (hb : ∀ x ∈ l, 0 ≤ x ∧ x < 256) : OwnY (w.alloc (.cells (l.map (Value.int .u8)).toArray 5)) w.heap.size (.slice (some ⟨w.heap.size, 0, none⟩) l.length l.length) l :=
  ⟨⟨by simp, .inr ⟨w.heap.size, l.length, (l.map (Value.int .u8)).toArray, rfl, Nat.le_refl _, heap_alloc_new w _, Nat.le_refl _, by unfold maxLen; omega, by simp, by rw [List.take_of_length_le (by simp)]⟩⟩, hb⟩
theorem OwnY.base {w : World} {base base' : Nat} {v : Value} {l : List Int} (h : OwnY w base v l) (hb : base' ≤ base) : OwnY w base' v l := by
  refine ⟨⟨h.1.1, ?_⟩, h.2⟩
  rcases h.1.2 with q | ⟨g, cap, cur, q1, q2, q3⟩
  · exact .inl q
  · exact .inr ⟨g, cap, cur, q1, Nat.le_trans hb q2, q3⟩
/-- What is turned lies in the list's own block, or behind all that was there. -/
def AsideY (w w' : World) (v s : Value) : Prop := ∀ B, B < w.heap.size → v.ownBlock ≠ some B → w'.heap[B]? = w.heap[B]? ∧ s.ownBlock ≠ some B
theorem AsideY.refl (w : World) (v : Value) : AsideY w w v v := fun _ _ h => ⟨rfl, h⟩
theorem AsideY.trans {w w1 w2 : World} {v s t : Value} (h : AsideY w w1 v s) (hs : w.heap.size ≤ w1.heap.size) (k : AsideY w1 w2 s t) : AsideY w w2 v t := fun B hB hne => by
  obtain ⟨h1, h2⟩ := h B hB hne
  obtain ⟨k1, k2⟩ := k B (Nat.lt_of_lt_of_le hB hs) h2
  exact ⟨k1.trans h1, k2⟩
theorem AsideY.below {w w1 : World} {N : Nat} {v : Value} (h : Below N w w1) (hN : w.heap.size ≤ N) : AsideY w w1 v v := fun B hB hne => ⟨h.block B (Nat.lt_of_lt_of_le hB hN), hne⟩
/-- A list of one's own, and another one behind it. -/
theorem app_bysW {w : World} {ops : Array Oper} {rest : List Oper} {o : Oper} {a : Act} {Q : Exit → Act → World → Prop} (hgd : o.guard = none) (s x : Operand)
    (ho : o.op = .call { callee := .builtin .append, args := #[s, x], argTypes := #[27, 27] }) (base : Nat) (v u : Value) (ys zs : List Int) (hs : a.eval s = v) (hown : OwnY w base v ys) (hx : a.eval x = u) (hu : IsBys w u zs) (hn : NilOk u)
    (hsm : ys.length + zs.length ≤ 140737488355328) (hbase : base ≤ w.heap.size)
    (h : ∀ v' w', OwnY w' base v' (ys ++ zs) → (∀ w0 : World, Below w0.heap.size w0 w → w0.heap.size ≤ base → Below w0.heap.size w0 w') → AsideY w w' v v' → w.heap.size ≤ w'.heap.size → wpList Tryd.prog ops Q rest (a.put o.dst v') w') : wpList Tryd.prog ops Q (o :: rest) a w := by
  obtain ⟨e0, ei, hz0, hz1, hz2⟩ := info_parts infoByte
  obtain ⟨ad, cap, rfl, h2, h3, h5, h4⟩ := hu
  have hbb : ∀ x ∈ ys ++ zs, 0 ≤ x ∧ x < 256 := fun x hx => by
    rcases List.mem_append.1 hx with q | q
    · exact hown.2 x q
    · exact h5 x q
  cases ad with
  | none =>
    obtain ⟨q1, q2⟩ := hn _ _ rfl
    obtain rfl : zs = [] := List.eq_nil_of_length_eq_zero q1
    subst q2
    refine wpList_append_own_none hgd s x 27 ho base 5 e0 1 Tryd.underlying27 ei v _ _ hs hown.1 hx ?_
    refine h v w (by rw [List.append_nil]; exact hown) (fun w0 hb _ => hb) (AsideY.refl _ _) (Nat.le_refl _)
  | some ad =>
    refine wpList_append_wh (w := w) hgd s x 27 ho base 5 e0 (.int .u8 0) 1 1 Tryd.underlying27 ei hz0 hz1 hz2 rfl (by decide) v _ _ hs hown.1 ad zs.length cap (zs.map (Value.int .u8)) hx (by simp) ?_ ?_ (by unfold maxLen; omega) (by omega) hbase ?_
    · intro j u' hj
      rcases h4 with rfl | ⟨b, off, e, hc⟩
      · simp at hj
      · obtain rfl := Option.some.inj e
        rw [List.getElem?_map] at hj
        cases hz : zs[j]? with
        | none => rw [hz] at hj; cases hj
        | some y =>
          rw [hz] at hj
          obtain rfl : u' = .int .u8 y := (Option.some.inj hj).symm
          rw [Addr.add_lit]
          exact hc j y hz
    · intro u' hu'
      obtain ⟨y, _, rfl⟩ := List.mem_map.1 hu'
      rfl
    · intro v' w' ho' hg hw
      refine h v' w' ⟨?_, hbb⟩ (fun w0 hb hle => hb.grown hg hb.size (fun k hk => Nat.le_trans hle (World.ownsRow.lt hown.1 k hk).1)) (fun B hB hne => ⟨hg.block B hB (fun e => hne e.symm), fun e => ?_⟩) hg.size
      · rw [List.length_append, List.map_append]
        exact ho'
      · rcases hw with q | q
        · exact hne (q ▸ e)
        · rw [q] at e; have := Option.some.inj e; omega
theorem app_bys {w : World} {ops : Array Oper} {rest : List Oper} {o : Oper} {a : Act} {Q : Exit → Act → World → Prop} (hgd : o.guard = none) (s x : Operand)
    (ho : o.op = .call { callee := .builtin .append, args := #[s, x], argTypes := #[27, 27] }) (base : Nat) (v u : Value) (ys zs : List Int) (hs : a.eval s = v) (hown : OwnY w base v ys) (hx : a.eval x = u) (hu : IsBys w u zs) (hn : NilOk u)
    (hsm : ys.length + zs.length ≤ 140737488355328) (hbase : base ≤ w.heap.size)
    (h : ∀ v' w', OwnY w' base v' (ys ++ zs) → (∀ w0 : World, Below w0.heap.size w0 w → w0.heap.size ≤ base → Below w0.heap.size w0 w') → wpList Tryd.prog ops Q rest (a.put o.dst v') w') : wpList Tryd.prog ops Q (o :: rest) a w :=
  app_bysW hgd s x ho base v u ys zs hs hown hx hu hn hsm hbase fun v' w' h1 h2 _ _ => h v' w' h1 h2
theorem grw_set (W : World) (b q : Nat) (v : Value) : W.grownBy (W.setCell ⟨b, q, none⟩ v) (some b) :=
  ⟨rfl, rfl, rfl, by simp [World.setCell], fun k _ hk => Below.heap_setCell _ _ _ k (fun e => hk (by rw [e]))⟩
/-- A message's own box. -/
def Blk5 (w : World) (B : Nat) (x0 x1 x2 x3 x4 : Value) : Prop := w.heap[B]? = some (.cells #[x0, x1, x2, x3, x4] 26 (0, 0))
theorem Blk5.lt {w : World} {B : Nat} {x0 x1 x2 x3 x4 : Value} (h : Blk5 w B x0 x1 x2 x3 x4) : B < w.heap.size := (Array.getElem?_eq_some_iff.1 h).1
theorem Blk5.c {w : World} {B : Nat} {x0 x1 x2 x3 x4 : Value} (h : Blk5 w B x0 x1 x2 x3 x4) : w.cell? ⟨B, 0, none⟩ = some x0 ∧ w.cell? ⟨B, 1, none⟩ = some x1 ∧ w.cell? ⟨B, 2, none⟩ = some x2 ∧ w.cell? ⟨B, 3, none⟩ = some x3 ∧ w.cell? ⟨B, 4, none⟩ = some x4 := by
  refine ⟨?_, ?_, ?_, ?_, ?_⟩ <;> (rw [Joins.cell_of_block h]; rfl)
theorem Blk5.f {w : World} {B : Nat} {x0 x1 x2 x3 x4 : Value} (h : Blk5 w B x0 x1 x2 x3 x4) (i : Nat) : w.frozen? ⟨B, i, none⟩ = false := Joins.unfrozen_of_block h i
theorem Blk5.bel {w w' : World} {N B : Nat} {x0 x1 x2 x3 x4 : Value} (h : Blk5 w B x0 x1 x2 x3 x4) (hb : Below N w w') (hB : B < N) : Blk5 w' B x0 x1 x2 x3 x4 := (hb.block B hB).trans h
theorem Blk5.grown {w w' : World} {B : Nat} {row : Option Nat} {x0 x1 x2 x3 x4 : Value} (h : Blk5 w B x0 x1 x2 x3 x4) (hg : w.grownBy w' row) (hne : some B ≠ row) : Blk5 w' B x0 x1 x2 x3 x4 := (hg.block B h.lt hne).trans h
theorem Blk5.new (w : World) (x0 x1 x2 x3 x4 : Value) : Blk5 (w.alloc (.cells #[x0, x1, x2, x3, x4] 26)) w.heap.size x0 x1 x2 x3 x4 := heap_alloc_new w _
theorem Blk5.set4 {w : World} {B : Nat} {x0 x1 x2 x3 x4 : Value} (h : Blk5 w B x0 x1 x2 x3 x4) (y : Value) : Blk5 (w.setCell ⟨B, 4, none⟩ y) B x0 x1 x2 x3 y := by
  unfold Blk5
  rw [Joins.block_setCell h]
  rfl
/-- The first bytes of a list. -/
theorem elemBy : Tryd.prog.underlying 27 = some (.slice (Tryd.prog.elem 27)) := by kernel_rfl
theorem sizeBy (w : World) : (Go.sizeOf (Tryd.prog.elem 27)).run Tryd.prog w = .ok 1 w := by kernel_rfl
theorem by_h {w : World} {a : Option Addr} {n cap : Nat} {l : List Int} (h : IsBys w (.slice a n cap) l) (m : Nat) (hi : Int) (hhi : hi = (m : Int)) (hm : m ≤ l.length) :
    ∃ a' n' c', (∀ W, (Instr.slice 27 (.slice a n cap) none (some (.int .i64 hi)) none).run Tryd.prog W = .ok (.slice a' n' c') W) ∧ IsBys w (.slice a' n' c') (l.take m) := by
  obtain ⟨a0, cap0, e, h2, h3, h5, h4⟩ := h
  injection e with e1 e2 e3
  subst e1 e2 e3
  have q2 : hi.toNat = m := by omega
  have hll : (l.take m).length = m := by rw [List.length_take]; omega
  refine ⟨if cap = 0 then a else a.map (·.add (0 * 1)), m, cap, fun W => ?_, ?_⟩
  · rw [run_slice_h (P := Tryd.prog) (w := W) 27 a l.length cap elemBy .i64 hi (by omega) (by omega), sizeBy, q2]
    rfl
  · refine ⟨_, cap, by rw [hll], by omega, h3, fun x hx => h5 x (List.mem_of_mem_take hx), ?_⟩
    rcases Nat.eq_zero_or_pos m with hC | hC
    · exact .inl (by apply List.eq_nil_of_length_eq_zero; omega)
    · obtain ⟨b, off, rfl, hc⟩ := h4.resolve_left (fun e => by rw [e] at hm; simp at hm; omega)
      refine .inr ⟨b, off, ?_, fun j x hx => ?_⟩
      · rw [if_neg (by omega)]
        show some (Addr.add _ _) = _
        rw [Addr.add_lit]
        rfl
      · have hj : j < m := by
          rcases Nat.lt_or_ge j m with h | h
          · exact h
          · rw [List.getElem?_eq_none (by omega)] at hx; cases hx
        rw [List.getElem?_take_of_lt hj] at hx
        exact hc _ _ hx
end Go.Proofs.YtaajlggpjholeahDoor
