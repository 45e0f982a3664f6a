/- Lists of acts, and plans, that grow by append. -/
import Derived.Test.YtgdggaieekakhagDoorPlR2
import Derived.Laws.AppendOwn
namespace Go.Proofs.YtgdggaieekakhagDoor
open Go.RowKit
/-- Where the grown list lies: in its old block, or in a new one. -/
theorem append_wh {P : Program} {w : World} (base : Nat) (t ty e : TypeId) (i : TypeInfo) (z : Value) (size bytes : Nat) (ht : P.underlying t = some (.slice e)) (hi : P.info? e = some i) (hz : i.zero = some z)
    (hsize : i.size = size) (hby : i.bytes = bytes) (hzs : z.cells.size = size) (hsz : 0 < size) (v : Value) (n : Nat) (xs : List Value) (hown : w.ownsRow base e size v n xs)
    (a : Addr) (m c : Nat) (news : List Value) (hl : news.length = m * size) (hnews : ∀ j u, news[j]? = some u → w.cell? (a.add j) = some u) (h1 : ∀ u ∈ news, u.oneCell' = true)
    (h63 : n + m ≤ maxLen) (hbytes : (n + m) * bytes ≤ 140737488355328) (hbase : base ≤ w.heap.size) :
    ∃ v' w', (Builtin.append_ #[t, t] ty #[v, .slice (some a) m c]).run P w = .ok v' w' ∧ w'.ownsRow base e size v' (n + m) (xs ++ news) ∧ w.grownBy w' v.ownBlock ∧ (v'.ownBlock = v.ownBlock ∨ v'.ownBlock = some w.heap.size) := by
  obtain ⟨v', w', hr, h2, h3, h4⟩ := run_append_own (P := P) w base t ty e i z size bytes ht hi hz hsize hby hzs hsz v n xs hown a m c news hl hnews h1 h63 hbytes hbase
  refine ⟨v', w', hr, h2, h3, ?_⟩
  subst hsize hby
  have hsmall : n + m ≤ 9223372036854775807 := by simp only [maxLen] at h63; omega
  rcases hown.2 with ⟨rfl, rfl⟩ | ⟨g, cap, cur, rfl, hbg, hg, hnc, hcm, hcs, htake⟩
  · by_cases hm : m = 0
    · rw [h4.2 ⟨rfl, hm⟩]; exact .inl rfl
    · have hr' := run_append_nil (P := P) w t ty e i z ht hi hz a m c news hl hnews (by omega) (by omega) (by have hb := hbytes; simp only [Nat.zero_add] at hb; omega)
      have e := hr.symm.trans hr'
      injection e with e1 _
      rw [e1]; exact .inr rfl
  · by_cases hroom : n + m ≤ cap
    · have hfit : n * i.size + news.length ≤ cur.size := by rw [hl, hcs, ← Nat.add_mul]; exact Nat.mul_le_mul_right _ hroom
      have hr' := run_append_room (P := P) w t ty e i ht hi g n cap cur hg a m c news hl hnews h1 hroom hfit
      have e := hr.symm.trans hr'
      injection e with e1 _
      rw [e1]; exact .inl rfl
    · have hr' := run_append_grow (P := P) w t ty e i z ht hi hz ⟨g, 0, none⟩ n cap xs hown.1 (hown.cells (g := g) rfl) a m c news hl hnews (by omega) (by omega) (growslice_fits (by omega) hbytes)
      have e := hr.symm.trans hr'
      injection e with e1 _
      rw [e1]; exact .inr rfl
theorem wpList_append_wh {P : Program} {w : World} {ops : Array Oper} {rest : List Oper} {o : Oper} {a : Act} {Q : Exit → Act → World → Prop} (hgd : o.guard = none) (s x : Operand) (t : TypeId)
    (ho : o.op = .call { callee := .builtin .append, args := #[s, x], argTypes := #[t, t] })
    (base : Nat) (e : TypeId) (i : TypeInfo) (z : Value) (size bytes : Nat) (ht : P.underlying t = some (.slice e)) (hi : P.info? e = some i) (hz : i.zero = some z)
    (hsize : i.size = size) (hby : i.bytes = bytes) (hzs : z.cells.size = size) (hsz : 0 < size)
    (v : Value) (n : Nat) (xs : List Value) (hs : a.eval s = v) (hown : w.ownsRow base e size v n xs)
    (ad : Addr) (m c : Nat) (news : List Value) (hx : a.eval x = .slice (some ad) m c) (hl : news.length = m * size) (hnews : ∀ j u, news[j]? = some u → w.cell? (ad.add j) = some u) (h1 : ∀ u ∈ news, u.oneCell' = true)
    (h63 : n + m ≤ maxLen) (hbytes : (n + m) * bytes ≤ 140737488355328) (hbase : base ≤ w.heap.size)
    (h : ∀ v' w', w'.ownsRow base e size v' (n + m) (xs ++ news) → w.grownBy w' v.ownBlock → (v'.ownBlock = v.ownBlock ∨ v'.ownBlock = some w.heap.size) → wpList P ops Q rest (a.put o.dst v') w') : wpList P ops Q (o :: rest) a w := by
  obtain ⟨v', w', hr, h3, h4, h5⟩ := append_wh (P := P) base t o.type e i z size bytes ht hi hz hsize hby hzs hsz v n xs hown ad m c news hl hnews h1 h63 hbytes hbase
  refine wpList_plain hgd fun K hK => ?_
  unfold Oper.wp execOp
  simp only [ho, resolve, invoke, builtin, Sem.run_bind, Sem.run_pure, Result.andThen_ok, List.map_toArray, List.map_cons, List.map_nil, hs, hx, hr]
  exact hK _ _ (h v' w' h3 h4 h5)
theorem infoAct : (Tryd.prog.info? 56).map (fun i => (i.zero, i.size, i.bytes)) = some (some (.agg #[.int .i64 0, .int .i64 0]), 2, 16) := by kernel_rfl
theorem infoActs : (Tryd.prog.info? 44).map (fun i => (i.zero, i.size, i.bytes)) = some (some (.slice none 0 0), 1, 24) := by kernel_rfl
/-- The cells of some acts. -/
def cellsA (l : List (Int × Int)) : List Value := l.flatMap (fun a => [Value.int .i64 a.1, Value.int .i64 a.2])
theorem cellsA_at : ∀ {l : List (Int × Int)} {i : Nat} {x : Int × Int}, l[i]? = some x → (cellsA l)[i * 2]? = some (.int .i64 x.1) ∧ (cellsA l)[i * 2 + 1]? = some (.int .i64 x.2)
  | [], i, x, h => by simp at h
  | y :: t, 0, x, h => by
    have : y = x := by simpa using h
    subst this; exact ⟨rfl, rfl⟩
  | y :: t, i + 1, x, h => by
    have := cellsA_at (l := t) (i := i) (x := x) (by simpa using h)
    have e : cellsA (y :: t) = Value.int .i64 y.1 :: Value.int .i64 y.2 :: cellsA t := rfl
    rw [e, show (i + 1) * 2 = i * 2 + 1 + 1 by omega]
    exact this
theorem cellsA_snoc (l : List (Int × Int)) (x : Int × Int) : cellsA (l ++ [x]) = cellsA l ++ [.int .i64 x.1, .int .i64 x.2] := by simp [cellsA]
/-- A list of acts of the call's own, that grows. -/
def OwnA (w : World) (base : Nat) (v : Value) (l : List (Int × Int)) : Prop := w.ownsRow base 56 2 v l.length (cellsA l)
theorem OwnA.nil (w : World) (base : Nat) : OwnA w base (.slice none 0 0) [] := World.ownsRow_nil _ _ _ _
theorem OwnA.alloc {w : World} {base : Nat} {v : Value} {l : List (Int × Int)} (h : OwnA w base v l) (o : Obj) : OwnA (w.alloc o) base v l := World.ownsRow.alloc h o
theorem OwnA.isActs {w : World} {base : Nat} {v : Value} {l : List (Int × Int)} (h : OwnA w base v l) : IsActs w v l := by
  have hc := fun g e => World.ownsRow.cells h (g := g) e
  obtain ⟨h1, h2⟩ := h
  rcases h2 with ⟨rfl, e⟩ | ⟨g, cap, cur, rfl, _, _, h3, h4, _, _⟩
  · obtain rfl : l = [] := List.eq_nil_of_length_eq_zero e
    exact IsActs.nil w
  · refine ⟨some ⟨g, 0, none⟩, cap, rfl, h3, h4, .inr ⟨g, 0, rfl, fun i x hx => ?_⟩⟩
    obtain ⟨q1, q2⟩ := cellsA_at hx
    have c1 := hc g rfl _ _ q1
    have c2 := hc g rfl _ _ q2
    rw [Addr.add_lit] at c1 c2
    exact ⟨c1, by rw [Nat.add_assoc]; exact c2⟩
theorem OwnA.shape {w : World} {base : Nat} {v : Value} {l : List (Int × Int)} (h : OwnA w base v l) : ∃ a k, v = .slice a l.length k := h.isActs.shape
theorem OwnA.room {w w0 w' : World} {base : Nat} {v : Value} {l : List (Int × Int)} (h : OwnA w base v l) (hg : w.grownBy w' v.ownBlock) (hb : Below w0.heap.size w0 w) (hle : w0.heap.size ≤ base) : Below w0.heap.size w0 w' :=
  hb.grown hg hb.size (fun k hk => Nat.le_trans hle (World.ownsRow.lt h k hk).1)
/-- One act more. -/
theorem app_act {w : World} {ops : Array Oper} {rest : List Oper} {o : Oper} {a : Act} {Q : Exit → Act → World → Prop} (hgd : o.guard = none) (s x : Operand)
    (ho : o.op = .call { callee := .builtin .append, args := #[s, x], argTypes := #[44, 44] }) (base : Nat) (v : Value) (l : List (Int × Int)) (kd mi : Int) (hs : a.eval s = v) (hown : OwnA (w.alloc (.cells #[.int .i64 kd, .int .i64 mi] 56)) base v l) (hx : a.eval x = .slice (some ⟨w.heap.size, 0, none⟩) 1 1)
    (hsm : l.length ≤ 1000) (hbase : base ≤ w.heap.size)
    (h : ∀ v' w', OwnA w' base v' (l ++ [(kd, mi)]) → (∀ w0 : World, Below w0.heap.size w0 (w.alloc (.cells #[.int .i64 kd, .int .i64 mi] 56)) → w0.heap.size ≤ base → Below w0.heap.size w0 w') → wpList Tryd.prog ops Q rest (a.put o.dst v') w') : wpList Tryd.prog ops Q (o :: rest) a (w.alloc (.cells #[.int .i64 kd, .int .i64 mi] 56)) := by
  obtain ⟨e0, ei, hz0, hz1, hz2⟩ := info_parts infoAct
  refine wpList_append_own _ hgd s x 44 ho base 56 e0 (.agg #[.int .i64 0, .int .i64 0]) 2 16 Tryd.underlying44 ei hz0 hz1 hz2 rfl (by decide) v _ _ hs hown ⟨w.heap.size, 0, none⟩ 1 1 [.int .i64 kd, .int .i64 mi] hx rfl ?_ ?_ (by unfold maxLen; omega) (by omega) (by rw [World.size_alloc]; omega) ?_
  · intro j u hj
    match j, hj with
    | 0, hj => simp at hj; subst hj; simp [Addr.add]
    | 1, hj => simp at hj; subst hj; simp [Addr.add]
  · intro u hu; simp at hu; rcases hu with rfl | rfl <;> rfl
  · intro v' w' ho' hg _
    refine h v' w' ?_ (fun w0 hb hle => hown.room hg hb hle)
    unfold OwnA
    rw [List.length_append, cellsA_snoc]
    exact ho'
end Go.Proofs.YtgdggaieekakhagDoor
