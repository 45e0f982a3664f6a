/- A list of one's own, grown by another list, whatever that is: as a law for the walk; a list without its first. No program in sight. -/
import Derived.Test.YtbkkhdekjgabfadNetP
import Derived.Laws.OwnMore
namespace Go.Proofs.Ytbkkhdekjgabfad
open Go.RowKit
theorem addr_adds (b off j : Nat) : (⟨b, off, none⟩ : Addr).add j = ⟨b, off + j, none⟩ := by unfold Addr.add; split <;> simp_all
section
variable {P : Program} {w : World}
theorem run_append_none0 (base : Nat) (t ty e : TypeId) (i : TypeInfo) (size : Nat) (ht : P.underlying t = some (.slice e)) (hi : P.info? e = some i)
    (v : Value) (n : Nat) (xs : List Value) (hown : w.ownsRow base e size v n xs) (c : Nat) : (Builtin.append_ #[t, t] ty #[v, .slice none 0 c]).run P w = .ok v w := by
  rcases hown.2 with ⟨rfl, rfl⟩ | ⟨g, cap, cur, rfl, _, _, hnc, _⟩
  · simp [Builtin.append_, run_underlying ht, sizeOf, typeInfo, hi, Builtin.lenOf, Builtin.firstCells]
  · simp [Builtin.append_, run_underlying ht, sizeOf, typeInfo, hi, Builtin.lenOf, Builtin.firstCells, hnc, storeCells]
/-- The cells of a list that is read, as a list. -/
theorem reads_cells {w0 : World} {b off : Nat} {sn : List (Int ⊕ List Int)} (h : ∀ (j : Nat) p, sn[j]? = some p → ∃ u, w0.cell? ⟨b, off + j, none⟩ = some u ∧ PartAt w0 (fun _ => False) p u) :
    ∃ news : List Value, news.length = sn.length ∧ ∀ (j : Nat) p, sn[j]? = some p → ∃ u, news[j]? = some u ∧ w0.cell? ⟨b, off + j, none⟩ = some u ∧ PartAt w0 (fun _ => False) p u := by
  refine ⟨(List.range sn.length).map (fun j => (w0.cell? ⟨b, off + j, none⟩).getD .nilIface), by simp, fun j p hp => ?_⟩
  obtain ⟨u, hu, hp'⟩ := h j p hp
  have hj : j < sn.length := by
    rcases Nat.lt_or_ge j sn.length with h | h
    · exact h
    · rw [List.getElem?_eq_none h] at hp; cases hp
  exact ⟨u, by simp [hj, hu], hu, hp'⟩
theorem part_back {w0 w' : World} {p : Int ⊕ List Int} {u : Value} (h : PartAt w0 (fun _ => False) p u) (hb : Below w0.heap.size w0 w') {G : Nat → Prop} (hG : ∀ b, G b → w0.heap.size ≤ b) : PartAt w' G p u := by
  cases p with
  | inl x => exact h
  | inr zs => exact part_old h.1 hb hG
theorem wpList_append_list {ops : Array Oper} {rest : List Oper} {o : Oper} {a : Act} {Q : Exit → Act → World → Prop} (hgd : o.guard = none) (s x : Operand) (t : TypeId)
    (ho : o.op = .call { callee := .builtin .append, args := #[s, x], argTypes := #[t, t] })
    (base : Nat) (e : TypeId) (i : TypeInfo) (z : Value) (size bytes : Nat) (ht : P.underlying t = some (.slice e)) (hi : P.info? e = some i) (hz : i.zero = some z)
    (hsize : i.size = size) (hby : i.bytes = bytes) (hzs : z.cells.size = size) (hsz : 0 < size)
    (v : Value) (n : Nat) (sp : List (Int ⊕ List Int)) (hs : a.eval s = v) (hown : Owns base base w e size v n sp)
    (xv : Value) (m : Nat) (sn : List (Int ⊕ List Int)) (hx : a.eval x = xv) (w0 : World) (hr : Reads w0 xv m sn) (hl : sn.length = m * size) (hb : Below w0.heap.size w0 w) (h0 : w0.heap.size ≤ base)
    (h63 : n + m ≤ maxLen) (hbytes : (n + m) * bytes ≤ 140737488355328) (hbase : base ≤ w.heap.size)
    (h : ∀ v' w', Owns base base w' e size v' (n + m) (sp ++ sn) → Below base w w' → wpList P ops Q rest (a.put o.dst v') w') : wpList P ops Q (o :: rest) a w := by
  obtain ⟨ad, cap, rfl, _, _, h4⟩ := hr
  have hlt : ∀ b, v.ownBlock = some b → base ≤ b := fun b hb => (hown.lt b hb).1
  have hgr : ∀ w', w.grownBy w' v.ownBlock → Below base w w' := fun w' hg => (Below.refl base w).grown hg hbase (fun k e => hlt k e)
  match ad with
  | none =>
    have hm : m = 0 := h4.resolve_right (fun ⟨_, _, e, _⟩ => by cases e)
    subst hm
    obtain rfl : sn = [] := List.eq_nil_of_length_eq_zero (by simpa using hl)
    obtain ⟨cs, h1, h2⟩ := id hown
    refine wpList_plain hgd fun K hK => ?_
    have hrun := run_append_none0 (P := P) (w := w) base t o.type e i size ht hi v n cs h1 cap
    unfold Oper.wp
    simp [execOp, ho, resolve, invoke, builtin, hs, hx, hrun, Result.andThen]
    exact hK _ _ (h v w (by rw [List.append_nil]; exact hown) (Below.refl _ _))
  | some ad =>
    have hcells : ∃ news : List Value, news.length = sn.length ∧ (∀ j u, news[j]? = some u → w.cell? (ad.add j) = some u) ∧ Enc w (fun b => v.ownBlock = some b ∨ (base ≤ b ∧ b < base)) sn news := by
      rcases h4 with rfl | ⟨b, off, e', hc⟩
      · obtain rfl : sn = [] := List.eq_nil_of_length_eq_zero (by simpa using hl)
        exact ⟨[], rfl, fun j u hu => by simp at hu, Enc.nil _ _⟩
      · obtain rfl : ad = ⟨b, off, none⟩ := Option.some.inj e'
        obtain ⟨news, n1, n2⟩ := reads_cells hc
        refine ⟨news, n1, fun j u hu => ?_, n1, fun j p hp => ?_⟩
        · have hj : j < sn.length := by
            rcases Nat.lt_or_ge j news.length with h | h
            · omega
            · rw [List.getElem?_eq_none h] at hu; cases hu
          obtain ⟨u', hu', hc', _⟩ := n2 j _ (List.getElem?_eq_getElem hj)
          rw [hu] at hu'
          obtain rfl := Option.some.inj hu'
          rw [addr_adds]; exact cell_below hb hc'
        · obtain ⟨u, hu, _, hp'⟩ := n2 j p hp
          exact ⟨u, hu, part_back hp' hb (fun k hk => by
            rcases hk with hk | hk
            · have := hlt k hk; omega
            · omega)⟩
    obtain ⟨news, n1, n2, n3⟩ := hcells
    exact wpList_append_owns hgd s x t ho base e i z size bytes ht hi hz hsize hby hzs hsz base v n sp hs hown ad m cap news hx (by rw [n1, hl]) n2 sn n3 h63 hbytes hbase (fun v' w' hO hg _ => h v' w' hO (hgr w' hg))
end
/-- A list without its first. -/
theorem Reads.tail {w : World} {b off n cap : Nat} {α : Type} {f : α → List (Int ⊕ List Int)} {k : Nat} (hk : ∀ x, (f x).length = k) {y : α} {xs : List α} (h : Reads w (.slice (some ⟨b, off, none⟩) (n + 1) cap) (n + 1) ((y :: xs).flatMap f)) : Reads w (.slice (some ⟨b, off + k, none⟩) n (cap - 1)) n (xs.flatMap f) := by
  obtain ⟨a, c, e, h2, h3, h4⟩ := h
  injection e with e1 _ e3
  subst e1 e3
  refine ⟨_, _, rfl, by omega, by omega, .inr ⟨b, off + k, rfl, fun j p hp => ?_⟩⟩
  obtain ⟨b', off', e', hc⟩ := h4.resolve_left (by omega)
  have e2 := Option.some.inj e'
  injection e2 with e5 e6 _
  subst e5 e6
  obtain ⟨u, hu, hp'⟩ := hc (k + j) p (by rw [List.flatMap_cons, List.getElem?_append_right (by rw [hk]; omega), hk, Nat.add_sub_cancel_left]; exact hp)
  exact ⟨u, by rw [Nat.add_assoc]; exact hu, hp'⟩
end Go.Proofs.Ytbkkhdekjgabfad
