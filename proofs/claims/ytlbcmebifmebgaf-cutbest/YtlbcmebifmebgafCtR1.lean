/- What CostOf and dearest of the document's answer come to; a list of ints that grows by another. -/
import Derived.Test.YtlbcmebifmebgafCtC5
import Derived.Laws.AppendOwnNone
namespace Go.Proofs.Ytlbcmebifmebgaf
open Go.RowKit
/-- The greatest of some, from 0 on. -/
def topF (f : Nat → Int) : Nat → Int
  | 0 => 0
  | k + 1 => max (topF f k) (f k)
theorem topF_nonneg (f : Nat → Int) (k : Nat) : 0 ≤ topF f k := by
  induction k with
  | zero => exact Int.le_refl _
  | succ k ih => unfold topF; omega
theorem topF_congr {f g : Nat → Int} {k : Nat} (h : ∀ i, i < k → f i = g i) : topF f k = topF g k := by
  induction k with
  | zero => rfl
  | succ k ih => unfold topF; rw [ih (fun i hi => h i (by omega)), h k (by omega)]
theorem topF_le {f : Nat → Int} {k : Nat} {L : Int} (h0 : 0 ≤ L) (h : ∀ i, i < k → f i ≤ L) : topF f k ≤ L := by
  induction k with
  | zero => exact h0
  | succ k ih => unfold topF; have := ih (fun i hi => h i (by omega)); have := h k (by omega); omega
theorem topF_ge {f : Nat → Int} {k i : Nat} (h : i < k) : f i ≤ topF f k := by
  induction k with
  | zero => omega
  | succ k ih =>
    unfold topF
    rcases Nat.lt_or_ge i k with q | q
    · have := ih q; omega
    · obtain rfl : i = k := by omega
      omega
def atZ (zs : List Int) (i : Nat) : Int := (zs[i]?).getD 0
theorem atZ_at {zs : List Int} {i : Nat} {x : Int} (h : zs[i]? = some x) : atZ zs i = x := by unfold atZ; rw [h]; rfl
theorem topF_tab (n : Nat) (f : Nat → Int) : topF (atZ (tab n f)) n = topF f n := topF_congr (fun _ hi => atZ_at (tab_at hi))
theorem OwnZ.nilOk {w : World} {base : Nat} {v : Value} {zs : List Int} (h : OwnZ w base v zs) : NilOk v := by
  intro n k e
  obtain ⟨_, h2⟩ := h
  rcases h2 with ⟨rfl, _⟩ | ⟨g, cap, cur, rfl, _⟩
  · injection e with _ e2 e3; exact ⟨e2.symm, e3.symm⟩
  · injection e with e1; cases e1
theorem OwnZ.room {w w0 w' : World} {base : Nat} {v : Value} {zs : List Int} (h : OwnZ w base v zs) (hg : w.grownBy w' v.ownBlock) (hb : Below w0.heap.size w0 w) (hle : w0.heap.size ≤ base) : Below w0.heap.size w0 w' :=
  hb.grown hg hb.size (fun k hk => Nat.le_trans hle (World.ownsRow.lt h k hk).1)
/-- A list of one's own, and another one behind it. -/
theorem app_ints {w : World} {ops : Array Oper} {rest : List Oper} {o : Oper} {a : Act} {Q : Exit → Act → World → Prop} (hgd : o.guard = none) (s x : Operand)
    (ho : o.op = .call { callee := .builtin .append, args := #[s, x], argTypes := #[26, 26] }) (base : Nat) (v u : Value) (ys zs : List Int) (hs : a.eval s = v) (hown : OwnZ w base v ys) (hx : a.eval x = u) (hu : IsInts w u zs) (hn : NilOk u)
    (hsm : ys.length + zs.length ≤ 1000) (hbase : base ≤ w.heap.size)
    (h : ∀ v' w', OwnZ w' base v' (ys ++ zs) → (∀ w0 : World, Below w0.heap.size w0 w → w0.heap.size ≤ base → Below w0.heap.size w0 w') → wpList Try.prog ops Q rest (a.put o.dst v') w') : wpList Try.prog ops Q (o :: rest) a w := by
  obtain ⟨e0, ei, hz0, hz1, hz2⟩ := info_parts infoInt
  obtain ⟨ad, cap, rfl, h2, h3, h4⟩ := hu
  cases ad with
  | none =>
    obtain ⟨q1, q2⟩ := hn _ _ rfl
    obtain rfl : zs = [] := List.eq_nil_of_length_eq_zero q1
    subst q2
    refine wpList_append_own_none hgd s x 26 ho base 3 e0 1 Try.underlying26 ei v _ _ hs hown hx ?_
    refine h v w (by rw [List.append_nil]; exact hown) (fun w0 hb _ => hb)
  | some ad =>
    refine wpList_append_own w hgd s x 26 ho base 3 e0 (.int .i64 0) 1 8 Try.underlying26 ei hz0 hz1 hz2 rfl (by decide) v _ _ hs hown ad zs.length cap (zs.map (Value.int .i64)) hx (by simp) ?_ ?_ (by unfold maxLen; omega) (by omega) hbase ?_
    · intro j u' hj
      rcases h4 with rfl | ⟨b, off, e, hc⟩
      · simp at hj
      · obtain rfl := Option.some.inj e
        rw [List.getElem?_map] at hj
        cases hz : zs[j]? with
        | none => rw [hz] at hj; cases hj
        | some y =>
          rw [hz] at hj
          obtain rfl : u' = .int .i64 y := (Option.some.inj hj).symm
          rw [Addr.add_lit]
          exact hc j y hz
    · intro u' hu'
      obtain ⟨y, _, rfl⟩ := List.mem_map.1 hu'
      rfl
    · intro v' w' ho' hg _
      refine h v' w' ?_ (fun w0 hb hle => hown.room hg hb hle)
      unfold OwnZ
      rw [List.length_append, List.map_append]
      exact ho'
theorem ints_one (w : World) (x : Int) : IsInts (w.alloc (.cells #[.int .i64 x] 3)) (.slice (some ⟨w.heap.size, 0, none⟩) 1 1) [x] :=
  ⟨_, _, rfl, Nat.le_refl _, by unfold maxLen; omega, .inr ⟨_, 0, rfl, fun i y hy => by
    match i, hy with
    | 0, hy => simp at hy; subst hy; simp⟩⟩
theorem nil_some (ad : Addr) (n k : Nat) : NilOk (.slice (some ad) n k) := fun _ _ e => by injection e with e1; cases e1
end Go.Proofs.Ytlbcmebifmebgaf
