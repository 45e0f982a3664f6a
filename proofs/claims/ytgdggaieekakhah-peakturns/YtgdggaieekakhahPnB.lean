/- What build, Wave and Turns of package plan come to; the last stage of what is built lies in memory of its own. -/
import Derived.Test.YtgdggaieekakhahPnT
import Derived.Shelf.Abstract
namespace Go.Proofs.Ytgdggaieekakhah
open Go.RowKit
/-- A plan whose last stage lies in a block of its own. -/
def LastP (lo : Nat) (w : World) (v : Value) (p : List (List (Int × Int))) : Prop := ∃ (b cap g lc base : Nat) (l : List (Int × Int)), v = .slice (some ⟨b, 0, none⟩) p.length cap ∧ p.length ≤ cap ∧ cap ≤ maxLen ∧ p[p.length - 1]? = some l ∧ w.cell? ⟨b, p.length - 1, none⟩ = some (.slice (some ⟨g, 0, none⟩) l.length lc) ∧ b ≠ g ∧ lo ≤ g ∧ OwnA w base (.slice (some ⟨g, 0, none⟩) l.length lc) l ∧
  ∀ (i : Nat) (l' : List (Int × Int)), i + 1 < p.length → p[i]? = some l' → ∃ s, w.cell? ⟨b, i, none⟩ = some s ∧ IsActs w s l' ∧ OffB s l' (some g)
theorem LastP.mono {lo lo' : Nat} {w : World} {v : Value} {p : List (List (Int × Int))} (h : LastP lo' w v p) (hl : lo ≤ lo') : LastP lo w v p := by
  obtain ⟨b, cap, g, lc, base, l, h1, h2, h3, h4, h5, h6, h7, h8⟩ := h
  exact ⟨b, cap, g, lc, base, l, h1, h2, h3, h4, h5, h6, Nat.le_trans hl h7, h8⟩
theorem OwnA.form {w : World} {base : Nat} {v : Value} {l : List (Int × Int)} (h : OwnA w base v l) (hl : l ≠ []) : ∃ g lc, v = .slice (some ⟨g, 0, none⟩) l.length lc ∧ base ≤ g ∧ g < w.heap.size := by
  have hlt := World.ownsRow.lt h
  obtain ⟨h1, h2⟩ := h
  rcases h2 with ⟨rfl, e⟩ | ⟨g, cap, cur, rfl, _⟩
  · exact absurd (List.eq_nil_of_length_eq_zero e) hl
  · exact ⟨g, cap, rfl, hlt g rfl⟩
theorem OwnA.grown {w w' : World} {base : Nat} {v : Value} {l : List (Int × Int)} {B : Option Nat} (h : OwnA w base v l) (hg : w.grownBy w' B) (hne : ∀ k, B = some k → k < base) : OwnA w' base v l := by
  refine World.ownsRow.kept (row := B) h hg ?_
  cases e : v.ownBlock with
  | none => exact .inl rfl
  | some k =>
    right
    intro q
    have := hne k q.symm
    have := (World.ownsRow.lt h k e).1
    omega
/-- One stage more, in a block of its own. -/
theorem app_last {w w0 : World} {ops : Array Oper} {rest : List Oper} {o : Oper} {a : Act} {Q : Exit → Act → World → Prop} (hgd : o.guard = none) (s x : Operand)
    (ho : o.op = .call { callee := .builtin .append, args := #[s, x], argTypes := #[23, 23] }) (base : Nat) (v u : Value) (p : List (List (Int × Int))) (l : List (Int × Int)) (hs : a.eval s = v) (hown : OwnP w0 base v p) (h0 : Below w0.heap.size w0 w) (hu : OwnA w w0.heap.size u l) (hl : l ≠ []) (hx : a.eval x = .slice (some ⟨w.heap.size, 0, none⟩) 1 1)
    (hsm : p.length ≤ 1000) (hbase : base ≤ w0.heap.size)
    (h : ∀ v' w', OwnP w' base v' (p ++ [l]) → LastP base w' v' (p ++ [l]) → (∀ w1 : World, Below w1.heap.size w1 (w.alloc (.cells #[u] 32)) → w1.heap.size ≤ base → Below w1.heap.size w1 w') → wpList Try.prog ops Q rest (a.put o.dst v') w') : wpList Try.prog ops Q (o :: rest) a (w.alloc (.cells #[u] 32)) := by
  obtain ⟨e0, ei, hz0, hz1, hz2⟩ := info_parts infoActs
  have h1 := below_go h0 (below_one w (.cells #[u] 32))
  have hlt := hown.lt
  have hof : OffB u l v.ownBlock := hu.off (fun k hk => (hlt k hk).2)
  have hal := hown.below h1
  have hcell0 : ∀ (i : Nat) (l' : List (Int × Int)) (z : Value), IsActs w0 z l' → OffB z l' u.ownBlock := fun i l' z hz => by
    by_cases hm : l' = []
    · exact .inl hm
    · right
      intro b n k eq hb
      subst eq
      have := (World.ownsRow.lt hu b.block hb.symm).1
      rcases hz.lt with q | q
      · exact hm q
      · omega
  obtain ⟨xs0, p1, p2⟩ := hown
  have q1 : World.ownsRow (w.alloc (.cells #[u] 32)) base 32 1 v p.length xs0 := World.ownsRow.kept (row := none) p1 ⟨h1.os, h1.tape, h1.output, h1.size, fun k hk _ => h1.block k hk⟩ (by
    cases e : v.ownBlock with
    | none => exact .inl rfl
    | some k => exact .inr (by simp))
  obtain ⟨g, lc, hue, hg1, hg2⟩ := hu.form hl
  refine wpList_append_wh hgd s x 23 ho base 32 e0 (.slice none 0 0) 1 24 Try.underlying23 ei hz0 hz1 hz2 rfl (by decide) v _ _ hs q1 ⟨w.heap.size, 0, none⟩ 1 1 [u] hx rfl ?_ ?_ (by unfold maxLen; omega) (by omega) (by rw [World.size_alloc]; have := h0.size; omega) ?_
  · intro j z hj
    match j, hj with
    | 0, hj => simp at hj; subst hj; simp [Addr.add]
  · intro z hz
    simp at hz; subst hz
    rw [hue]
    rfl
  · intro v' w' ho' hg hwh
    have hu' := hu.isActs.below (below_one w (.cells #[u] 32))
    have key : ∀ (z : Value) (m : List (Int × Int)), IsActs (w.alloc (.cells #[u] 32)) z m → OffB z m v.ownBlock → IsActs w' z m ∧ OffB z m v'.ownBlock := fun z m hz hf => by
      refine ⟨hz.grown hf hg, ?_⟩
      rcases hf with hf | hf
      · exact .inl hf
      · rcases hwh with e | e
        · rw [e]; exact .inr hf
        · by_cases hm : m = []
          · exact .inl hm
          · right
            intro b n k eq hb
            rw [e] at hb
            have hb := Option.some.inj hb
            subst eq
            rcases hz.lt with q | q
            · exact hm q
            · omega
    have hxl : xs0.length = p.length := by have := p1.1; omega
    have hP : OwnP w' base v' (p ++ [l]) := by
      refine ⟨xs0 ++ [u], by rw [List.length_append]; exact ho', fun i m hm => ?_⟩
      rcases Nat.lt_or_ge i p.length with hi | hi
      · rw [List.getElem?_append_left hi] at hm
        obtain ⟨z, a1, a2, a3⟩ := p2 i m hm
        obtain ⟨b1, b2⟩ := key z m (a2.below h1) a3
        exact ⟨z, by rw [List.getElem?_append_left (by omega)]; exact a1, b1, b2⟩
      · rw [List.getElem?_append_right hi] at hm
        have h0 : i - p.length = 0 := by
          rcases Nat.eq_zero_or_pos (i - p.length) with h | h
          · exact h
          · rw [List.getElem?_eq_none (by simp; omega)] at hm; cases hm
        rw [h0] at hm
        obtain rfl : l = m := by simpa using hm
        obtain ⟨b1, b2⟩ := key u l hu' hof
        exact ⟨u, by rw [List.getElem?_append_right (by omega), show i - xs0.length = 0 by omega]; rfl, b1, b2⟩
    refine h v' w' hP ?_ (fun w1 hb hle => hb.grown hg hb.size (fun k hk => Nat.le_trans hle (World.ownsRow.lt q1 k hk).1))
    have hc := fun g e => World.ownsRow.cells ho' (g := g) e
    have hlen1 : (p ++ [l]).length - 1 = p.length := by simp
    have hu2 : OwnA w' w0.heap.size u l := (hu.alloc _).grown hg (fun k hk => (hlt k hk).2)
    obtain ⟨r1, r2⟩ := ho'
    rcases r2 with ⟨rfl, e⟩ | ⟨b, cap, cur, hv', _, _, r3, r4, _, _⟩
    · omega
    · refine ⟨b, cap, g, lc, w0.heap.size, l, by rw [hv', List.length_append]; rfl, by rw [List.length_append]; exact r3, r4, by rw [hlen1]; simp, ?_, ?_, Nat.le_trans hbase hg1, by rw [← hue]; exact hu2, ?_⟩
      · have := hc b (by rw [hv']; rfl) p.length u (by rw [List.getElem?_append_right (by omega), hxl]; simp)
        rw [Addr.add_lit] at this
        rw [hlen1, ← hue]
        simpa using this
      · intro e
        subst e
        rcases hwh with q | q
        · have := (hlt b (by rw [← q, hv']; rfl)).2
          omega
        · rw [hv'] at q
          have q : b = (w.alloc (.cells #[u] 32)).heap.size := Option.some.inj q
          rw [World.size_alloc] at q
          omega
      · intro i l' hi hl'
        rw [List.length_append] at hi
        have hi' : i < p.length := by simp at hi; omega
        rw [List.getElem?_append_left hi'] at hl'
        obtain ⟨z, a1, a2, a3⟩ := p2 i l' hl'
        obtain ⟨b1, _⟩ := key z l' (a2.below h1) a3
        have := hc b (by rw [hv']; rfl) i z (by rw [List.getElem?_append_left (by omega)]; exact a1)
        rw [Addr.add_lit] at this
        refine ⟨z, by simpa using this, b1, ?_⟩
        have := hcell0 i l' z a2
        rw [hue] at this
        exact this
end Go.Proofs.Ytgdggaieekakhah
