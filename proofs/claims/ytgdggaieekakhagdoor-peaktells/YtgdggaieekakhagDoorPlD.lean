/- Plans that grow by append; waves and turns as plain data. -/
import Derived.Test.YtgdggaieekakhagDoorPlC
namespace Go.Proofs.YtgdggaieekakhagDoor
open Go.RowKit
/-- What is read of some acts lies in no block of B's. -/
def OffB (s : Value) (l : List (Int × Int)) (B : Option Nat) : Prop := l = [] ∨ ∀ a n k, s = .slice (some a) n k → some a.block ≠ B
theorem IsActs.grown {w w' : World} {s : Value} {l : List (Int × Int)} {B : Option Nat} (h : IsActs w s l) (ho : OffB s l B) (hg : w.grownBy w' B) : IsActs w' s l := by
  obtain ⟨a, cap, h1, h2, h3, h4⟩ := h
  refine ⟨a, cap, h1, h2, h3, ?_⟩
  rcases h4 with h4 | ⟨b, off, ha, hc⟩
  · exact .inl h4
  · rcases ho with ho | ho
    · exact .inl ho
    · subst ha
      have hne := ho ⟨b, off, none⟩ _ _ h1
      exact .inr ⟨b, off, rfl, fun i x hx => ⟨hg.cell (hc i x hx).1 hne, hg.cell (hc i x hx).2 hne⟩⟩
theorem IsActs.lt {w : World} {a : Addr} {n k : Nat} {l : List (Int × Int)} (h : IsActs w (.slice (some a) n k) l) : l = [] ∨ a.block < w.heap.size := by
  obtain ⟨a', cap, h1, h2, h3, h4⟩ := h
  rcases h4 with h4 | ⟨b, off, ha, hc⟩
  · exact .inl h4
  · have h1 := (Value.slice.inj h1).1
    rw [ha] at h1
    have h1 := Option.some.inj h1
    subst h1
    cases l with
    | nil => exact .inl rfl
    | cons x t => exact .inr (World.block_lt_of_cell? w _ (hc 0 x rfl).1)
/-- A plan of the call's own, that grows. -/
def OwnP (w : World) (base : Nat) (v : Value) (p : List (List (Int × Int))) : Prop := ∃ xs, w.ownsRow base 44 1 v p.length xs ∧ ∀ (i : Nat) (l : List (Int × Int)), p[i]? = some l → ∃ s, xs[i]? = some s ∧ IsActs w s l ∧ OffB s l v.ownBlock
theorem OwnP.nil (w : World) (base : Nat) : OwnP w base (.slice none 0 0) [] := ⟨[], World.ownsRow_nil _ _ _ _, fun i l h => by simp at h⟩
theorem OwnP.below {w w' : World} {base : Nat} {v : Value} {p : List (List (Int × Int))} (h : OwnP w base v p) (hb : Below w.heap.size w w') : OwnP w' base v p := by
  obtain ⟨xs, h1, h2⟩ := h
  refine ⟨xs, World.ownsRow.kept (row := none) h1 ⟨hb.os, hb.tape, hb.output, hb.size, fun k hk _ => hb.block k hk⟩ ?_, fun i l hl => ?_⟩
  · cases e : v.ownBlock with
    | none => exact .inl rfl
    | some k => exact .inr (by simp)
  · obtain ⟨s, q1, q2, q3⟩ := h2 i l hl
    exact ⟨s, q1, q2.below hb, q3⟩
theorem OwnP.isPlan {w : World} {base : Nat} {v : Value} {p : List (List (Int × Int))} (h : OwnP w base v p) : IsPlan w v p := by
  obtain ⟨xs, h1, h2⟩ := h
  have hc := fun g e => World.ownsRow.cells h1 (g := g) e
  obtain ⟨q1, q2⟩ := h1
  rcases q2 with ⟨rfl, e⟩ | ⟨g, cap, cur, rfl, _, _, h3, h4, _, _⟩
  · obtain rfl : p = [] := List.eq_nil_of_length_eq_zero e
    exact IsPlan.nil w
  · refine ⟨some ⟨g, 0, none⟩, cap, rfl, h3, h4, .inr ⟨g, 0, rfl, fun i l hl => ?_⟩⟩
    obtain ⟨s, a1, a2, _⟩ := h2 i l hl
    have := hc g rfl i s a1
    rw [Addr.add_lit] at this
    exact ⟨s, this, a2⟩
theorem OwnP.shape {w : World} {base : Nat} {v : Value} {p : List (List (Int × Int))} (h : OwnP w base v p) : ∃ a k, v = .slice a p.length k := h.isPlan.shape
theorem OwnP.lt {w : World} {base : Nat} {v : Value} {p : List (List (Int × Int))} (h : OwnP w base v p) : ∀ k, v.ownBlock = some k → base ≤ k ∧ k < w.heap.size := by obtain ⟨xs, h1, _⟩ := h; exact World.ownsRow.lt h1
theorem OwnA.off {w : World} {base : Nat} {s : Value} {l : List (Int × Int)} (h : OwnA w base s l) {B : Option Nat} (hB : ∀ k, B = some k → k < base) : OffB s l B := by
  right
  intro a n k e hb
  have := (World.ownsRow.lt h a.block (by rw [e]; rfl)).1
  have := hB a.block hb.symm
  omega
/-- One stage more. -/
theorem app_plan {w : World} {ops : Array Oper} {rest : List Oper} {o : Oper} {a : Act} {Q : Exit → Act → World → Prop} (hgd : o.guard = none) (s x : Operand)
    (ho : o.op = .call { callee := .builtin .append, args := #[s, x], argTypes := #[22, 22] }) (base : Nat) (v u : Value) (p : List (List (Int × Int))) (l : List (Int × Int)) (hs : a.eval s = v) (hown : OwnP w base v p) (hu : IsActs w u l) (hof : OffB u l v.ownBlock) (hx : a.eval x = .slice (some ⟨w.heap.size, 0, none⟩) 1 1)
    (hsm : p.length ≤ 1000) (hbase : base ≤ w.heap.size)
    (h : ∀ v' w', OwnP w' base v' (p ++ [l]) → (∀ w0 : World, Below w0.heap.size w0 (w.alloc (.cells #[u] 44)) → w0.heap.size ≤ base → Below w0.heap.size w0 w') → wpList Tryd.prog ops Q rest (a.put o.dst v') w') : wpList Tryd.prog ops Q (o :: rest) a (w.alloc (.cells #[u] 44)) := by
  obtain ⟨e0, ei, hz0, hz1, hz2⟩ := info_parts infoActs
  have hal := hown.below (below_one w (.cells #[u] 44))
  have hlt := hown.lt
  obtain ⟨xs, q1, q2⟩ := hal
  refine wpList_append_wh hgd s x 22 ho base 44 e0 (.slice none 0 0) 1 24 Tryd.underlying22 ei hz0 hz1 hz2 rfl (by decide) v _ _ hs q1 ⟨w.heap.size, 0, none⟩ 1 1 [u] hx rfl ?_ ?_ (by unfold maxLen; omega) (by omega) (by rw [World.size_alloc]; omega) ?_
  · intro j z hj
    match j, hj with
    | 0, hj => simp at hj; subst hj; simp [Addr.add]
  · intro z hz
    simp at hz; subst hz
    obtain ⟨ua, uc, rfl⟩ := hu.shape
    rfl
  · intro v' w' ho' hg hwh
    have hu' := hu.below (below_one w (.cells #[u] 44))
    have key : ∀ (z : Value) (m : List (Int × Int)), IsActs (w.alloc (.cells #[u] 44)) z m → OffB z m v.ownBlock → IsActs w' z m ∧ OffB z m v'.ownBlock := fun z m hz hf => by
      refine ⟨hz.grown hf hg, ?_⟩
      rcases hf with hf | hf
      · exact .inl hf
      · rcases hwh with e | e
        · rw [e]; exact .inr hf
        · by_cases hm : m = []
          · exact .inl hm
          · right
            intro b n k eq hb
            rw [e] at hb
            have hb := Option.some.inj hb
            subst eq
            rcases hz.lt with q | q
            · exact hm q
            · omega
    refine h v' w' ⟨xs ++ [u], by rw [List.length_append]; exact ho', fun i m hm => ?_⟩ (fun w0 hb hle => hb.grown hg hb.size (fun k hk => Nat.le_trans hle (World.ownsRow.lt q1 k hk).1))
    have hxl : xs.length = p.length := by have := q1.1; omega
    rcases Nat.lt_or_ge i p.length with hi | hi
    · rw [List.getElem?_append_left hi] at hm
      obtain ⟨z, a1, a2, a3⟩ := q2 i m hm
      obtain ⟨b1, b2⟩ := key z m a2 a3
      exact ⟨z, by rw [List.getElem?_append_left (by omega)]; exact a1, b1, b2⟩
    · rw [List.getElem?_append_right hi] at hm
      have h0 : i - p.length = 0 := by
        rcases Nat.eq_zero_or_pos (i - p.length) with h | h
        · exact h
        · rw [List.getElem?_eq_none (by simp; omega)] at hm; cases hm
      rw [h0] at hm
      obtain rfl : l = m := by simpa using hm
      obtain ⟨b1, b2⟩ := key u l hu' hof
      exact ⟨u, by rw [List.getElem?_append_right (by omega), show i - xs.length = 0 by omega]; rfl, b1, b2⟩
/-- Waves and turns. -/
def fwdL (n : Nat) : List (Int × Int) := (List.range n).map (fun (i : Nat) => ((1 : Int), (i : Int)))
theorem fwdL_succ (n : Nat) : fwdL (n + 1) = fwdL n ++ [(1, (n : Int))] := by simp [fwdL, List.range_succ]
theorem fwdL_len (n : Nat) : (fwdL n).length = n := by simp [fwdL]
def turnL (first M : Nat) : Nat → List (Int × Int)
  | 0 => []
  | i + 1 => turnL first M i ++ (if first + i < M then [((1 : Int), ((first + i : Nat) : Int))] else []) ++ [(2, (i : Int))]
theorem turnL_len (first M : Nat) : ∀ i, (turnL first M i).length ≤ 2 * i
  | 0 => by simp [turnL]
  | i + 1 => by
    have := turnL_len first M i
    unfold turnL
    split <;> simp <;> omega
def firstN (S M : Nat) (wave : Bool) (s : Nat) : Nat := if wave = true ∨ M < S - 1 - s then M else S - 1 - s
def stageX (S M : Nat) (wave : Bool) (s : Nat) : List (Int × Int) := fwdL (firstN S M wave s) ++ turnL (firstN S M wave s) M M
def planX (S M : Nat) (wave : Bool) : List (List (Int × Int)) := (List.range S).map (stageX S M wave)
def planN (S M : Nat) (wave : Bool) (k : Nat) : List (List (Int × Int)) := (List.range k).map (stageX S M wave)
theorem planN_succ (S M : Nat) (wave : Bool) (k : Nat) : planN S M wave (k + 1) = planN S M wave k ++ [stageX S M wave k] := by simp [planN, List.range_succ]
theorem planN_len (S M : Nat) (wave : Bool) (k : Nat) : (planN S M wave k).length = k := by simp [planN]
def makeE (S M : Int) : Int := if S < 1 ∨ 6 < S ∨ M < 1 ∨ 12 < M then 1 else 0
def makeX (S M : Int) (wave : Bool) : List (List (Int × Int)) := if S < 1 ∨ 6 < S ∨ M < 1 ∨ 12 < M then [] else planX S.toNat M.toNat wave
end Go.Proofs.YtgdggaieekakhagDoor
