/- Two lists of ints that grow side by side. -/
import Derived.Test.YtcpgomjaegickagOwZ
import Derived.Test.YtcpgomjaegickagPlC
namespace Go.Proofs.Ytcpgomjaegickag
open Go.RowKit
def TwoZ (w : World) (base : Nat) (v : Value) (l : List Int) (u : Value) (k : List Int) : Prop := OwnZ w base v l ∧ OwnZ w base u k ∧ (v.ownBlock = none ∨ v.ownBlock ≠ u.ownBlock)
theorem TwoZ.symm {w : World} {base : Nat} {v u : Value} {l k : List Int} (h : TwoZ w base v l u k) : TwoZ w base u k v l := by
  refine ⟨h.2.1, h.1, ?_⟩
  rcases h.2.2 with q | q
  · rw [q]
    cases e : u.ownBlock with
    | none => exact .inl rfl
    | some k => exact .inr (by simp)
  · exact .inr (fun e => q e.symm)
theorem TwoZ.nil (w : World) (base : Nat) : TwoZ w base (.slice none 0 0) [] (.slice none 0 0) [] := ⟨OwnZ.nil _ _, OwnZ.nil _ _, .inl rfl⟩
/-- One int more in the first. -/
theorem app_two {w : World} {ops : Array Oper} {rest : List Oper} {o : Oper} {a : Act} {Q : Exit → Act → World → Prop} (hgd : o.guard = none) (s x : Operand)
    (ho : o.op = .call { callee := .builtin .append, args := #[s, x], argTypes := #[37, 37] }) (base : Nat) (v u : Value) (l k : List Int) (z : Int) (hs : a.eval s = v) (hown : TwoZ w base v l u k) (hx : a.eval x = .slice (some ⟨w.heap.size, 0, none⟩) 1 1)
    (hsm : l.length ≤ 1000) (hbase : base ≤ w.heap.size)
    (h : ∀ v' w', TwoZ w' base v' (l ++ [z]) u k → (∀ w0 : World, Below w0.heap.size w0 w → w0.heap.size ≤ base → Below w0.heap.size w0 w') → wpList Try.prog ops Q rest (a.put o.dst v') w') : wpList Try.prog ops Q (o :: rest) a (w.alloc (.cells #[.int .i64 z] 3)) := by
  obtain ⟨e0, ei, hz0, hz1, hz2⟩ := info_parts infoInt
  have hb1 := below_one w (.cells #[.int .i64 z] 3)
  have h1 := hown.1.alloc (.cells #[.int .i64 z] 3)
  have h2 := hown.2.1.alloc (.cells #[.int .i64 z] 3)
  refine wpList_append_wh hgd s x 37 ho base 3 e0 (.int .i64 0) 1 8 Try.underlying37 ei hz0 hz1 hz2 rfl (by decide) v _ _ hs h1 ⟨w.heap.size, 0, none⟩ 1 1 [.int .i64 z] hx rfl (one_cells _ _) (one_one _) (by unfold maxLen; omega) (by omega) (by rw [World.size_alloc]; omega) ?_
  intro v' w' ho' hg hwh
  refine h v' w' ⟨OwnZ.step ho', World.ownsRow.kept (row := v.ownBlock) h2 hg hown.symm.2.2, ?_⟩ (fun w0 hb hle => (below_go hb hb1).grown hg (Nat.le_trans hb.size hb1.size) (fun k hk => Nat.le_trans hle (World.ownsRow.lt h1 k hk).1))
  rcases hwh with q | q
  · rw [q]; exact hown.2.2
  · right
    rw [q]
    intro c
    have := (World.ownsRow.lt h2 _ c.symm).2
    omega
end Go.Proofs.Ytcpgomjaegickag
