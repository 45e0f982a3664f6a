/- Nets as plain data: how wide, what stands behind each layer, Grads together; facts on lists of them. No program in sight. -/
import Derived.Test.YtjmmplpecmnlnaeLists
import Derived.Test.YtjmmplpecmnlnaeLBox
namespace Go.Proofs.Ytjmmplpecmnlnae
open Go.RowKit
/-- What is wrong with a net, and how wide it is. -/
def netE : List Ly → Int → Int
  | [], n => if n < 0 ∨ 12 < n then 1 else 0
  | l :: ls, n => if wideE l n ≠ 0 then wideE l n else netE ls (givesL l n)
def netW : List Ly → Int → Int
  | [], n => n
  | l :: ls, n => netW ls (givesL l n)
def nwE (ls : List Ly) (n : Int) : Int := if 12 < ls.length then 3 else netE ls n
def nwX (ls : List Ly) (n : Int) : Int := if nwE ls n = 0 then netW ls n else 0
theorem drop_at {α : Type} {xs : List α} {i : Nat} {x : α} (h : xs[i]? = some x) : xs.drop i = x :: xs.drop (i + 1) := by
  obtain ⟨hi, rfl⟩ := List.getElem?_eq_some_iff.1 h
  exact List.drop_eq_getElem_cons hi
theorem infoMx : (Try.prog.info? 28).map (fun i => (i.zero, i.size, i.bytes)) = some (some (.agg #[.int .i64 0, .int .i64 0, .slice none 0 0]), 3, 40) := by kernel_rfl
/-- What is wrong on the way, and what stands behind each layer. -/
def runE : List Ly → Mx → Int
  | [], _ => 0
  | l :: ls, x => if goE l x ≠ 0 then goE l x else runE ls (goX l x)
def runT : List Ly → Mx → List Mx
  | [], _ => []
  | l :: ls, x => goX l x :: runT ls (goX l x)
def ngE (ls : List Ly) (x : Mx) : Int := if 12 < ls.length then 3 else if fault x ≠ 0 then fault x else runE ls x
def ngX (ls : List Ly) (x : Mx) : List Mx := if ngE ls x = 0 then x :: runT ls x else []
theorem isMxs_nil (w : World) : IsMxs w (.slice none 0 0) [] := ⟨none, 0, rfl, Nat.le_refl _, Nat.zero_le _, .inl rfl⟩
theorem enc_mx {w : World} {G : Nat → Prop} {m : Mx} {s : Value} (h : PartAt w G (.inr m.cells) s) : Enc w G (mxS m) [.int .i64 m.rows, .int .i64 m.cols, s] := .cons rfl (.cons rfl (.cons h (.nil _ _)))
/-- What a call makes anew lies in no older block. -/
theorem part_fresh {w : World} {n : Nat} {r c s : Value} {zs : List Int} (h : IsInts w s zs) (hf : Fresh n (.agg #[r, c, s])) {G : Nat → Prop} (hG : ∀ b, G b → b < n) : PartAt w G (.inr zs) s := by
  refine ⟨h, ?_⟩
  by_cases h0 : zs = []
  · exact .inl h0
  · obtain ⟨a, cap, rfl, _, _, h4⟩ := h
    obtain ⟨b, off, rfl, _⟩ := h4.resolve_left h0
    refine .inr fun k hk hg => ?_
    have hlt := hG k hg
    obtain rfl : b = k := by simpa [Value.ownBlock] using hk
    rcases hf r c ⟨b, off, none⟩ zs.length cap rfl with h1 | h1
    · exact absurd (List.eq_nil_of_length_eq_zero h1) h0
    · have : n ≤ b := h1
      omega
/-- What stood there ahead of a call lies in no box that the call makes. -/
theorem part_old {w w' : World} {s : Value} {zs : List Int} (h : IsInts w s zs) (hb : Below w.heap.size w w') {G : Nat → Prop} (hG : ∀ b, G b → w.heap.size ≤ b) : PartAt w' G (.inr zs) s := by
  refine ⟨h.below hb, ?_⟩
  by_cases h0 : zs = []
  · exact .inl h0
  · obtain ⟨b, hb', hlt⟩ := h.lt h0
    refine .inr fun k hk hg => ?_
    rw [hb'] at hk
    obtain rfl := Option.some.inj hk
    have := hG b hg
    omega
theorem three_set {w : World} {B : Nat} {a0 a1 a2 : Value} (h : Box w B [a0, a1, a2]) (x y z : Value) : Box (((w.setCell ⟨B, 0, none⟩ x).setCell ⟨B, 1, none⟩ y).setCell ⟨B, 2, none⟩ z) B [x, y, z] := by
  have o : ∀ (u : World) (i j : Nat) (v : Value), i ≠ j → (u.setCell ⟨B, i, none⟩ v).cell? ⟨B, j, none⟩ = u.cell? ⟨B, j, none⟩ := fun u i j v hij => cell_at_other u B i j v hij
  intro j v hv
  match j, hv with
  | 0, hv => simp at hv; subst hv; rw [o _ 2 0 _ (by decide), o _ 1 0 _ (by decide)]; exact World.cell?_setCell_same _ _ _ (h 0 _ rfl)
  | 1, hv => simp at hv; subst hv; rw [o _ 2 1 _ (by decide)]; exact World.cell?_setCell_same _ _ _ ((o _ 0 1 _ (by decide)).trans (h 1 _ rfl))
  | 2, hv => simp at hv; subst hv; exact World.cell?_setCell_same _ _ _ ((o _ 1 2 _ (by decide)).trans ((o _ 0 2 _ (by decide)).trans (h 2 _ rfl)))
theorem infoGd : (Try.prog.info? 32).map (fun i => (i.zero, i.size, i.bytes)) = some (some (.agg #[.int .i64 0, .int .i64 0, .slice none 0 0, .int .i64 0, .int .i64 0, .slice none 0 0]), 6, 80) := by kernel_rfl
/-- What is wrong with two Grads; what they come to together. -/
def gat1E (p q : Mx × Mx) : Int := if addE p.1 q.1 ≠ 0 then addE p.1 q.1 else addE p.2 q.2
def gat1X (p q : Mx × Mx) : Mx × Mx := (addX p.1 q.1, addX p.2 q.2)
def gatE : List (Mx × Mx) → List (Mx × Mx) → Int
  | p :: ps, q :: qs => if gat1E p q ≠ 0 then gat1E p q else gatE ps qs
  | _, _ => 0
def gatX : List (Mx × Mx) → List (Mx × Mx) → List (Mx × Mx)
  | p :: ps, q :: qs => gat1X p q :: gatX ps qs
  | _, _ => []
def gaE (ps qs : List (Mx × Mx)) : Int := if ps.length ≠ qs.length then 2 else gatE ps qs
def gaX (ps qs : List (Mx × Mx)) : List (Mx × Mx) := if gaE ps qs = 0 then gatX ps qs else []
theorem isGds_nil (w : World) : IsGds w (.slice none 0 0) [] := ⟨none, 0, rfl, Nat.le_refl _, Nat.zero_le _, .inl rfl⟩
theorem enc_gd {w : World} {G : Nat → Prop} {d : Mx × Mx} {s t : Value} (h : PartAt w G (.inr d.1.cells) s) (h' : PartAt w G (.inr d.2.cells) t) : Enc w G (gdS d) [.int .i64 d.1.rows, .int .i64 d.1.cols, s, .int .i64 d.2.rows, .int .i64 d.2.cols, t] := .cons rfl (.cons rfl (.cons h (.cons rfl (.cons rfl (.cons h' (.nil _ _))))))
/-- Noughts for a matrix, and for each layer. -/
def zeroM (m : Mx) : Mx := ⟨m.rows, m.cols, tab m.cells.length (fun _ => 0)⟩
def zeroD (ls : List Ly) : List (Mx × Mx) := ls.map fun l => (zeroM l.w, zeroM l.b)
end Go.Proofs.Ytjmmplpecmnlnae
