/- What holds between two calls of the law MailPlays: the box, and the law's own list. -/
import Derived.Test.YtgedldbkghkahahDoorMbF
import Derived.Test.YtgedldbkghkahahDoorOpenOp
import Derived.Test.YtgedldbkghkahahDoorWrR5
namespace Go.Proofs.YtgedldbkghkahahDoor
open Go.RowKit
theorem cel_b {w w' : World} (hb : Below w.heap.size w w') {p : Addr} {v : Value} (h : w.cell? p = some v) : w'.cell? p = some v := (hb.cell (p := p) (World.block_lt_of_cell? w _ h)).trans h
def fl5 (q : (Int × Int × Mx) × Value) : List Value := [.int .i64 q.1.1, .int .i64 q.1.2.1, .int .i64 q.1.2.2.rows, .int .i64 q.1.2.2.cols, q.2]
def flQ (qs : List ((Int × Int × Mx) × Value)) : List Value := qs.flatMap fl5
def msQ (qs : List ((Int × Int × Mx) × Value)) : List (Int × Int × Mx) := qs.map (fun q => q.1)
theorem flQ_snoc (qs : List ((Int × Int × Mx) × Value)) (q : (Int × Int × Mx) × Value) : flQ (qs ++ [q]) = flQ qs ++ fl5 q := by simp [flQ]
theorem msQ_snoc (qs : List ((Int × Int × Mx) × Value)) (q : (Int × Int × Mx) × Value) : msQ (qs ++ [q]) = msQ qs ++ [q.1] := by simp [msQ]
theorem msQ_len (qs : List ((Int × Int × Mx) × Value)) : (msQ qs).length = qs.length := by simp [msQ]
theorem flQ_len (qs : List ((Int × Int × Mx) × Value)) : (flQ qs).length = qs.length * 5 := by
  induction qs with
  | nil => rfl
  | cons q t ih => simp only [flQ, List.flatMap_cons, List.length_append, List.length_cons] at ih ⊢; rw [ih]; simp [fl5]; omega
/-- Messages as they came in. -/
def QOk (w : World) (qs : List ((Int × Int × Mx) × Value)) : Prop := ∀ q ∈ qs, IsInts w q.2 q.1.2.2.cells
def MInv (w wr : World) (B C n : Nat) (cl : Bool) (lv : Value) (qs : List ((Int × Int × Mx) × Value)) : Prop :=
  ∃ P g, BoxIs wr P B C n cl (msQ qs) ∧ LIs wr lv g (flQ qs) qs.length ∧ (∀ b, P b → w.heap.size ≤ b) ∧ (g < wr.heap.size → ¬ P g ∧ w.heap.size ≤ g) ∧ Below w.heap.size w wr ∧ QOk w qs
theorem MInv.below {w wr W : World} {B C n : Nat} {cl : Bool} {lv : Value} {qs : List ((Int × Int × Mx) × Value)} (h : MInv w wr B C n cl lv qs) (hb : Below wr.heap.size wr W) : MInv w W B C n cl lv qs := by
  obtain ⟨P, g, h1, h2, h3, h4, h5, h6⟩ := h
  have hk : Kept (fun _ => False) wr W := Kept.of hb
  obtain ⟨a, k, e1, e2, e3, e4, e5⟩ := id h2
  rcases e5 with ⟨rfl, e6, rfl⟩ | ⟨off, ha, hth, hr, hg⟩
  · refine ⟨P, W.heap.size, h1.keep hk (fun _ _ e => e), ⟨none, 0, e1, e2, e3, e4, .inl ⟨rfl, e6, rfl⟩⟩, h3, fun e => absurd e (Nat.lt_irrefl _), bel_on h5 hb, h6⟩
  · exact ⟨P, g, h1.keep hk (fun _ _ e => e), h2.keep hk (fun _ e => e), h3, fun _ => h4 hg, bel_on h5 hb, h6⟩
theorem MInv.le {w wr : World} {B C n : Nat} {cl : Bool} {lv : Value} {qs : List ((Int × Int × Mx) × Value)} (h : MInv w wr B C n cl lv qs) : qs.length ≤ n := by
  obtain ⟨P, g, h1, _⟩ := h
  have := h1.le
  rw [msQ_len] at this
  exact this
theorem MInv.shape {w wr : World} {B C n : Nat} {cl : Bool} {lv : Value} {qs : List ((Int × Int × Mx) × Value)} (h : MInv w wr B C n cl lv qs) : ∃ a k, lv = .slice a qs.length k := by
  obtain ⟨P, g, _, h2, _⟩ := h
  exact h2.shape
theorem MInv.bel {w wr : World} {B C n : Nat} {cl : Bool} {lv : Value} {qs : List ((Int × Int × Mx) × Value)} (h : MInv w wr B C n cl lv qs) : Below w.heap.size w wr := by
  obtain ⟨P, g, _, _, _, _, h5, _⟩ := h
  exact h5
/-- Nothing but the box's own blocks turns. -/
theorem MInv.turn {w wr W : World} {B C n : Nat} {cl cl' : Bool} {lv : Value} {qs : List ((Int × Int × Mx) × Value)} {P P' : Nat → Prop} {g : Nat} {ms : List (Int × Int × Mx)} (hb : BoxIs wr P B C n cl ms) (hl : LIs wr lv g (flQ qs) qs.length) (h3 : ∀ b, P b → w.heap.size ≤ b) (h4 : g < wr.heap.size → ¬ P g ∧ w.heap.size ≤ g) (h5 : Below w.heap.size w wr) (h6 : QOk w qs)
    (hb' : BoxIs W P' B C n cl' (msQ qs)) (hp : ∀ b, P' b → P b ∨ wr.heap.size ≤ b) (hk : Kept (fun b => b = B ∨ b = C) wr W) : MInv w W B C n cl' lv qs := by
  obtain ⟨a, k, e1, e2, e3, e4, e5⟩ := id hl
  have hb5 : Below w.heap.size w W := Kept.below h5 hk h5.size (fun k e => by
    rcases e with e | e
    · rw [e]; exact h3 _ hb.pB
    · rw [e]; exact h3 _ hb.pC)
  have hp3 : ∀ b, P' b → w.heap.size ≤ b := fun b e => by
    rcases hp b e with q | q
    · exact h3 b q
    · exact Nat.le_trans h5.size q
  rcases e5 with ⟨rfl, e6, rfl⟩ | ⟨off, ha, hth, hr, hg⟩
  · exact ⟨P', W.heap.size, hb', ⟨none, 0, e1, e2, e3, e4, .inl ⟨rfl, e6, rfl⟩⟩, hp3, fun e => absurd e (Nat.lt_irrefl _), hb5, h6⟩
  · refine ⟨P', g, hb', hl.keep hk (fun _ e => ?_), hp3, fun _ => ⟨fun e => ?_, (h4 hg).2⟩, hb5, h6⟩
    · rcases e with e | e
      · exact (h4 hg).1 (by rw [e]; exact hb.pB)
      · exact (h4 hg).1 (by rw [e]; exact hb.pC)
    · rcases hp g e with q | q
      · exact (h4 hg).1 q
      · omega
theorem OwnZ.nilM {w : World} {base : Nat} {v : Value} {zs : List Int} (h : OwnZ w base v zs) : NilOk v := by
  intro n k e
  rcases h.2 with ⟨rfl, _⟩ | ⟨g, cap, cur, rfl, _⟩
  · injection e with _ e2 e3; exact ⟨e2.symm, e3.symm⟩
  · injection e with e1; cases e1
theorem elemMs : Tryd.prog.underlying 50 = some (.slice (Tryd.prog.elem 50)) := by kernel_rfl
theorem sizeMs (w : World) : (Go.sizeOf (Tryd.prog.elem 50)).run Tryd.prog w = .ok 5 w := by kernel_rfl
/-- A list without its first message. -/
theorem LIs.cut {w : World} {a : Option Addr} {g n cap : Nat} {fl : List Value} (h : LIs w (.slice a (n + 1) cap) g fl (n + 1)) :
    ∃ a' c', (∀ W, (Instr.slice 50 (.slice a (n + 1) cap) (some (.int .i64 1)) none none).run Tryd.prog W = .ok (.slice a' n c') W) ∧ LIs w (.slice a' n c') g (fl.drop 5) n := by
  obtain ⟨a0, cap0, e, h2, h3, h4, h5⟩ := h
  injection e with e1 e2 e3
  subst e1 e3
  rcases h5 with ⟨_, h, _⟩ | ⟨off, rfl, hth, hr, hg⟩
  · omega
  refine ⟨if cap = 1 then some ⟨g, off, none⟩ else some ⟨g, off + 5, none⟩, cap - 1, fun W => ?_, ?_⟩
  · rw [run_slice_l (P := Tryd.prog) (w := W) 50 (some ⟨g, off, none⟩) (n + 1) cap elemMs .i64 1 (by omega) (by omega), sizeMs]
    show Result.ok (sliced (some ⟨g, off, none⟩) 1 (n + 1) cap 5) W = _
    unfold sliced
    by_cases c : cap = 1
    · rw [if_pos c]
      simp [c]
    · rw [if_neg c]
      simp [c, Addr.add_lit]
  · refine ⟨_, cap - 1, rfl, by omega, by omega, by rw [List.length_drop, h4]; omega, .inr ?_⟩
    by_cases c : cap = 1
    · refine ⟨off, by rw [if_pos c], fun j hj => by omega, fun j u hu => ?_, hg⟩
      have : fl.drop 5 = [] := List.drop_eq_nil_of_le (by omega)
      rw [this] at hu
      cases hu
    · refine ⟨off + 5, by rw [if_neg c], fun j hj => ?_, fun j u hu => ?_, hg⟩
      · have := hth (5 + j) (by omega)
        rw [Nat.add_assoc]
        exact this
      · rw [List.getElem?_drop] at hu
        rw [Nat.add_assoc]
        exact hr (5 + j) u hu
/-- The first message of a list. -/
theorem LIs.first {w : World} {v : Value} {g n : Nat} {q : (Int × Int × Mx) × Value} {qs : List ((Int × Int × Mx) × Value)} (h : LIs w v g (flQ (q :: qs)) n) (hn : n = (q :: qs).length) : ∃ off cap, v = .slice (some ⟨g, off, none⟩) n cap ∧ n ≤ cap ∧ g < w.heap.size ∧ w.cell? ⟨g, off, none⟩ = some (.int .i64 q.1.1) ∧ w.cell? ⟨g, off + 1, none⟩ = some (.int .i64 q.1.2.1) ∧ w.cell? ⟨g, off + 2, none⟩ = some (.int .i64 q.1.2.2.rows) ∧ w.cell? ⟨g, off + 3, none⟩ = some (.int .i64 q.1.2.2.cols) ∧ w.cell? ⟨g, off + 4, none⟩ = some q.2 := by
  obtain ⟨a0, cap0, e, h2, h3, h4, h5⟩ := h
  rcases h5 with ⟨_, h, _⟩ | ⟨off, rfl, hth, hr, hg⟩
  · rw [hn] at h; cases h
  · exact ⟨off, cap0, e, h2, hg, hr 0 _ rfl, hr 1 _ rfl, hr 2 _ rfl, hr 3 _ rfl, hr 4 _ rfl⟩
theorem flQ_drop (q : (Int × Int × Mx) × Value) (qs : List ((Int × Int × Mx) × Value)) : (flQ (q :: qs)).drop 5 = flQ qs := by simp [flQ, fl5]
/-- A list's block, or one that is not there yet. -/
theorem LIs.norm {w : World} {v : Value} {g n : Nat} {fl : List Value} (h : LIs w v g fl n) : ∃ g', LIs w v g' fl n ∧ ((g' = g ∧ g < w.heap.size) ∨ g' = w.heap.size) := by
  obtain ⟨a, cap, h1, h2, h3, h4, h5⟩ := id h
  rcases h5 with ⟨q1, q2, q3⟩ | ⟨off, q1, q2, q3, q4⟩
  · exact ⟨w.heap.size, ⟨a, cap, h1, h2, h3, h4, .inl ⟨q1, q2, q3⟩⟩, .inr rfl⟩
  · exact ⟨g, h, .inl ⟨rfl, q4⟩⟩
/-- The list behind a Put. -/
def putQ (cl : Bool) (n : Nat) (qs : List ((Int × Int × Mx) × Value)) (q : (Int × Int × Mx) × Value) : List ((Int × Int × Mx) × Value) := if putE cl n (msQ qs) = 0 then qs ++ [q] else qs
theorem putQ_ms (cl : Bool) (n : Nat) (qs : List ((Int × Int × Mx) × Value)) (q : (Int × Int × Mx) × Value) : msQ (putQ cl n qs q) = putX cl n (msQ qs) q.1 := by
  unfold putQ putX
  split
  · exact msQ_snoc qs q
  · rfl
theorem OwnZ.row {w : World} {base : Nat} {v : Value} {zs : List Int} (h : OwnZ w base v zs) : zs = [] ∨ ∃ g k, v = .slice (some ⟨g, 0, none⟩) zs.length k ∧ base ≤ g ∧ g < w.heap.size ∧ w.there g 0 zs.length := by
  have hl := fun k hk => World.ownsRow.lt h k hk
  rcases h.2 with ⟨_, e⟩ | ⟨g, cap, cur, rfl, hb, hg, hn, hc, hs, _⟩
  · exact .inl (List.eq_nil_of_length_eq_zero e)
  · exact .inr ⟨g, cap, rfl, hb, (hl g rfl).2, there_new hg (by rw [hs]; omega)⟩
/-- A list is carried on: its block, or one that is not there yet. -/
theorem LIs.carry {X : Nat → Prop} {w u : World} {v : Value} {g n : Nat} {fl : List Value} (h : LIs w v g fl n) (hk : Kept X w u) (hx : g < w.heap.size → ¬ X g) : ∃ g', LIs u v g' fl n ∧ ((g' = g ∧ g < w.heap.size) ∨ g' = u.heap.size) := by
  obtain ⟨a, cap, h1, h2, h3, h4, h5⟩ := id h
  rcases h5 with ⟨q1, q2, q3⟩ | ⟨off, q1, q2, q3, q4⟩
  · exact ⟨u.heap.size, ⟨a, cap, h1, h2, h3, h4, .inl ⟨q1, q2, q3⟩⟩, .inr rfl⟩
  · exact ⟨g, h.keep hk hx, .inl ⟨rfl, q4⟩⟩
end Go.Proofs.YtgedldbkghkahahDoor
