/- The memory of Back of package net while it goes back through a net. No program in sight, but for the numbers of types. -/
import Derived.Test.YtbkkhdekjgabfadNBackw
namespace Go.Proofs.Ytbkkhdekjgabfad
open Go.RowKit
/-- The boxes of Back. -/
def gBk (s b : Nat) : Prop := s ≤ b ∧ b < s + 8
structure NbSt (w W : World) (N : Nat) (vs : Value) (T : Mx) (ts : Value) (D : List (Mx × Mx)) (cs : List Value) : Prop where
  saw : Blk W w.heap.size #[vs] 33
  res : Blk W (w.heap.size + 1 + 1) #[.int .i64 0, .int .i64 0, .slice none 0 0] 24
  rgd : Blk W (w.heap.size + 1 + 1 + 1) #[.slice none 0 0] 39
  rer : Blk W (w.heap.size + 1 + 1 + 1 + 1) #[.nilIface] 26
  dat : Blk W (w.heap.size + 1 + 1 + 1 + 1 + 1) cs.toArray 57
  var : Blk W (w.heap.size + 1 + 1 + 1 + 1 + 1 + 1) #[.slice (some ⟨w.heap.size + 1 + 1 + 1 + 1 + 1, 0, none⟩) N N] 39
  cur : Blk W (w.heap.size + 1 + 1 + 1 + 1 + 1 + 1 + 1) #[.int .i64 T.rows, .int .i64 T.cols, ts] 24
  prt : PartAt W (gBk w.heap.size) (.inr T.cells) ts
  enc : Enc W (gBk w.heap.size) (D.flatMap gdS) cs
  len : D.length = N
  bel : Below w.heap.size w W
theorem PartAt.stays {w w' : World} {G : Nat → Prop} {p : Int ⊕ List Int} {u : Value} (h : PartAt w G p u) (hs : ∀ (q : Addr) x, w.cell? q = some x → w'.cell? q = some x) : PartAt w' G p u := by
  cases p with
  | inl i => exact h
  | inr zs => exact ⟨h.1.stay (fun p x _ hx => hs p x hx), h.2⟩
theorem NbSt.below {w W W' : World} {N : Nat} {vs : Value} {T : Mx} {ts : Value} {D : List (Mx × Mx)} {cs : List Value} (h : NbSt w W N vs T ts D cs) (hb : Below W.heap.size W W') : NbSt w W' N vs T ts D cs :=
  ⟨h.saw.below hb, h.res.below hb, h.rgd.below hb, h.rer.below hb, h.dat.below hb, h.var.below hb, h.cur.below hb, h.prt.below hb, h.enc.map (fun _ _ hp => hp.below hb), h.len, below_next h.bel hb⟩
/-- What a turn of a block that holds no cells leaves. -/
theorem NbSt.own {w W W' : World} {N : Nat} {vs : Value} {T : Mx} {ts : Value} {D : List (Mx × Mx)} {cs : List Value} {row : Option Nat} {B : Nat} (hB : w.heap.size ≤ B) (h : NbSt w W N vs T ts D cs) (hg : W.grownBy W' row) (hr : ∀ r, row = some r → B ≤ r ∧ ∃ o : Obj, W.heap[r]? = some o ∧ o.isCells = false) : NbSt w W' N vs T ts D cs := by
  have kb : ∀ {b : Nat} {c : Array Value} {t : TypeId}, Blk W b c t → Blk W' b c t := fun {b c t} hb => Blk.own (β := Unit) b c t () W W' row hb hg (fun r e => (hr r e).2)
  have kc : ∀ (q : Addr) x, W.cell? q = some x → W'.cell? q = some x := fun q x hx => cell_kept hx hg (fun r e => (hr r e).2)
  exact ⟨kb h.saw, kb h.res, kb h.rgd, kb h.rer, kb h.dat, kb h.var, kb h.cur, h.prt.stays kc, h.enc.map (fun _ _ hp => hp.stays kc), h.len, h.bel.grown hg h.bel.size (fun k e => Nat.le_trans hB (hr k e).1)⟩
/-- What goes on is written anew. -/
def put3 (W : World) (B : Nat) (x y z : Value) : World := ((W.setCell ⟨B, 0, none⟩ x).setCell ⟨B, 1, none⟩ y).setCell ⟨B, 2, none⟩ z
theorem NbSt.putTo {w W : World} {N : Nat} {vs : Value} {T T' : Mx} {ts ts' : Value} {D : List (Mx × Mx)} {cs : List Value} (h : NbSt w W N vs T ts D cs) (hp : PartAt W (gBk w.heap.size) (.inr T'.cells) ts') : NbSt w (put3 W (w.heap.size + 1 + 1 + 1 + 1 + 1 + 1 + 1) (.int .i64 T'.rows) (.int .i64 T'.cols) ts') N vs T' ts' D cs := by
  have o : ∀ {b : Nat} {c : Array Value} {t : TypeId}, Blk W b c t → b ≠ w.heap.size + 1 + 1 + 1 + 1 + 1 + 1 + 1 → Blk (put3 W (w.heap.size + 1 + 1 + 1 + 1 + 1 + 1 + 1) (.int .i64 T'.rows) (.int .i64 T'.cols) ts') b c t := fun hb hne => ((hb.other hne _).other hne _).other hne _
  have g7 : gBk w.heap.size (w.heap.size + 1 + 1 + 1 + 1 + 1 + 1 + 1) := ⟨by omega, by omega⟩
  refine ⟨o h.saw (by omega), o h.res (by omega), o h.rgd (by omega), o h.rer (by omega), o h.dat (by omega), o h.var (by omega), ?_, ((hp.set g7 0 _).set g7 1 _).set g7 2 _, h.enc.map (fun _ _ hq => ((hq.set g7 0 _).set g7 1 _).set g7 2 _), h.len, below_set3 h.bel (by omega) _ _ _⟩
  exact ((h.cur.set 0 _).set 1 _).set 2 _
/-- A Grad is written. -/
def put6 (W : World) (B q : Nat) (x y z x' y' z' : Value) : World := (((((W.setCell ⟨B, q, none⟩ x).setCell ⟨B, q + 1, none⟩ y).setCell ⟨B, q + 2, none⟩ z).setCell ⟨B, q + 3, none⟩ x').setCell ⟨B, q + 4, none⟩ y').setCell ⟨B, q + 5, none⟩ z'
theorem NbSt.putGd {w W : World} {N : Nat} {vs : Value} {T : Mx} {ts : Value} {D : List (Mx × Mx)} {cs : List Value} (h : NbSt w W N vs T ts D cs) {i : Nat} (hi : i < N) {d : Mx × Mx} {s1 s2 : Value} (h1 : PartAt W (gBk w.heap.size) (.inr d.1.cells) s1) (h2 : PartAt W (gBk w.heap.size) (.inr d.2.cells) s2) :
    NbSt w (put6 W (w.heap.size + 1 + 1 + 1 + 1 + 1) (i * 6) (.int .i64 d.1.rows) (.int .i64 d.1.cols) s1 (.int .i64 d.2.rows) (.int .i64 d.2.cols) s2) N vs T ts (D.set i d) (set6 cs (i * 6) (.int .i64 d.1.rows) (.int .i64 d.1.cols) s1 (.int .i64 d.2.rows) (.int .i64 d.2.cols) s2) := by
  have o : ∀ {b : Nat} {c : Array Value} {t : TypeId}, Blk W b c t → b ≠ w.heap.size + 1 + 1 + 1 + 1 + 1 → Blk (put6 W (w.heap.size + 1 + 1 + 1 + 1 + 1) (i * 6) (.int .i64 d.1.rows) (.int .i64 d.1.cols) s1 (.int .i64 d.2.rows) (.int .i64 d.2.cols) s2) b c t := fun hb hne => (((((hb.other hne _).other hne _).other hne _).other hne _).other hne _).other hne _
  have g5 : gBk w.heap.size (w.heap.size + 1 + 1 + 1 + 1 + 1) := ⟨by omega, by omega⟩
  have hp : ∀ {p : Int ⊕ List Int} {u : Value}, PartAt W (gBk w.heap.size) p u → PartAt (put6 W (w.heap.size + 1 + 1 + 1 + 1 + 1) (i * 6) (.int .i64 d.1.rows) (.int .i64 d.1.cols) s1 (.int .i64 d.2.rows) (.int .i64 d.2.cols) s2) (gBk w.heap.size) p u := fun hq => (((((hq.set g5 _ _).set g5 _ _).set g5 _ _).set g5 _ _).set g5 _ _).set g5 _ _
  refine ⟨o h.saw (by omega), o h.res (by omega), o h.rgd (by omega), o h.rer (by omega), ?_, o h.var (by omega), o h.cur (by omega), hp h.prt, enc_set6 (h.enc.map (fun _ _ hq => hp hq)) (by rw [h.len]; exact hi) (enc_gd (hp h1) (hp h2)), by rw [List.length_set]; exact h.len, ?_⟩
  · have := (((((h.dat.set (i * 6) (.int .i64 d.1.rows)).set (i * 6 + 1) (.int .i64 d.1.cols)).set (i * 6 + 2) s1).set (i * 6 + 3) (.int .i64 d.2.rows)).set (i * 6 + 4) (.int .i64 d.2.cols)).set (i * 6 + 5) s2
    simpa [set6, put6] using this
  · exact (((((h.bel.setCell (p := ⟨_, _, none⟩) (by simp; omega) _).setCell (p := ⟨_, _, none⟩) (by simp; omega) _).setCell (p := ⟨_, _, none⟩) (by simp; omega) _).setCell (p := ⟨_, _, none⟩) (by simp; omega) _).setCell (p := ⟨_, _, none⟩) (by simp; omega) _).setCell (p := ⟨_, _, none⟩) (by simp; omega) _
theorem PartAt.keep {w w' : World} {G P : Nat → Prop} {q : Int ⊕ List Int} {u : Value} (h : PartAt w G q u) (hk : Keep P w w') (hP : ∀ b, ¬ G b → P b) : PartAt w' G q u := by
  cases q with
  | inl i => exact h
  | inr zs =>
    rcases h.2 with h0 | h0
    · exact ⟨h.1.nilAny h0, .inl h0⟩
    · exact ⟨h.1.stay (fun p x hp hx => hk p x (hP _ (h0 _ hp)) hx), .inr h0⟩
theorem keep_put {p : Nat → Prop} {w u : World} {D : Nat} {o o' : Obj} (h : Keep p w u) (hK : u.heap[D]? = some o) (hc : o.isCells = false) : Keep p w (u.putObj D o') := fun a x ha hx => cell_kept (h a x ha hx) (grownBy_putObj' u D o') (fun r e => by cases e; exact ⟨_, hK, hc⟩)
/-- What is handed out at the end. -/
theorem NbSt.ends {w W W' : World} {N : Nat} {vs : Value} {T : Mx} {ts : Value} {D : List (Mx × Mx)} {cs : List Value} (h : NbSt w W N vs T ts D cs) (hN : N ≤ 12) (hk : Keep (fun b => b ≠ w.heap.size + 1 + 1 ∧ b ≠ w.heap.size + 1 + 1 + 1 ∧ b ≠ w.heap.size + 1 + 1 + 1 + 1) W W') : IsInts W' ts T.cells ∧ IsGds W' (.slice (some ⟨w.heap.size + 1 + 1 + 1 + 1 + 1, 0, none⟩) N N) D := by
  have hP : ∀ q, ¬ gBk w.heap.size q → (fun b => b ≠ w.heap.size + 1 + 1 ∧ b ≠ w.heap.size + 1 + 1 + 1 ∧ b ≠ w.heap.size + 1 + 1 + 1 + 1) q := fun q hq => by unfold gBk at hq; refine ⟨?_, ?_, ?_⟩ <;> omega
  refine ⟨(h.prt.keep hk hP).1, ?_⟩
  show Reads _ _ D.length _
  rw [h.len]
  refine ⟨_, _, rfl, Nat.le_refl _, by unfold maxLen; omega, .inr ⟨_, 0, rfl, fun j p hp => ?_⟩⟩
  obtain ⟨u, hu, hp'⟩ := h.enc.2 j p hp
  exact ⟨u, hk _ _ (show _ ∧ _ ∧ _ from ⟨(by dsimp only; omega), (by dsimp only; omega), (by dsimp only; omega)⟩) (h.dat.cell (j := 0 + j) (by simpa using hu)), (hp'.keep hk hP).mono (fun _ _ hf => hf.elim)⟩
end Go.Proofs.Ytbkkhdekjgabfad
