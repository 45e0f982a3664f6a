/- A table of times in memory: a list of lists of spans, each in a block of its own, that is written into. -/
import Derived.Test.YtcpgomjaegickagDoorClB
import Derived.Test.YtcpgomjaegickagDoorRBlank
import Derived.Test.YtcpgomjaegickagDoorPlC
namespace Go.Proofs.YtcpgomjaegickagDoor
open Go.RowKit
def flatS (l : List (Int × Int)) : List Int := l.flatMap (fun x => [x.1, x.2])
theorem flatS_len (l : List (Int × Int)) : (flatS l).length = l.length * 2 := by
  induction l with
  | nil => rfl
  | cons x l ih => simp [flatS] at ih ⊢; omega
theorem flatS_at : ∀ {l : List (Int × Int)} {i : Nat} {x : Int × Int}, l[i]? = some x → (flatS l)[i * 2]? = some x.1 ∧ (flatS l)[i * 2 + 1]? = some x.2
  | [], i, x, h => by simp at h
  | y :: t, 0, x, h => by
    have : y = x := by simpa using h
    subst this; exact ⟨rfl, rfl⟩
  | y :: t, i + 1, x, h => by
    have := flatS_at (l := t) (i := i) (x := x) (by simpa using h)
    have e : flatS (y :: t) = y.1 :: y.2 :: flatS t := rfl
    rw [e, show (i + 1) * 2 = i * 2 + 1 + 1 by omega]
    exact this
theorem flatS_set : ∀ {l : List (Int × Int)} {i : Nat} (x : Int × Int), ((flatS l).set (i * 2) x.1).set (i * 2 + 1) x.2 = flatS (l.set i x)
  | [], i, x => by simp [flatS]
  | y :: t, 0, x => rfl
  | y :: t, i + 1, x => by
    have := flatS_set (l := t) (i := i) x
    have e : flatS (y :: t) = y.1 :: y.2 :: flatS t := rfl
    rw [e, show (i + 1) * 2 = i * 2 + 1 + 1 by omega]
    show y.1 :: y.2 :: ((flatS t).set (i * 2) x.1).set (i * 2 + 1) x.2 = flatS (y :: t.set i x)
    rw [this]; rfl
theorem infoSpan : (Tryd.prog.info? 36).map (fun i => (i.zero, i.size, i.bytes)) = some (some (.agg #[.int .i64 0, .int .i64 0]), 2, 16) := by kernel_rfl
theorem infoSpans : (Tryd.prog.info? 34).map (fun i => (i.zero, i.size, i.bytes)) = some (some (.slice none 0 0), 1, 24) := by kernel_rfl
def noS (n : Nat) : List (Int × Int) := List.replicate n (0, 0)
theorem made_no (n : Nat) : madeCells (Value.agg #[.int .i64 0, .int .i64 0]).cells (n * 2) = ((flatS (noS n)).map (Value.int .i64)).toArray := by
  have h1 : flatS (noS n) = List.replicate (n * 2) 0 := by
    induction n with
    | zero => rfl
    | succ n ih =>
      show (0 : Int) :: 0 :: flatS (noS n) = _
      rw [ih, show (n + 1) * 2 = n * 2 + 1 + 1 by omega]
      rfl
  rw [h1, List.map_replicate]
  apply Array.ext'
  show (madeCells _ _).toList = List.replicate (n * 2) (Value.int .i64 0)
  refine List.eq_replicate_iff.2 ⟨by rw [Array.length_toList, size_madeCells], fun x hx => ?_⟩
  unfold madeCells at hx
  rw [Array.toList_map, List.mem_map] at hx
  obtain ⟨i, _, rfl⟩ := hx
  have : i % 2 = 0 ∨ i % 2 = 1 := by omega
  show (#[Value.int .i64 0, Value.int .i64 0][i % 2]!) = _
  rcases this with e | e <;> rw [e] <;> rfl
theorem run_mks (L : Int) (n : Nat) (hL : L = (n : Int)) (hn : n ≤ 1000) (W : World) : (Instr.makeSlice 34 (.int .i64 L) (.int .i64 L)).run Tryd.prog W = .ok (.slice (some ⟨W.heap.size, 0, none⟩) n n) (W.alloc (.cells ((flatS (noS n)).map (Value.int .i64)).toArray 36)) := by
  obtain ⟨i0, hi0, hz0, hz1, hz2⟩ := info_parts infoSpan
  subst hL
  have hr := run_make (P := Tryd.prog) W 34 36 i0 (.agg #[.int .i64 0, .int .i64 0]) Tryd.underlying34 hi0 hz0 .i64 .i64 (n : Int) (n : Int) (by omega) (by omega) (by rw [hz2]; omega) (by omega)
  rw [← made_no]
  simpa [hz1] using hr
/-- A table that grows by append. -/
def OwnT (w : World) (base : Nat) (v : Value) (gs : List Nat) (T : List (List (Int × Int))) : Prop :=
  gs.length = T.length ∧ gs.Nodup ∧ (∀ g ∈ gs, base ≤ g ∧ g < w.heap.size ∧ some g ≠ v.ownBlock) ∧ ∃ xs, w.ownsRow base 34 1 v T.length xs ∧ ∀ (s g : Nat) (l : List (Int × Int)), gs[s]? = some g → T[s]? = some l → xs[s]? = some (.slice (some ⟨g, 0, none⟩) l.length l.length) ∧ RowAt 36 w g (flatS l)
/-- A table that is written into. -/
structure TabT (w : World) (base ob : Nat) (gs : List Nat) (T : List (List (Int × Int))) : Prop where
  len : gs.length = T.length
  nd : gs.Nodup
  off : ob ∉ gs
  lo : ∀ g ∈ gs, base ≤ g
  rows : ∀ (s g : Nat) (l : List (Int × Int)), gs[s]? = some g → T[s]? = some l → w.cell? ⟨ob, s, none⟩ = some (.slice (some ⟨g, 0, none⟩) l.length l.length) ∧ RowAt 36 w g (flatS l)
theorem OwnT.nil (w : World) (base : Nat) : OwnT w base (.slice none 0 0) [] [] := ⟨rfl, List.nodup_nil, fun g h => by simp at h, [], World.ownsRow_nil _ _ _ _, fun s g l h => by simp at h⟩
theorem rowT_kept {e : TypeId} {w w' : World} {g : Nat} {B : Option Nat} {zs : List Int} (h : RowAt e w g zs) (hg : w.grownBy w' B) (hne : some g ≠ B) : RowAt e w' g zs := by
  have hl := h.lt
  unfold RowAt
  rw [hg.block g hl hne]; exact h
theorem rowT_new (W : World) (n : Nat) : RowAt 36 (W.alloc (.cells ((flatS (noS n)).map (Value.int .i64)).toArray 36)) W.heap.size (flatS (noS n)) := heap_alloc_new W _
theorem OwnT.shape {w : World} {base : Nat} {v : Value} {gs : List Nat} {T : List (List (Int × Int))} (h : OwnT w base v gs T) : ∃ a k, v = .slice a T.length k := by
  obtain ⟨_, _, _, xs, ⟨_, q⟩, _⟩ := h
  rcases q with ⟨rfl, e⟩ | ⟨g, cap, cur, rfl, _⟩
  · exact ⟨none, 0, by rw [e]⟩
  · exact ⟨_, _, rfl⟩
/-- One list more. -/
theorem app_tab {W : World} {ops : Array Oper} {rest : List Oper} {o : Oper} {a : Act} {Q : Exit → Act → World → Prop} (hgd : o.guard = none) (s x : Operand)
    (ho : o.op = .call { callee := .builtin .append, args := #[s, x], argTypes := #[24, 24] }) (base n : Nat) (v : Value) (gs : List Nat) (T : List (List (Int × Int))) (hs : a.eval s = v) (hown : OwnT W base v gs T) (hx : a.eval x = .slice (some ⟨W.heap.size + 1, 0, none⟩) 1 1)
    (hsm : T.length ≤ 1000) (hbase : base ≤ W.heap.size)
    (RC : Array Value) (hRC : RC = ((flatS (noS n)).map (Value.int .i64)).toArray) (h : ∀ v' w', OwnT w' base v' (gs ++ [W.heap.size]) (T ++ [noS n]) → Below base W w' → wpList Tryd.prog ops Q rest (a.put o.dst v') w') : wpList Tryd.prog ops Q (o :: rest) a ((W.alloc (.cells RC 36)).alloc (.cells #[.slice (some ⟨W.heap.size, 0, none⟩) n n] 34)) := by
  subst hRC
  obtain ⟨e0, ei, hz0, hz1, hz2⟩ := info_parts infoSpans
  obtain ⟨h1, h2, h3, xs, p1, p2⟩ := hown
  have b1 := below_one W (.cells ((flatS (noS n)).map (Value.int .i64)).toArray 36)
  have b2 := below_one (W.alloc (.cells ((flatS (noS n)).map (Value.int .i64)).toArray 36)) (.cells #[.slice (some ⟨W.heap.size, 0, none⟩) n n] 34)
  have b3 : Below W.heap.size W _ := b1.trans (b2.mono b1.size)
  have hlt := World.ownsRow.lt p1
  have hrow := (rowT_new W n).alloc (.cells #[.slice (some ⟨W.heap.size, 0, none⟩) n n] 34)
  have q1 := World.ownsRow.kept (row := none) p1 ⟨b3.os, b3.tape, b3.output, b3.size, fun k hk _ => b3.block k hk⟩ (by
    cases e : v.ownBlock with
    | none => exact .inl rfl
    | some k => exact .inr (by simp))
  refine wpList_append_wh hgd s x 24 ho base 34 e0 (.slice none 0 0) 1 24 Tryd.underlying24 ei hz0 hz1 hz2 rfl (by decide) v _ _ hs q1 ⟨W.heap.size + 1, 0, none⟩ 1 1 [.slice (some ⟨W.heap.size, 0, none⟩) n n] hx rfl ?_ ?_ (by unfold maxLen; omega) (by omega) (by rw [World.size_alloc, World.size_alloc]; omega) ?_
  · intro j z hj
    match j, hj with
    | 0, hj =>
      simp at hj; subst hj
      have : (W.alloc (.cells ((flatS (noS n)).map (Value.int .i64)).toArray 36)).heap.size = W.heap.size + 1 := World.size_alloc _ _
      rw [← this]
      simp [Addr.add]
  · intro z hz
    simp at hz; subst hz; rfl
  · intro v' w' ho' hg hwh
    have hxl : xs.length = T.length := by have := p1.1; omega
    refine h v' w' ⟨by simp [h1], ?_, ?_, xs ++ [.slice (some ⟨W.heap.size, 0, none⟩) n n], by rw [List.length_append]; exact ho', ?_⟩ ((b3.mono hbase).grown hg (Nat.le_trans hbase b3.size) (fun k hk => (hlt k hk).1))
    · rw [List.nodup_append]
      exact ⟨h2, by simp, fun a ha c hc e => by simp at hc; subst hc; have := (h3 a ha).2.1; omega⟩
    · intro g hgm
      have hsz := hg.size
      rw [World.size_alloc, World.size_alloc] at hsz
      have hnew : ∀ q, q ≤ W.heap.size → some q ≠ v.ownBlock → some q ≠ v'.ownBlock := fun q hq hne => by
        rcases hwh with e | e
        · rw [e]; exact hne
        · rw [e, World.size_alloc, World.size_alloc]
          intro c
          have := Option.some.inj c
          omega
      rcases List.mem_append.1 hgm with q | q
      · obtain ⟨r1, r2, r3⟩ := h3 g q
        exact ⟨r1, by omega, hnew g (by omega) r3⟩
      · simp at q; subst q
        exact ⟨hbase, by omega, hnew _ (Nat.le_refl _) (fun c => by have := (hlt _ c.symm).2; omega)⟩
    · intro t g l hgt hlt'
      rcases Nat.lt_or_ge t T.length with q | q
      · rw [List.getElem?_append_left (by omega)] at hgt
        rw [List.getElem?_append_left q] at hlt'
        obtain ⟨r1, r2⟩ := p2 t g l hgt hlt'
        refine ⟨by rw [List.getElem?_append_left (by omega)]; exact r1, ?_⟩
        have hgm := h3 g (List.mem_of_getElem? hgt)
        exact rowT_kept (r2.below b3 hgm.2.1) hg hgm.2.2
      · rw [List.getElem?_append_right (by omega)] at hgt
        rw [List.getElem?_append_right q] at hlt'
        have e0 : t - T.length = 0 := by
          rcases Nat.eq_zero_or_pos (t - T.length) with c | c
          · exact c
          · rw [List.getElem?_eq_none (by simp; omega)] at hlt'; cases hlt'
        rw [show t - gs.length = 0 by omega] at hgt
        rw [e0] at hlt'
        obtain rfl : W.heap.size = g := by simpa using hgt
        obtain rfl : noS n = l := by simpa using hlt'
        refine ⟨by rw [List.getElem?_append_right (by omega), show t - xs.length = 0 by omega]; simp [noS], rowT_kept hrow hg (fun c => by have := (hlt _ c.symm).2; omega)⟩
theorem OwnT.tab {w : World} {base : Nat} {v : Value} {gs : List Nat} {T : List (List (Int × Int))} (h : OwnT w base v gs T) (hne : T ≠ []) : ∃ ob cap, v = .slice (some ⟨ob, 0, none⟩) T.length cap ∧ T.length ≤ cap ∧ cap ≤ maxLen ∧ base ≤ ob ∧ TabT w base ob gs T := by
  obtain ⟨h1, h2, h3, xs, p1, p2⟩ := h
  have hc := fun g e => World.ownsRow.cells p1 (g := g) e
  have hlt := World.ownsRow.lt p1
  obtain ⟨_, q⟩ := p1
  rcases q with ⟨rfl, e⟩ | ⟨ob, cap, cur, rfl, _, _, r3, r4, _⟩
  · exact absurd (List.eq_nil_of_length_eq_zero e) hne
  · refine ⟨ob, cap, rfl, r3, r4, (hlt ob rfl).1, h1, h2, fun hm => (h3 ob hm).2.2 rfl, fun g hg => (h3 g hg).1, fun s g l hg hl => ?_⟩
    obtain ⟨a1, a2⟩ := p2 s g l hg hl
    have := hc ob rfl s _ a1
    rw [Addr.add_lit] at this
    exact ⟨by simpa using this, a2⟩
theorem TabT.below {w w' : World} {base ob : Nat} {gs : List Nat} {T : List (List (Int × Int))} (h : TabT w base ob gs T) (hb : Below w.heap.size w w') : TabT w' base ob gs T :=
  ⟨h.len, h.nd, h.off, h.lo, fun s g l hg hl => by obtain ⟨a1, a2⟩ := h.rows s g l hg hl; exact ⟨cell_bel hb a1, a2.below hb a2.lt⟩⟩
/-- The list of one stage. -/
theorem TabT.at_ {w : World} {base ob : Nat} {gs : List Nat} {T : List (List (Int × Int))} (h : TabT w base ob gs T) {s : Nat} (hs : s < T.length) : ∃ g, gs[s]? = some g ∧ w.cell? ⟨ob, s, none⟩ = some (.slice (some ⟨g, 0, none⟩) (stA T s).length (stA T s).length) ∧ RowAt 36 w g (flatS (stA T s)) := by
  have hg : s < gs.length := by rw [h.len]; exact hs
  obtain ⟨a1, a2⟩ := h.rows s gs[s] T[s] (List.getElem?_eq_getElem hg) (List.getElem?_eq_getElem hs)
  rw [← stA_at (List.getElem?_eq_getElem hs)] at a1 a2
  exact ⟨gs[s], List.getElem?_eq_getElem hg, a1, a2⟩
theorem TabT.set {w : World} {base ob : Nat} {gs : List Nat} {T : List (List (Int × Int))} (h : TabT w base ob gs T) {s g : Nat} (hs : s < T.length) (hg : gs[s]? = some g) (i : Nat) (x : Int × Int) : TabT ((w.setCell ⟨g, i * 2, none⟩ (.int .i64 x.1)).setCell ⟨g, i * 2 + 1, none⟩ (.int .i64 x.2)) base ob gs (setT T s i x) := by
  have hob : ob ≠ g := fun e => h.off (by rw [e]; exact List.mem_of_getElem? hg)
  refine ⟨by rw [setT_len]; exact h.len, h.nd, h.off, h.lo, fun t g' l hg' hl => ?_⟩
  have keep : ∀ {y : Value}, w.cell? ⟨ob, t, none⟩ = some y → ((w.setCell ⟨g, i * 2, none⟩ (.int .i64 x.1)).setCell ⟨g, i * 2 + 1, none⟩ (.int .i64 x.2)).cell? ⟨ob, t, none⟩ = some y := fun hy => by
    rw [World.cell?_setCell_other (h := fun e => hob (congrArg Addr.block e).symm) .., World.cell?_setCell_other (h := fun e => hob (congrArg Addr.block e).symm) ..]; exact hy
  by_cases c : t = s
  · subst c
    rw [hg] at hg'
    obtain rfl := Option.some.inj hg'
    unfold setT at hl
    rw [List.getElem?_set_self hs] at hl
    obtain rfl := Option.some.inj hl
    obtain ⟨g2, e2, a1, a2⟩ := h.at_ hs
    rw [hg] at e2
    obtain rfl := Option.some.inj e2
    refine ⟨by rw [List.length_set]; exact keep a1, ?_⟩
    rw [← flatS_set]
    exact (a2.set _ _).set _ _
  · unfold setT at hl
    rw [List.getElem?_set_ne (fun e => c e.symm)] at hl
    obtain ⟨a1, a2⟩ := h.rows t g' l hg' hl
    have hne : g' ≠ g := fun e => by
      subst e
      obtain ⟨i1, e1⟩ := List.getElem?_eq_some_iff.1 hg
      obtain ⟨i2, e2⟩ := List.getElem?_eq_some_iff.1 hg'
      exact c ((List.getElem_inj h.nd).1 (e2.trans e1.symm))
    exact ⟨keep a1, (a2.other _ _ hne).other _ _ hne⟩
theorem TabT.isPlan {w : World} {base ob cap : Nat} {gs : List Nat} {T : List (List (Int × Int))} (h : TabT w base ob gs T) (hc1 : T.length ≤ cap) (hc2 : cap ≤ maxLen) (hsm : ∀ s, s < T.length → (stA T s).length ≤ 1000) : IsPlan w (.slice (some ⟨ob, 0, none⟩) T.length cap) T := by
  refine ⟨some ⟨ob, 0, none⟩, cap, rfl, hc1, hc2, .inr ⟨ob, 0, rfl, fun i l hl => ?_⟩⟩
  have hi := (List.getElem?_eq_some_iff.1 hl).1
  obtain ⟨g, hg, a1, a2⟩ := h.at_ hi
  rw [stA_at hl] at a1 a2
  have := hsm i hi
  rw [stA_at hl] at this
  refine ⟨_, by rw [Nat.zero_add]; exact a1, some ⟨g, 0, none⟩, l.length, rfl, Nat.le_refl _, by unfold maxLen; omega, .inr ⟨g, 0, rfl, fun j x hx => ?_⟩⟩
  obtain ⟨f1, f2⟩ := flatS_at hx
  rw [Nat.zero_add]
  exact ⟨a2.cell f1, a2.cell f2⟩
end Go.Proofs.YtcpgomjaegickagDoor
