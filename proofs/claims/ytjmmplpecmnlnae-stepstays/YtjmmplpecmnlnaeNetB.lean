/- What goes back through a net, as plain data; pieces of lists in memory. No program in sight. -/
import Derived.Test.YtjmmplpecmnlnaeReg
namespace Go.Proofs.Ytjmmplpecmnlnae
open Go.RowKit
/-- From the last layer on: what is wrong, what goes back, the Grads (the first layer's first). -/
def bkE : List Ly → List Mx → Mx → Int
  | l :: ls, x :: xs, g => if backE l x g ≠ 0 then backE l x g else bkE ls xs (backX l x g)
  | _, _, _ => 0
def bkX : List Ly → List Mx → Mx → Mx
  | l :: ls, x :: xs, g => bkX ls xs (backX l x g)
  | _, _, g => g
def bkD : List Ly → List Mx → Mx → List (Mx × Mx)
  | l :: ls, x :: xs, g => bkD ls xs (backX l x g) ++ [(gradW l x g, gradB l x g)]
  | _, _, _ => []
def nbE (ls : List Ly) (ms : List Mx) (g : Mx) : Int := if 12 < ls.length then 3 else if ms.length ≠ ls.length + 1 then 2 else if ls = [] then fault g else bkE ls.reverse (ms.take ls.length).reverse g
def nbX (ls : List Ly) (ms : List Mx) (g : Mx) : Mx := if nbE ls ms g = 0 then bkX ls.reverse (ms.take ls.length).reverse g else noMx
def nbD (ls : List Ly) (ms : List Mx) (g : Mx) : List (Mx × Mx) := if nbE ls ms g = 0 then bkD ls.reverse (ms.take ls.length).reverse g else []
theorem take_end {α : Type} {xs : List α} {k : Nat} {x : α} (h : xs[k]? = some x) : xs.take (k + 1) = xs.take k ++ [x] := by
  obtain ⟨hk, rfl⟩ := List.getElem?_eq_some_iff.1 h
  rw [List.take_succ_eq_append_getElem hk]
theorem bkD_len : ∀ (ls : List Ly) (xs : List Mx) (g : Mx), (bkD ls xs g).length ≤ ls.length
  | [], _, _ => by simp [bkD]
  | _ :: _, [], _ => by simp [bkD]
  | l :: ls, x :: xs, g => by
    have := bkD_len ls xs (backX l x g)
    simp only [bkD, List.length_append, List.length_cons, List.length_nil]
    omega
section
variable {ls : List Ly} {ms : List Mx} {g : Mx} {k : Nat} {l : Ly} {x : Mx}
theorem nb_rev (hl : ls.length = k + 1) (h0 : ls[k]? = some l) (h1 : ms[k]? = some x) : ls.reverse = l :: (ls.take k).reverse ∧ (ms.take ls.length).reverse = x :: (ms.take k).reverse := by
  refine ⟨?_, ?_⟩
  · have : ls = ls.take k ++ [l] := by rw [← take_end h0, ← hl, List.take_length]
    exact (congrArg List.reverse this).trans (by simp)
  · rw [hl, take_end h1]; simp
theorem nbE_step (hl : ls.length = k + 1) (h12 : ¬ 12 < ls.length) (hm : ms.length = ls.length + 1) (h0 : ls[k]? = some l) (h1 : ms[k]? = some x) :
    nbE ls ms g = if backE l x g ≠ 0 then backE l x g else bkE (ls.take k).reverse (ms.take k).reverse (backX l x g) := by
  obtain ⟨e1, e2⟩ := nb_rev hl h0 h1
  unfold nbE
  rw [if_neg h12, if_neg (by simp [hm]), if_neg (by intro e; rw [e] at hl; simp at hl), e1, e2]
  rfl
theorem nbX_step (hl : ls.length = k + 1) (h0 : ls[k]? = some l) (h1 : ms[k]? = some x) (hE : nbE ls ms g = 0) : nbX ls ms g = bkX (ls.take k).reverse (ms.take k).reverse (backX l x g) := by
  obtain ⟨e1, e2⟩ := nb_rev hl h0 h1
  unfold nbX
  rw [if_pos hE, e1, e2]; rfl
theorem nbD_step (hl : ls.length = k + 1) (h0 : ls[k]? = some l) (h1 : ms[k]? = some x) (hE : nbE ls ms g = 0) : nbD ls ms g = bkD (ls.take k).reverse (ms.take k).reverse (backX l x g) ++ [(gradW l x g, gradB l x g)] := by
  obtain ⟨e1, e2⟩ := nb_rev hl h0 h1
  unfold nbD
  rw [if_pos hE, e1, e2]; rfl
theorem nb_sub (hl : ls.length = k + 1) (hk : 0 < k) (h12 : ¬ 12 < ls.length) (hm : ms.length = ls.length + 1) (t : Mx) :
    nbE (ls.take k) (ms.take (k + 1)) t = bkE (ls.take k).reverse (ms.take k).reverse t ∧ (nbE (ls.take k) (ms.take (k + 1)) t = 0 → nbX (ls.take k) (ms.take (k + 1)) t = bkX (ls.take k).reverse (ms.take k).reverse t ∧ nbD (ls.take k) (ms.take (k + 1)) t = bkD (ls.take k).reverse (ms.take k).reverse t) := by
  have e1 : (ls.take k).length = k := by rw [List.length_take]; omega
  have e2 : (ms.take (k + 1)).length = k + 1 := by rw [List.length_take]; omega
  have e3 : (ms.take (k + 1)).take k = ms.take k := by rw [List.take_take]; congr 1; omega
  have hE : nbE (ls.take k) (ms.take (k + 1)) t = bkE (ls.take k).reverse (ms.take k).reverse t := by
    unfold nbE
    rw [e1, e2, e3, if_neg (by omega), if_neg (by omega), if_neg (by intro e; rw [e] at e1; simp at e1; omega)]
  refine ⟨hE, fun h => ⟨?_, ?_⟩⟩
  · unfold nbX; rw [if_pos h, e1, e3]
  · unfold nbD; rw [if_pos h, e1, e3]
end
theorem nbX_no {ls : List Ly} {ms : List Mx} {g : Mx} (h : nbE ls ms g ≠ 0) : nbX ls ms g = noMx ∧ nbD ls ms g = [] := by unfold nbX nbD; rw [if_neg h, if_neg h]; exact ⟨rfl, rfl⟩
/-- The first k of a list. -/
theorem Reads.take {w : World} {a : Option Addr} {n cap : Nat} {α : Type} {f : α → List (Int ⊕ List Int)} {xs : List α} (h : Reads w (.slice a n cap) n (xs.flatMap f)) (k : Nat) (hk : k ≤ n) : Reads w (.slice a k cap) k ((xs.take k).flatMap f) := by
  obtain ⟨a', cap', e, h2, h3, h4⟩ := h
  injection e with e1 _ e3
  subst e1 e3
  refine ⟨_, _, rfl, by omega, h3, ?_⟩
  by_cases h0 : k = 0
  · exact .inl h0
  · obtain ⟨b, off, rfl, hc⟩ := h4.resolve_left (by omega)
    refine .inr ⟨b, off, rfl, fun j p hp => hc j p ?_⟩
    have e : xs.flatMap f = (xs.take k).flatMap f ++ (xs.drop k).flatMap f := by rw [← List.flatMap_append, List.take_append_drop]
    have hj : j < ((xs.take k).flatMap f).length := by
      rcases Nat.lt_or_ge j ((xs.take k).flatMap f).length with h | h
      · exact h
      · rw [List.getElem?_eq_none h] at hp; cases hp
    rw [e, List.getElem?_append_left hj]; exact hp
theorem IsLys.take {w : World} {a : Option Addr} {cap : Nat} {ls : List Ly} {n : Nat} (hn : ls.length = n) (h : IsLys w (.slice a n cap) ls) (k : Nat) (hk : k ≤ n) : IsLys w (.slice a k cap) (ls.take k) := by
  unfold IsLys at h ⊢
  rw [hn] at h
  rw [show (ls.take k).length = k by rw [List.length_take]; omega]
  exact Reads.take h k hk
theorem IsMxs.take {w : World} {a : Option Addr} {cap : Nat} {ms : List Mx} {n : Nat} (hn : ms.length = n) (h : IsMxs w (.slice a n cap) ms) (k : Nat) (hk : k ≤ n) : IsMxs w (.slice a k cap) (ms.take k) := by
  obtain ⟨a', cap', e, h2, h3, h4⟩ := h
  injection e with e1 _ e3
  subst e1 e3
  have e1 : (ms.take k).length = k := by rw [List.length_take]; omega
  refine ⟨_, _, by rw [e1], by rw [e1]; omega, h3, ?_⟩
  rcases h4 with h4 | ⟨b, off, rfl, hc⟩
  · exact .inl (by rw [h4]; simp)
  · refine .inr ⟨b, off, rfl, fun i m hm => hc i m ?_⟩
    rw [List.getElem?_take] at hm
    split at hm
    · exact hm
    · cases hm
/-- What was made between two worlds lies in no block that is older, and in none that is younger. -/
theorem part_mid {w w' : World} {n : Nat} {r c s : Value} {zs : List Int} (h : IsInts w s zs) (hb : Below w.heap.size w w') (hf : Fresh n (.agg #[r, c, s])) {G : Nat → Prop} (hG : ∀ b, G b → b < n ∨ w.heap.size ≤ b) : PartAt w' G (.inr zs) s := by
  refine ⟨h.below hb, ?_⟩
  by_cases h0 : zs = []
  · exact .inl h0
  · obtain ⟨b, hb', hlt⟩ := h.lt h0
    refine .inr fun k hk hg => ?_
    rw [hb'] at hk
    obtain rfl := Option.some.inj hk
    obtain ⟨a, cap, rfl, _, _, h4⟩ := h
    obtain ⟨b2, off, rfl, _⟩ := h4.resolve_left h0
    obtain rfl : b2 = b := by simpa [Value.ownBlock] using hb'
    rcases hf r c ⟨b2, off, none⟩ zs.length cap rfl with h1 | h1
    · exact absurd (List.eq_nil_of_length_eq_zero h1) h0
    · have h2 : n ≤ b2 := h1
      rcases hG b2 hg with h3 | h3 <;> omega
theorem Owns.weaken {lo base lo' base' : Nat} {w : World} {e : TypeId} {size n : Nat} {v : Value} {sp : List (Int ⊕ List Int)} (h : Owns lo base w e size v n sp) (hb : base' ≤ base) (hl : lo ≤ lo') : Owns lo' base' w e size v n sp := by
  obtain ⟨cs, h1, h2⟩ := h
  refine ⟨cs, ⟨h1.1, ?_⟩, h2.map (fun p u hp => hp.mono (fun b _ hg => hg.imp id (fun h => ⟨by omega, by omega⟩)))⟩
  rcases h1.2 with h | ⟨g, cap, cur, e1, hbg, rest⟩
  · exact .inl h
  · exact .inr ⟨g, cap, cur, e1, by omega, rest⟩
/-- What NetBack comes to. -/
def NBEnd (w : World) (some' : Prop) (X : Mx) (D : List (Mx × Mx)) (E : Int) (e : Ending) (w' : World) : Prop := ∃ sx vd, e = .returned (.tuple #[.agg #[.int .i64 X.rows, .int .i64 X.cols, sx], vd, .int .i64 E]) ∧
  PartAt w' (fun b => vd.ownBlock = some b ∨ (some' ∧ b < w.heap.size)) (.inr X.cells) sx ∧ Owns 0 w.heap.size w' 32 6 vd D.length (D.flatMap gdS) ∧ Below w.heap.size w w'
section
variable {P : Program} {w : World}
/-- A list of one's own, grown by some elements: one operation. -/
theorem wp_append_owns {o : Oper} {a : Act} {K : Act → World → Prop} {Q : Exit → Act → World → Prop} (s x : Operand) (t : TypeId)
    (ho : o.op = .call { callee := .builtin .append, args := #[s, x], argTypes := #[t, t] })
    (base : Nat) (e : TypeId) (i : TypeInfo) (z : Value) (size bytes : Nat) (ht : P.underlying t = some (.slice e)) (hi : P.info? e = some i) (hz : i.zero = some z)
    (hsize : i.size = size) (hby : i.bytes = bytes) (hzs : z.cells.size = size) (hsz : 0 < size)
    (lo : Nat) (v : Value) (n : Nat) (sp : List (Int ⊕ List Int)) (hs : a.eval s = v) (hown : Owns lo base w e size v n sp)
    (ad : Addr) (m c : Nat) (news : List Value) (hx : a.eval x = .slice (some ad) m c) (hl : news.length = m * size) (hnews : ∀ j u, news[j]? = some u → w.cell? (ad.add j) = some u)
    (sn : List (Int ⊕ List Int)) (hen : Enc w (fun b => v.ownBlock = some b ∨ (lo ≤ b ∧ b < base)) sn news)
    (h63 : n + m ≤ maxLen) (hbytes : (n + m) * bytes ≤ 140737488355328) (hbase : base ≤ w.heap.size)
    (h : ∀ v' w', Owns lo base w' e size v' (n + m) (sp ++ sn) → w.grownBy w' v.ownBlock → (v'.ownBlock = v.ownBlock ∨ v'.ownBlock = some w.heap.size) → K (a.put o.dst v') w') : o.wp P a w K Q := by
  obtain ⟨cs, h1, h2⟩ := hown
  obtain ⟨v', w', hr, h3, h4, h5⟩ := append_where (P := P) base t o.type e i z size bytes ht hi hz hsize hby hzs hsz v n cs h1 ad m c news hl hnews hen.one h63 hbytes hbase
  unfold Oper.wp execOp
  simp only [ho, resolve, invoke, builtin, Sem.run_bind, Sem.run_pure, Result.andThen_ok, List.map_toArray, List.map_cons, List.map_nil, hs, hx, hr]
  refine h v' w' ⟨_, h3, (h2.append hen).map (fun p u hp => hp.grown h4 (fun b hb => .inl hb) (fun b hlt hg => ?_))⟩ h4 h5
  rcases hg with hg | hg
  · rcases h5 with h5 | h5
    · exact .inl (h5 ▸ hg)
    · rw [h5] at hg
      have := Option.some.inj hg
      omega
  · exact .inr hg
end
/-- The cells of some blocks stay. -/
def Keep (p : Nat → Prop) (w u : World) : Prop := ∀ (a : Addr) x, p a.block → w.cell? a = some x → u.cell? a = some x
theorem Keep.refl (p : Nat → Prop) (w : World) : Keep p w w := fun _ _ _ h => h
theorem keep_drew {p : Nat → Prop} {w u : World} (h : Keep p w u) : Keep p w u.drew := h
theorem keep_alloc {p : Nat → Prop} {w u : World} {o : Obj} (h : Keep p w u) : Keep p w (u.alloc o) := fun a x ha hx => cell_past (h a x ha hx) o
theorem keep_set {p : Nat → Prop} {w u : World} {B q : Nat} {y : Value} (h : Keep p w u) (hB : ¬ p B) : Keep p w (u.setCell ⟨B, q, none⟩ y) := fun a x ha hx => cell_other (h a x ha hx) (fun (e : a.block = B) => hB (e ▸ ha)) q y
theorem keep_grown {p : Nat → Prop} {w u u' : World} {g : Option Nat} (h : Keep p w u) (hg : u.grownBy u' g) (hn : ∀ b, g = some b → ¬ p b) : Keep p w u' := fun a x ha hx => hg.cell (h a x ha hx) (fun e => hn _ e.symm ha)
/-- What NetBack's last append leaves. -/
theorem nb_grow {w W w' : World} {u v' sx : Value} {X : Mx} {D : List (Mx × Mx)} {d : Mx × Mx} (hb : Below w.heap.size w W) (hO : Owns 0 (w.heap.size + 2) w' 32 6 v' (D.length + 1) (D.flatMap gdS ++ gdS d)) (hg : W.grownBy w' u.ownBlock) (hu : ∀ k, u.ownBlock = some k → w.heap.size + 2 ≤ k)
    (hwh : v'.ownBlock = u.ownBlock ∨ v'.ownBlock = some W.heap.size) (hp : PartAt W (fun b => u.ownBlock = some b ∨ b < w.heap.size + 2) (.inr X.cells) sx) (hW : w.heap.size + 2 ≤ W.heap.size) :
    PartAt w' (fun b => v'.ownBlock = some b ∨ b < w.heap.size + 2) (.inr X.cells) sx ∧ Owns 0 (w.heap.size + 2) w' 32 6 v' (D ++ [d]).length ((D ++ [d]).flatMap gdS) ∧ Below w.heap.size w w' := by
  refine ⟨hp.grown hg (fun b hb => .inl hb) (fun b hlt h => ?_), ?_, hb.grown hg (by omega) (fun k hk => by have := hu k hk; omega)⟩
  · rcases h with h | h
    · rcases hwh with hwh | hwh
      · exact .inl (hwh ▸ h)
      · rw [hwh] at h
        have := Option.some.inj h
        omega
    · exact .inr h
  · rw [List.length_append, ← flat_snoc]; exact hO
theorem nb_end {w w' : World} {p : Prop} {v' sx : Value} {X : Mx} {D : List (Mx × Mx)} (h : PartAt w' (fun b => v'.ownBlock = some b ∨ b < w.heap.size + 2) (.inr X.cells) sx ∧ Owns 0 (w.heap.size + 2) w' 32 6 v' D.length (D.flatMap gdS) ∧ Below w.heap.size w w') :
    NBEnd w p X D 0 (.returned (.tuple #[.agg #[.int .i64 X.rows, .int .i64 X.cols, sx], v', .int .i64 0])) w' :=
  ⟨_, _, rfl, h.1.mono (fun b _ hb => hb.imp id (fun h => by omega)), h.2.1.weaken (by omega) (Nat.le_refl _), h.2.2⟩
theorem nb_set {w w' : World} {v' sx : Value} {X : Mx} {D : List (Mx × Mx)} (h : PartAt w' (fun b => v'.ownBlock = some b ∨ b < w.heap.size + 2) (.inr X.cells) sx ∧ Owns 0 (w.heap.size + 2) w' 32 6 v' D.length (D.flatMap gdS) ∧ Below w.heap.size w w') (q : Nat) (x : Value) :
    PartAt (w'.setCell ⟨w.heap.size + 1, q, none⟩ x) (fun b => v'.ownBlock = some b ∨ b < w.heap.size + 2) (.inr X.cells) sx ∧ Owns 0 (w.heap.size + 2) (w'.setCell ⟨w.heap.size + 1, q, none⟩ x) 32 6 v' D.length (D.flatMap gdS) ∧ Below w.heap.size w (w'.setCell ⟨w.heap.size + 1, q, none⟩ x) :=
  ⟨h.1.set (.inr (by omega)) q x, h.2.1.set (Nat.zero_le _) (by omega) q x, h.2.2.setCell (by simp) _⟩
theorem nb_drew {w u : World} {p : Prop} {X : Mx} {D : List (Mx × Mx)} {E : Int} {e : Ending} (h : NBEnd w p X D E e u) : NBEnd w p X D E e u.drew := by
  obtain ⟨sx, vd, h1, h2, h3, h4⟩ := h
  exact ⟨sx, vd, h1, h2.below (below_dr (Below.refl _ u)), h3.below (below_dr (Below.refl _ u)), below_dr h4⟩
end Go.Proofs.Ytjmmplpecmnlnae
