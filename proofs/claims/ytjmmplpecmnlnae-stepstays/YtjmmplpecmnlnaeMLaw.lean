/- Plain facts on what Mul and Turn of package mat give: what stands where, and that Check takes it. -/
import Derived.Test.YtjmmplpecmnlnaeMOps1
namespace Go.Proofs.Ytjmmplpecmnlnae
theorem dot_bd (us vs : List Int) (Ca Cb i j : Nat) : ∀ k, inEnds (dot us vs Ca Cb i j k) = true
  | 0 => by simp [dot, inEnds]
  | k + 1 => by rw [ends_iff]; exact ad_bd _ _
theorem tab_ends {n : Nat} {f : Nat → Int} (h : ∀ q, q < n → inEnds (f q) = true) : (tab n f).all inEnds = true := by
  refine all_yes (fun k x hk hx => ?_)
  rw [tab_len] at hk
  rw [tab_at hk] at hx
  rw [← Option.some.inj hx]; exact h k hk
theorem tab_get {n : Nat} {f : Nat → Int} {i : Nat} (h : i < n) : ((tab n f)[i]?).getD 0 = f i := by rw [tab_at h]; rfl
theorem Good.mul0 {a b : Mx} {Ra Ca Cb : Nat} (ga : Good a Ra Ca) (gb : Good b Ca Cb) : mulE a b = 0 := by
  unfold mulE faults
  rw [ga.fault]
  have : faults [b] = 0 := by rw [faults_one, gb.fault]
  simp only [if_pos, this, ne_eq, not_true, if_false]
  rw [if_neg (by simp [ga.c, gb.r])]
theorem Good.mul {a b : Mx} {Ra Ca Cb : Nat} (ga : Good a Ra Ca) (gb : Good b Ca Cb) : Good (mulX a b) Ra Cb := by
  rw [mulX_yes (ga.mul0 gb) ga.r ga.c gb.c]
  exact ⟨rfl, rfl, ga.hR, gb.hC, tab_len _ _, tab_ends (fun q _ => dot_bd _ _ _ _ _ _ _)⟩
theorem mul_cell {a b : Mx} {Ra Ca Cb i j : Nat} (ga : Good a Ra Ca) (gb : Good b Ca Cb) (hi : i < Ra) (hj : j < Cb) : ((mulX a b).cells[i * Cb + j]?).getD 0 = dot a.cells b.cells Ca Cb i j Ca := by
  rw [mulX_yes (ga.mul0 gb) ga.r ga.c gb.c]
  obtain ⟨e1, e2⟩ := at_row (C := Cb) (i := i) (j := j) hj
  show ((tab _ _)[_]?).getD 0 = _
  rw [tab_get (idx_lt hi hj), e1, e2]
theorem Good.turn0 {a : Mx} {R C : Nat} (ga : Good a R C) (hR : R ≤ 12) : turnE a = 0 := by
  unfold turnE; rw [ga.fault, if_neg (by simp), if_neg (by rw [ga.r]; omega)]
theorem getD_ends {zs : List Int} (h : zs.all inEnds = true) (i : Nat) : inEnds ((zs[i]?).getD 0) = true := by
  rcases Nat.lt_or_ge i zs.length with hi | hi
  · rw [List.getElem?_eq_getElem hi]; exact (List.all_eq_true.1 h) _ (List.getElem_mem hi)
  · rw [List.getElem?_eq_none hi]; simp [inEnds]
theorem Good.turn {a : Mx} {R C : Nat} (ga : Good a R C) (hR : R ≤ 12) : Good (turnX a) C R := by
  rw [turnX_yes (ga.turn0 hR) ga.r ga.c]
  exact ⟨rfl, rfl, by have := ga.hC; omega, hR, tab_len _ _, tab_ends (fun q _ => getD_ends ga.e _)⟩
theorem turn_cell {a : Mx} {R C i j : Nat} (ga : Good a R C) (hR : R ≤ 12) (hi : i < R) (hj : j < C) : ((turnX a).cells[j * R + i]?).getD 0 = (a.cells[i * C + j]?).getD 0 := by
  rw [turnX_yes (ga.turn0 hR) ga.r ga.c]
  obtain ⟨e1, e2⟩ := at_div (R := R) (i := i) (j := j) hi
  show ((tab _ _)[_]?).getD 0 = _
  rw [tab_get (idx_lt hj hi), e1, e2]
theorem dot_turn {a b : Mx} {Ra Ca Cb i j : Nat} (ga : Good a Ra Ca) (gb : Good b Ca Cb) (hR : Ra ≤ 12) (hi : i < Ra) (hj : j < Cb) : ∀ k, k ≤ Ca → dot (turnX b).cells (turnX a).cells Ca Ra j i k = dot a.cells b.cells Ca Cb i j k
  | 0, _ => rfl
  | k + 1, hk => by
    have hCa : Ca ≤ 12 := ga.hC
    unfold dot
    rw [dot_turn ga gb hR hi hj k (by omega), turn_cell gb hCa (by omega) hj, turn_cell ga hR hi (by omega), ml_comm]
/-- What is multiplied and turned is what is turned and multiplied, the other way round. -/
theorem turn_mul {a b : Mx} {Ra Ca Cb : Nat} (ga : Good a Ra Ca) (gb : Good b Ca Cb) (hR : Ra ≤ 12) : turnX (mulX a b) = mulX (turnX b) (turnX a) := by
  have hCa : Ca ≤ 12 := ga.hC
  have gp := ga.mul gb
  have gx := ga.turn hR
  have gy := gb.turn hCa
  rw [turnX_yes (gp.turn0 hR) gp.r gp.c, mulX_yes (gy.mul0 gx) gy.r gy.c gx.c]
  congr 1
  refine tab_congr (fun q hq => ?_)
  have hR0 : 0 < Ra := by rcases Nat.eq_zero_or_pos Ra with h | h; (subst h; simp at hq); exact h
  have hi := Nat.mod_lt q hR0
  have hj : q / Ra < Cb := Nat.div_lt_of_lt_mul (by rw [Nat.mul_comm]; exact hq)
  rw [mul_cell ga gb hi hj, dot_turn ga gb hR hi hj Ca (Nat.le_refl _)]
open Go.RowKit
theorem below_next {w u v : World} (h : Below w.heap.size w u) (k : Below u.heap.size u v) : Below w.heap.size w v := h.trans (k.mono h.size)
theorem below_box {w u v : World} {o : Obj} (h : Below w.heap.size w u) (k : Below (u.alloc o).heap.size (u.alloc o) v) : Below w.heap.size w v := below_next (below_next h (below_one _ _)) k
/-- A call that gives a matrix and no error. -/
def GoodEnd (w : World) (m : Mx) (e : Ending) (w' : World) : Prop := ∃ a n k, e = .returned (.tuple #[.agg #[.int .i64 m.rows, .int .i64 m.cols, .slice a n k], .nilIface]) ∧ IsMx w' (.agg #[.int .i64 m.rows, .int .i64 m.cols, .slice a n k]) m ∧ Below w.heap.size w w'
/-- A call that gives an error and the empty matrix beside it. -/
def BadEnd (w : World) (j : Int) (e : Ending) (w' : World) : Prop := ∃ a n k, e = .returned (.tuple #[.agg #[.int .i64 0, .int .i64 0, .slice a n k], .iface 60 (.int .i64 j)]) ∧ IsMx w' (.agg #[.int .i64 0, .int .i64 0, .slice a n k]) noMx ∧ Below w.heap.size w w'
theorem MxErr.good {w : World} {m : Mx} {j : Int} {e : Ending} {w' : World} (h : MxErr w m j e w') (hj : j = 0) : GoodEnd w m e w' := by
  obtain ⟨v, rfl, ⟨s, rfl, hs⟩, hb, _⟩ := h
  obtain ⟨a, n, k, rfl⟩ := hs.shape
  exact ⟨a, n, k, by rw [err_eq hj], ⟨_, rfl, hs⟩, hb⟩
theorem MxErr.bad {w : World} {m : Mx} {j : Int} {e : Ending} {w' : World} (h : MxErr w m j e w') (hj : j ≠ 0) (hm : m = noMx) : BadEnd w j e w' := by
  subst hm
  obtain ⟨v, rfl, ⟨s, rfl, hs⟩, hb, _⟩ := h
  obtain ⟨a, n, k, rfl⟩ := hs.shape
  exact ⟨a, n, k, by rw [err_ne hj]; rfl, ⟨_, rfl, hs⟩, hb⟩
theorem MxErr.fresh {w : World} {m : Mx} {j : Int} {v x : Value} {w' : World} (h : MxErr w m j (.returned (.tuple #[v, x])) w') : Fresh w.heap.size v := by
  obtain ⟨v', e, _, _, hf⟩ := h
  have : v = v' := by simp at e; exact e.1
  rw [this]; exact hf
theorem IsMx.set {B : Nat} {w : World} {m : Mx} {v : Value} (h : IsMx w v m) (hf : Fresh B v) {b : Nat} (hb : b < B) (q : Nat) (u : Value) : IsMx (w.setCell ⟨b, q, none⟩ u) v m := by
  obtain ⟨s, rfl, a, cap, rfl, h2, h3, h4⟩ := h
  refine ⟨_, rfl, a, cap, rfl, h2, h3, ?_⟩
  rcases h4 with h0 | ⟨b', off, rfl, hc⟩
  · exact .inl h0
  · rcases hf _ _ _ _ _ rfl with hz | hz
    · exact .inl (List.eq_nil_of_length_eq_zero hz)
    · refine .inr ⟨b', off, rfl, fun i x hx => cell_other (hc i x hx) (by show b' ≠ b; simp only [] at hz; omega) q u⟩
theorem IsMx.ints {w : World} {m : Mx} {r c s : Value} (h : IsMx w (.agg #[r, c, s]) m) : IsInts w s m.cells := by
  obtain ⟨s', e, hs⟩ := h
  have : s = s' := by simp at e; exact e.2.2
  rw [this]; exact hs
theorem sameM_refl (m : Mx) : sameM m m = true := by unfold sameM; simp
theorem MxErr.any {w : World} {m : Mx} {j : Int} {e : Ending} {w' : World} (h : MxErr w m j e w') : ∃ a n k, e = .returned (.tuple #[.agg #[.int .i64 m.rows, .int .i64 m.cols, .slice a n k], errV j]) ∧ IsMx w' (.agg #[.int .i64 m.rows, .int .i64 m.cols, .slice a n k]) m ∧ Below w.heap.size w w' := by
  obtain ⟨v, rfl, ⟨s, rfl, hs⟩, hb, _⟩ := h
  obtain ⟨a, n, k, rfl⟩ := hs.shape
  exact ⟨a, n, k, rfl, ⟨_, rfl, hs⟩, hb⟩
theorem IsMx.set3 {B : Nat} {w : World} {m : Mx} {v : Value} (h : IsMx w v m) (hf : Fresh B v) {b : Nat} (hb : b < B) (x y z : Value) : IsMx (((w.setCell ⟨b, 0, none⟩ x).setCell ⟨b, 1, none⟩ y).setCell ⟨b, 2, none⟩ z) v m :=
  ((h.set hf hb 0 x).set hf hb 1 y).set hf hb 2 z
theorem IsMx.box {w : World} {m : Mx} {s : Value} (h : IsMx w (.agg #[.int .i64 m.rows, .int .i64 m.cols, s]) m) (t : TypeId) : BoxMx (w.alloc (.cells #[.int .i64 m.rows, .int .i64 m.cols, s] t)) w.heap.size m := by
  obtain ⟨s', e, hs⟩ := h
  have : s = s' := by simpa using e
  subst this
  exact box_of hs t
theorem BoxMx.mx {w : World} {B : Nat} {m : Mx} (h : BoxMx w B m) : ∃ a n k, w.cell? ⟨B, 0, none⟩ = some (.int .i64 m.rows) ∧ w.cell? ⟨B, 1, none⟩ = some (.int .i64 m.cols) ∧ w.cell? ⟨B, 2, none⟩ = some (.slice a n k) ∧ IsMx w (.agg #[.int .i64 m.rows, .int .i64 m.cols, .slice a n k]) m := by
  obtain ⟨s, h0, h1, h2, hs⟩ := h
  obtain ⟨a, n, k, rfl⟩ := hs.shape
  exact ⟨a, n, k, h0, h1, h2, _, rfl, hs⟩
theorem mulE_zero {a b : Mx} (h : mulE a b = 0) : ∃ Ra Ca Cb, Good a Ra Ca ∧ Good b Ca Cb := by
  unfold mulE at h
  by_cases h1 : faults [a, b] ≠ 0
  · rw [if_pos h1] at h; exact absurd h h1
  · rw [if_neg h1] at h
    obtain ⟨fa, fb⟩ := faults_two (Decidable.not_not.1 h1)
    obtain ⟨Ra, Ca, ga⟩ := good_of fa
    obtain ⟨Rb, Cb, gb⟩ := good_of fb
    by_cases h2 : a.cols ≠ b.rows
    · rw [if_pos h2] at h; cases h
    · have h3 : a.cols = b.rows := Decidable.not_not.1 h2
      have : Ca = Rb := by have := ga.c; have := gb.r; omega
      subst this
      exact ⟨Ra, Ca, Cb, ga, gb⟩
theorem Good.turn1 {a : Mx} {R C : Nat} (ga : Good a R C) (hR : 12 < R) : Go.Proofs.Ytjmmplpecmnlnae.turnE a = 1 := by
  unfold Go.Proofs.Ytjmmplpecmnlnae.turnE; rw [ga.fault, if_neg (by simp), if_pos (by rw [ga.r]; omega)]
end Go.Proofs.Ytjmmplpecmnlnae
