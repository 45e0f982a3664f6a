/- A step, as plain data: what is wrong, what comes of a net and of its speed. No program in sight. -/
import Derived.Test.YtjmmplpecmnlnaeNetP
import Derived.Test.YtjmmplpecmnlnaeLyGood
namespace Go.Proofs.Ytjmmplpecmnlnae
open Go.RowKit
/-- Two matrices have one shape. -/
def sameSh (a b : Mx) : Bool := decide (a.rows = b.rows ∧ a.cols = b.cols)
/-- What is wrong with one layer, its speed and by how much. -/
def stp1E (l : Ly) (p q : Mx × Mx) : Int := if lfault l ≠ 0 then lfault l else if fault p.1 ≠ 0 then fault p.1 else if fault p.2 ≠ 0 then fault p.2 else if fault q.1 ≠ 0 then fault q.1 else if fault q.2 ≠ 0 then fault q.2 else
  if sameSh p.1 l.w = false ∨ sameSh p.2 l.b = false ∨ sameSh q.1 l.w = false ∨ sameSh q.2 l.b = false then 2 else 0
def stpE : List Ly → List (Mx × Mx) → List (Mx × Mx) → Int
  | l :: ls, p :: ps, q :: qs => if stp1E l p q ≠ 0 then stp1E l p q else stpE ls ps qs
  | _, _, _ => 0
def badR (le ke : Int) : Bool := decide (le < 0) || decide (256 < le) || decide (ke < 0) || decide (256 < ke)
def stE (ls : List Ly) (ps qs : List (Mx × Mx)) (le ke : Int) : Int := if badR le ke = true then 1 else if 12 < ls.length then 3 else if ps.length ≠ ls.length ∨ qs.length ≠ ls.length then 2 else stpE ls ps qs
/-- The new speed of a part; what is left of the part. -/
def spdX (v d : Mx) (ke : Int) : Mx := addX (timesX v ke) d
def newX (w sp : Mx) (le : Int) : Mx := ⟨w.rows, w.cols, tab w.cells.length fun q => sb (cellAt w q) (cellAt (timesX sp le) q)⟩
def stp1L (l : Ly) (p q : Mx × Mx) (le ke : Int) : Ly := ⟨l.k, newX l.w (spdX p.1 q.1 ke) le, newX l.b (spdX p.2 q.2 ke) le⟩
def stp1G (p q : Mx × Mx) (ke : Int) : Mx × Mx := (spdX p.1 q.1 ke, spdX p.2 q.2 ke)
def stpL (le ke : Int) : List Ly → List (Mx × Mx) → List (Mx × Mx) → List Ly
  | l :: ls, p :: ps, q :: qs => stp1L l p q le ke :: stpL le ke ls ps qs
  | _, _, _ => []
def stpG (ke : Int) : List Ly → List (Mx × Mx) → List (Mx × Mx) → List (Mx × Mx)
  | _ :: ls, p :: ps, q :: qs => stp1G p q ke :: stpG ke ls ps qs
  | _, _, _ => []
theorem sameSh_yes {a b : Mx} (h : sameSh a b = true) : a.rows = b.rows ∧ a.cols = b.cols := of_decide_eq_true h
/-- Nothing is wrong with a layer and what goes with it: its parts, one by one. -/
theorem stp1_good {l : Ly} {p q : Mx × Mx} (h : stp1E l p q = 0) : lfault l = 0 ∧ fault p.1 = 0 ∧ fault p.2 = 0 ∧ fault q.1 = 0 ∧ fault q.2 = 0 ∧ sameSh p.1 l.w = true ∧ sameSh p.2 l.b = true ∧ sameSh q.1 l.w = true ∧ sameSh q.2 l.b = true := by
  unfold stp1E at h
  by_cases h0 : lfault l = 0
  · rw [if_neg (by simp [h0])] at h
    by_cases h1 : fault p.1 = 0
    · rw [if_neg (by simp [h1])] at h
      by_cases h2 : fault p.2 = 0
      · rw [if_neg (by simp [h2])] at h
        by_cases h3 : fault q.1 = 0
        · rw [if_neg (by simp [h3])] at h
          by_cases h4 : fault q.2 = 0
          · rw [if_neg (by simp [h4])] at h
            by_cases h5 : sameSh p.1 l.w = false ∨ sameSh p.2 l.b = false ∨ sameSh q.1 l.w = false ∨ sameSh q.2 l.b = false
            · rw [if_pos h5] at h; cases h
            · simp only [not_or, Bool.not_eq_false] at h5
              exact ⟨h0, h1, h2, h3, h4, h5.1, h5.2.1, h5.2.2.1, h5.2.2.2⟩
          · rw [if_pos h4] at h; exact absurd h h4
        · rw [if_pos h3] at h; exact absurd h h3
      · rw [if_pos h2] at h; exact absurd h h2
    · rw [if_pos h1] at h; exact absurd h h1
  · rw [if_pos h0] at h; exact absurd h h0
theorem Good.addE {a b : Mx} {R C : Nat} (ga : Good a R C) (gb : Good b R C) : addE a b = 0 := by
  have hf : faults [a, b] = 0 := by unfold faults faults faults; rw [ga.fault, gb.fault]; rfl
  show (if faults [a, b] ≠ 0 then faults [a, b] else if a.rows ≠ b.rows ∨ a.cols ≠ b.cols then 2 else 0) = 0
  rw [if_neg (by simp [hf]), if_neg (by rw [ga.r, ga.c, gb.r, gb.c]; simp)]
theorem Good.add {a b : Mx} {R C : Nat} (ga : Good a R C) (gb : Good b R C) : Good (addX a b) R C := by
  unfold addX
  rw [if_pos (ga.addE gb)]
  have e : a.rows.toNat * a.cols.toNat = R * C := by rw [ga.r, ga.c]; simp
  exact ⟨ga.r, ga.c, ga.hR, ga.hC, by rw [tab_len, e], tab_ends (fun q _ => by rw [ends_iff]; exact cl_bd _)⟩
theorem infoLy2 : (Try.prog.info? 30).map (fun i => (i.zero, i.size, i.bytes)) = some (some (.agg #[.int .i64 0, .int .i64 0, .int .i64 0, .slice none 0 0, .int .i64 0, .int .i64 0, .slice none 0 0]), 7, 88) := by kernel_rfl
theorem enc_ly2 {w : World} {G : Nat → Prop} {l : Ly} {s t : Value} (h : PartAt w G (.inr l.w.cells) s) (h' : PartAt w G (.inr l.b.cells) t) : Enc w G (lyS l) [.int .i64 l.k, .int .i64 l.w.rows, .int .i64 l.w.cols, s, .int .i64 l.b.rows, .int .i64 l.b.cols, t] := .cons rfl (.cons rfl (.cons rfl (.cons h (.cons rfl (.cons rfl (.cons h' (.nil _ _)))))))
/-- Of a layer with which nothing is wrong and what goes with it: sizes. -/
theorem stp1_sizes {l : Ly} {p q : Mx × Mx} (h : stp1E l p q = 0) : (∃ R C, Good l.w R C ∧ Good p.1 R C ∧ Good q.1 R C) ∧ (∃ R C, Good l.b R C ∧ Good p.2 R C ∧ Good q.2 R C) := by
  obtain ⟨h0, h1, h2, h3, h4, h5, h6, h7, h8⟩ := stp1_good h
  obtain ⟨_, _, fw, fb, _⟩ := lgood_of h0
  have key : ∀ {a c : Mx}, fault a = 0 → sameSh a c = true → ∀ {R C : Nat}, Good c R C → Good a R C := fun {a c} fa hs {R C} gc => by
    obtain ⟨R', C', ga⟩ := good_of fa
    obtain ⟨e1, e2⟩ := sameSh_yes hs
    have hr := ga.r
    have hc := ga.c
    have hr' := gc.r
    have hc' := gc.c
    obtain rfl : R' = R := by omega
    obtain rfl : C' = C := by omega
    exact ga
  obtain ⟨R, C, gw⟩ := good_of fw
  obtain ⟨R2, C2, gb⟩ := good_of fb
  exact ⟨⟨R, C, gw, key h1 h5 gw, key h3 h7 gw⟩, ⟨R2, C2, gb, key h2 h6 gb, key h4 h8 gb⟩⟩
/-- What Do gives: the new net and the new speed, or nothing beside what is wrong. -/
def doL (ls : List Ly) (ps qs : List (Mx × Mx)) (le ke : Int) : List Ly := if stE ls ps qs le ke = 0 then stpL le ke ls ps qs else []
def doG (ls : List Ly) (ps qs : List (Mx × Mx)) (le ke : Int) : List (Mx × Mx) := if stE ls ps qs le ke = 0 then stpG ke ls ps qs else []
theorem mx_eq {a b : Mx} (h1 : a.rows = b.rows) (h2 : a.cols = b.cols) (h3 : a.cells = b.cells) : a = b := by cases a; cases b; cases h1; cases h2; cases h3; rfl
theorem Good.timesEq {a : Mx} {R C : Nat} (g : Good a R C) (x : Int) : timesX a x = ⟨a.rows, a.cols, tab (R * C) (fun q => ml (cellAt a q) x)⟩ := by
  have e : timesE a = 0 := by unfold timesE; rw [if_neg (by simp [g.fault])]
  unfold timesX
  rw [if_pos e, g.r, g.c]
  simp [cellAt]
theorem cellAt_tab {r c : Int} {n q : Nat} {f : Nat → Int} (h : q < n) : cellAt ⟨r, c, tab n f⟩ q = f q := by unfold cellAt; rw [tab_at h]; rfl
theorem spd_eq {v d : Mx} {R C : Nat} (gv : Good v R C) (gd : Good d R C) (ke : Int) : spdX v d ke = ⟨v.rows, v.cols, tab (R * C) (fun q => ad (ml (cellAt v q) ke) (cellAt d q))⟩ := by
  unfold spdX addX
  rw [if_pos ((gv.times ke).addE gd), gv.timesEq ke]
  simp only [gv.r, gv.c, Int.toNat_natCast]
  congr 1
  refine tab_congr (fun q hq => ?_)
  rw [tab_at hq]; rfl
theorem Good.spd {v d : Mx} {R C : Nat} (gv : Good v R C) (gd : Good d R C) (ke : Int) : Good (spdX v d ke) R C := (gv.times ke).add gd
theorem new_eq {a s : Mx} {R C : Nat} (ga : Good a R C) (gs : Good s R C) (le : Int) : newX a s le = ⟨a.rows, a.cols, tab (R * C) (fun q => sb (cellAt a q) (ml (cellAt s q) le))⟩ := by
  unfold newX
  rw [ga.l, gs.timesEq le]
  congr 1
  exact tab_congr (fun q hq => by rw [cellAt_tab hq])
/-- What is said where nothing is wrong. -/
theorem stE_zero {ls : List Ly} {ps qs : List (Mx × Mx)} {le ke : Int} (h : stE ls ps qs le ke = 0) : badR le ke = false ∧ ¬ 12 < ls.length ∧ ps.length = ls.length ∧ qs.length = ls.length ∧ stpE ls ps qs = 0 := by
  unfold stE at h
  by_cases h0 : badR le ke = true
  · rw [if_pos h0] at h; cases h
  · rw [if_neg h0] at h
    by_cases h1 : 12 < ls.length
    · rw [if_pos h1] at h; cases h
    · rw [if_neg h1] at h
      by_cases h2 : ps.length ≠ ls.length ∨ qs.length ≠ ls.length
      · rw [if_pos h2] at h; cases h
      · rw [if_neg h2] at h
        exact ⟨by simpa using h0, h1, Decidable.not_not.1 (fun e => h2 (.inl e)), Decidable.not_not.1 (fun e => h2 (.inr e)), h⟩
end Go.Proofs.Ytjmmplpecmnlnae
