/- Plain facts on batches taken apart and joined: the parts have as many rows as Sizes says, and joined they are the batch. No program in sight. -/
import Derived.Test.YtokohpabmmcioaeDoorBatJ
import Derived.Test.YtokohpabmmcioaeDoorApart
namespace Go.Proofs.YtokohpabmmcioaeDoor
open Go.RowKit
/-- Part j of a matrix. -/
def partM (a : Mx) (P Q j : Nat) : Mx := rowsX a (begAt P Q j) (begAt P Q (j + 1))
theorem partX_eq (b : Mx × Mx) (P Q j : Nat) : partX b P Q j = (partM b.1 P Q j, partM b.2 P Q j) := rfl
theorem beg_nat (P Q j : Nat) : ∃ f t c : Nat, begAt P Q j = (f : Int) ∧ begAt P Q (j + 1) = (t : Int) ∧ cnt P j Q = (c : Int) ∧ f ≤ t ∧ t ≤ Q ∧ t = f + c := by
  have h0 := begAt_nonneg P Q j
  have h1 := begAt_nonneg P Q (j + 1)
  have h2 := cnt_nonneg P j Q
  have h3 := begAt_le P (j + 1) Q
  have h4 : begAt P Q (j + 1) = begAt P Q j + cnt P j Q := rfl
  exact ⟨(begAt P Q j).toNat, (begAt P Q (j + 1)).toNat, (cnt P j Q).toNat, by omega, by omega, by omega, by omega, by omega, by omega⟩
theorem tab_mid {zs : List Int} {n k : Nat} (h : k + n ≤ zs.length) : tab n (fun q => (zs[k + q]?).getD 0) = (zs.drop k).take n := by
  apply List.ext_getElem?
  intro i
  by_cases hi : i < n
  · rw [tab_at hi, List.getElem?_take_of_lt hi, List.getElem?_drop, List.getElem?_eq_getElem (by omega)]; rfl
  · rw [List.getElem?_eq_none (by rw [tab_len]; omega), List.getElem?_eq_none (by rw [List.length_take]; omega)]
theorem partM_eq {a : Mx} {P Q C : Nat} (g : Good a Q C) (j : Nat) : ∃ f c : Nat, begAt P Q j = (f : Int) ∧ cnt P j Q = (c : Int) ∧ begAt P Q (j + 1) = ((f + c : Nat) : Int) ∧ Good (partM a P Q j) c C ∧ (partM a P Q j).cells = (a.cells.drop (f * C)).take (c * C) := by
  obtain ⟨f, t, c, h0, h1, h2, h3, h4, h5⟩ := beg_nat P Q j
  refine ⟨f, c, h0, h2, by rw [h1, h5], ?_, ?_⟩
  · have := g.rows h3 h4
    unfold partM
    rw [h0, h1]
    rw [show c = t - f by omega]; exact this
  · unfold partM
    rw [h0, h1, g.rowsEq h3 h4]
    have hm := Nat.mul_le_mul_right C h4
    have e : f * C + c * C = t * C := by rw [← Nat.add_mul, h5]
    show tab _ _ = _
    rw [show t - f = c by omega, tab_mid (by rw [g.l]; omega)]
theorem partM_rows {a : Mx} {P Q C : Nat} (g : Good a Q C) (j : Nat) : (partM a P Q j).rows = cnt P j Q := by
  obtain ⟨f, c, _, h1, _, h2, _⟩ := partM_eq (P := P) g j
  rw [h2.r, h1]
theorem partM_cols {a : Mx} {P Q C : Nat} (g : Good a Q C) (j : Nat) : (partM a P Q j).cols = (C : Int) := by
  obtain ⟨f, c, _, _, _, h2, _⟩ := partM_eq (P := P) g j
  exact h2.c
theorem partM_fault {a : Mx} {P Q C : Nat} (g : Good a Q C) (j : Nat) : fault (partM a P Q j) = 0 := by
  obtain ⟨f, c, _, _, _, h2, _⟩ := partM_eq (P := P) g j
  exact h2.fault
theorem parts_sum {a : Mx} {P Q C : Nat} (g : Good a Q C) : ∀ i, sumR ((List.range i).map (partM a P Q)) = begAt P Q i
  | 0 => rfl
  | i + 1 => by
    rw [List.range_succ, List.map_append, List.map_cons, List.map_nil, sumR_snoc, parts_sum g i, partM_rows g]; rfl
theorem parts_flat {a : Mx} {P Q C : Nat} (g : Good a Q C) : ∀ i, (((List.range i).map (partM a P Q)).map Mx.cells).flatten = a.cells.take ((begAt P Q i).toNat * C)
  | 0 => by simp [begAt]
  | i + 1 => by
    obtain ⟨f, c, h0, h1, h2, _, h4⟩ := partM_eq (P := P) g i
    rw [List.range_succ, List.map_append, List.map_append, List.flatten_append, parts_flat g i, h0, h2]
    simp only [List.map_cons, List.map_nil, List.flatten_cons, List.flatten_nil, List.append_nil]
    rw [h4, Int.toNat_natCast, Int.toNat_natCast, Nat.add_mul, List.take_add]
theorem parts_stack {a : Mx} {P Q C : Nat} (g : Good a Q C) (hP : 0 < P) : stackE ((List.range P).map (partM a P Q)) = 0 ∧ stackX ((List.range P).map (partM a P Q)) = a := by
  have hall := begAt_all P hP Q
  have hf : faults ((List.range P).map (partM a P Q)) = 0 := by
    refine (faults_no (fun j x hx => ?_)).symm
    obtain ⟨k, _, rfl⟩ := List.mem_map.1 (List.mem_of_getElem? hx)
    exact partM_fault g k
  have hne : (List.range P).map (partM a P Q) ≠ [] := by
    intro e
    have := congrArg List.length e
    simp at this
    omega
  have hhd : (((List.range P).map (partM a P Q)).headD noMx).cols = (C : Int) := by
    cases h : (List.range P).map (partM a P Q) with
    | nil => exact absurd h hne
    | cons y l =>
      have hm : y ∈ (List.range P).map (partM a P Q) := by rw [h]; simp
      obtain ⟨k, _, rfl⟩ := List.mem_map.1 hm
      exact partM_cols g k
  have hs : sameC ((List.range P).map (partM a P Q)) = true := by
    unfold sameC
    rw [decide_eq_true_iff]
    refine ⟨hne, fun x hx => ?_⟩
    obtain ⟨k, _, rfl⟩ := List.mem_map.1 hx
    rw [partM_cols g k, hhd]
  have hsum : sumR ((List.range P).map (partM a P Q)) = (Q : Int) := by rw [parts_sum g, hall]
  have hE : stackE ((List.range P).map (partM a P Q)) = 0 := by
    unfold stackE
    rw [if_neg (by simp [hf]), if_neg (by simp [hs]), if_neg (by rw [hsum]; have := g.hR; omega)]
  refine ⟨hE, ?_⟩
  unfold stackX
  rw [if_pos hE, hsum, hhd, parts_flat g, hall, Int.toNat_natCast, List.take_of_length_le (by rw [g.l]; exact Nat.le_refl _), ← g.r, ← g.c]
theorem splE_zero {b : Mx × Mx} {parts : Int} (h : splE b parts = 0) : ∃ P Q C1 C2 : Nat, parts = (P : Int) ∧ 0 < P ∧ P ≤ 12 ∧ P ≤ Q ∧ Q ≤ 24 ∧ Good b.1 Q C1 ∧ Good b.2 Q C2 ∧ splX b parts = (List.range P).map (partX b P Q) := by
  have hX : splX b parts = (List.range parts.toNat).map (partX b parts.toNat b.1.rows.toNat) := by unfold splX; rw [if_pos h]
  unfold splE at h
  by_cases hb : batE b = 0
  · rw [if_neg (by simp [hb])] at h
    obtain ⟨h1, h2, h3, h4⟩ := bat_good hb
    obtain ⟨Q, C1, g1⟩ := good_of h1
    obtain ⟨Q2, C2, g2⟩ := good_of h2
    have e : Q2 = Q := by have := g1.r; have := g2.r; omega
    subst e
    unfold szE at h
    by_cases a1 : b.1.rows < 1 ∨ 24 < b.1.rows ∨ parts < 1 ∨ 12 < parts
    · rw [if_pos a1] at h; cases h
    · rw [if_neg a1] at h
      by_cases a2 : b.1.rows < parts
      · rw [if_pos a2] at h; cases h
      · have := g1.r
        refine ⟨parts.toNat, Q2, C1, C2, by omega, by omega, by omega, by omega, by omega, g1, g2, ?_⟩
        rw [hX, g1.r, Int.toNat_natCast]
  · rw [if_pos hb] at h; exact absurd h hb
theorem cnt_pos {P Q j : Nat} (hP : 0 < P) (hQ : P ≤ Q) (hj : j < P) : 1 ≤ cnt P j Q := by
  rw [cnt_eq P j hP hj Q]
  have : 1 ≤ Q / P := (Nat.le_div_iff_mul_le hP).2 (by omega)
  split <;> omega
theorem cnt_near {P Q i j : Nat} (hP : 0 < P) (hij : i ≤ j) (hj : j < P) : cnt P j Q ≤ cnt P i Q ∧ cnt P i Q - 1 ≤ cnt P j Q := by
  rw [cnt_eq P j hP hj Q, cnt_eq P i hP (by omega) Q]
  split <;> split <;> omega
/-- What is split and joined is the same. -/
theorem join_split {b : Mx × Mx} {parts : Int} (h : splE b parts = 0) : joinE (splX b parts) = 0 ∧ joinX (splX b parts) = b := by
  obtain ⟨P, Q, C1, C2, _, hP, _, hPQ, _, g1, g2, hX⟩ := splE_zero h
  rw [hX]
  have hne : (List.range P).map (partX b P Q) ≠ [] := by
    intro e
    have := congrArg List.length e
    simp at this
    omega
  have hbf : bfaults ((List.range P).map (partX b P Q)) = 0 := by
    refine bfaults_none (fun d hd => ?_)
    obtain ⟨j, hj, rfl⟩ := List.mem_map.1 hd
    have hj := List.mem_range.1 hj
    have hc := cnt_pos hP hPQ hj
    rw [partX_eq]
    unfold batE
    rw [partM_fault g1, partM_fault g2, if_neg (by simp), if_neg (by simp), if_neg (by simp only [partM_rows g1, partM_rows g2]; omega)]
  obtain ⟨s1, s2⟩ := parts_stack g1 hP
  obtain ⟨s3, s4⟩ := parts_stack g2 hP
  have m1 : ((List.range P).map (partX b P Q)).map Prod.fst = (List.range P).map (partM b.1 P Q) := by rw [List.map_map]; rfl
  have m2 : ((List.range P).map (partX b P Q)).map Prod.snd = (List.range P).map (partM b.2 P Q) := by rw [List.map_map]; rfl
  have hsE : stkE ((List.range P).map (partX b P Q)) = 0 := by unfold stkE; rw [m1, m2, s1, s3]; simp
  have hjE : joinE ((List.range P).map (partX b P Q)) = 0 := by unfold joinE; rw [if_neg hne, hbf, hsE]; simp
  refine ⟨hjE, ?_⟩
  unfold joinX stkX
  rw [if_pos hjE, if_pos hsE, m1, m2, s2, s4]
end Go.Proofs.YtokohpabmmcioaeDoor
