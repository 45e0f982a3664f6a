/- Numbers and matrices are read: what is taken is just what is written of them. No program in sight. -/
import Derived.Test.YtaajlggpjholeahDoorWrQ
namespace Go.Proofs.YtaajlggpjholeahDoor
theorem rdB_canon : ∀ {j : Nat} {f : Bool} {P acc : Int} {l : List Int} {x : Int} {t : List Int}, (∀ d ∈ l, 0 ≤ d ∧ d < 256) → rdB j f P acc l = some (x, t) → ∃ n : Nat, x = acc + (n : Int) * P ∧ l = sevF j n ++ t ∧ n < 128 ^ j ∧ (f = true ∨ n ≠ 0)
  | 0, f, P, acc, l, x, t, _, h => by simp [rdB] at h
  | j + 1, f, P, acc, [], x, t, _, h => by simp [rdB] at h
  | j + 1, f, P, acc, d :: l, x, t, hl, h => by
    have hd := hl d (by simp)
    have hp : 1 ≤ 128 ^ j := Nat.pos_of_ne_zero (by intro e; have := Nat.pow_eq_zero.1 e; omega)
    unfold rdB at h
    by_cases c : d < 128
    · rw [if_pos c] at h
      by_cases e : d = 0 ∧ f = false
      · rw [if_pos e] at h; cases h
      · rw [if_neg e] at h
        obtain ⟨h1, h2⟩ := Prod.mk.inj (Option.some.inj h)
        refine ⟨d.toNat, ?_, ?_, by rw [Nat.pow_succ]; omega, ?_⟩
        · rw [← h1, show d % 128 = d by omega, show ((d.toNat : Nat) : Int) = d by omega]
        · rw [sevF, if_pos (by omega), show ((d.toNat : Nat) : Int) = d by omega, h2]; rfl
        · cases f with
          | true => exact .inl rfl
          | false => exact .inr (fun q => e ⟨by omega, rfl⟩)
    · rw [if_neg c] at h
      obtain ⟨n, h1, h2, h3, h4⟩ := rdB_canon (fun d hd => hl d (List.mem_cons_of_mem _ hd)) h
      have hn : n ≠ 0 := h4.resolve_left (by simp)
      refine ⟨(d % 128).toNat + 128 * n, ?_, ?_, by rw [Nat.pow_succ]; omega, .inr (by omega)⟩
      · rw [h1, show (((d % 128).toNat + 128 * n : Nat) : Int) = d % 128 + 128 * (n : Int) by omega, Int.add_mul, show P * 128 = 128 * P from Int.mul_comm _ _, ← Int.mul_assoc, Int.mul_comm (n : Int) 128, Int.add_assoc]
      · rw [sevF, if_neg (by omega), show ((128 + ((d % 128).toNat + 128 * n) % 128 : Nat) : Int) = d by omega, show ((d % 128).toNat + 128 * n) / 128 = n by omega, h2]; rfl
/-- A reader, and the numbers that it reads: what it takes is just what is written of them, and is taken again whatever stands behind it. -/
def Canon {α : Type} (p : List Int → Option (α × List Int)) (enc : α → List Nat) : Prop := ∀ (b : List Int) (x : α) (t : List Int), (∀ d ∈ b, 0 ≤ d ∧ d < 256) → p b = some (x, t) → b = wrNs (enc x) ++ t ∧ ∀ t', p (wrNs (enc x) ++ t') = some (x, t')
theorem wr_cons (n : Nat) (l : List Nat) : wrNs (n :: l) = sev n ++ wrNs l := by simp [wrNs]
theorem rd1_canon : Canon rd1 (fun x => [x.toNat]) := by
  intro b x t hb h
  obtain ⟨n, h1, h2, h3, _⟩ := rdB_canon hb h
  have hx : x = (n : Int) := by omega
  subst hx
  have e : wrNs [((n : Int)).toNat] = sev n := by rw [Int.toNat_natCast]; simp [wrNs]
  dsimp only
  rw [e]
  exact ⟨h2, fun t' => rd1_sev h3 t'⟩
theorem rd1_nn {b : List Int} {x : Int} {t : List Int} (hb : ∀ d ∈ b, 0 ≤ d ∧ d < 256) (h : rd1 b = some (x, t)) : 0 ≤ x ∧ okN x.toNat := by
  obtain ⟨n, h1, h2, h3, _⟩ := rdB_canon hb h
  have hx : x = (n : Int) := by omega
  subst hx
  exact ⟨by omega, by rw [Int.toNat_natCast]; exact h3⟩
theorem byte_tail {u t : List Int} (h : ∀ d ∈ u ++ t, 0 ≤ d ∧ d < 256) : ∀ d ∈ t, 0 ≤ d ∧ d < 256 := fun d hd => h d (List.mem_append_right _ hd)
theorem rdNs_canon : ∀ (K : Nat), Canon (rdNs K) (fun hs => hs.map Int.toNat)
  | 0 => by
    intro b x t hb h
    simp only [rdNs] at h
    obtain ⟨h1, h2⟩ := Prod.mk.inj (Option.some.inj h)
    subst h1 h2
    exact ⟨by simp [wrNs], fun t' => by simp [wrNs, rdNs]⟩
  | K + 1 => by
    intro b x t hb h
    cases h1 : rd1 b with
    | none => rw [rdNs_no h1] at h; cases h
    | some p =>
      obtain ⟨y, u⟩ := p
      rw [rdNs_yes h1] at h
      obtain ⟨e1, e2⟩ := rd1_canon b y u hb h1
      have hu : ∀ d ∈ u, 0 ≤ d ∧ d < 256 := by rw [e1] at hb; exact byte_tail hb
      cases h2 : rdNs K u with
      | none => rw [h2] at h; cases h
      | some q =>
        obtain ⟨ys, v⟩ := q
        rw [h2] at h
        dsimp only at h
        obtain ⟨g1, g2⟩ := Prod.mk.inj (Option.some.inj h)
        subst g1 g2
        obtain ⟨f1, f2⟩ := rdNs_canon K u ys v hu h2
        have ew : ∀ r : List Int, wrNs ((y :: ys).map Int.toNat) ++ r = wrNs [y.toNat] ++ (wrNs (ys.map Int.toNat) ++ r) := fun r => by
          rw [List.map_cons, wr_cons, wr_cons]; simp [wrNs]
        refine ⟨by dsimp only; rw [ew, ← f1, ← e1], fun t' => ?_⟩
        dsimp only
        rw [ew, rdNs_yes (e2 _), f2]
theorem rdNs_len : ∀ {K : Nat} {b : List Int} {x : List Int} {t : List Int}, rdNs K b = some (x, t) → x.length = K
  | 0, b, x, t, h => by simp only [rdNs] at h; rw [← (Prod.mk.inj (Option.some.inj h)).1]; rfl
  | K + 1, b, x, t, h => by
    cases h1 : rd1 b with
    | none => rw [rdNs_no h1] at h; cases h
    | some p =>
      obtain ⟨y, u⟩ := p
      rw [rdNs_yes h1] at h
      cases h2 : rdNs K u with
      | none => rw [h2] at h; cases h
      | some q =>
        obtain ⟨ys, v⟩ := q
        rw [h2] at h
        dsimp only at h
        rw [← (Prod.mk.inj (Option.some.inj h)).1, List.length_cons, rdNs_len h2]
theorem rdNs_nn : ∀ {K : Nat} {b : List Int} {x : List Int} {t : List Int}, (∀ d ∈ b, 0 ≤ d ∧ d < 256) → rdNs K b = some (x, t) → ∀ y ∈ x, 0 ≤ y ∧ okN y.toNat
  | 0, b, x, t, _, h => by simp only [rdNs] at h; rw [← (Prod.mk.inj (Option.some.inj h)).1]; simp
  | K + 1, b, x, t, hb, h => by
    cases h1 : rd1 b with
    | none => rw [rdNs_no h1] at h; cases h
    | some p =>
      obtain ⟨y, u⟩ := p
      rw [rdNs_yes h1] at h
      obtain ⟨e1, _⟩ := rd1_canon b y u hb h1
      have hu : ∀ d ∈ u, 0 ≤ d ∧ d < 256 := by rw [e1] at hb; exact byte_tail hb
      cases h2 : rdNs K u with
      | none => rw [h2] at h; cases h
      | some q =>
        obtain ⟨ys, v⟩ := q
        rw [h2] at h
        dsimp only at h
        rw [← (Prod.mk.inj (Option.some.inj h)).1]
        intro z hz
        rcases List.mem_cons.1 hz with e | e
        · rw [e]; exact rd1_nn hb h1
        · exact rdNs_nn hu h2 z e
/-- A matrix as numbers. -/
def mxN (m : Mx) : List Nat := m.rows.toNat :: m.cols.toNat :: m.cells.map zig
/-- A matrix is read: its cells may still be beyond the ends. -/
def rdM (b : List Int) : Option (Mx × List Int) :=
  match rdNs 2 b with
  | some ([r, c], t) => if 24 < r ∨ 12 < c then none else match rdNs (r * c).toNat t with
    | none => none
    | some (zs, t') => some (⟨r, c, zs.map unz⟩, t')
  | _ => none
theorem rdM_no {b : List Int} (h : rdNs 2 b = none) : rdM b = none := by unfold rdM; rw [h]
theorem rdM_two {b t : List Int} {r c : Int} (h : rdNs 2 b = some ([r, c], t)) : rdM b = if 24 < r ∨ 12 < c then none else match rdNs (r * c).toNat t with
    | none => none
    | some (zs, t') => some (⟨r, c, zs.map unz⟩, t') := by unfold rdM; rw [h]
theorem twoI_of {l : List Int} (h : l.length = 2) : ∃ a b, l = [a, b] := by
  match l, h with
  | [a, b], _ => exact ⟨a, b, rfl⟩
theorem rdM_some {b t : List Int} {m : Mx} (h : rdM b = some (m, t)) : ∃ u zs, rdNs 2 b = some ([m.rows, m.cols], u) ∧ ¬ (24 < m.rows ∨ 12 < m.cols) ∧ rdNs (m.rows * m.cols).toNat u = some (zs, t) ∧ m.cells = zs.map unz := by
  cases h1 : rdNs 2 b with
  | none => rw [rdM_no h1] at h; cases h
  | some p =>
    obtain ⟨hs, u⟩ := p
    obtain ⟨r, c, rfl⟩ := twoI_of (rdNs_len h1)
    rw [rdM_two h1] at h
    by_cases hf : 24 < r ∨ 12 < c
    · rw [if_pos hf] at h; cases h
    · rw [if_neg hf] at h
      cases h2 : rdNs (r * c).toNat u with
      | none => rw [h2] at h; cases h
      | some q =>
        obtain ⟨zs, v⟩ := q
        rw [h2] at h
        dsimp only at h
        obtain ⟨g1, g2⟩ := Prod.mk.inj (Option.some.inj h)
        subst g1 g2
        exact ⟨u, zs, rfl, hf, h2, rfl⟩
theorem zig_unz {n : Int} (h : 0 ≤ n) : zig (unz n) = n.toNat := by
  unfold zig unz
  by_cases c : n % 2 = 1
  · rw [if_pos c, if_neg (by omega)]; omega
  · rw [if_neg c, if_pos (by omega)]; omega
theorem rdM_canon : Canon rdM mxN := by
  intro b m t hb h
  obtain ⟨u, zs, h1, hf, h2, hc⟩ := rdM_some h
  obtain ⟨e1, e2⟩ := rdNs_canon 2 b _ u hb h1
  have hu : ∀ d ∈ u, 0 ≤ d ∧ d < 256 := by rw [e1] at hb; exact byte_tail hb
  obtain ⟨f1, f2⟩ := rdNs_canon _ u zs t hu h2
  have hz : m.cells.map zig = zs.map Int.toNat := by
    rw [hc, List.map_map]
    exact List.map_congr_left (fun z hz => zig_unz (rdNs_nn hu h2 z hz).1)
  have ew : ∀ r : List Int, wrNs (mxN m) ++ r = wrNs ([m.rows, m.cols].map Int.toNat) ++ (wrNs (zs.map Int.toNat) ++ r) := fun r => by
    unfold mxN
    rw [hz]
    simp [wrNs]
  refine ⟨by rw [ew, ← f1, ← e1], fun t' => ?_⟩
  rw [ew, rdM_two (e2 _), if_neg hf, f2]
  dsimp only
  rw [← hc]
theorem rdM_back {m : Mx} (h : fault m = 0) (t : List Int) : rdM (wrNs (mxN m) ++ t) = some (m, t) := by
  obtain ⟨⟨r1, r2, r3, r4⟩, hl, hc⟩ := fault_zero h
  have ew : wrNs (mxN m) ++ t = wrNs [m.rows.toNat, m.cols.toNat] ++ (wrNs (m.cells.map zig) ++ t) := by unfold mxN; simp [wrNs]
  have ok2 : ∀ n ∈ [m.rows.toNat, m.cols.toNat], okN n := fun n hn => by
    unfold okN
    simp at hn
    have : n ≤ 1000 := by omega
    exact Nat.lt_of_le_of_lt this (by decide)
  have okc : ∀ n ∈ m.cells.map zig, okN n := fun n hn => by
    obtain ⟨x, hx, rfl⟩ := List.mem_map.1 hn
    have := hc x hx
    have hz : zig x ≤ 5000000000 := by unfold zig; split <;> omega
    unfold okN
    exact Nat.lt_of_le_of_lt hz (by decide)
  have h1 := rdNs_wr ok2 (wrNs (m.cells.map zig) ++ t)
  have h2 := rdNs_wr okc t
  rw [List.length_map] at h2
  rw [ew, rdM_two (r := m.rows) (c := m.cols) (t := wrNs (m.cells.map zig) ++ t) (by
    rw [show ([m.rows.toNat, m.cols.toNat].map (fun (n : Nat) => (n : Int))) = [m.rows, m.cols] by simp; omega] at h1
    exact h1), if_neg (by omega), show (m.rows * m.cols).toNat = m.cells.length by omega, h2]
  dsimp only
  congr 2
  have := cell_cast m
  unfold cellN at this
  rw [this]
theorem rdNs_add : ∀ (a b : Nat) (l : List Int), rdNs (a + b) l = match rdNs a l with | none => none | some (x, t) => match rdNs b t with | none => none | some (y, t') => some (x ++ y, t')
  | 0, b, l => by
    rw [Nat.zero_add]
    simp only [rdNs]
    cases rdNs b l <;> rfl
  | a + 1, b, l => by
    rw [show a + 1 + b = (a + b) + 1 by omega]
    cases h : rd1 l with
    | none => rw [rdNs_no h, rdNs_no h]
    | some p =>
      obtain ⟨x, t⟩ := p
      rw [rdNs_yes h, rdNs_yes h, rdNs_add a b t]
      cases h2 : rdNs a t with
      | none => rfl
      | some q =>
        obtain ⟨y, u⟩ := q
        dsimp only
        cases h3 : rdNs b u with
        | none => rfl
        | some q => rfl
theorem rdMsg_no {l : List Int} (h : rdNs 2 l = none) : rdMsg l = none := by
  unfold rdMsg
  rw [show (4 : Nat) = 2 + 2 from rfl, rdNs_add, h]
theorem rdMsg_two {l t : List Int} {k mi : Int} (h : rdNs 2 l = some ([k, mi], t)) : rdMsg l = match rdM t with | none => none | some (b, t') => rdEnd l k mi b t' := by
  unfold rdMsg
  rw [show (4 : Nat) = 2 + 2 from rfl, rdNs_add, h]
  dsimp only
  cases h1 : rdNs 2 t with
  | none => rw [rdM_no h1]
  | some p =>
    obtain ⟨hs, u⟩ := p
    obtain ⟨r, c, rfl⟩ := twoI_of (rdNs_len h1)
    rw [rdM_two h1]
    dsimp only
    show rdMid l [k, mi, r, c] u = _
    unfold rdMid
    dsimp only
    by_cases hf : 24 < r ∨ 12 < c
    · rw [if_pos hf, if_pos hf]
    · rw [if_neg hf, if_neg hf]
      cases rdNs (r * c).toNat u with
      | none => rfl
      | some q => rfl
end Go.Proofs.YtaajlggpjholeahDoor
