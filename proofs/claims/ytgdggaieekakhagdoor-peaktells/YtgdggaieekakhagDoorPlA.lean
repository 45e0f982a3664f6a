/- Plans as plain data, and how they lie in memory; which plans can be done. No program in sight. -/
import Derived.Test.YtgdggaieekakhagDoorCtP
namespace Go.Proofs.YtgdggaieekakhagDoor
open Go.RowKit
/-- A slice value that reads as these acts (kind, part). -/
def IsActs (w : World) (v : Value) (l : List (Int × Int)) : Prop :=
  ∃ (a : Option Addr) (cap : Nat), v = .slice a l.length cap ∧ l.length ≤ cap ∧ cap ≤ maxLen ∧ (l = [] ∨ ∃ b off, a = some ⟨b, off, none⟩ ∧ ∀ i x, l[i]? = some x → w.cell? ⟨b, off + i * 2, none⟩ = some (.int .i64 x.1) ∧ w.cell? ⟨b, off + i * 2 + 1, none⟩ = some (.int .i64 x.2))
theorem cell_bel {w w' : World} (hb : Below w.heap.size w w') {p : Addr} {v : Value} (h : w.cell? p = some v) : w'.cell? p = some v :=
  (hb.cell (p := p) (World.block_lt_of_cell? w _ h)).trans h
theorem IsActs.below {w w' : World} {v : Value} {l : List (Int × Int)} (h : IsActs w v l) (hb : Below w.heap.size w w') : IsActs w' v l := by
  obtain ⟨a, cap, h1, h2, h3, h4⟩ := h
  refine ⟨a, cap, h1, h2, h3, h4.imp id ?_⟩
  rintro ⟨b, off, ha, hc⟩
  exact ⟨b, off, ha, fun i x hx => ⟨cell_bel hb (hc i x hx).1, cell_bel hb (hc i x hx).2⟩⟩
theorem IsActs.len {w : World} {v : Value} {l : List (Int × Int)} (h : IsActs w v l) : l.length ≤ maxLen := by obtain ⟨_, _, _, h2, h3, _⟩ := h; omega
theorem IsActs.shape {w : World} {v : Value} {l : List (Int × Int)} (h : IsActs w v l) : ∃ a cap, v = .slice a l.length cap := by obtain ⟨a, cap, h1, _⟩ := h; exact ⟨a, cap, h1⟩
theorem IsActs.nil (w : World) : IsActs w (.slice none 0 0) [] := ⟨none, 0, rfl, Nat.le_refl _, Nat.zero_le _, .inl rfl⟩
/-- A slice value that reads as this plan. -/
def IsPlan (w : World) (v : Value) (p : List (List (Int × Int))) : Prop :=
  ∃ (a : Option Addr) (cap : Nat), v = .slice a p.length cap ∧ p.length ≤ cap ∧ cap ≤ maxLen ∧ (p = [] ∨ ∃ b off, a = some ⟨b, off, none⟩ ∧ ∀ i l, p[i]? = some l → ∃ s, w.cell? ⟨b, off + i, none⟩ = some s ∧ IsActs w s l)
theorem IsPlan.below {w w' : World} {v : Value} {p : List (List (Int × Int))} (h : IsPlan w v p) (hb : Below w.heap.size w w') : IsPlan w' v p := by
  obtain ⟨a, cap, h1, h2, h3, h4⟩ := h
  refine ⟨a, cap, h1, h2, h3, h4.imp id ?_⟩
  rintro ⟨b, off, ha, hc⟩
  refine ⟨b, off, ha, fun i l hl => ?_⟩
  obtain ⟨s, hs, hi⟩ := hc i l hl
  exact ⟨s, cell_bel hb hs, hi.below hb⟩
theorem IsPlan.len {w : World} {v : Value} {l : List (List (Int × Int))} (h : IsPlan w v l) : l.length ≤ maxLen := by obtain ⟨_, _, _, h2, h3, _⟩ := h; omega
theorem IsPlan.shape {w : World} {v : Value} {l : List (List (Int × Int))} (h : IsPlan w v l) : ∃ a cap, v = .slice a l.length cap := by obtain ⟨a, cap, h1, _⟩ := h; exact ⟨a, cap, h1⟩
theorem IsPlan.nil (w : World) : IsPlan w (.slice none 0 0) [] := ⟨none, 0, rfl, Nat.le_refl _, Nat.zero_le _, .inl rfl⟩
theorem act_at {l : List (Int × Int)} {i : Nat} (h : i < l.length) : ∃ x, l[i]? = some x := ⟨l[i], List.getElem?_eq_getElem h⟩
theorem stage_at {p : List (List (Int × Int))} {i : Nat} (h : i < p.length) : ∃ l, p[i]? = some l := ⟨p[i], List.getElem?_eq_getElem h⟩
/-- An act that may be. -/
def okA (m : Int) (a : Int × Int) : Prop := 1 ≤ a.1 ∧ a.1 ≤ 2 ∧ 0 ≤ a.2 ∧ a.2 < m
def apart (l : List (Int × Int)) : Prop := ∀ (i k : Nat) (x y : Int × Int), k < i → l[i]? = some x → l[k]? = some y → x ≠ y
def ahead (l : List (Int × Int)) : Prop := ∀ (i k : Nat) (x y : Int × Int), k < i → l[i]? = some x → l[k]? = some y → ¬ (x.2 = y.2 ∧ y.1 = 2)
def okAB (m : Int) (a : Int × Int) : Bool := decide (1 ≤ a.1) && decide (a.1 ≤ 2) && decide (0 ≤ a.2) && decide (a.2 < m)
theorem okAB_iff {m : Int} {a : Int × Int} : okAB m a = true ↔ okA m a := by simp [okAB, okA, and_assoc]
def apartB : List (Int × Int) → Bool
  | [] => true
  | x :: t => (!decide (x ∈ t)) && apartB t
theorem apart_cons {x : Int × Int} {t : List (Int × Int)} : apart (x :: t) ↔ x ∉ t ∧ apart t := by
  constructor
  · intro h
    refine ⟨fun hx => ?_, fun i k y z hk hy hz => h (i + 1) (k + 1) y z (by omega) (by simpa using hy) (by simpa using hz)⟩
    obtain ⟨i, hi⟩ := List.getElem?_of_mem hx
    exact h (i + 1) 0 x x (by omega) (by simpa using hi) rfl rfl
  · rintro ⟨h1, h2⟩ i k y z hk hy hz
    cases i with
    | zero => omega
    | succ i =>
      have hy' : t[i]? = some y := by simpa using hy
      cases k with
      | zero =>
        have hz' : x = z := by simpa using hz
        subst hz'
        exact fun e => h1 (by rw [← e]; exact List.mem_of_getElem? hy')
      | succ k => exact h2 i k y z (by omega) hy' (by simpa using hz)
theorem apartB_iff : ∀ {l : List (Int × Int)}, apartB l = true ↔ apart l
  | [] => by simp [apartB, apart]
  | x :: t => by rw [apart_cons, ← apartB_iff (l := t)]; simp [apartB]
def aheadB : List (Int × Int) → Bool
  | [] => true
  | y :: t => (!(decide (y.1 = 2) && t.any (fun x => decide (x.2 = y.2)))) && aheadB t
theorem ahead_cons {y : Int × Int} {t : List (Int × Int)} : ahead (y :: t) ↔ (y.1 = 2 → ∀ x ∈ t, x.2 ≠ y.2) ∧ ahead t := by
  constructor
  · intro h
    refine ⟨fun hy x hx e => ?_, fun i k x z hk hx hz => h (i + 1) (k + 1) x z (by omega) (by simpa using hx) (by simpa using hz)⟩
    obtain ⟨i, hi⟩ := List.getElem?_of_mem hx
    exact h (i + 1) 0 x y (by omega) (by simpa using hi) rfl ⟨e, hy⟩
  · rintro ⟨h1, h2⟩ i k x z hk hx hz
    cases i with
    | zero => omega
    | succ i =>
      have hx' : t[i]? = some x := by simpa using hx
      cases k with
      | zero =>
        have hz' : y = z := by simpa using hz
        subst hz'
        exact fun e => h1 e.2 x (List.mem_of_getElem? hx') e.1
      | succ k => exact h2 i k x z (by omega) hx' (by simpa using hz)
theorem aheadB_iff : ∀ {l : List (Int × Int)}, aheadB l = true ↔ ahead l
  | [] => by simp [aheadB, ahead]
  | x :: t => by
    rw [ahead_cons, ← aheadB_iff (l := t)]
    by_cases h : x.1 = 2 <;> simp [aheadB, h]
/-- What is wrong with the acts of one stage. -/
def actsE (l : List (Int × Int)) (m : Int) : Int := if ¬ (l.all (okAB m) = true) then 1 else if ¬ (apartB l = true) then 8 else if (l.length : Int) < 2 * m then 2 else if ¬ (aheadB l = true) then 5 else 0
theorem allB_iff {l : List (Int × Int)} {m : Int} : l.all (okAB m) = true ↔ ∀ x ∈ l, okA m x := by
  rw [List.all_eq_true]; exact ⟨fun h x hx => okAB_iff.1 (h x hx), fun h x hx => okAB_iff.2 (h x hx)⟩
theorem actsE_one {l : List (Int × Int)} {m : Int} {i : Nat} {x : Int × Int} (h : l[i]? = some x) (hx : ¬ okA m x) : 1 = actsE l m := by
  unfold actsE; rw [if_pos]; exact fun e => hx (allB_iff.1 e x (List.mem_of_getElem? h))
theorem all_okA {l : List (Int × Int)} {m : Int} (h : ∀ i x, i < l.length → l[i]? = some x → okA m x) : ∀ x ∈ l, okA m x := fun x hx => by
  obtain ⟨i, hi, rfl⟩ := List.getElem_of_mem hx
  exact h i _ hi (List.getElem?_eq_getElem hi)
theorem actsE_two {l : List (Int × Int)} {m : Int} (h : ∀ x ∈ l, okA m x) (h2 : ¬ apart l) : 8 = actsE l m := by unfold actsE; rw [if_neg (fun e => e (allB_iff.2 h)), if_pos (fun e => h2 (apartB_iff.1 e))]
theorem actsE_less {l : List (Int × Int)} {m : Int} (h : ∀ x ∈ l, okA m x) (h2 : apart l) (h3 : (l.length : Int) < 2 * m) : 2 = actsE l m := by unfold actsE; rw [if_neg (fun e => e (allB_iff.2 h)), if_neg (fun e => e (apartB_iff.2 h2)), if_pos h3]
theorem actsE_back {l : List (Int × Int)} {m : Int} (h : ∀ x ∈ l, okA m x) (h2 : apart l) (h3 : ¬ (l.length : Int) < 2 * m) (h4 : ¬ ahead l) : 5 = actsE l m := by unfold actsE; rw [if_neg (fun e => e (allB_iff.2 h)), if_neg (fun e => e (apartB_iff.2 h2)), if_neg h3, if_pos (fun e => h4 (aheadB_iff.1 e))]
theorem actsE_ok {l : List (Int × Int)} {m : Int} (h : ∀ x ∈ l, okA m x) (h2 : apart l) (h3 : ¬ (l.length : Int) < 2 * m) (h4 : ahead l) : 0 = actsE l m := by unfold actsE; rw [if_neg (fun e => e (allB_iff.2 h)), if_neg (fun e => e (apartB_iff.2 h2)), if_neg h3, if_neg (fun e => e (aheadB_iff.2 h4))]
theorem actsE_in {l : List (Int × Int)} {m : Int} (h : actsE l m = 0) : (∀ x ∈ l, okA m x) ∧ apart l ∧ ¬ (l.length : Int) < 2 * m ∧ ahead l := by
  unfold actsE at h
  by_cases c1 : l.all (okAB m) = true
  · rw [if_neg (fun e => e c1)] at h
    by_cases c2 : apartB l = true
    · rw [if_neg (fun e => e c2)] at h
      by_cases c3 : (l.length : Int) < 2 * m
      · rw [if_pos c3] at h; cases h
      · rw [if_neg c3] at h
        by_cases c4 : aheadB l = true
        · exact ⟨allB_iff.1 c1, apartB_iff.1 c2, c3, aheadB_iff.1 c4⟩
        · rw [if_pos c4] at h; cases h
    · rw [if_pos c2] at h; cases h
  · rw [if_pos c1] at h; cases h
/-- Acts that may be, and are apart, are at most as many as there are. -/
def codeA (m : Nat) (x : Int × Int) : Nat := (x.1.toNat - 1) * m + x.2.toNat
theorem codeA_lt {m : Nat} {x : Int × Int} (h : okA (m : Int) x) : codeA m x < 2 * m := by
  obtain ⟨h1, h2, h3, h4⟩ := h
  unfold codeA
  have : x.1.toNat - 1 = 0 ∨ x.1.toNat - 1 = 1 := by omega
  rcases this with e | e <;> rw [e] <;> omega
theorem codeA_inj {m : Nat} {x y : Int × Int} (h : okA (m : Int) x) (k : okA (m : Int) y) (e : codeA m x = codeA m y) : x = y := by
  obtain ⟨h1, h2, h3, h4⟩ := h
  obtain ⟨k1, k2, k3, k4⟩ := k
  unfold codeA at e
  have a1 : x.1.toNat - 1 = 0 ∨ x.1.toNat - 1 = 1 := by omega
  have a2 : y.1.toNat - 1 = 0 ∨ y.1.toNat - 1 = 1 := by omega
  have : x.1 = y.1 ∧ x.2 = y.2 := by
    rcases a1 with e1 | e1 <;> rcases a2 with e2 | e2 <;> rw [e1, e2] at e <;> omega
  exact Prod.ext this.1 this.2
theorem split_len (n : Nat) (l : List Nat) : l.length = (l.filter (· ≠ n)).length + l.count n := by
  induction l with
  | nil => rfl
  | cons x l ih =>
    by_cases h : x = n
    · subst h; simp at ih ⊢; omega
    · rw [List.count_cons_of_ne (fun e => h e), List.filter_cons_of_pos (by simpa using h)]
      simp at ih ⊢; omega
theorem few_nats : ∀ (n : Nat) (l : List Nat), l.Nodup → (∀ x ∈ l, x < n) → l.length ≤ n
  | 0, l, _, h => by
    cases l with
    | nil => simp
    | cons x l => exact absurd (h x (by simp)) (by omega)
  | n + 1, l, hd, h => by
    have h1 : (l.filter (· ≠ n)).length ≤ n := few_nats n _ (hd.filter _) (fun x hx => by
      have := h x (List.mem_filter.1 hx).1
      have h2 : x ≠ n := by simpa using (List.mem_filter.1 hx).2
      omega)
    have h2 := split_len n l
    have h3 : l.count n ≤ 1 := List.nodup_iff_count.1 hd n
    omega
theorem apart_nodup {l : List (Int × Int)} (h : apart l) : l.Nodup := by
  rw [List.nodup_iff_pairwise_ne, List.pairwise_iff_getElem]
  intro i j hi hj hij e
  exact h j i _ _ hij (List.getElem?_eq_getElem hj) (List.getElem?_eq_getElem hi) e.symm
theorem acts_len {l : List (Int × Int)} {m : Nat} (h : ∀ x ∈ l, okA (m : Int) x) (h2 : apart l) : l.length ≤ 2 * m := by
  have := few_nats (2 * m) (l.map (codeA m)) (by
    have hd := apart_nodup h2
    rw [List.nodup_iff_pairwise_ne, List.pairwise_map]
    rw [List.nodup_iff_pairwise_ne] at hd
    exact List.Pairwise.imp_of_mem (fun hx hy hne e => hne (codeA_inj (h _ hx) (h _ hy) e)) hd) (fun x hx => by
    obtain ⟨y, hy, rfl⟩ := List.mem_map.1 hx
    exact codeA_lt (h y hy))
  simpa using this
/-- Acts that may be, are apart, and are as many as there are: each is there. -/
theorem act_in {l : List (Int × Int)} {m : Nat} (h : ∀ x ∈ l, okA (m : Int) x) (h2 : apart l) (h3 : ¬ (l.length : Int) < 2 * (m : Int)) {x : Int × Int} (hx : okA (m : Int) x) : x ∈ l := by
  rcases Classical.em (x ∈ l) with q | q
  · exact q
  · have := acts_len (l := x :: l) (m := m) (fun y hy => by
      rcases List.mem_cons.1 hy with rfl | hy
      · exact hx
      · exact h y hy) (apart_cons.2 ⟨q, h2⟩)
    simp at this
    omega
end Go.Proofs.YtgdggaieekakhagDoor
