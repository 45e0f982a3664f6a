/- What all acts of a stage take; no plan is shorter than its dearest stage. No program in sight. -/
import Derived.Test.YtcpgomjaegickagDoorClB
namespace Go.Proofs.YtcpgomjaegickagDoor
/-- What some acts take. -/
def durS (x y : Int) : List (Int × Int) → Int
  | [] => 0
  | a :: t => (if a.1 = 2 then y else x) + durS x y t
theorem durS_app (x y : Int) : ∀ l k, durS x y (l ++ k) = durS x y l + durS x y k
  | [], k => by simp [durS]
  | a :: t, k => by
    have := durS_app x y t k
    simp only [List.cons_append, durS]
    omega
theorem durS_cnt (x y : Int) : ∀ l : List (Int × Int), durS x y l = ((l.filter (fun a => !decide (a.1 = 2))).length : Int) * x + ((l.filter (fun a => decide (a.1 = 2))).length : Int) * y
  | [] => by simp [durS]
  | a :: t => by
    have := durS_cnt x y t
    unfold durS
    rw [this]
    by_cases c : a.1 = 2
    · rw [if_pos c, List.filter_cons_of_neg (by simp [c]), List.filter_cons_of_pos (by simp [c]), List.length_cons]
      rw [show (((t.filter (fun a => decide (a.1 = 2))).length + 1 : Nat) : Int) = ((t.filter (fun a => decide (a.1 = 2))).length : Int) + 1 by omega, Int.add_mul]
      omega
    · rw [if_neg c, List.filter_cons_of_pos (by simp [c]), List.filter_cons_of_neg (by simp [c]), List.length_cons]
      rw [show (((t.filter (fun a => !decide (a.1 = 2))).length + 1 : Nat) : Int) = ((t.filter (fun a => !decide (a.1 = 2))).length : Int) + 1 by omega, Int.add_mul]
      omega
theorem cnt_le {l : List (Int × Int)} {m : Nat} (h : ∀ x ∈ l, okA (m : Int) x) (hd : l.Nodup) (q : (Int × Int) → Bool) (hq : ∀ x y, x ∈ l → y ∈ l → q x = true → q y = true → x.2 = y.2 → x = y) : (l.filter q).length ≤ m := by
  have := few_nats m ((l.filter q).map (fun x => x.2.toNat)) (by
    have hd2 : (l.filter q).Nodup := hd.filter _
    rw [List.nodup_iff_pairwise_ne, List.pairwise_map]
    rw [List.nodup_iff_pairwise_ne] at hd2
    refine List.Pairwise.imp_of_mem (fun {a b} ha hb hne e => hne ?_) hd2
    obtain ⟨a1, a2⟩ := List.mem_filter.1 ha
    obtain ⟨b1, b2⟩ := List.mem_filter.1 hb
    obtain ⟨_, _, r1, _⟩ := h a a1
    obtain ⟨_, _, r2, _⟩ := h b b1
    exact hq a b a1 b1 a2 b2 (by omega)) (fun x hx => by
    obtain ⟨y, hy, rfl⟩ := List.mem_map.1 hx
    obtain ⟨_, _, r1, r2⟩ := h y (List.mem_filter.1 hy).1
    omega)
  simpa using this
theorem filter_two (l : List (Int × Int)) (q : (Int × Int) → Bool) : (l.filter q).length + (l.filter (fun a => !q a)).length = l.length := by
  induction l with
  | nil => rfl
  | cons a t ih =>
    cases c : q a
    · rw [List.filter_cons_of_neg (by simp [c]), List.filter_cons_of_pos (by simp [c])]; simp; omega
    · rw [List.filter_cons_of_pos c, List.filter_cons_of_neg (by simp [c])]; simp; omega
/-- All acts of a stage together. -/
theorem dur_all {l : List (Int × Int)} {m : Nat} (h : ∀ x ∈ l, okA (m : Int) x) (h2 : apart l) (h3 : l.length = 2 * m) (x y : Int) : durS x y l = (m : Int) * (x + y) := by
  have hd := apart_nodup h2
  have c2 := cnt_le h hd (fun a => decide (a.1 = 2)) (fun a b ha hb qa qb e => by
    simp at qa qb
    exact Prod.ext (by rw [qa, qb]) e)
  have c1 := cnt_le h hd (fun a => !decide (a.1 = 2)) (fun a b ha hb qa qb e => by
    simp at qa qb
    obtain ⟨a1, a2, _⟩ := h a ha
    obtain ⟨b1, b2, _⟩ := h b hb
    exact Prod.ext (by omega) e)
  have := filter_two l (fun a => decide (a.1 = 2))
  rw [durS_cnt, show (l.filter (fun a => !decide (a.1 = 2))).length = m by omega, show (l.filter (fun a => decide (a.1 = 2))).length = m by omega, Int.mul_add]
theorem from_prev (p T : List (List (Int × Int))) (s i : Nat) (a : Int × Int) : prevT T s i ≤ fromT p T s i a := by
  unfold fromT
  split
  · exact Int.le_refl _
  · split <;> omega
theorem from_dep {p T : List (List (Int × Int))} {s i k : Nat} {a : Int × Int} (h : depK a s p.length = some k) : toT T k (whr a (stA p k)).toNat ≤ fromT p T s i a := by
  unfold fromT
  rw [h]
  dsimp only
  split <;> omega
theorem tm_at {p : List (List (Int × Int))} {th bk : List Int} {T : List (List (Int × Int))} (h : IsTm p th bk T) {s i : Nat} (hs : s < p.length) {a : Int × Int} (ha : (stA p s)[i]? = some a) : (stA T s)[i]? = some (fromT p T s i a, fromT p T s i a + lngA th bk s a) := h.2 s hs i a ha
theorem tm_to {p : List (List (Int × Int))} {th bk : List Int} {T : List (List (Int × Int))} (h : IsTm p th bk T) {s i : Nat} (hs : s < p.length) {a : Int × Int} (ha : (stA p s)[i]? = some a) : toT T s i = fromT p T s i a + lngA th bk s a := by unfold toT; rw [tm_at h hs ha]; rfl
/-- No act ends ahead of what all up to it take. -/
theorem to_sum {p : List (List (Int × Int))} {th bk : List Int} {T : List (List (Int × Int))} (h : IsTm p th bk T) {s : Nat} (hs : s < p.length) : ∀ (i : Nat) (a : Int × Int), (stA p s)[i]? = some a → durS ((th[s]?).getD 0) ((bk[s]?).getD 0) ((stA p s).take (i + 1)) ≤ toT T s i
  | 0, a, ha => by
    rw [tm_to h hs ha, List.take_add_one, ha, List.take_zero]
    have := from_prev p T s 0 a
    have e : prevT T s 0 = 0 := rfl
    rw [e] at this
    show durS _ _ [a] ≤ _
    unfold durS durS lngA
    omega
  | i + 1, a, ha => by
    have hi : i < (stA p s).length := by have := (List.getElem?_eq_some_iff.1 ha).1; omega
    have ih := to_sum h hs i (stA p s)[i] (List.getElem?_eq_getElem hi)
    rw [tm_to h hs ha, List.take_add_one, ha, durS_app]
    have := from_prev p T s (i + 1) a
    have e : prevT T s (i + 1) = toT T s i := rfl
    rw [e] at this
    have e2 : durS ((th[s]?).getD 0) ((bk[s]?).getD 0) (some a).toList = lngA th bk s a := by
      show durS _ _ [a] = _
      unfold durS durS lngA
      omega
    rw [e2]
    omega
theorem tm_nonneg {p : List (List (Int × Int))} {th bk : List Int} {T : List (List (Int × Int))} (h : IsTm p th bk T) (hc : Costs p th bk) {s : Nat} (hs : s < p.length) : ∀ (i : Nat) (a : Int × Int), (stA p s)[i]? = some a → 0 ≤ fromT p T s i a ∧ 0 ≤ toT T s i
  | 0, a, ha => by
    have h1 := from_prev p T s 0 a
    have e : prevT T s 0 = 0 := rfl
    have h2 := (hc s hs a).1
    rw [tm_to h hs ha]
    omega
  | i + 1, a, ha => by
    have hi : i < (stA p s).length := by have := (List.getElem?_eq_some_iff.1 ha).1; omega
    have ih := tm_nonneg h hc hs i (stA p s)[i] (List.getElem?_eq_getElem hi)
    have h1 := from_prev p T s (i + 1) a
    have e : prevT T s (i + 1) = toT T s i := rfl
    have h2 := (hc s hs a).1
    rw [tm_to h hs ha]
    omega
/-- A stage's last act ends no sooner than all of its acts take. -/
theorem last_ge {p : List (List (Int × Int))} {th bk : List Int} {T : List (List (Int × Int))} {m : Nat} (h : IsTm p th bk T) {s : Nat} (hs : s < p.length) (hm : 1 ≤ m) (hok : ∀ x ∈ stA p s, okA (m : Int) x) (hap : apart (stA p s)) (hl : (stA p s).length = 2 * m) : (m : Int) * ((th[s]?).getD 0 + (bk[s]?).getD 0) ≤ toT T s (2 * m - 1) := by
  have hi : 2 * m - 1 < (stA p s).length := by omega
  have := to_sum h hs (2 * m - 1) (stA p s)[2 * m - 1] (List.getElem?_eq_getElem hi)
  rw [List.take_of_length_le (by omega), dur_all hok hap hl] at this
  exact this
theorem whr_get {a : Int × Int} : ∀ {l : List (Int × Int)}, 0 ≤ whr a l → l[(whr a l).toNat]? = some a
  | [], h => by simp [whr] at h
  | x :: t, h => by
    unfold whr at h ⊢
    by_cases c : x = a
    · rw [if_pos c]; simp [c]
    · rw [if_neg c] at h ⊢
      by_cases d : whr a t = -1
      · rw [if_pos d] at h; omega
      · rw [if_neg d] at h ⊢
        have h0 : 0 ≤ whr a t := by have := whr_nonneg a t; omega
        have := whr_get h0
        rw [show (whr a t + 1).toNat = (whr a t).toNat + 1 by omega]
        simpa using this
end Go.Proofs.YtcpgomjaegickagDoor
