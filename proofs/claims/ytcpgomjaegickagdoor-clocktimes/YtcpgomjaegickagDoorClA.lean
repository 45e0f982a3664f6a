/- When what is done: the times of a plan as plain data; there is just one such table; how the document's answer comes to it. No program in sight. -/
import Derived.Test.YtcpgomjaegickagDoorPlB
namespace Go.Proofs.YtcpgomjaegickagDoor
def lngA (th bk : List Int) (s : Nat) (a : Int × Int) : Int := if a.1 = 2 then (bk[s]?).getD 0 else (th[s]?).getD 0
def toT (T : List (List (Int × Int))) (s i : Nat) : Int := (((stA T s)[i]?).getD (0, 0)).2
/-- Whom an act waits for. -/
def depK (a : Int × Int) (s n : Nat) : Option Nat := if a.1 = 2 then (if s + 1 < n then some (s + 1) else none) else (if s = 0 then none else some (s - 1))
def prevT (T : List (List (Int × Int))) (s i : Nat) : Int := if i = 0 then 0 else toT T s (i - 1)
def fromT (p T : List (List (Int × Int))) (s i : Nat) (a : Int × Int) : Int :=
  match depK a s p.length with
  | none => prevT T s i
  | some k => if prevT T s i < toT T k (whr a (stA p k)).toNat then toT T k (whr a (stA p k)).toNat else prevT T s i
def newT (p : List (List (Int × Int))) (th bk : List Int) (T : List (List (Int × Int))) (s i : Nat) (a : Int × Int) : Int × Int := (fromT p T s i a, fromT p T s i a + lngA th bk s a)
def EqAt (p : List (List (Int × Int))) (th bk : List Int) (T : List (List (Int × Int))) (s i : Nat) : Prop := ∀ a, (stA p s)[i]? = some a → (stA T s)[i]? = some (newT p th bk T s i a)
def Shp (p T : List (List (Int × Int))) : Prop := T.length = p.length ∧ ∀ s, s < p.length → (stA T s).length = (stA p s).length
/-- A table of times. -/
def IsTm (p : List (List (Int × Int))) (th bk : List Int) (T : List (List (Int × Int))) : Prop := Shp p T ∧ ∀ s, s < p.length → ∀ i, EqAt p th bk T s i
theorem depK_nb {a : Int × Int} {s n k : Nat} (hs : s < n) : depK a s n = some k ↔ k < n ∧ nbA a s k := by
  unfold depK nbA
  by_cases c : a.1 = 2
  · rw [if_pos c]
    by_cases d : s + 1 < n
    · rw [if_pos d]
      constructor
      · intro e; have := Option.some.inj e; exact ⟨by omega, .inl ⟨c, this.symm⟩⟩
      · rintro ⟨_, ⟨_, e⟩ | ⟨e, _⟩⟩
        · rw [e]
        · exact absurd c e
    · rw [if_neg d]
      constructor
      · intro e; cases e
      · rintro ⟨h, ⟨_, e⟩ | ⟨e, _⟩⟩
        · omega
        · exact absurd c e
  · rw [if_neg c]
    by_cases d : s = 0
    · rw [if_pos d]
      constructor
      · intro e; cases e
      · rintro ⟨_, ⟨e, _⟩ | ⟨_, e⟩⟩
        · exact absurd e c
        · omega
    · rw [if_neg d]
      constructor
      · intro e; have := Option.some.inj e; exact ⟨by omega, .inr ⟨c, by omega⟩⟩
      · rintro ⟨_, ⟨e, _⟩ | ⟨_, e⟩⟩
        · exact absurd e c
        · rw [show s - 1 = k by omega]
/-- In a plan that is right each act stands at each stage. -/
def AllIn (p : List (List (Int × Int))) : Prop := ∀ s k, s < p.length → k < p.length → ∀ a, a ∈ stA p s → 0 ≤ whr a (stA p k)
/-- What is reckoned of an act hangs on what lies below g alone, if the stage can go on there. -/
theorem new_same {p : List (List (Int × Int))} {th bk : List Int} {T T' : List (List (Int × Int))} {g : List Nat} {s i : Nat} {a : Int × Int} (hin : AllIn p) (hs : s < p.length) (ha : (stA p s)[i]? = some a) (hi : i ≤ atN g s)
    (hd : ∀ k, k < p.length → nbA a s k → whr a (stA p k) < (atN g k : Int)) (hsame : ∀ k j, k < p.length → j < atN g k → (stA T k)[j]? = (stA T' k)[j]?) : newT p th bk T s i a = newT p th bk T' s i a := by
  have hp : prevT T s i = prevT T' s i := by
    unfold prevT
    by_cases c : i = 0
    · rw [if_pos c, if_pos c]
    · rw [if_neg c, if_neg c]
      unfold toT
      rw [hsame s (i - 1) hs (by omega)]
  have hf : fromT p T s i a = fromT p T' s i a := by
    unfold fromT
    cases h : depK a s p.length with
    | none => exact hp
    | some k =>
      obtain ⟨hk, hn⟩ := (depK_nb hs).1 h
      have h1 := hd k hk hn
      have h2 := hin s k hs hk a (List.mem_of_getElem? ha)
      have : toT T k (whr a (stA p k)).toNat = toT T' k (whr a (stA p k)).toNat := by
        unfold toT
        rw [hsame k _ hk (by omega)]
      dsimp only
      rw [hp, this]
  unfold newT
  rw [hf]
theorem und_full {p : List (List (Int × Int))} (h : doneB p = true) {g : List Nat} (hg : Closed p g) {s : Nat} (hs : s < p.length) : (stA p s).length ≤ atN g s := by
  obtain ⟨k1, k2⟩ := fin_ok (p := p) (n := sumN (lens p) p.length) (f := zeroN p) (by simp [zeroN]) (und_zero p) (fun s _ => by rw [zeroN_at]; omega) (by omega)
  have := (done_iff k1 k2).1 h s hs
  have := k1 g hg s hs
  omega
/-- How far two lists are the same. -/
def cpl : List (Int × Int) → List (Int × Int) → Nat
  | x :: l, y :: m => if x = y then cpl l m + 1 else 0
  | _, _ => 0
theorem cpl_at : ∀ {l m : List (Int × Int)} {i : Nat}, i < cpl l m → l[i]? = m[i]?
  | [], m, i, h => by simp [cpl] at h
  | x :: l, [], i, h => by simp [cpl] at h
  | x :: l, y :: m, i, h => by
    unfold cpl at h
    by_cases c : x = y
    · rw [if_pos c] at h
      cases i with
      | zero => simp [c]
      | succ i => simpa using cpl_at (l := l) (m := m) (i := i) (by omega)
    · rw [if_neg c] at h; omega
theorem cpl_ne : ∀ {l m : List (Int × Int)}, l.length = m.length → cpl l m < l.length → l[cpl l m]? ≠ m[cpl l m]?
  | [], m, hl, h => by simp at h
  | x :: l, [], hl, h => by simp at hl
  | x :: l, y :: m, hl, h => by
    unfold cpl at h ⊢
    by_cases c : x = y
    · rw [if_pos c] at h ⊢
      have := cpl_ne (l := l) (m := m) (by simpa using hl) (by simpa using h)
      simpa using this
    · rw [if_neg c]
      simpa using c
theorem cpl_le : ∀ (l m : List (Int × Int)), cpl l m ≤ l.length
  | [], m => by simp [cpl]
  | x :: l, [] => by simp [cpl]
  | x :: l, y :: m => by
    unfold cpl
    have := cpl_le l m
    split <;> simp <;> omega
def agr (p T T' : List (List (Int × Int))) : List Nat := (List.range p.length).map (fun s => cpl (stA T s) (stA T' s))
theorem agr_at {p T T' : List (List (Int × Int))} {s : Nat} (hs : s < p.length) : atN (agr p T T') s = cpl (stA T s) (stA T' s) := by
  unfold atN agr
  simp [hs]
theorem stA_ext {T T' : List (List (Int × Int))} {n : Nat} (h1 : T.length = n) (h2 : T'.length = n) (h : ∀ s, s < n → stA T s = stA T' s) : T = T' := by
  apply List.ext_getElem?
  intro i
  by_cases hi : i < n
  · have := h i hi
    unfold stA at this
    rw [List.getElem?_eq_getElem (by omega), List.getElem?_eq_getElem (by omega)] at this ⊢
    simpa using this
  · rw [List.getElem?_eq_none (by omega), List.getElem?_eq_none (by omega)]
/-- There is just one table of times. -/
theorem tm_one {p : List (List (Int × Int))} {th bk : List Int} {T T' : List (List (Int × Int))} (hin : AllIn p) (hdn : doneB p = true) (h : IsTm p th bk T) (h' : IsTm p th bk T') : T = T' := by
  obtain ⟨⟨l1, l2⟩, e1⟩ := h
  obtain ⟨⟨m1, m2⟩, e2⟩ := h'
  have hcl : Closed p (agr p T T') := by
    rintro s hs ⟨a, ha, hd⟩
    rw [agr_at hs] at ha
    have hlt := (List.getElem?_eq_some_iff.1 ha).1
    have hnew := new_same (th := th) (bk := bk) (T := T) (T' := T') (g := agr p T T') hin hs ha (by rw [agr_at hs]; exact Nat.le_refl _) hd (fun k j hk hj => by rw [agr_at hk] at hj; exact cpl_at hj)
    refine cpl_ne (l := stA T s) (m := stA T' s) (by rw [l2 s hs, m2 s hs]) (by rw [l2 s hs]; exact hlt) ?_
    rw [e1 s hs _ a ha, e2 s hs _ a ha, hnew]
  refine stA_ext l1 m1 (fun s hs => ?_)
  have hf := und_full hdn hcl hs
  rw [agr_at hs] at hf
  apply List.ext_getElem?
  intro i
  by_cases hi : i < (stA p s).length
  · exact cpl_at (by omega)
  · rw [List.getElem?_eq_none (by rw [l2 s hs]; omega), List.getElem?_eq_none (by rw [m2 s hs]; omega)]
/-- Up to g all is reckoned, and stays. -/
def GoodT (p : List (List (Int × Int))) (th bk : List Int) (T : List (List (Int × Int))) (g : List Nat) : Prop :=
  (g.length = p.length ∧ ∀ s, s < p.length → atN g s ≤ (stA p s).length) ∧ ∀ s, s < p.length → ∀ i a, i < atN g s → (stA p s)[i]? = some a → (stA T s)[i]? = some (newT p th bk T s i a) ∧ ∀ k, k < p.length → nbA a s k → whr a (stA p k) < (atN g k : Int)
def nextG (p : List (List (Int × Int))) (g : List Nat) : List Nat := (List.range p.length).map (fun s => if canB p g s then atN g s + 1 else atN g s)
theorem nextG_at {p : List (List (Int × Int))} {g : List Nat} {s : Nat} (hs : s < p.length) : atN (nextG p g) s = if canB p g s then atN g s + 1 else atN g s := by
  unfold nextG
  rw [show atN ((List.range p.length).map (fun s => if canB p g s then atN g s + 1 else atN g s)) s = (((List.range p.length).map (fun s => if canB p g s then atN g s + 1 else atN g s))[s]?).getD 0 from rfl]
  simp [hs]
theorem nextG_le {p : List (List (Int × Int))} {g : List Nat} {s : Nat} (hs : s < p.length) : atN g s ≤ atN (nextG p g) s := by
  rw [nextG_at hs]; split <;> omega
theorem sumN_lt {f g : List Nat} {k : Nat} (h : ∀ s, s < k → atN f s ≤ atN g s) {t : Nat} (ht : t < k) (hlt : atN f t < atN g t) : sumN f k < sumN g k := by
  rcases Nat.lt_or_ge (sumN f k) (sumN g k) with q | q
  · exact q
  · have := sumN_eq h q t ht
    omega
/-- Who has not come to an end can go on somewhere. -/
theorem next_more {p : List (List (Int × Int))} (hdn : doneB p = true) {g : List Nat} {t : Nat} (ht : t < p.length) (hlt : atN g t < (stA p t).length) : sumN g p.length < sumN (nextG p g) p.length := by
  rcases Classical.em (∃ s, s < p.length ∧ Can p g s) with ⟨s, hs, hc⟩ | hno
  · refine sumN_lt (fun s hs => nextG_le hs) hs ?_
    rw [nextG_at hs, if_pos (canB_iff.2 hc)]; omega
  · have hcl : Closed p g := fun s hs hc => hno ⟨s, hs, hc⟩
    have := und_full hdn hcl ht
    omega
theorem good_next {p : List (List (Int × Int))} {th bk : List Int} {T0 T : List (List (Int × Int))} {g : List Nat} (hin : AllIn p) (h : GoodT p th bk T0 g) (hsame : ∀ k j, k < p.length → j < atN g k → (stA T k)[j]? = (stA T0 k)[j]?)
    (hcan : ∀ s, s < p.length → Can p g s → ∀ a, (stA p s)[atN g s]? = some a → (stA T s)[atN g s]? = some (newT p th bk T0 s (atN g s) a)) : GoodT p th bk T (nextG p g) := by
  obtain ⟨⟨g1, g2⟩, g3⟩ := h
  refine ⟨⟨by simp [nextG], fun s hs => ?_⟩, fun s hs i a hi ha => ?_⟩
  · rw [nextG_at hs]
    by_cases c : canB p g s = true
    · rw [if_pos c]; exact (canB_iff.1 c).lt.2
    · rw [if_neg c]; exact g2 s hs
  · have key : ∀ (i : Nat) (a : Int × Int), i ≤ atN g s → (stA p s)[i]? = some a → (stA T s)[i]? = some (newT p th bk T0 s i a) → (∀ k, k < p.length → nbA a s k → whr a (stA p k) < (atN g k : Int)) → (stA T s)[i]? = some (newT p th bk T s i a) ∧ ∀ k, k < p.length → nbA a s k → whr a (stA p k) < (atN (nextG p g) k : Int) := fun i a hi ha he hd => by
      refine ⟨?_, fun k hk hn => by have := hd k hk hn; have := nextG_le (g := g) hk; omega⟩
      rw [he, new_same (T := T) (T' := T0) hin hs ha hi hd hsame]
    rcases Nat.lt_or_ge i (atN g s) with q | q
    · obtain ⟨r1, r2⟩ := g3 s hs i a q ha
      exact key i a (by omega) ha (by rw [hsame s i hs q]; exact r1) r2
    · rw [nextG_at hs] at hi
      by_cases c : canB p g s = true
      · rw [if_pos c] at hi
        obtain rfl : i = atN g s := by omega
        have hc := canB_iff.1 c
        refine key _ a (Nat.le_refl _) ha (hcan s hs hc a ha) ?_
        obtain ⟨b, hb, hd⟩ := hc
        rw [ha] at hb
        obtain rfl := Option.some.inj hb
        exact hd
      · rw [if_neg c] at hi; omega
theorem good_all {p : List (List (Int × Int))} {th bk : List Int} {T : List (List (Int × Int))} {g : List Nat} (h : GoodT p th bk T g) (hf : ∀ s, s < p.length → (stA p s).length ≤ atN g s) {s : Nat} (hs : s < p.length) (i : Nat) : EqAt p th bk T s i := fun a ha => by
  have := (List.getElem?_eq_some_iff.1 ha).1
  exact (h.2 s hs i a (by have := hf s hs; omega) ha).1
end Go.Proofs.YtcpgomjaegickagDoor
