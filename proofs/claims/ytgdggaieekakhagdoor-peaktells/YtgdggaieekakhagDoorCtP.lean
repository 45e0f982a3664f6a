/- Plain facts on cuts: which cuts stay within a limit, the first of them, the least limit. No Go in sight; conditions: what stands in each row (pre: the costs ahead of each place, rising). -/
import Derived.Test.YtgdggaieekakhagDoorPlain
namespace Go.Proofs.YtgdggaieekakhagDoor
/-- Ends that rise from a on, the last of them n. -/
def Tl (n : Nat) : Nat → List Nat → Prop
  | a, [] => a = n
  | a, e :: t => a < e ∧ Tl n e t
/-- No stage dearer than L. -/
def Un (pre : Nat → Int) (L : Int) : Nat → List Nat → Prop
  | _, [] => True
  | a, e :: t => pre e - pre a ≤ L ∧ Un pre L e t
/-- At most r stages do, from a on; just r do. -/
def Fw (pre : Nat → Int) (n r a : Nat) (L : Int) : Prop := ∃ t, t.length ≤ r ∧ Tl n a t ∧ Un pre L a t
def Fx (pre : Nat → Int) (n r a : Nat) (L : Int) : Prop := ∃ t, t.length = r ∧ Tl n a t ∧ Un pre L a t
theorem Tl.le {n : Nat} : ∀ {a : Nat} {t : List Nat}, Tl n a t → a + t.length ≤ n
  | a, [], h => by unfold Tl at h; simp; omega
  | a, e :: t, h => by have h1 := h.1; have := Tl.le h.2; simp; omega
theorem Tl.cons {n a : Nat} {t : List Nat} (h : Tl n a t) (ha : a < n) : ∃ e t', t = e :: t' ∧ a < e ∧ Tl n e t' := by
  cases t with
  | nil => unfold Tl at h; omega
  | cons e t' => exact ⟨e, t', rfl, h.1, h.2⟩
theorem Un.mono {pre : Nat → Int} {L L' : Int} (hl : L ≤ L') : ∀ {a : Nat} {t : List Nat}, Un pre L a t → Un pre L' a t
  | _, [], _ => trivial
  | _, _ :: _, h => ⟨Int.le_trans h.1 hl, Un.mono hl h.2⟩
theorem Fw.mono {pre : Nat → Int} {n r a : Nat} {L L' : Int} (h : Fw pre n r a L) (hl : L ≤ L') : Fw pre n r a L' := by
  obtain ⟨t, h1, h2, h3⟩ := h; exact ⟨t, h1, h2, h3.mono hl⟩
theorem Fx.mono {pre : Nat → Int} {n r a : Nat} {L L' : Int} (h : Fx pre n r a L) (hl : L ≤ L') : Fx pre n r a L' := by
  obtain ⟨t, h1, h2, h3⟩ := h; exact ⟨t, h1, h2, h3.mono hl⟩
theorem Fx.fw {pre : Nat → Int} {n r a : Nat} {L : Int} (h : Fx pre n r a L) : Fw pre n r a L := by
  obtain ⟨t, h1, h2, h3⟩ := h; exact ⟨t, by omega, h2, h3⟩
theorem Fx.room {pre : Nat → Int} {n r a : Nat} {L : Int} (h : Fx pre n r a L) : a + r ≤ n := by
  obtain ⟨t, h1, h2, h3⟩ := h; have := h2.le; omega
theorem Fw.room {pre : Nat → Int} {n r a : Nat} {L : Int} (h : Fw pre n r a L) : a ≤ n := by
  obtain ⟨t, h1, h2, h3⟩ := h; have := h2.le; omega
theorem fx_succ {pre : Nat → Int} {n r a : Nat} {L : Int} : Fx pre n (r + 1) a L ↔ ∃ e, a < e ∧ pre e - pre a ≤ L ∧ Fx pre n r e L := by
  constructor
  · rintro ⟨t, h1, h2, h3⟩
    cases t with
    | nil => simp at h1
    | cons e t => exact ⟨e, h2.1, h3.1, t, by simpa using h1, h2.2, h3.2⟩
  · rintro ⟨e, h1, h2, t, h3, h4, h5⟩
    exact ⟨e :: t, by simp [h3], ⟨h1, h4⟩, ⟨h2, h5⟩⟩
/-- Where there are layers enough, fewer stages may be cut once more. -/
theorem Fw.fx {pre : Nat → Int} (hp : ∀ i j, i ≤ j → pre i ≤ pre j) {n : Nat} {L : Int} : ∀ {r a : Nat}, Fw pre n r a L → a + r ≤ n → Fx pre n r a L
  | 0, a, ⟨t, h1, h2, h3⟩, _ => ⟨t, by omega, h2, h3⟩
  | r + 1, a, ⟨t, h1, h2, h3⟩, hr => by
    obtain ⟨e, t', rfl, h4, h5⟩ := h2.cons (by omega)
    have h6 := h3.1
    simp at h1
    by_cases hc : e + r ≤ n
    · exact fx_succ.2 ⟨e, h4, h6, Fw.fx hp ⟨t', h1, h5, h3.2⟩ hc⟩
    · have hle := h5.le
      have q1 := hp (n - r) e (by omega)
      have q2 := hp a (n - r) (by omega)
      refine fx_succ.2 ⟨n - r, by omega, by omega, Fw.fx hp ⟨e :: t', ?_, ⟨by omega, h5⟩, ⟨by omega, h3.2⟩⟩ (by omega)⟩
      simp; omega
/-- The first cuts within L, number by number. -/
def First (pre : Nat → Int) (n : Nat) (L : Int) : Nat → Nat → List Nat → Prop
  | 0, _, t => t = []
  | r + 1, a, t => ∃ e t', t = e :: t' ∧ a < e ∧ Fw pre n r e L ∧ (∀ x, a < x → x < e → ¬ Fw pre n r x L) ∧ First pre n L r e t'
theorem First.one {pre : Nat → Int} {n : Nat} {L : Int} : ∀ {r a : Nat} {t u : List Nat}, First pre n L r a t → First pre n L r a u → t = u
  | 0, _, _, _, h, k => by rw [h, k]
  | r + 1, a, _, _, ⟨e, t', h1, h2, h3, h4, h5⟩, ⟨f, u', k1, k2, k3, k4, k5⟩ => by
    have : e = f := by
      rcases Nat.lt_trichotomy e f with q | q | q
      · exact absurd h3 (k4 e h2 q)
      · exact q
      · exact absurd k3 (h4 f k2 q)
    subst this
    rw [h1, k1, First.one h5 k5]
/-- Where just r stages do, the first end from which the rest does leaves room and is itself within the limit. -/
theorem first_step {pre : Nat → Int} (hp : ∀ i j, i ≤ j → pre i ≤ pre j) {n r a e : Nat} {L : Int} (h : Fx pre n (r + 1) a L) (he : Fw pre n r e L) (hm : ∀ x, a < x → x < e → ¬ Fw pre n r x L) : pre e - pre a ≤ L ∧ Fx pre n r e L := by
  obtain ⟨f, h1, h2, h3⟩ := fx_succ.1 h
  have hef : e ≤ f := by
    rcases Nat.lt_or_ge f e with q | q
    · exact absurd h3.fw (hm f h1 q)
    · exact q
  have := hp e f hef
  exact ⟨by omega, he.fx hp (by have := h3.room; omega)⟩
theorem First.tl {pre : Nat → Int} (hp : ∀ i j, i ≤ j → pre i ≤ pre j) {n : Nat} {L : Int} : ∀ {r a : Nat} {t : List Nat}, First pre n L r a t → Fx pre n r a L → t.length = r ∧ Tl n a t ∧ Un pre L a t
  | 0, a, t, h, ⟨u, k1, k2, k3⟩ => by
    obtain rfl : t = [] := h
    obtain rfl : u = [] := List.eq_nil_of_length_eq_zero k1
    exact ⟨rfl, k2, k3⟩
  | r + 1, a, t, ⟨e, t', h1, h2, h3, h4, h5⟩, k => by
    obtain ⟨q1, q2⟩ := first_step hp k h3 h4
    obtain ⟨a1, a2, a3⟩ := First.tl hp h5 q2
    subst h1
    exact ⟨by simp [a1], ⟨h2, a2⟩, ⟨q1, a3⟩⟩
/-- The least limit from P on within which just r stages do. -/
def Least (pre : Nat → Int) (n r a : Nat) (P M : Int) : Prop := P ≤ M ∧ Fx pre n r a M ∧ ∀ L, P ≤ L → Fx pre n r a L → M ≤ L
theorem Least.one {pre : Nat → Int} {n r a : Nat} {P M N : Int} (h : Least pre n r a P M) (k : Least pre n r a P N) : M = N := by
  have := h.2.2 N k.1 k.2.1
  have := k.2.2 M h.1 h.2.1
  omega
theorem Least.iff {pre : Nat → Int} {n r a : Nat} {P M : Int} (h : Least pre n r a P M) (L : Int) : M ≤ L ↔ P ≤ L ∧ Fx pre n r a L :=
  ⟨fun k => ⟨Int.le_trans h.1 k, h.2.1.mono k⟩, fun k => h.2.2 L k.1 k.2⟩
/-- One stage, to the end. -/
theorem fx_one {pre : Nat → Int} {n a : Nat} {L : Int} : Fx pre n 1 a L ↔ a < n ∧ pre n - pre a ≤ L := by
  rw [fx_succ]
  constructor
  · rintro ⟨e, h1, h2, t, h3, h4, h5⟩
    obtain rfl : t = [] := List.eq_nil_of_length_eq_zero h3
    obtain rfl : e = n := h4
    exact ⟨h1, h2⟩
  · rintro ⟨h1, h2⟩
    exact ⟨n, h1, h2, [], rfl, rfl, trivial⟩
theorem least_one {pre : Nat → Int} {n a : Nat} {P : Int} (ha : a < n) : Least pre n 1 a P (max P (pre n - pre a)) :=
  ⟨by omega, fx_one.2 ⟨ha, by omega⟩, fun L h k => by have := fx_one.1 k; omega⟩
theorem fw_zero {pre : Nat → Int} {n a : Nat} {L : Int} : Fw pre n 0 a L ↔ a = n := by
  constructor
  · rintro ⟨t, h1, h2, _⟩
    obtain rfl : t = [] := List.eq_nil_of_length_eq_zero (by omega)
    exact h2
  · intro h; exact ⟨[], by simp, h, trivial⟩
theorem first_one {pre : Nat → Int} {n a : Nat} {L : Int} (ha : a < n) : First pre n L 1 a [n] :=
  ⟨n, [], rfl, ha, fw_zero.2 rfl, fun x _ h2 h => by have := fw_zero.1 h; omega, rfl⟩
/-- What the document's answer keeps as it looks at ends up to x: the least of what they cost, and the first that costs it. -/
def Seen (pre : Nat → Int) (n r a x : Nat) (P : Int) (t : List Nat) (M : Int) : Prop :=
  ∃ e t', t = e :: t' ∧ a < e ∧ e < x ∧ P ≤ M ∧ pre e - pre a ≤ M ∧ Fx pre n r e M ∧ First pre n M r e t' ∧ (∀ f, a < f → f < x → ∀ L, P ≤ L → pre f - pre a ≤ L → Fx pre n r f L → M ≤ L ∧ (f < e → M < L))
theorem seen_first {pre : Nat → Int} {n r a : Nat} {P M : Int} {t : List Nat} (h : Least pre n r (a + 1) (max P (pre (a + 1) - pre a)) M) (k : First pre n M r (a + 1) t) : Seen pre n r a (a + 2) P ((a + 1) :: t) M :=
  ⟨a + 1, t, rfl, by omega, by omega, by have := h.1; omega, by have := h.1; omega, h.2.1, k, fun f h1 h2 L h3 h4 h5 => by
    obtain rfl : f = a + 1 := by omega
    exact ⟨h.2.2 L (by omega) h5, fun q => by omega⟩⟩
theorem Seen.less {pre : Nat → Int} {n r a x : Nat} {P M N : Int} {t u : List Nat} (s : Seen pre n r a x P t M) (hx : a < x) (h : Least pre n r x (max P (pre x - pre a)) N) (k : First pre n N r x u) (hN : N < M) : Seen pre n r a (x + 1) P (x :: u) N := by
  obtain ⟨e, t', h1, h2, h3, h4, h5, h6, h7, h8⟩ := s
  refine ⟨x, u, rfl, hx, by omega, by have := h.1; omega, by have := h.1; omega, h.2.1, k, fun f q1 q2 L q3 q4 q5 => ?_⟩
  rcases Nat.lt_or_ge f x with q | q
  · have := (h8 f q1 q L q3 q4 q5).1
    exact ⟨by omega, fun _ => by omega⟩
  · obtain rfl : f = x := by omega
    exact ⟨h.2.2 L (by omega) q5, fun q => by omega⟩
theorem Seen.more {pre : Nat → Int} {n r a x : Nat} {P M N : Int} {t : List Nat} (s : Seen pre n r a x P t M) (h : Least pre n r x (max P (pre x - pre a)) N) (hN : ¬ N < M) : Seen pre n r a (x + 1) P t M := by
  obtain ⟨e, t', h1, h2, h3, h4, h5, h6, h7, h8⟩ := s
  refine ⟨e, t', h1, h2, by omega, h4, h5, h6, h7, fun f q1 q2 L q3 q4 q5 => ?_⟩
  rcases Nat.lt_or_ge f x with q | q
  · exact h8 f q1 q L q3 q4 q5
  · obtain rfl : f = x := by omega
    have := h.2.2 L (by omega) q5
    exact ⟨by omega, fun q => by omega⟩
theorem Seen.all {pre : Nat → Int} (hp : ∀ i j, i ≤ j → pre i ≤ pre j) {n r a x : Nat} {P M : Int} {t : List Nat} (s : Seen pre n r a x P t M) (hx : n < x + r) : Least pre n (r + 1) a P M ∧ First pre n M (r + 1) a t := by
  obtain ⟨e, t', h1, h2, h3, h4, h5, h6, h7, h8⟩ := s
  refine ⟨⟨h4, fx_succ.2 ⟨e, h2, h5, h6⟩, fun L q1 q2 => ?_⟩, e, t', h1, h2, h6.fw, fun f q1 q2 q3 => ?_, h7⟩
  · obtain ⟨f, k1, k2, k3⟩ := fx_succ.1 q2
    exact (h8 f k1 (by have := k3.room; omega) L q1 k2 k3).1
  · have hr := h6.room
    have := hp f e (by omega)
    have := (h8 f q1 (by omega) M h4 (by omega) (q3.fx hp (by omega))).2 q2
    omega
/-- The costs ahead of a place. -/
def preS (cs : List Int) (k : Nat) : Int := (cs.take k).sum
theorem preS_zero (cs : List Int) : preS cs 0 = 0 := by simp [preS]
theorem preS_succ {cs : List Int} {p : Nat} {c : Int} (h : cs[p]? = some c) : preS cs (p + 1) = preS cs p + c := by
  unfold preS
  rw [List.take_add_one, h, List.sum_append]
  simp
theorem preS_out {cs : List Int} {p : Nat} (h : cs.length ≤ p) : preS cs p = preS cs cs.length := by
  unfold preS; rw [List.take_of_length_le h, List.take_length]
theorem preS_mono {cs : List Int} (h : ∀ c ∈ cs, 0 ≤ c) (i j : Nat) (hij : i ≤ j) : preS cs i ≤ preS cs j := by
  induction j with
  | zero =>
    obtain rfl : i = 0 := by omega
    exact Int.le_refl _
  | succ j ih =>
    rcases Nat.lt_or_ge j i with q | q
    · obtain rfl : i = j + 1 := by omega
      exact Int.le_refl _
    · have := ih q
      cases hc : cs[j]? with
      | none =>
        have hl := List.getElem?_eq_none_iff.1 hc
        rw [preS_out hl] at this
        rw [preS_out (show cs.length ≤ j + 1 by omega)]; exact this
      | some c =>
        have := h c (List.mem_of_getElem? hc)
        rw [preS_succ hc]; omega
theorem preS_bound {cs : List Int} (h : ∀ c ∈ cs, 0 ≤ c ∧ c ≤ 1000000) (j : Nat) : preS cs j ≤ 1000000 * j := by
  induction j with
  | zero => simp [preS]
  | succ j ih =>
    cases hc : cs[j]? with
    | none =>
      have hl := List.getElem?_eq_none_iff.1 hc
      rw [preS_out (show cs.length ≤ j + 1 by omega), ← preS_out hl]; omega
    | some c =>
      have := h c (List.mem_of_getElem? hc)
      rw [preS_succ hc]; omega
/-- How many stages there are when they are filled up one by one. -/
def gr (L : Int) : List Int → Int → Nat → Nat
  | [], _, k => k
  | c :: cs, full, k => if k = 0 ∨ L < full + c then gr L cs c (k + 1) else gr L cs (full + c) k
def fitsP (cs : List Int) (r : Nat) (L : Int) : Prop := (∀ c ∈ cs, c ≤ L) ∧ gr L cs 0 0 ≤ r
theorem gr_drop {cs : List Int} {p : Nat} {c L full : Int} {k : Nat} (h : cs[p]? = some c) : gr L (cs.drop p) full k = if k = 0 ∨ L < full + c then gr L (cs.drop (p + 1)) c (k + 1) else gr L (cs.drop (p + 1)) (full + c) k := by
  obtain ⟨hp, rfl⟩ := List.getElem?_eq_some_iff.1 h
  rw [List.drop_eq_getElem_cons hp, gr]
theorem gr_end {cs : List Int} {L full : Int} {k : Nat} : gr L (cs.drop cs.length) full k = k := by simp [gr]
theorem some_at {cs : List Int} {p : Nat} (h : p < cs.length) : ∃ c, cs[p]? = some c := ⟨cs[p], List.getElem?_eq_getElem h⟩
theorem mem_drop {cs : List Int} {a p : Nat} {c : Int} (h : cs[p]? = some c) (ha : a ≤ p) : c ∈ cs.drop a := by
  refine List.mem_of_getElem? (i := p - a) ?_
  rw [List.getElem?_drop, show a + (p - a) = p by omega, h]
theorem at_drop {cs : List Int} {a : Nat} {c : Int} (h : c ∈ cs.drop a) : ∃ p, a ≤ p ∧ p < cs.length ∧ cs[p]? = some c := by
  obtain ⟨i, hi⟩ := List.getElem?_of_mem h
  rw [List.getElem?_drop] at hi
  exact ⟨a + i, by omega, (List.getElem?_eq_some_iff.1 hi).1, hi⟩
theorem gr_least {cs : List Int} (hc : ∀ c ∈ cs, 0 ≤ c) {L : Int} : ∀ (d p s q k : Nat) (u : List Nat), cs.length - p = d → p ≤ cs.length → s ≤ p → q ≤ s → 1 ≤ k → Tl cs.length q u → Un (preS cs) L q u → u ≠ [] → gr L (cs.drop p) (preS cs p - preS cs s) k + 1 ≤ k + u.length
  | 0, p, s, q, k, u, hd, hp, hs, hq, hk, ht, hu, hne => by
    obtain rfl : p = cs.length := by omega
    rw [gr_end]
    have : u.length ≠ 0 := fun e => hne (List.eq_nil_of_length_eq_zero e)
    omega
  | d + 1, p, s, q, k, u, hd, hp, hs, hq, hk, ht, hu, hne => by
    obtain ⟨c, hcp⟩ := some_at (show p < cs.length by omega)
    have hsu := preS_succ hcp
    rw [gr_drop hcp]
    by_cases hf : L < preS cs p - preS cs s + c
    · rw [if_pos (.inr hf)]
      cases u with
      | nil => exact absurd rfl hne
      | cons e u' =>
        have h1 := hu.1
        have m1 := preS_mono hc q s hq
        have hep : e ≤ p := by
          rcases Nat.lt_or_ge p e with x | x
          · have := preS_mono hc (p + 1) e x; omega
          · exact x
        have hu' : u' ≠ [] := by
          rintro rfl
          have : e = cs.length := ht.2
          omega
        have := gr_least hc d (p + 1) p e (k + 1) u' (by omega) (by omega) (by omega) hep (by omega) ht.2 hu.2 hu'
        rw [show preS cs (p + 1) - preS cs p = c by omega] at this
        simp; omega
    · rw [if_neg (by omega)]
      have := gr_least hc d (p + 1) s q k u (by omega) (by omega) (by omega) hq hk ht hu hne
      rw [show preS cs (p + 1) - preS cs s = preS cs p - preS cs s + c by omega] at this
      exact this
theorem gr_does {cs : List Int} {L : Int} : ∀ (d p s k : Nat), cs.length - p = d → p ≤ cs.length → s < p → 1 ≤ k → preS cs p - preS cs s ≤ L → (∀ c ∈ cs.drop p, c ≤ L) → ∃ u, Tl cs.length s u ∧ Un (preS cs) L s u ∧ u.length + k = gr L (cs.drop p) (preS cs p - preS cs s) k + 1
  | 0, p, s, k, hd, hp, hs, hk, hL, ha => by
    obtain rfl : p = cs.length := by omega
    rw [gr_end]
    exact ⟨[cs.length], ⟨hs, rfl⟩, ⟨hL, trivial⟩, by simp; omega⟩
  | d + 1, p, s, k, hd, hp, hs, hk, hL, ha => by
    obtain ⟨c, hcp⟩ := some_at (show p < cs.length by omega)
    have hsu := preS_succ hcp
    have hcL := ha c (mem_drop hcp (Nat.le_refl _))
    have ha' : ∀ c ∈ cs.drop (p + 1), c ≤ L := fun x hx => by
      obtain ⟨i, h1, _, h3⟩ := at_drop hx
      exact ha x (mem_drop h3 (by omega))
    rw [gr_drop hcp]
    by_cases hf : L < preS cs p - preS cs s + c
    · rw [if_pos (.inr hf)]
      obtain ⟨u, h1, h2, h3⟩ := gr_does d (p + 1) p (k + 1) (by omega) (by omega) (by omega) (by omega) (by omega) ha'
      rw [show preS cs (p + 1) - preS cs p = c by omega] at h3
      exact ⟨p :: u, ⟨hs, h1⟩, ⟨hL, h2⟩, by simp; omega⟩
    · rw [if_neg (by omega)]
      obtain ⟨u, h1, h2, h3⟩ := gr_does d (p + 1) s k (by omega) (by omega) (by omega) hk (by omega) ha'
      rw [show preS cs (p + 1) - preS cs s = preS cs p - preS cs s + c by omega] at h3
      exact ⟨u, h1, h2, h3⟩
theorem un_each {cs : List Int} (hc : ∀ c ∈ cs, 0 ≤ c) {L : Int} : ∀ {a : Nat} {t : List Nat}, Tl cs.length a t → Un (preS cs) L a t → ∀ p c, a ≤ p → cs[p]? = some c → c ≤ L
  | a, [], h, _, p, c, h1, h2 => by
    have : a = cs.length := h
    have := (List.getElem?_eq_some_iff.1 h2).1
    omega
  | a, e :: t, h, k, p, c, h1, h2 => by
    rcases Nat.lt_or_ge p e with x | x
    · have m1 := preS_mono hc a p h1
      have m2 := preS_mono hc (p + 1) e x
      have := preS_succ h2
      have := k.1
      omega
    · exact un_each hc h.2 k.2 p c x h2
/-- Filled up one by one they are the fewest: so many stages are enough just where it says so. -/
theorem fits_iff {cs : List Int} (hc : ∀ c ∈ cs, 0 ≤ c) (r a : Nat) (L : Int) (ha : a ≤ cs.length) : fitsP (cs.drop a) r L ↔ Fw (preS cs) cs.length r a L := by
  unfold fitsP
  rcases Nat.lt_or_ge a cs.length with h | h
  · obtain ⟨c, hca⟩ := some_at h
    have hsu := preS_succ hca
    rw [gr_drop hca, if_pos (.inl rfl), Nat.zero_add]
    constructor
    · rintro ⟨h1, h2⟩
      obtain ⟨u, q1, q2, q3⟩ := gr_does (cs := cs) (L := L) _ (a + 1) a 1 rfl (by omega) (by omega) (by omega) (by have := h1 c (mem_drop hca (Nat.le_refl _)); omega) (fun x hx => by
        obtain ⟨i, k1, _, k3⟩ := at_drop hx
        exact h1 x (mem_drop k3 (by omega)))
      rw [show preS cs (a + 1) - preS cs a = c by omega] at q3
      exact ⟨u, by omega, q1, q2⟩
    · rintro ⟨t, h1, h2, h3⟩
      refine ⟨fun x hx => ?_, ?_⟩
      · obtain ⟨i, k1, _, k3⟩ := at_drop hx
        exact un_each hc h2 h3 i x k1 k3
      · have := gr_least hc _ (a + 1) a a 1 t rfl (by omega) (by omega) (by omega) (by omega) h2 h3 (by
          rintro rfl
          have : a = cs.length := h2
          omega)
        rw [show preS cs (a + 1) - preS cs a = c by omega] at this
        omega
  · obtain rfl : a = cs.length := by omega
    constructor
    · intro _; exact ⟨[], by simp, rfl, trivial⟩
    · intro _; simp [gr]
end Go.Proofs.YtgdggaieekakhagDoor
