/- One round of all acts, as the document's answer makes it: plain data. -/
import Derived.Test.YtcpgomjaegickagDoorClA
namespace Go.Proofs.YtcpgomjaegickagDoor
def setT (T : List (List (Int × Int))) (s i : Nat) (x : Int × Int) : List (List (Int × Int)) := T.set s ((stA T s).set i x)
theorem setT_len (T : List (List (Int × Int))) (s i : Nat) (x : Int × Int) : (setT T s i x).length = T.length := by simp [setT]
theorem stA_set {T : List (List (Int × Int))} {s i : Nat} {x : Int × Int} (hs : s < T.length) (t : Nat) : stA (setT T s i x) t = if t = s then (stA T s).set i x else stA T t := by
  unfold setT
  by_cases c : t = s
  · subst c
    rw [if_pos rfl]
    unfold stA
    rw [List.getElem?_set_self hs]; rfl
  · rw [if_neg c]
    unfold stA
    rw [List.getElem?_set_ne (fun e => c e.symm)]
theorem setT_at {T : List (List (Int × Int))} {s i : Nat} {x : Int × Int} (hs : s < T.length) {t j : Nat} (h : t ≠ s ∨ j ≠ i) : (stA (setT T s i x) t)[j]? = (stA T t)[j]? := by
  rw [stA_set hs]
  by_cases c : t = s
  · subst c
    rw [if_pos rfl, List.getElem?_set_ne (by rcases h with h | h; exact absurd rfl h; exact fun e => h e.symm)]
  · rw [if_neg c]
theorem setT_self {T : List (List (Int × Int))} {s i : Nat} {x : Int × Int} (hs : s < T.length) (hi : i < (stA T s).length) : (stA (setT T s i x) s)[i]? = some x := by
  rw [stA_set hs, if_pos rfl, List.getElem?_set_self hi]
def Costs (p : List (List (Int × Int))) (th bk : List Int) : Prop := ∀ s, s < p.length → ∀ a, 1 ≤ lngA th bk s a ∧ lngA th bk s a ≤ 1000000
def BdT (T : List (List (Int × Int))) (B : Int) : Prop := 0 ≤ B ∧ ∀ (t j : Nat) (x : Int × Int), (stA T t)[j]? = some x → 0 ≤ x.1 ∧ x.1 ≤ x.2 ∧ x.2 ≤ B
theorem BdT.to {T : List (List (Int × Int))} {B : Int} (h : BdT T B) (s i : Nat) : 0 ≤ toT T s i ∧ toT T s i ≤ B := by
  unfold toT
  cases e : (stA T s)[i]? with
  | none => exact ⟨Int.le_refl 0, h.1⟩
  | some x => obtain ⟨h1, h2, h3⟩ := h.2 s i x e; exact ⟨by show 0 ≤ x.2; omega, h3⟩
theorem BdT.from_ {p T : List (List (Int × Int))} {B : Int} (h : BdT T B) (s i : Nat) (a : Int × Int) : 0 ≤ fromT p T s i a ∧ fromT p T s i a ≤ B := by
  have hp : 0 ≤ prevT T s i ∧ prevT T s i ≤ B := by
    unfold prevT
    split
    · exact ⟨Int.le_refl 0, h.1⟩
    · exact h.to _ _
  unfold fromT
  split
  · exact hp
  · split
    · exact h.to _ _
    · exact hp
theorem BdT.mono {T : List (List (Int × Int))} {B C : Int} (h : BdT T B) (hc : B ≤ C) : BdT T C := ⟨by have := h.1; omega, fun t j x hx => by have := h.2 t j x hx; omega⟩
/-- Within a round. -/
structure PassT (p : List (List (Int × Int))) (th bk : List Int) (T0 : List (List (Int × Int))) (g : List Nat) (T : List (List (Int × Int))) (s i : Nat) (more : Bool) : Prop where
  shp : Shp p T
  same : ∀ k j, k < p.length → j < atN g k → (stA T k)[j]? = (stA T0 k)[j]?
  can : ∀ t, t < p.length → (t < s ∨ (t = s ∧ atN g t < i)) → Can p g t → ∀ a, (stA p t)[atN g t]? = some a → (stA T t)[atN g t]? = some (newT p th bk T0 t (atN g t) a)
  no : more = false → T = T0 ∧ ∀ t j, t < p.length → (t < s ∨ (t = s ∧ j < i)) → EqAt p th bk T0 t j
  yes : more = true → ∃ t, t < p.length ∧ atN g t < (stA p t).length
theorem PassT.first {p : List (List (Int × Int))} {th bk : List Int} {T0 : List (List (Int × Int))} (g : List Nat) (h : Shp p T0) : PassT p th bk T0 g T0 0 0 false :=
  ⟨h, fun _ _ _ _ => rfl, fun t _ h => by omega, fun _ => ⟨rfl, fun t j _ h => by omega⟩, (fun e => by cases e)⟩
theorem PassT.next {p : List (List (Int × Int))} {th bk : List Int} {T0 : List (List (Int × Int))} {g : List Nat} {T : List (List (Int × Int))} {s i : Nat} {more : Bool} (h : PassT p th bk T0 g T s i more) (hi : (stA p s).length ≤ i) : PassT p th bk T0 g T (s + 1) 0 more :=
  ⟨h.shp, h.same, fun t ht hp hc a ha => h.can t ht (by
      rcases hp with q | ⟨_, q⟩
      · rcases Nat.lt_or_ge t s with r | r
        · exact .inl r
        · have e : t = s := by omega
          subst e
          have := (List.getElem?_eq_some_iff.1 ha).1
          exact .inr ⟨rfl, by omega⟩
      · omega) hc a ha,
    fun e => ⟨(h.no e).1, fun t j ht hp a ha => (h.no e).2 t j ht (by
      rcases hp with q | ⟨_, q⟩
      · rcases Nat.lt_or_ge t s with r | r
        · exact .inl r
        · have e : t = s := by omega
          subst e
          have := (List.getElem?_eq_some_iff.1 ha).1
          exact .inr ⟨rfl, by omega⟩
      · omega) a ha⟩, h.yes⟩
/-- What is reckoned where the stage can go on, or of what lies below. -/
theorem PassT.new {p : List (List (Int × Int))} {th bk : List Int} {T0 : List (List (Int × Int))} {g : List Nat} {T : List (List (Int × Int))} {s i : Nat} {more : Bool} (h : PassT p th bk T0 g T s i more) (hin : AllIn p) (hs : s < p.length) {a : Int × Int} (ha : (stA p s)[i]? = some a) (hi : i ≤ atN g s)
    (hd : ∀ k, k < p.length → nbA a s k → whr a (stA p k) < (atN g k : Int)) : newT p th bk T s i a = newT p th bk T0 s i a := new_same hin hs ha hi hd h.same
theorem PassT.here {p : List (List (Int × Int))} {th bk : List Int} {T0 : List (List (Int × Int))} {g : List Nat} {T : List (List (Int × Int))} {s i : Nat} {more : Bool} (h : PassT p th bk T0 g T s i more) (hin : AllIn p) (hs : s < p.length) {a : Int × Int} (ha : (stA p s)[i]? = some a) (hi : i = atN g s) (hc : Can p g s) : newT p th bk T s i a = newT p th bk T0 s i a := by
  obtain ⟨b, hb, hd⟩ := hc
  rw [← hi, ha] at hb
  obtain rfl := Option.some.inj hb
  exact h.new hin hs ha (by omega) hd
theorem PassT.stay {p : List (List (Int × Int))} {th bk : List Int} {T0 : List (List (Int × Int))} {g : List Nat} {T : List (List (Int × Int))} {s i : Nat} {more : Bool} (h : PassT p th bk T0 g T s i more) (hin : AllIn p) (hs : s < p.length) {a : Int × Int} (ha : (stA p s)[i]? = some a) (hx : (stA T s)[i]? = some (newT p th bk T s i a)) : PassT p th bk T0 g T s (i + 1) more := by
  refine ⟨h.shp, h.same, fun t ht hp hc b hb => ?_, fun e => ⟨(h.no e).1, fun t j ht hp => ?_⟩, h.yes⟩
  · by_cases c : t = s ∧ atN g t = i
    · obtain ⟨rfl, c⟩ := c
      rw [c] at hb ⊢
      have hb' := hb
      rw [ha] at hb'
      obtain rfl := Option.some.inj hb'
      rw [hx, h.here hin hs ha c.symm hc]
    · refine h.can t ht ?_ hc b hb
      rcases hp with q | ⟨q, r⟩
      · exact .inl q
      · exact .inr ⟨q, by have : atN g t ≠ i := fun e => c ⟨q, e⟩; omega⟩
  · by_cases c : t = s ∧ j = i
    · obtain ⟨rfl, rfl⟩ := c
      intro b hb
      rw [ha] at hb
      obtain rfl := Option.some.inj hb
      have := (h.no e).1
      rw [this] at hx
      exact hx
    · refine (h.no e).2 t j ht ?_
      rcases hp with q | ⟨q, r⟩
      · exact .inl q
      · exact .inr ⟨q, by have : j ≠ i := fun e => c ⟨q, e⟩; omega⟩
theorem PassT.chg {p : List (List (Int × Int))} {th bk : List Int} {T0 : List (List (Int × Int))} {g : List Nat} {T : List (List (Int × Int))} {s i : Nat} {more : Bool} (h : PassT p th bk T0 g T s i more) (hin : AllIn p) (hg : GoodT p th bk T0 g) (hs : s < p.length) {a : Int × Int} (ha : (stA p s)[i]? = some a) (hx : (stA T s)[i]? ≠ some (newT p th bk T s i a)) : PassT p th bk T0 g (setT T s i (newT p th bk T s i a)) s (i + 1) true := by
  have hil := (List.getElem?_eq_some_iff.1 ha).1
  have hsl : s < T.length := by rw [h.shp.1]; exact hs
  have hlen : i < (stA T s).length := by rw [h.shp.2 s hs]; exact hil
  have hge : atN g s ≤ i := by
    rcases Nat.lt_or_ge i (atN g s) with q | q
    · obtain ⟨r1, r2⟩ := hg.2 s hs i a q ha
      refine absurd ?_ hx
      rw [h.same s i hs q, r1, h.new hin hs ha (by omega) r2]
    · exact q
  refine ⟨⟨by rw [setT_len]; exact h.shp.1, fun t ht => ?_⟩, fun k j hk hj => ?_, fun t ht hp hc b hb => ?_, (fun e => by cases e), fun _ => ⟨s, hs, by omega⟩⟩
  · rw [stA_set hsl]
    split
    · rename_i e; subst e; rw [List.length_set]; exact h.shp.2 _ hs
    · exact h.shp.2 t ht
  · rw [setT_at hsl (by
      by_cases c : k = s
      · subst c; exact .inr (by omega)
      · exact .inl c)]
    exact h.same k j hk hj
  · by_cases c : t = s ∧ atN g t = i
    · obtain ⟨rfl, c⟩ := c
      rw [c] at hb ⊢
      rw [ha] at hb
      obtain rfl := Option.some.inj hb
      rw [setT_self hsl hlen, h.here hin hs ha c.symm hc]
    · rw [setT_at hsl (by
        by_cases d : t = s
        · exact .inr (fun e => c ⟨d, e⟩)
        · exact .inl d)]
      refine h.can t ht ?_ hc b hb
      rcases hp with q | ⟨q, r⟩
      · exact .inl q
      · exact .inr ⟨q, by have : atN g t ≠ i := fun e => c ⟨q, e⟩; omega⟩
theorem BdT.set {p : List (List (Int × Int))} {th bk : List Int} {T : List (List (Int × Int))} {B : Int} (h : BdT T B) (hc : Costs p th bk) {s i : Nat} {a : Int × Int} (hs : s < p.length) (hsl : s < T.length) : BdT (setT T s i (newT p th bk T s i a)) (B + 1000000) := by
  refine ⟨by have := h.1; omega, fun t j x hx => ?_⟩
  by_cases c : t = s ∧ j = i
  · obtain ⟨rfl, rfl⟩ := c
    rw [stA_set hsl, if_pos rfl, List.getElem?_set] at hx
    rw [if_pos rfl] at hx
    split at hx
    · obtain rfl := Option.some.inj hx
      have h1 := h.from_ (p := p) t j a
      have h2 := hc t hs a
      unfold newT
      dsimp only
      omega
    · cases hx
  · rw [setT_at hsl (by
      by_cases d : t = s
      · exact .inr (fun e => c ⟨d, e⟩)
      · exact .inl d)] at hx
    have := h.2 t j x hx
    omega
/-- Between two rounds. -/
structure RndT (p : List (List (Int × Int))) (th bk : List Int) (T : List (List (Int × Int))) (g : List Nat) (more : Bool) : Prop where
  shp : Shp p T
  good : GoodT p th bk T g
  fin : more = false → IsTm p th bk T
theorem PassT.done {p : List (List (Int × Int))} {th bk : List Int} {T0 : List (List (Int × Int))} {g : List Nat} {T : List (List (Int × Int))} {more : Bool} (h : PassT p th bk T0 g T p.length 0 more) (hin : AllIn p) (hg : GoodT p th bk T0 g) : RndT p th bk T (nextG p g) more :=
  ⟨h.shp, good_next hin hg h.same (fun s hs hc a ha => h.can s hs (.inl hs) hc a ha), fun e => ⟨h.shp, fun s hs i => by rw [(h.no e).1]; exact (h.no e).2 s i hs (.inl hs)⟩⟩
theorem PassT.more_ {p : List (List (Int × Int))} {th bk : List Int} {T0 : List (List (Int × Int))} {g : List Nat} {T : List (List (Int × Int))} {s i : Nat} (h : PassT p th bk T0 g T s i true) (hdn : doneB p = true) : sumN g p.length < sumN (nextG p g) p.length := by
  obtain ⟨t, ht, hlt⟩ := h.yes rfl
  exact next_more hdn ht hlt
theorem good_sum {p : List (List (Int × Int))} {th bk : List Int} {T : List (List (Int × Int))} {g : List Nat} (h : GoodT p th bk T g) : sumN g p.length ≤ sumN (lens p) p.length := sumN_le (fun s hs => by rw [lens_at]; exact h.1.2 s hs)
theorem good_zero {p : List (List (Int × Int))} {th bk : List Int} {T : List (List (Int × Int))} : GoodT p th bk T (zeroN p) := ⟨⟨by simp [zeroN], fun s _ => by rw [zeroN_at]; omega⟩, fun s _ i a hi _ => by rw [zeroN_at] at hi; omega⟩
end Go.Proofs.YtcpgomjaegickagDoor
