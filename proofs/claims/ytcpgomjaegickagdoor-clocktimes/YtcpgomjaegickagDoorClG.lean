/- The program's own way to the times of a plan: an act is reckoned as soon as all that it waits for is. No program in sight. -/
import Derived.Test.YtcpgomjaegickagDoorClD
namespace Go.Proofs.YtcpgomjaegickagDoor
def pushT (T : List (List (Int × Int))) (s : Nat) (x : Int × Int) : List (List (Int × Int)) := T.set s (stA T s ++ [x])
theorem pushT_len (T : List (List (Int × Int))) (s : Nat) (x : Int × Int) : (pushT T s x).length = T.length := by simp [pushT]
theorem pushT_st {T : List (List (Int × Int))} {s : Nat} {x : Int × Int} (hs : s < T.length) (t : Nat) : stA (pushT T s x) t = if t = s then stA T s ++ [x] else stA T t := by
  unfold pushT
  by_cases c : t = s
  · subst c
    rw [if_pos rfl]
    exact stA_at (List.getElem?_set_self hs)
  · rw [if_neg c]
    rw [show stA (T.set s (stA T s ++ [x])) t = ((T.set s (stA T s ++ [x]))[t]?).getD [] from rfl, List.getElem?_set_ne (fun e => c e.symm)]
    rfl
theorem push_old {T : List (List (Int × Int))} {s : Nat} {x : Int × Int} (hs : s < T.length) {t j : Nat} (h : j < (stA T t).length) : (stA (pushT T s x) t)[j]? = (stA T t)[j]? := by
  rw [pushT_st hs]
  by_cases c : t = s
  · subst c
    rw [if_pos rfl, List.getElem?_append_left h]
  · rw [if_neg c]
theorem push_new {T : List (List (Int × Int))} {s : Nat} {x : Int × Int} (hs : s < T.length) : (stA (pushT T s x) s)[(stA T s).length]? = some x := by
  rw [pushT_st hs, if_pos rfl, List.getElem?_append_right (Nat.le_refl _)]
  simp
theorem push_ln {T : List (List (Int × Int))} {s : Nat} {x : Int × Int} (hs : s < T.length) (t : Nat) : (stA (pushT T s x) t).length = if t = s then (stA T s).length + 1 else (stA T t).length := by
  rw [pushT_st hs]
  split <;> simp
theorem lens_push (T : List (List (Int × Int))) (s : Nat) (x : Int × Int) : lens (pushT T s x) = bump (lens T) s := by
  unfold bump
  rw [lens_at]
  unfold pushT lens
  rw [List.map_set]
  simp
theorem push_to {T : List (List (Int × Int))} {s : Nat} {x : Int × Int} (hs : s < T.length) {t j : Nat} (h : j < (stA T t).length) : toT (pushT T s x) t j = toT T t j := by
  unfold toT
  rw [push_old hs h]
/-- As far as it is reckoned. -/
structure Clk (p : List (List (Int × Int))) (th bk : List Int) (T : List (List (Int × Int))) : Prop where
  len : T.length = p.length
  good : GoodT p th bk T (lens T)
theorem Clk.le {p : List (List (Int × Int))} {th bk : List Int} {T : List (List (Int × Int))} (h : Clk p th bk T) {s : Nat} (hs : s < p.length) : (stA T s).length ≤ (stA p s).length := by
  have := h.good.1.2 s hs
  rw [lens_at] at this
  exact this
theorem Clk.sum {p : List (List (Int × Int))} {th bk : List Int} {T : List (List (Int × Int))} (h : Clk p th bk T) : sumN (lens T) p.length ≤ sumN (lens p) p.length := good_sum h.good
theorem sum_push {p T : List (List (Int × Int))} (hl : T.length = p.length) {s : Nat} (hs : s < p.length) (x : Int × Int) : sumN (lens (pushT T s x)) p.length = sumN (lens T) p.length + 1 := by
  rw [lens_push, sumN_bump (by simp [lens]; omega), if_pos hs]
theorem Clk.push {p : List (List (Int × Int))} {th bk : List Int} {T : List (List (Int × Int))} (h : Clk p th bk T) (hin : AllIn p) {s : Nat} {a : Int × Int} (hc : Can p (lens T) s) (ha : (stA p s)[(stA T s).length]? = some a) : Clk p th bk (pushT T s (newT p th bk T s (stA T s).length a)) := by
  have hs := hc.lt.1
  have hsl : s < T.length := by rw [h.len]; exact hs
  have hsame : ∀ k j, k < p.length → j < atN (lens T) k → (stA (pushT T s (newT p th bk T s (stA T s).length a)) k)[j]? = (stA T k)[j]? := fun k j _ hj => push_old hsl (by rw [lens_at] at hj; exact hj)
  have hmon : ∀ k, atN (lens T) k ≤ atN (lens (pushT T s (newT p th bk T s (stA T s).length a))) k := fun k => by
    rw [lens_at, lens_at, push_ln hsl]
    split
    · rename_i e; subst e; omega
    · omega
  have hdep : ∀ k, k < p.length → nbA a s k → whr a (stA p k) < (atN (lens T) k : Int) := by
    obtain ⟨b, hb, hd⟩ := hc
    rw [lens_at, ha] at hb
    obtain rfl := Option.some.inj hb
    exact hd
  refine ⟨by rw [pushT_len]; exact h.len, ⟨⟨by simp [lens, pushT_len, h.len], fun t ht => ?_⟩, fun t ht i b hi hb => ?_⟩⟩
  · rw [lens_at, push_ln hsl]
    split
    · rename_i e; subst e
      have := (List.getElem?_eq_some_iff.1 ha).1
      omega
    · exact h.le ht
  · rcases Nat.lt_or_ge i (atN (lens T) t) with q | q
    · obtain ⟨r1, r2⟩ := h.good.2 t ht i b q hb
      refine ⟨?_, fun k hk hn => by have := r2 k hk hn; have := hmon k; omega⟩
      rw [hsame t i ht q, r1, new_same (T := T) (T' := pushT T s (newT p th bk T s (stA T s).length a)) hin ht hb (by omega) r2 (fun k j hk hj => (hsame k j hk hj).symm)]
    · rw [lens_at, push_ln hsl] at hi
      rw [lens_at] at q
      have e : t = s := by
        rcases Nat.lt_or_ge i (stA T t).length with c | c
        · omega
        · by_cases d : t = s
          · exact d
          · rw [if_neg d] at hi; omega
      subst e
      rw [if_pos rfl] at hi
      obtain rfl : i = (stA T t).length := by omega
      rw [ha] at hb
      obtain rfl := Option.some.inj hb
      refine ⟨?_, fun k hk hn => by have := hdep k hk hn; have := hmon k; omega⟩
      rw [push_new hsl]
      exact congrArg some (new_same (T := T) (T' := pushT T t (newT p th bk T t (stA T t).length a)) hin ht ha (by rw [lens_at]; exact Nat.le_refl _) hdep (fun k j hk hj => (hsame k j hk hj).symm))
theorem Clk.fin {p : List (List (Int × Int))} {th bk : List Int} {T : List (List (Int × Int))} (h : Clk p th bk T) (hdn : doneB p = true) (hcl : Closed p (lens T)) : IsTm p th bk T := by
  have hf : ∀ s, s < p.length → (stA p s).length ≤ atN (lens T) s := fun s hs => und_full hdn hcl hs
  refine ⟨⟨h.len, fun s hs => ?_⟩, fun s hs i => good_all h.good hf hs i⟩
  have h1 := hf s hs
  rw [lens_at] at h1
  have := h.le hs
  omega
def nilT (n : Nat) : List (List (Int × Int)) := List.replicate n []
theorem nilT_st (n s : Nat) : stA (nilT n) s = [] := by
  unfold stA nilT
  rw [List.getElem?_replicate]
  split <;> rfl
theorem Clk.nil (p : List (List (Int × Int))) (th bk : List Int) : Clk p th bk (nilT p.length) := by
  refine ⟨by simp [nilT], ⟨by simp [lens, nilT], fun s _ => ?_⟩, fun s _ i a hi _ => ?_⟩
  · rw [lens_at, nilT_st]; exact Nat.zero_le _
  · rw [lens_at, nilT_st] at hi; simp at hi
theorem sum_nil (n : Nat) : ∀ k, sumN (lens (nilT n)) k = 0
  | 0 => rfl
  | k + 1 => by
    have := sum_nil n k
    unfold sumN
    rw [this, lens_at, nilT_st]
    rfl
theorem BdT.nil (n : Nat) : BdT (nilT n) 0 := ⟨Int.le_refl 0, fun t j x hx => by rw [nilT_st] at hx; simp at hx⟩
theorem BdT.push {p : List (List (Int × Int))} {th bk : List Int} {T : List (List (Int × Int))} {B : Int} (h : BdT T B) (hc : Costs p th bk) {s i : Nat} {a : Int × Int} (hs : s < p.length) (hsl : s < T.length) : BdT (pushT T s (newT p th bk T s i a)) (B + 1000000) := by
  refine ⟨by have := h.1; omega, fun t j x hx => ?_⟩
  rw [pushT_st hsl] at hx
  have key : ∀ t (j : Nat), (stA T t)[j]? = some x → 0 ≤ x.1 ∧ x.1 ≤ x.2 ∧ x.2 ≤ B + 1000000 := fun t j hx => by have := h.2 t j x hx; omega
  split at hx
  · rcases Nat.lt_or_ge j (stA T s).length with q | q
    · rw [List.getElem?_append_left q] at hx
      exact key s j hx
    · rw [List.getElem?_append_right q] at hx
      have e : j - (stA T s).length = 0 := by
        rcases Nat.eq_zero_or_pos (j - (stA T s).length) with c | c
        · exact c
        · rw [List.getElem?_eq_none (by simp; omega)] at hx; cases hx
      rw [e] at hx
      have hx : newT p th bk T s i a = x := by simpa using hx
      subst hx
      have h1 := h.from_ (p := p) s i a
      have h2 := hc s hs a
      unfold newT
      dsimp only
      omega
  · exact key t j hx
/-- Within a round: what was, what is, how far the round has come, and whether anybody went on. -/
structure PassC (p : List (List (Int × Int))) (T0 T : List (List (Int × Int))) (s : Nat) (on : Bool) : Prop where
  no : on = false → T = T0 ∧ ∀ t, t < s → ¬ Can p (lens T0) t
  yes : on = true → sumN (lens T0) p.length < sumN (lens T) p.length
theorem PassC.first (p T0 : List (List (Int × Int))) : PassC p T0 T0 0 false := ⟨fun _ => ⟨rfl, fun t h => by omega⟩, (fun e => by cases e)⟩
theorem PassC.stay {p T0 T : List (List (Int × Int))} {s : Nat} {on : Bool} (h : PassC p T0 T s on) (hc : ¬ Can p (lens T) s) : PassC p T0 T (s + 1) on :=
  ⟨fun e => ⟨(h.no e).1, fun t ht => by
    rcases Nat.lt_or_ge t s with q | q
    · exact (h.no e).2 t q
    · obtain rfl : t = s := by omega
      rw [← (h.no e).1]; exact hc⟩, h.yes⟩
theorem PassC.go {p T0 T : List (List (Int × Int))} {s : Nat} {on : Bool} (h : PassC p T0 T s on) (hl : T.length = p.length) (hs : s < p.length) (x : Int × Int) : PassC p T0 (pushT T s x) (s + 1) true := by
  refine ⟨(fun e => by cases e), fun _ => ?_⟩
  rw [sum_push hl hs]
  cases on with
  | false => rw [(h.no rfl).1]; omega
  | true => have := h.yes rfl; omega
/-- Whom an act waits for, and when that has ended. -/
def keysC (p : List (List (Int × Int))) (s i : Nat) (a : Int × Int) : List (Int × Int × Int) :=
  (if i = 0 then [] else [((s : Int), ((stA p s)[i - 1]?).getD (0, 0))]) ++ (match depK a s p.length with | none => [] | some k => [((k : Int), a)])
def lookC (M : List ((Int × Int × Int) × Int)) (d : Int × Int × Int) : Option Int := (M.find? (fun e => decide (e.1 = d))).map (·.2)
def latC (M : List ((Int × Int × Int) × Int)) : Int → List (Int × Int × Int) → Option Int
  | l, [] => some l
  | l, d :: t => match lookC M d with
    | none => none
    | some e => latC M (if l < e then e else l) t
/-- The map tells just when what is reckoned has ended. -/
def ToldC (p T : List (List (Int × Int))) (M : List ((Int × Int × Int) × Int)) : Prop := ∀ (s j : Nat) (a : Int × Int), s < p.length → (stA p s)[j]? = some a → lookC M ((s : Int), a) = if j < (stA T s).length then some (toT T s j) else none
theorem ToldC.nil (p : List (List (Int × Int))) : ToldC p (nilT p.length) [] := fun s j a _ _ => by rw [nilT_st]; rfl
theorem lookC_snoc {M : List ((Int × Int × Int) × Int)} {d d' : Int × Int × Int} {x : Int} : lookC (M ++ [(d, x)]) d' = match lookC M d' with | some e => some e | none => if d = d' then some x else none := by
  unfold lookC
  rw [List.find?_append]
  cases h : M.find? (fun e => decide (e.1 = d')) with
  | some e => rfl
  | none =>
    by_cases c : d = d'
    · simp [c]
    · simp [c]
theorem ToldC.push {p T : List (List (Int × Int))} {M : List ((Int × Int × Int) × Int)} (h : ToldC p T M) (hl : T.length = p.length) (hap : ∀ s, s < p.length → apart (stA p s)) {s : Nat} {a : Int × Int} (hs : s < p.length) (ha : (stA p s)[(stA T s).length]? = some a) (x : Int × Int) : ToldC p (pushT T s x) (M ++ [(((s : Int), a), x.2)]) := by
  intro t j b ht hb
  have hsl : s < T.length := by rw [hl]; exact hs
  rw [lookC_snoc, h t j b ht hb, push_ln hsl]
  by_cases c : j < (stA T t).length
  · have c2 : j < if t = s then (stA T s).length + 1 else (stA T t).length := by
      by_cases d : t = s
      · subst d; rw [if_pos rfl]; omega
      · rw [if_neg d]; exact c
    rw [if_pos c, push_to hsl c, if_pos c2]
  · rw [if_neg c]
    dsimp only
    by_cases d : t = s
    · subst d
      rw [if_pos rfl]
      by_cases e : j = (stA T t).length
      · subst e
        rw [ha] at hb
        obtain rfl := Option.some.inj hb
        rw [if_pos rfl, if_pos (by omega)]
        unfold toT
        rw [push_new hsl]
        rfl
      · have hne : ¬ (((t : Int), a) = ((t : Int), b)) := fun q => by
          have q : a = b := (Prod.mk.inj q).2
          subst q
          have h1 := whr_idx (hap t ht) ha
          have h2 := whr_idx (hap t ht) hb
          omega
        rw [if_neg hne, if_neg (by omega)]
    · rw [if_neg d, if_neg c, if_neg]
      intro q
      have q : (s : Int) = (t : Int) := (Prod.mk.inj q).1
      omega
/-- When an act may begin: its stage can go on, or cannot. -/
theorem lat_told {p T : List (List (Int × Int))} {M : List ((Int × Int × Int) × Int)} {B : Int} (h : ToldC p T M) (hin : AllIn p) (hb : BdT T B) {s : Nat} {a : Int × Int} (hs : s < p.length) (ha : (stA p s)[(stA T s).length]? = some a) :
    (Can p (lens T) s ∧ latC M 0 (keysC p s (stA T s).length a) = some (fromT p T s (stA T s).length a)) ∨ (¬ Can p (lens T) s ∧ latC M 0 (keysC p s (stA T s).length a) = none) := by
  have hcan : Can p (lens T) s ↔ ∀ k, k < p.length → nbA a s k → whr a (stA p k) < ((stA T k).length : Int) := by
    constructor
    · rintro ⟨b, hb, hd⟩
      rw [lens_at, ha] at hb
      obtain rfl := Option.some.inj hb
      exact fun k hk hn => by have := hd k hk hn; rw [lens_at] at this; exact this
    · exact fun hd => ⟨a, by rw [lens_at]; exact ha, fun k hk hn => by rw [lens_at]; exact hd k hk hn⟩
  have hto := fun t j => (hb.to t j).1
  have hprev : ∀ (l : List (Int × Int × Int)), latC M 0 ((if (stA T s).length = 0 then [] else [((s : Int), ((stA p s)[(stA T s).length - 1]?).getD (0, 0))]) ++ l) = latC M (prevT T s (stA T s).length) l := fun l => by
    unfold prevT
    by_cases c : (stA T s).length = 0
    · rw [if_pos c, if_pos c]; rfl
    · rw [if_neg c, if_neg c]
      have hlt : (stA T s).length - 1 < (stA p s).length := by have := (List.getElem?_eq_some_iff.1 ha).1; omega
      have := h s ((stA T s).length - 1) (stA p s)[(stA T s).length - 1] hs (List.getElem?_eq_getElem hlt)
      rw [if_pos (by omega)] at this
      rw [List.getElem?_eq_getElem hlt]
      show latC M 0 (((s : Int), (stA p s)[(stA T s).length - 1]) :: l) = _
      rw [latC, this]
      dsimp only
      have h0 := hto s ((stA T s).length - 1)
      by_cases e : 0 < toT T s ((stA T s).length - 1)
      · rw [if_pos e]
      · rw [if_neg e, show toT T s ((stA T s).length - 1) = 0 by omega]
  unfold keysC
  rw [hprev]
  cases hd : depK a s p.length with
  | none =>
    left
    refine ⟨hcan.2 (fun k hk hn => ?_), ?_⟩
    · rw [(depK_nb hs).2 ⟨hk, hn⟩] at hd; cases hd
    · unfold fromT
      rw [hd]
      rfl
  | some k =>
    obtain ⟨hkn, hnb⟩ := (depK_nb hs).1 hd
    have hw := hin s k hs hkn a (List.mem_of_getElem? ha)
    obtain ⟨j, hj⟩ : ∃ j : Nat, whr a (stA p k) = (j : Int) := ⟨_, (Int.toNat_of_nonneg hw).symm⟩
    have hget : (stA p k)[j]? = some a := by have := whr_get hw; rw [hj] at this; exact this
    have hl := h k j a hkn hget
    have hone : ∀ k', k' < p.length → nbA a s k' → k' = k := fun k' hk' hn' => by
      have := (depK_nb hs).2 ⟨hk', hn'⟩
      rw [hd] at this
      exact (Option.some.inj this).symm
    dsimp only
    rw [latC, hl]
    by_cases c : j < (stA T k).length
    · left
      refine ⟨hcan.2 (fun k' hk' hn' => by rw [hone k' hk' hn', hj]; omega), ?_⟩
      rw [if_pos c]
      unfold fromT
      rw [hd]
      dsimp only
      rw [hj]
      rfl
    · right
      refine ⟨fun q => c (by have := hcan.1 q k hkn hnb; rw [hj] at this; omega), ?_⟩
      rw [if_neg c]
end Go.Proofs.YtcpgomjaegickagDoor
