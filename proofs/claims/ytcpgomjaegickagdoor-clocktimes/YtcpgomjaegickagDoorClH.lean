/- What a table of times tells: how long all is, who waits how long, what waits for what. No program in sight. -/
import Derived.Test.YtcpgomjaegickagDoorClL
import Derived.Test.YtcpgomjaegickagDoorClR1
namespace Go.Proofs.YtcpgomjaegickagDoor
theorem mxT_eq {T : List (List (Int × Int))} {L : Int} (h0 : 0 ≤ L) (h1 : ∀ (s i : Nat) (x : Int × Int), s < T.length → (stA T s)[i]? = some x → x.2 ≤ L) {s i : Nat} {x : Int × Int} (hs : s < T.length) (hx : (stA T s)[i]? = some x) (h2 : x.2 = L) : mxT 0 T = L := by
  have a1 : mxT 0 T ≤ L := mxT_le T 0 L h0 (fun l hl x hx => by
    obtain ⟨s, i, q1, q2⟩ := mem_stA hl hx
    exact h1 s i x q1 q2)
  obtain ⟨l, hl⟩ := stage_at hs
  rw [stA_at hl] at hx
  have a2 := (mxT_ge T 0).2 l (List.mem_of_getElem? hl) x (List.mem_of_getElem? hx)
  omega
theorem mxT_at {T : List (List (Int × Int))} {s i : Nat} {x : Int × Int} (hs : s < T.length) (hx : (stA T s)[i]? = some x) : x.2 ≤ mxT 0 T := by
  obtain ⟨l, hl⟩ := stage_at hs
  rw [stA_at hl] at hx
  exact (mxT_ge T 0).2 l (List.mem_of_getElem? hl) x (List.mem_of_getElem? hx)
theorem tm_dur {p : List (List (Int × Int))} {th bk : List Int} {T : List (List (Int × Int))} (h : IsTm p th bk T) {s : Nat} (hs : s < p.length) : ∀ k, k ≤ (stA p s).length → durT ((stA T s).take k) = durS ((th[s]?).getD 0) ((bk[s]?).getD 0) ((stA p s).take k)
  | 0, _ => by simp [durT, durS]
  | k + 1, hk => by
    have ih := tm_dur h hs k (by omega)
    have ha := List.getElem?_eq_getElem (l := stA p s) (i := k) (by omega)
    rw [durT_snoc (tm_at h hs ha), ih, List.take_add_one, ha, durS_app]
    have e2 : durS ((th[s]?).getD 0) ((bk[s]?).getD 0) (some (stA p s)[k]).toList = lngA th bk s (stA p s)[k] := by
      show durS _ _ [_] = _
      unfold durS durS lngA
      omega
    rw [e2]
    dsimp only
    omega
/-- What a plan that is right has. -/
structure PlanOK (p : List (List (Int × Int))) (m : Nat) : Prop where
  all : AllIn p
  done : doneB p = true
  n1 : 1 ≤ p.length
  n6 : p.length ≤ 6
  m1 : 1 ≤ m
  m12 : m ≤ 12
  ok : ∀ s, s < p.length → ∀ a ∈ stA p s, okA (m : Int) a
  len : ∀ s, s < p.length → (stA p s).length = 2 * m
  ap : ∀ s, s < p.length → apart (stA p s)
theorem plan_okay {p : List (List (Int × Int))} {m : Nat} (h : planE p (m : Int) = 0) : PlanOK p m := by
  obtain ⟨h1, h2, h3, h4, h5, h6, h7⟩ := plan_facts h
  refine ⟨h1, h2, h3, h4, h5, h6, fun s hs => (h7 s hs).2, fun s hs => (h7 s hs).1, fun s hs => ?_⟩
  obtain ⟨_, q2, _⟩ := planE_in h
  obtain ⟨l, hl⟩ := stage_at hs
  rw [stA_at hl]
  exact (actsE_in (stagesE_in q2 s l hl)).2.1
theorem tm_st24 {p : List (List (Int × Int))} {th bk : List Int} {T : List (List (Int × Int))} {m : Nat} (hp : PlanOK p m) (h : IsTm p th bk T) (s : Nat) : (stA T s).length ≤ 24 := by
  rcases Nat.lt_or_ge s p.length with q | q
  · rw [h.1.2 s q, hp.len s q]; have := hp.m12; omega
  · rw [stA_out (by rw [h.1.1]; exact q)]; simp
/-- Each stage takes what all parts take. -/
theorem tm_take {p : List (List (Int × Int))} {th bk : List Int} {T : List (List (Int × Int))} {m : Nat} (hp : PlanOK p m) (h : IsTm p th bk T) {s : Nat} (hs : s < p.length) : durT (stA T s) = (m : Int) * ((th[s]?).getD 0 + (bk[s]?).getD 0) := by
  have := tm_dur h hs (stA p s).length (Nat.le_refl _)
  rw [List.take_length, List.take_of_length_le (by rw [h.1.2 s hs]; exact Nat.le_refl _), dur_all (hp.ok s hs) (hp.ap s hs) (hp.len s hs)] at this
  exact this
theorem tm_idl {p : List (List (Int × Int))} {th bk : List Int} {T : List (List (Int × Int))} {m : Nat} (hp : PlanOK p m) (h : IsTm p th bk T) {s : Nat} (hs : s < p.length) : (idlX T)[s]? = some (mxT 0 T - (m : Int) * ((th[s]?).getD 0 + (bk[s]?).getD 0)) := by
  obtain ⟨l, hl⟩ := stage_at (p := T) (i := s) (by rw [h.1.1]; exact hs)
  unfold idlX
  rw [List.getElem?_map, hl, ← tm_take hp h hs, stA_at hl]
  rfl
theorem idl_len (T : List (List (Int × Int))) : (idlX T).length = T.length := by simp [idlX]
/-- No plan is shorter than its dearest stage. -/
theorem tm_low {p : List (List (Int × Int))} {th bk : List Int} {T : List (List (Int × Int))} {m : Nat} (hp : PlanOK p m) (h : IsTm p th bk T) {s : Nat} (hs : s < p.length) : (m : Int) * ((th[s]?).getD 0 + (bk[s]?).getD 0) ≤ mxT 0 T := by
  have h1 := last_ge h hs hp.m1 (hp.ok s hs) (hp.ap s hs) (hp.len s hs)
  have hi : 2 * m - 1 < (stA T s).length := by rw [h.1.2 s hs, hp.len s hs]; have := hp.m1; omega
  have hx : (stA T s)[2 * m - 1]? = some (stA T s)[2 * m - 1] := List.getElem?_eq_getElem hi
  have h2 := mxT_at (by rw [h.1.1]; exact hs) hx
  unfold toT at h1
  rw [hx] at h1
  have h1 : (m : Int) * ((th[s]?).getD 0 + (bk[s]?).getD 0) ≤ (stA T s)[2 * m - 1].2 := h1
  omega
/-- No act begins ahead of what stands ahead of it, nor of what it waits for. -/
theorem tm_from {p : List (List (Int × Int))} {th bk : List Int} {T : List (List (Int × Int))} (h : IsTm p th bk T) (hc : Costs p th bk) {s i : Nat} {a x : Int × Int} (hs : s < p.length) (ha : (stA p s)[i]? = some a) (hx : (stA T s)[i]? = some x) : 0 ≤ x.1 ∧ (∀ y, 0 < i → (stA T s)[i - 1]? = some y → y.2 ≤ x.1) := by
  have e := tm_at h hs ha
  rw [hx] at e
  obtain rfl := Option.some.inj e
  refine ⟨(tm_nonneg h hc hs i a ha).1, fun y hi hy => ?_⟩
  have := from_prev p T s i a
  unfold prevT at this
  rw [if_neg (by omega)] at this
  unfold toT at this
  rw [hy] at this
  exact this
theorem tm_dep {p : List (List (Int × Int))} {th bk : List Int} {T : List (List (Int × Int))} (h : IsTm p th bk T) {s i k j : Nat} {a x y : Int × Int} (hs : s < p.length) (ha : (stA p s)[i]? = some a) (hx : (stA T s)[i]? = some x) (hk : k < p.length) (hap : apart (stA p k)) (hn : nbA a s k) (hj : (stA p k)[j]? = some a) (hy : (stA T k)[j]? = some y) : y.2 ≤ x.1 := by
  have e := tm_at h hs ha
  rw [hx] at e
  obtain rfl := Option.some.inj e
  have := from_dep (T := T) (i := i) ((depK_nb hs).2 ⟨hk, hn⟩)
  rw [whr_idx hap hj] at this
  unfold toT at this
  rw [show ((j : Int)).toNat = j by omega, hy] at this
  exact this
end Go.Proofs.YtcpgomjaegickagDoor
