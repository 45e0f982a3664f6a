/- Waves and turns where all stages take the same: when what is done, as so many times there and so many times back. Reckoned for all stages and parts that may be. -/
import Derived.Test.YtcpgomjaegickagClD
import Derived.Test.YtcpgomjaegickagPlD
namespace Go.Proofs.Ytcpgomjaegickag
/-- When an act begins: so many times there, so many times back. -/
def symF (S M : Nat) (wave : Bool) (s : Nat) (a : Int × Int) : Nat × Nat :=
  if wave then (if a.1 = 2 then (S + M - 1, S - 1 - s + a.2.toNat) else (s + a.2.toNat, 0))
  else (if a.1 = 2 then (S + a.2.toNat, S - 1 - s + a.2.toNat) else if a.2.toNat < S - s then (s + a.2.toNat, 0) else (s + a.2.toNat, a.2.toNat))
def symT (S M : Nat) (wave : Bool) (s : Nat) (a : Int × Int) : Nat × Nat := if a.1 = 2 then ((symF S M wave s a).1, (symF S M wave s a).2 + 1) else ((symF S M wave s a).1 + 1, (symF S M wave s a).2)
def symP (S M : Nat) (wave : Bool) (s i : Nat) : Nat × Nat := if i = 0 then (0, 0) else symT S M wave s (((stageX S M wave s)[i - 1]?).getD (0, 0))
def geB (p q : Nat × Nat) : Bool := decide (q.1 ≤ p.1) && decide (q.2 ≤ p.2)
def symOK1 (S M : Nat) (wave : Bool) (s i : Nat) (a : Int × Int) : Bool :=
  match depK a s S with
  | none => decide (symF S M wave s a = symP S M wave s i)
  | some k => (decide (symF S M wave s a = symP S M wave s i) && geB (symF S M wave s a) (symT S M wave k a)) || (decide (symF S M wave s a = symT S M wave k a) && geB (symF S M wave s a) (symP S M wave s i))
def symOK (S M : Nat) (wave : Bool) : Bool := (List.range S).all fun s => (List.range (stageX S M wave s).length).all fun i =>
  match (stageX S M wave s)[i]? with
  | none => true
  | some a => symOK1 S M wave s i a && geB (S + M - 1, S + M - 1) (symT S M wave s a)
def symAll (S : Nat) : Bool := (List.range 12).all fun m => symOK S (m + 1) true && symOK S (m + 1) false && decide (symT S (m + 1) true 0 (((stageX S (m + 1) true 0)[2 * m + 1]?).getD (0, 0)) = (S + m, S + m)) && decide (symT S (m + 1) false 0 (((stageX S (m + 1) false 0)[2 * m + 1]?).getD (0, 0)) = (S + m, S + m))
theorem sy1 : symAll 1 = true := by kernel_rfl
theorem sy2 : symAll 2 = true := by kernel_rfl
theorem sy3 : symAll 3 = true := by kernel_rfl
theorem sy4 : symAll 4 = true := by kernel_rfl
theorem sy5 : symAll 5 = true := by kernel_rfl
theorem sy6 : symAll 6 = true := by kernel_rfl
theorem sym_ok {S M : Nat} (hS : 1 ≤ S) (hS6 : S ≤ 6) (hM : 1 ≤ M) (hM12 : M ≤ 12) (wave : Bool) : symOK S M wave = true ∧ symT S M wave 0 (((stageX S M wave 0)[2 * M - 1]?).getD (0, 0)) = (S + M - 1, S + M - 1) := by
  have h : symAll S = true := by
    have : S = 1 ∨ S = 2 ∨ S = 3 ∨ S = 4 ∨ S = 5 ∨ S = 6 := by omega
    rcases this with rfl | rfl | rfl | rfl | rfl | rfl
    · exact sy1
    · exact sy2
    · exact sy3
    · exact sy4
    · exact sy5
    · exact sy6
  unfold symAll at h
  have := List.all_eq_true.1 h (M - 1) (List.mem_range.2 (by omega))
  rw [show M - 1 + 1 = M by omega, show 2 * (M - 1) + 1 = 2 * M - 1 by omega, show S + (M - 1) = S + M - 1 by omega] at this
  simp only [Bool.and_eq_true, decide_eq_true_iff] at this
  obtain ⟨⟨⟨h1, h2⟩, h3⟩, h4⟩ := this
  cases wave
  · exact ⟨h2, h4⟩
  · exact ⟨h1, h3⟩
theorem sym_at {S M : Nat} {wave : Bool} (h : symOK S M wave = true) {s i : Nat} {a : Int × Int} (hs : s < S) (ha : (stageX S M wave s)[i]? = some a) : symOK1 S M wave s i a = true ∧ geB (S + M - 1, S + M - 1) (symT S M wave s a) = true := by
  unfold symOK at h
  have h1 := List.all_eq_true.1 h s (List.mem_range.2 hs)
  have h2 := List.all_eq_true.1 h1 i (List.mem_range.2 (List.getElem?_eq_some_iff.1 ha).1)
  rw [ha] at h2
  simpa using h2
def ev (x y : Int) (q : Nat × Nat) : Int := (q.1 : Int) * x + (q.2 : Int) * y
theorem ev_ge {x y : Int} (hx : 0 ≤ x) (hy : 0 ≤ y) {p q : Nat × Nat} (h : geB p q = true) : ev x y q ≤ ev x y p := by
  unfold geB at h
  simp at h
  unfold ev
  have h1 : (q.1 : Int) * x ≤ (p.1 : Int) * x := Int.mul_le_mul_of_nonneg_right (by omega) hx
  have h2 : (q.2 : Int) * y ≤ (p.2 : Int) * y := Int.mul_le_mul_of_nonneg_right (by omega) hy
  omega
def tabX (S M : Nat) (wave : Bool) (x y : Int) : List (List (Int × Int)) := (List.range S).map (fun s => (stageX S M wave s).map (fun a => (ev x y (symF S M wave s a), ev x y (symT S M wave s a))))
theorem tabX_len (S M : Nat) (wave : Bool) (x y : Int) : (tabX S M wave x y).length = S := by simp [tabX]
theorem tabX_at {S M : Nat} {wave : Bool} {x y : Int} {s : Nat} (h : s < S) : stA (tabX S M wave x y) s = (stageX S M wave s).map (fun a => (ev x y (symF S M wave s a), ev x y (symT S M wave s a))) := stA_at (by unfold tabX; simp [h])
theorem planX_st {S M : Nat} {wave : Bool} {s : Nat} (h : s < S) : stA (planX S M wave) s = stageX S M wave s := stA_at (by simp [planX, h])
theorem planX_ln (S M : Nat) (wave : Bool) : (planX S M wave).length = S := by simp [planX]
theorem tab_to {S M : Nat} {wave : Bool} {x y : Int} {s i : Nat} {a : Int × Int} (hs : s < S) (ha : (stageX S M wave s)[i]? = some a) : toT (tabX S M wave x y) s i = ev x y (symT S M wave s a) := by
  unfold toT
  rw [tabX_at hs, List.getElem?_map, ha]; rfl
/-- That is when what is done. -/
theorem bub_tm {S M : Nat} {wave : Bool} (h : symOK S M wave = true) (hin : AllIn (planX S M wave)) {x y : Int} (hx : 0 ≤ x) (hy : 0 ≤ y) : IsTm (planX S M wave) (List.replicate S x) (List.replicate S y) (tabX S M wave x y) := by
  refine ⟨⟨by rw [tabX_len, planX_ln], fun s hs => ?_⟩, fun s hs i a ha => ?_⟩
  · rw [planX_ln] at hs
    rw [tabX_at hs, planX_st hs, List.length_map]
  · rw [planX_ln] at hs
    have ha0 := ha
    rw [planX_st hs] at ha
    obtain ⟨h1, _⟩ := sym_at h hs ha
    have hp : prevT (tabX S M wave x y) s i = ev x y (symP S M wave s i) := by
      unfold prevT symP
      by_cases c : i = 0
      · rw [if_pos c, if_pos c]; simp [ev]
      · rw [if_neg c, if_neg c]
        have hi : i - 1 < (stageX S M wave s).length := by have := (List.getElem?_eq_some_iff.1 ha).1; omega
        rw [tab_to hs (List.getElem?_eq_getElem hi), List.getElem?_eq_getElem hi]; rfl
    have hf : fromT (planX S M wave) (tabX S M wave x y) s i a = ev x y (symF S M wave s a) := by
      unfold fromT
      rw [planX_ln]
      unfold symOK1 at h1
      cases hd : depK a s S with
      | none =>
        rw [hd] at h1
        simp at h1
        dsimp only
        rw [hp, h1]
      | some k =>
        rw [hd] at h1
        have hk := ((depK_nb hs).1 hd).1
        have hw := hin s k (by rw [planX_ln]; exact hs) (by rw [planX_ln]; exact hk) a (List.mem_of_getElem? ha0)
        have hg := whr_get hw
        rw [planX_st hk] at hg hw
        dsimp only
        rw [planX_st hk, tab_to hk hg, hp]
        simp only [Bool.or_eq_true, Bool.and_eq_true, decide_eq_true_iff] at h1
        rcases h1 with ⟨e1, e2⟩ | ⟨e1, e2⟩
        · have := ev_ge hx hy e2
          rw [← e1, if_neg (by omega)]
        · have := ev_ge hx hy e2
          rw [← e1]
          split <;> omega
    have hl : lngA (List.replicate S x) (List.replicate S y) s a = if a.1 = 2 then y else x := by
      unfold lngA
      rw [List.getElem?_replicate, List.getElem?_replicate, if_pos hs, if_pos hs]
      rfl
    rw [tabX_at hs, List.getElem?_map, ha]
    unfold newT
    rw [hf, hl]
    show some (ev x y (symF S M wave s a), ev x y (symT S M wave s a)) = _
    congr 2
    unfold symT ev
    by_cases c : a.1 = 2
    · rw [if_pos c, if_pos c]
      dsimp only
      rw [show (((symF S M wave s a).2 + 1 : Nat) : Int) = ((symF S M wave s a).2 : Int) + 1 by omega, Int.add_mul]
      omega
    · rw [if_neg c, if_neg c]
      dsimp only
      rw [show (((symF S M wave s a).1 + 1 : Nat) : Int) = ((symF S M wave s a).1 : Int) + 1 by omega, Int.add_mul]
      omega
/-- How long it is. -/
theorem bub_long {S M : Nat} {wave : Bool} (hS : 1 ≤ S) (hS6 : S ≤ 6) (hM : 1 ≤ M) (hM12 : M ≤ 12) {x y : Int} (hx : 0 ≤ x) (hy : 0 ≤ y) (hl : (stageX S M wave 0).length = 2 * M) : (∀ s i a, s < S → (stageX S M wave s)[i]? = some a → toT (tabX S M wave x y) s i ≤ ((M : Int) + S - 1) * (x + y)) ∧ toT (tabX S M wave x y) 0 (2 * M - 1) = ((M : Int) + S - 1) * (x + y) := by
  obtain ⟨h1, h2⟩ := sym_ok hS hS6 hM hM12 wave
  have hev : ev x y (S + M - 1, S + M - 1) = ((M : Int) + S - 1) * (x + y) := by
    unfold ev
    dsimp only
    rw [show ((S + M - 1 : Nat) : Int) = (M : Int) + S - 1 by omega, ← Int.mul_add]
  refine ⟨fun s i a hs ha => ?_, ?_⟩
  · rw [tab_to hs ha, ← hev]
    exact ev_ge hx hy (sym_at h1 hs ha).2
  · have hi : 2 * M - 1 < (stageX S M wave 0).length := by omega
    rw [List.getElem?_eq_getElem hi] at h2
    rw [tab_to (by omega) (List.getElem?_eq_getElem hi), ← hev]
    exact congrArg _ h2
end Go.Proofs.Ytcpgomjaegickag
