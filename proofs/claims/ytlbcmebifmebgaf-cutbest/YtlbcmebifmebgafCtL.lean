/- Plain facts for the law CutBest: no cut is better. No program in sight. -/
import Derived.Test.YtlbcmebifmebgafCtC6
import Derived.Test.YtlbcmebifmebgafCtR2
namespace Go.Proofs.Ytlbcmebifmebgaf
def prvN (a : Nat) (ts : List Nat) : Nat → Nat
  | 0 => a
  | i + 1 => (ts[i]?).getD 0
theorem prvN_cons (a e : Nat) (t : List Nat) (i : Nat) : prvN a (e :: t) (i + 1) = prvN e t i := by
  cases i <;> simp [prvN]
theorem prv_N (ts : List Nat) {i : Nat} (h : i ≤ ts.length) : prv (ctI ts) i = (prvN 0 ts i : Int) := by
  cases i with
  | zero => rfl
  | succ i =>
    have hi : i < ts.length := by omega
    rw [prv_at (ctI_at (List.getElem?_eq_getElem hi))]
    simp [prvN, hi]
theorem tl_iff (n : Nat) : ∀ (a : Nat) (ts : List Nat), Tl n a ts ↔ (∀ i, i < ts.length → prvN a ts i < prvN a ts (i + 1)) ∧ prvN a ts ts.length = n
  | a, [] => by simp [Tl, prvN]
  | a, e :: t => by
    have ih := tl_iff n e t
    unfold Tl
    rw [ih, List.length_cons, prvN_cons]
    constructor
    · rintro ⟨h1, h2, h3⟩
      refine ⟨fun i hi => ?_, h3⟩
      cases i with
      | zero => rw [prvN_cons]; exact h1
      | succ i => rw [prvN_cons, prvN_cons]; exact h2 i (by omega)
    · rintro ⟨h1, h2⟩
      refine ⟨?_, fun i hi => ?_, h2⟩
      · have := h1 0 (by omega); rw [prvN_cons] at this; exact this
      · have := h1 (i + 1) (by omega); rw [prvN_cons, prvN_cons] at this; exact this
theorem un_iff (pre : Nat → Int) (L : Int) : ∀ (a : Nat) (ts : List Nat), Un pre L a ts ↔ ∀ i, i < ts.length → pre (prvN a ts (i + 1)) - pre (prvN a ts i) ≤ L
  | a, [] => by simp [Un]
  | a, e :: t => by
    have ih := un_iff pre L e t
    unfold Un
    rw [ih, List.length_cons]
    constructor
    · rintro ⟨h1, h2⟩ i hi
      cases i with
      | zero => rw [prvN_cons]; exact h1
      | succ i => rw [prvN_cons, prvN_cons]; exact h2 i (by omega)
    · intro h
      refine ⟨?_, fun i hi => ?_⟩
      · have := h 0 (by omega); rw [prvN_cons] at this; exact this
      · have := h (i + 1) (by omega); rw [prvN_cons, prvN_cons] at this; exact this
theorem stg_N (cs : List Int) (ts : List Nat) {i : Nat} (h : i < ts.length) : stg cs (ctI ts) i = preS cs (prvN 0 ts (i + 1)) - preS cs (prvN 0 ts i) := by
  unfold stg; rw [prv_N ts (by omega), prv_N ts (by omega), Int.toNat_natCast, Int.toNat_natCast]
theorem ends_tl {ts : List Nat} {n : Nat} : (rising (ctI ts) ∧ prv (ctI ts) (ctI ts).length = (n : Int)) ↔ Tl n 0 ts := by
  rw [tl_iff, ctI_len, prv_N ts (Nat.le_refl _)]
  unfold rising
  rw [ctI_len]
  constructor
  · rintro ⟨h1, h2⟩
    refine ⟨fun i hi => ?_, by omega⟩
    have := h1 i hi
    rw [prv_N ts (by omega), prv_N ts (by omega)] at this
    omega
  · rintro ⟨h1, h2⟩
    refine ⟨fun i hi => ?_, by omega⟩
    have := h1 i hi
    rw [prv_N ts (by omega), prv_N ts (by omega)]
    omega
theorem ends_nat {es : List Int} (h : rising es) : ∃ ts, es = ctI ts := by
  refine ⟨es.map Int.toNat, ?_⟩
  unfold ctI
  rw [List.map_map]
  apply List.ext_getElem?
  intro i
  rw [List.getElem?_map]
  cases hx : es[i]? with
  | none => rfl
  | some x =>
    have hi := (List.getElem?_eq_some_iff.1 hx).1
    have := rising_le h (Nat.zero_le (i + 1)) (by omega)
    rw [prv_at hx] at this
    have h0 : 0 ≤ x := this
    simp
    omega
def sumF (f : Nat → Int) : Nat → Int
  | 0 => 0
  | k + 1 => sumF f k + f k
theorem sumF_le {f : Nat → Int} {m : Int} {k : Nat} (h : ∀ i, i < k → f i ≤ m) : sumF f k ≤ (k : Int) * m := by
  induction k with
  | zero => simp [sumF]
  | succ k ih =>
    have h1 := ih (fun i hi => h i (by omega))
    have h2 := h k (by omega)
    have e : ((k + 1 : Nat) : Int) * m = (k : Int) * m + m := by rw [Int.natCast_add, Int.add_mul]; simp
    unfold sumF
    omega
theorem sumF_nonneg {f : Nat → Int} {k : Nat} (h : ∀ i, i < k → 0 ≤ f i) : 0 ≤ sumF f k := by
  induction k with
  | zero => simp [sumF]
  | succ k ih => have h1 := ih (fun i hi => h i (by omega)); have h2 := h k (by omega); unfold sumF; omega
/-- What is to be said of the best cuts. -/
structure Facts (cs : List Int) (r : Int) (zs : List Int) (m : Int) (R : Nat) : Prop where
  rr : r = (R : Int)
  one : 1 ≤ R
  six : R ≤ 6
  n : cs.length ≤ 12
  cost : costsE cs = 0
  ends : endsE zs (cs.length : Int) = 0
  len : zs.length = R
  m0 : 0 ≤ m
  m1 : m ≤ 12000000
  lo : ∀ i, i < R → 0 ≤ stg cs zs i
  hi : ∀ i, i < R → stg cs zs i ≤ m
  top : topF (stg cs zs) R = m
  all : sumF (stg cs zs) R ≤ m * r
  each : ∀ c ∈ cs, c ≤ m
  best : ∀ es, endsE es (cs.length : Int) = 0 → es.length = R → m ≤ topF (stg cs es) R
theorem best_facts {cs : List Int} {r : Int} {zs : List Int} {m : Int} (h : BestP cs r zs m) (h0 : bestE cs r = 0) : ∃ R, Facts cs r zs m R := by
  rcases h with ⟨_, t, rfl, hle, hfi⟩ | ⟨h, _⟩
  · obtain ⟨h1, h2, h3, h4⟩ := bestE_in h0
    have hc := costsE_in h3
    have hc0 : ∀ c ∈ cs, 0 ≤ c := fun c q => (hc c q).1
    have hp := preS_mono hc0
    obtain ⟨R, hR⟩ : ∃ R : Nat, r = (R : Int) := ⟨r.toNat, by omega⟩
    rw [show r.toNat = R by omega] at hle hfi
    obtain ⟨a1, a2, a3⟩ := hfi.tl hp hle.2.1
    have hun := (un_iff _ _ _ _).1 a3
    have hrise := ((tl_iff _ _ _).1 a2).1
    have hhi : ∀ i, i < R → stg cs (ctI t) i ≤ m := fun i hi => by rw [stg_N cs t (by omega)]; exact hun i (by omega)
    have hlo : ∀ i, i < R → 0 ≤ stg cs (ctI t) i := fun i hi => by
      rw [stg_N cs t (by omega)]
      have := hp _ _ (Nat.le_of_lt (hrise i (by omega)))
      omega
    have hall := sumF_le hhi
    rw [Int.mul_comm, ← hR] at hall
    have hbest : ∀ es, endsE es (cs.length : Int) = 0 → es.length = R → m ≤ topF (stg cs es) R := fun es q1 q2 => by
      obtain ⟨b1, b2, b3, b4⟩ := endsE_in q1
      obtain ⟨ts, rfl⟩ := ends_nat b3
      rw [ctI_len] at q2
      refine hle.2.2 _ (topF_nonneg _ _) ⟨ts, q2, ends_tl.1 ⟨b3, b4⟩, (un_iff _ _ _ _).2 (fun i hi => ?_)⟩
      rw [← stg_N cs ts hi]
      exact topF_ge (by omega)
    have hm1 : m ≤ 12000000 := by
      have := hle.2.2 (preS cs cs.length) (by have := hp 0 cs.length (Nat.zero_le _); rw [preS_zero] at this; exact this) ((preS_whole (R := R) (by omega) (by omega)).fx hp (by omega))
      have := preS_bound hc cs.length
      omega
    have hends : endsE (ctI t) (cs.length : Int) = 0 := (endsE_ok (by omega) (by rw [ctI_len]; omega) (ends_tl.2 a2)).symm
    have htop : topF (stg cs (ctI t)) R = m := by
      have g1 := topF_le hle.1 hhi
      have g2 := hbest _ hends (by rw [ctI_len]; exact a1)
      omega
    exact ⟨R, ⟨hR, by omega, by omega, h2.2, h3, hends, by rw [ctI_len]; exact a1, hle.1, hm1, hlo, hhi, htop, hall, fun c q => by
      obtain ⟨p, hp1, hp2⟩ := List.getElem_of_mem q
      exact un_each hc0 a2 a3 p c (Nat.zero_le _) (by rw [List.getElem?_eq_getElem hp1, hp2]), hbest⟩⟩
  · exact absurd h0 h
/-- The document's own example. -/
theorem best_four : BestP [4, 1, 1, 6] 2 [3, 4] 6 := by
  have hc0 : ∀ c ∈ [4, 1, 1, (6 : Int)], 0 ≤ c := by intro c hc; simp at hc; omega
  have hc : ∀ c ∈ [4, 1, 1, (6 : Int)], 0 ≤ c ∧ c ≤ 1000000 := by intro c hc; simp at hc; omega
  have hE : bestE [4, 1, 1, 6] 2 = 0 := bestE_ok (by simp) (costsE_of hc) (by simp)
  have p0 : preS [4, 1, 1, 6] 0 = 0 := rfl
  have p1 : preS [4, 1, 1, 6] 1 = 4 := rfl
  have p2 : preS [4, 1, 1, 6] 2 = 5 := rfl
  have p3 : preS [4, 1, 1, 6] 3 = 6 := rfl
  have p4 : preS [4, 1, 1, 6] 4 = 12 := rfl
  have far : ∀ x, x < 4 → Fw (preS [4, 1, 1, 6]) 4 1 x 6 → 12 - preS [4, 1, 1, 6] x ≤ 6 := by
    rintro x hx ⟨t, h1, h2, h3⟩
    obtain ⟨e, t', rfl, h4, h5⟩ := h2.cons hx
    obtain rfl : t' = [] := List.eq_nil_of_length_eq_zero (by simp at h1; simp [h1])
    obtain rfl : e = 4 := h5
    have := h3.1
    rw [p4] at this
    exact this
  refine .inl ⟨hE, [3, 4], rfl, ⟨by omega, ⟨[3, 4], rfl, ⟨by omega, by omega, rfl⟩, ?_⟩, fun L h0 h => ?_⟩, ?_⟩
  · refine ⟨by rw [p3, p0]; omega, by rw [p4, p3]; omega, trivial⟩
  · obtain ⟨t, h1, h2, h3⟩ := h
    exact un_each hc0 h2 h3 3 6 (by omega) rfl
  · refine ⟨3, [4], rfl, by omega, ⟨[4], by simp, ⟨by omega, rfl⟩, ⟨by rw [p4, p3]; omega, trivial⟩⟩, fun x h1 h2 h => ?_, first_one (n := 4) (by omega)⟩
    have hf := far x (by omega) h
    have : x = 1 ∨ x = 2 := by omega
    rcases this with rfl | rfl
    · rw [p1] at hf; omega
    · rw [p2] at hf; omega
end Go.Proofs.Ytlbcmebifmebgaf
