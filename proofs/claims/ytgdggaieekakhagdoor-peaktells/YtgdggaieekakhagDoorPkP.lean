/- How much a stage keeps at once: plain data. No program in sight. -/
import Derived.Test.YtgdggaieekakhagDoorPlB
namespace Go.Proofs.YtgdggaieekakhagDoor
def szA (zs : List Int) (a : Int × Int) : Int := (zs[a.2.toNat]?).getD 0
/-- What goes away with a Backward, as the law has it: once for each act of that part that stands ahead. -/
def kpI (l : List (Int × Int)) (zs : List Int) (a : Int × Int) : Nat → Int
  | 0 => 0
  | j + 1 => kpI l zs a j + (if ((l[j]?).getD (0, 0)).2 = a.2 ∧ a.1 = 2 then szA zs a else 0)
/-- What is kept behind so many acts, as the law has it. -/
def kpX (l : List (Int × Int)) (zs : List Int) : Nat → Int
  | 0 => 0
  | k + 1 => kpX l zs k + (if ((l[k]?).getD (0, 0)).1 = 1 then szA zs ((l[k]?).getD (0, 0)) else 0) - kpI l zs ((l[k]?).getD (0, 0)) k
/-- The same, one by one. -/
def runX (zs : List Int) : List (Int × Int) → Int
  | [] => 0
  | a :: t => (if a.1 = 1 then szA zs a else -szA zs a) + runX zs t
theorem runX_app (zs : List Int) : ∀ l k, runX zs (l ++ k) = runX zs l + runX zs k
  | [], k => by simp [runX]
  | a :: t, k => by
    have := runX_app zs t k
    simp only [List.cons_append, runX]
    omega
theorem szA_bd {zs : List Int} (h : ∀ x ∈ zs, 0 ≤ x ∧ x ≤ 1000000) (a : Int × Int) : 0 ≤ szA zs a ∧ szA zs a ≤ 1000000 := by
  unfold szA
  cases e : zs[a.2.toNat]? with
  | none => exact ⟨by show (0 : Int) ≤ 0; omega, by show (0 : Int) ≤ 1000000; omega⟩
  | some x => exact h x (List.mem_of_getElem? e)
theorem kpI_bd {l : List (Int × Int)} {zs : List Int} (h : ∀ x ∈ zs, 0 ≤ x ∧ x ≤ 1000000) (a : Int × Int) : ∀ j : Nat, 0 ≤ kpI l zs a j ∧ kpI l zs a j ≤ (j : Int) * 1000000
  | 0 => by simp [kpI]
  | j + 1 => by
    have h1 := kpI_bd h a (l := l) j
    have h2 := szA_bd h a
    unfold kpI
    split <;> omega
theorem kpX_bd {l : List (Int × Int)} {zs : List Int} (h : ∀ x ∈ zs, 0 ≤ x ∧ x ≤ 1000000) : ∀ k : Nat, k ≤ 24 → -((k : Int) * 24000000) ≤ kpX l zs k ∧ kpX l zs k ≤ (k : Int) * 1000000
  | 0, _ => by simp [kpX]
  | k + 1, hk => by
    have h1 := kpX_bd h (l := l) k (by omega)
    have h2 := szA_bd h ((l[k]?).getD (0, 0))
    have h3 := kpI_bd (l := l) h ((l[k]?).getD (0, 0)) k
    unfold kpX
    split <;> omega
/-- In a stage that is right a Backward stands behind just one act of its part. -/
theorem kpI_one {l : List (Int × Int)} {m : Nat} (hok : ∀ x ∈ l, okA (m : Int) x) (hap : apart l) (hln : ¬ (l.length : Int) < 2 * (m : Int)) (hah : ahead l) {zs : List Int} {k : Nat} {a : Int × Int} (ha : l[k]? = some a) (h2 : a.1 = 2) : kpI l zs a k = szA zs a := by
  obtain ⟨o1, o2, o3, o4⟩ := hok a (List.mem_of_getElem? ha)
  have hin : ((1 : Int), a.2) ∈ l := act_in hok hap hln ⟨by show (1 : Int) ≤ 1; omega, by show (1 : Int) ≤ 2; omega, o3, o4⟩
  obtain ⟨j0, hj0⟩ := List.getElem?_of_mem hin
  have hlt : j0 < k := by
    rcases Nat.lt_trichotomy j0 k with q | q | q
    · exact q
    · rw [q, ha] at hj0
      have := Option.some.inj hj0
      rw [this] at h2
      exact absurd (show (1 : Int) = 2 from h2) (by decide)
    · exact absurd ⟨rfl, h2⟩ (hah j0 k _ a q hj0 ha)
  have key : ∀ J, J ≤ k → kpI l zs a J = if j0 < J then szA zs a else 0 := by
    intro J
    induction J with
    | zero => intro _; simp [kpI]
    | succ J ih =>
      intro hJ
      have hJl : J < l.length := by have := (List.getElem?_eq_some_iff.1 ha).1; omega
      have hx : l[J]? = some l[J] := List.getElem?_eq_getElem hJl
      unfold kpI
      rw [ih (by omega), hx]
      show _ + (if l[J].2 = a.2 ∧ a.1 = 2 then szA zs a else 0) = _
      by_cases e : J = j0
      · subst e
        have h3 : l[J].2 = a.2 := by rw [hx] at hj0; rw [Option.some.inj hj0]
        rw [if_neg (by omega), if_pos ⟨h3, h2⟩, if_pos (by omega)]
        omega
      · have h3 : ¬ (l[J].2 = a.2 ∧ a.1 = 2) := fun q => by
          obtain ⟨p1, p2, _, _⟩ := hok l[J] (List.getElem_mem _)
          have h4 : l[J].1 = 1 ∨ l[J].1 = 2 := by omega
          rcases h4 with h4 | h4
          · have h5 : l[J] = ((1 : Int), a.2) := Prod.ext h4 q.1
            rw [h5] at hx
            rcases Nat.lt_or_ge J j0 with r | r
            · exact hap j0 J _ _ r hj0 hx rfl
            · exact hap J j0 _ _ (by omega) hx hj0 rfl
          · have h5 : l[J] = a := Prod.ext (by rw [h4, h2]) q.1
            rw [h5] at hx
            exact hap k J _ _ (by omega) ha hx rfl
        rw [if_neg h3]
        by_cases r : j0 < J
        · rw [if_pos r, if_pos (by omega)]; omega
        · rw [if_neg r, if_neg (by omega)]; omega
  rw [key k (Nat.le_refl _), if_pos hlt]
theorem kpI_none {l : List (Int × Int)} {zs : List Int} {a : Int × Int} (h : a.1 ≠ 2) : ∀ k, kpI l zs a k = 0
  | 0 => rfl
  | k + 1 => by
    unfold kpI
    rw [kpI_none h k, if_neg (fun e => h e.2)]
    omega
/-- What the law keeps is what is kept one by one. -/
theorem kp_run {l : List (Int × Int)} {m : Nat} (hok : ∀ x ∈ l, okA (m : Int) x) (hap : apart l) (hln : ¬ (l.length : Int) < 2 * (m : Int)) (hah : ahead l) (zs : List Int) : ∀ k, k ≤ l.length → kpX l zs k = runX zs (l.take k)
  | 0, _ => rfl
  | k + 1, hk => by
    have hx : l[k]? = some l[k] := List.getElem?_eq_getElem (by omega)
    have ih := kp_run hok hap hln hah zs k (by omega)
    obtain ⟨p1, p2, _, _⟩ := hok l[k] (List.getElem_mem _)
    rw [List.take_add_one, hx, runX_app, ← ih]
    rw [kpX, hx]
    show kpX l zs k + (if l[k].1 = 1 then szA zs l[k] else 0) - kpI l zs l[k] k = kpX l zs k + runX zs [l[k]]
    unfold runX runX
    by_cases c : l[k].1 = 1
    · rw [if_pos c, if_pos c, kpI_none (by omega)]; omega
    · rw [if_neg c, if_neg c, kpI_one hok hap hln hah hx (by omega)]; omega
/-- The greatest of all, from 0 on. -/
def pkX (zs : List Int) (l : List (Int × Int)) : Nat → Int
  | 0 => 0
  | k + 1 => if pkX zs l k < runX zs (l.take (k + 1)) then runX zs (l.take (k + 1)) else pkX zs l k
end Go.Proofs.YtgdggaieekakhagDoor
