/- Two nets, one behind the other, are one net, there and back: plain facts. No program in sight. -/
import Derived.Test.YtbkkhdekjgabfadNetP
import Derived.Test.YtbkkhdekjgabfadNetB
import Derived.Test.YtbkkhdekjgabfadLyGood
namespace Go.Proofs.Ytbkkhdekjgabfad
/-- What comes of all layers. -/
def endX : List Ly → Mx → Mx
  | [], x => x
  | l :: ls, x => endX ls (goX l x)
theorem runE_cons (l : Ly) (ls : List Ly) (x : Mx) : runE (l :: ls) x = if goE l x ≠ 0 then goE l x else runE ls (goX l x) := rfl
theorem runE_zero {l : Ly} {ls : List Ly} {x : Mx} (h : runE (l :: ls) x = 0) : goE l x = 0 ∧ runE ls (goX l x) = 0 := by
  by_cases h0 : goE l x = 0
  · rw [runE_cons, if_neg (by simp [h0])] at h; exact ⟨h0, h⟩
  · rw [runE_cons, if_pos h0] at h; exact absurd h h0
theorem runE_app : ∀ (a b : List Ly) (x : Mx), runE (a ++ b) x = 0 → runE a x = 0 ∧ runE b (endX a x) = 0
  | [], _, _, h => ⟨rfl, h⟩
  | l :: a, b, x, h => by
    obtain ⟨h0, h1⟩ := runE_zero (ls := a ++ b) h
    obtain ⟨h2, h3⟩ := runE_app a b (goX l x) h1
    exact ⟨by rw [runE_cons, if_neg (by simp [h0])]; exact h2, h3⟩
theorem runT_app : ∀ (a b : List Ly) (x : Mx), runT (a ++ b) x = runT a x ++ runT b (endX a x)
  | [], _, _ => rfl
  | l :: a, b, x => by
    show goX l x :: runT (a ++ b) (goX l x) = _
    rw [runT_app a b]; rfl
theorem runT_len : ∀ (a : List Ly) (x : Mx), (runT a x).length = a.length
  | [], _ => rfl
  | l :: a, x => by show (goX l x :: runT a (goX l x)).length = _; rw [List.length_cons, runT_len a]; rfl
theorem endX_at : ∀ (a : List Ly) (x : Mx), (x :: runT a x)[a.length]? = some (endX a x)
  | [], _ => rfl
  | l :: a, x => by
    show (x :: goX l x :: runT a (goX l x))[a.length + 1]? = _
    rw [List.getElem?_cons_succ]; exact endX_at a (goX l x)
theorem endX_good : ∀ (a : List Ly) (x : Mx), fault x = 0 → runE a x = 0 → fault (endX a x) = 0
  | [], _, h, _ => h
  | l :: a, x, h, hr => by
    obtain ⟨h0, h1⟩ := runE_zero hr
    obtain ⟨R, C, gx⟩ := good_of h
    obtain ⟨C', g, _⟩ := go_good gx h0
    exact endX_good a (goX l x) g.fault h1
theorem ngE_iff (a : List Ly) (x : Mx) : ngE a x = 0 ↔ ¬ 12 < a.length ∧ fault x = 0 ∧ runE a x = 0 := by
  unfold ngE
  by_cases h1 : 12 < a.length
  · rw [if_pos h1]; exact ⟨fun h => by simp at h, fun h => absurd h1 h.1⟩
  · rw [if_neg h1]
    by_cases h2 : fault x = 0
    · rw [if_neg (by simp [h2])]; exact ⟨fun h => ⟨h1, h2, h⟩, fun h => h.2.2⟩
    · rw [if_pos h2]; exact ⟨fun h => absurd h h2, fun h => absurd h.2.1 h2⟩
/-- What stands behind all layers but the last, and from the middle on. -/
theorem join_go {a b : List Ly} {x : Mx} (h : ngE (a ++ b) x = 0) : ngE a x = 0 ∧ ngE b (endX a x) = 0 ∧ ngX a x = x :: runT a x ∧ ngX b (endX a x) = endX a x :: runT b (endX a x) ∧ ngX (a ++ b) x = ngX a x ++ runT b (endX a x) := by
  obtain ⟨h1, h2, h3⟩ := (ngE_iff _ _).1 h
  obtain ⟨h4, h5⟩ := runE_app a b x h3
  rw [List.length_append] at h1
  have ha := (ngE_iff a x).2 ⟨by omega, h2, h4⟩
  have hb := (ngE_iff b (endX a x)).2 ⟨by omega, endX_good a x h2 h4, h5⟩
  refine ⟨ha, hb, by unfold ngX; rw [if_pos ha], by unfold ngX; rw [if_pos hb], ?_⟩
  unfold ngX; rw [if_pos h, if_pos ha, runT_app, List.cons_append]
theorem bkE_cons (l : Ly) (ls : List Ly) (x : Mx) (xs : List Mx) (g : Mx) : bkE (l :: ls) (x :: xs) g = if backE l x g ≠ 0 then backE l x g else bkE ls xs (backX l x g) := rfl
theorem bkE_zero {l : Ly} {ls : List Ly} {x : Mx} {xs : List Mx} {g : Mx} (h : bkE (l :: ls) (x :: xs) g = 0) : backE l x g = 0 ∧ bkE ls xs (backX l x g) = 0 := by
  by_cases h0 : backE l x g = 0
  · rw [bkE_cons, if_neg (by simp [h0])] at h; exact ⟨h0, h⟩
  · rw [bkE_cons, if_pos h0] at h; exact absurd h h0
theorem bk_app : ∀ (r1 : List Ly) (s1 : List Mx) (r2 : List Ly) (s2 : List Mx) (g : Mx), r1.length = s1.length →
    (bkE (r1 ++ r2) (s1 ++ s2) g = 0 → bkE r1 s1 g = 0 ∧ bkE r2 s2 (bkX r1 s1 g) = 0) ∧ bkX (r1 ++ r2) (s1 ++ s2) g = bkX r2 s2 (bkX r1 s1 g) ∧ bkD (r1 ++ r2) (s1 ++ s2) g = bkD r2 s2 (bkX r1 s1 g) ++ bkD r1 s1 g
  | [], [], r2, s2, g, _ => ⟨fun h => ⟨rfl, h⟩, rfl, by simp [bkD, bkX]⟩
  | [], _ :: _, _, _, _, h => by simp at h
  | _ :: _, [], _, _, _, h => by simp at h
  | l :: r1, x :: s1, r2, s2, g, h => by
    obtain ⟨i1, i2, i3⟩ := bk_app r1 s1 r2 s2 (backX l x g) (by simpa using h)
    refine ⟨fun he => ?_, i2, ?_⟩
    · obtain ⟨h0, h1⟩ := bkE_zero (ls := r1 ++ r2) (xs := s1 ++ s2) he
      obtain ⟨h2, h3⟩ := i1 h1
      exact ⟨by rw [bkE_cons, if_neg (by simp [h0])]; exact h2, h3⟩
    · show bkD (r1 ++ r2) (s1 ++ s2) (backX l x g) ++ [(gradW l x g, gradB l x g)] = _
      rw [i3, List.append_assoc]; rfl
theorem bk_good : ∀ (r : List Ly) (s : List Mx) (g : Mx), fault g = 0 → bkE r s g = 0 → fault (bkX r s g) = 0
  | [], _, _, h, _ => by simpa [bkX] using h
  | _ :: _, [], _, h, _ => by simpa [bkX] using h
  | l :: r, x :: s, g, _, hr => by
    obtain ⟨h0, h1⟩ := bkE_zero hr
    obtain ⟨R, C, gx⟩ := good_of (goE_zero (backE_zero h0).1).2.1
    obtain ⟨Cg, _, _, gb⟩ := back_good gx h0
    exact bk_good r s (backX l x g) gb.fault h1
theorem bk_fault {r : List Ly} {s : List Mx} {g : Mx} (h : bkE r s g = 0) (h0 : r ≠ []) (hl : r.length = s.length) : fault g = 0 := by
  match r, s, hl with
  | [], _, _ => exact absurd rfl h0
  | l :: r, x :: s, _ => exact (backE_zero (bkE_zero h).1).2.1
  | _ :: _, [], hl => simp at hl
theorem nbE_iff (ls : List Ly) (ms : List Mx) (g : Mx) : nbE ls ms g = 0 ↔ ¬ 12 < ls.length ∧ ms.length = ls.length + 1 ∧ fault g = 0 ∧ bkE ls.reverse (ms.take ls.length).reverse g = 0 := by
  unfold nbE
  by_cases h1 : 12 < ls.length
  · rw [if_pos h1]; exact ⟨fun h => by simp at h, fun h => absurd h1 h.1⟩
  · rw [if_neg h1]
    by_cases h2 : ms.length = ls.length + 1
    · rw [if_neg (by simp [h2])]
      by_cases h3 : ls = []
      · subst h3
        rw [if_pos rfl]
        exact ⟨fun h => ⟨h1, h2, h, by simp [bkE]⟩, fun h => h.2.2.1⟩
      · rw [if_neg h3]
        exact ⟨fun h => ⟨h1, h2, bk_fault h (by simpa using h3) (by simp; omega), h⟩, fun h => h.2.2.2⟩
    · rw [if_pos h2]; exact ⟨fun h => by simp at h, fun h => absurd h.2.1 h2⟩
/-- What goes back through both is what goes back through the one, and then through the other. -/
theorem join_back {a b : List Ly} {x g : Mx} (hx : ngE (a ++ b) x = 0) (h : nbE (a ++ b) (ngX (a ++ b) x) g = 0) :
    nbE b (ngX b (endX a x)) g = 0 ∧ nbE a (ngX a x) (nbX b (ngX b (endX a x)) g) = 0 ∧ nbX a (ngX a x) (nbX b (ngX b (endX a x)) g) = nbX (a ++ b) (ngX (a ++ b) x) g ∧
    nbD (a ++ b) (ngX (a ++ b) x) g = nbD a (ngX a x) (nbX b (ngX b (endX a x)) g) ++ nbD b (ngX b (endX a x)) g := by
  obtain ⟨_, _, e1, e2, e3⟩ := join_go hx
  obtain ⟨i1, i2, i3, i4⟩ := (nbE_iff _ _ _).1 h
  have hu : (ngX a x).length = a.length + 1 := by rw [e1, List.length_cons, runT_len]
  have hv : (ngX b (endX a x)).length = b.length + 1 := by rw [e2, List.length_cons, runT_len]
  have hcut : (ngX (a ++ b) x).take (a ++ b).length = (ngX a x).take a.length ++ (ngX b (endX a x)).take b.length := by
    have hsp : ngX a x = (ngX a x).take a.length ++ [endX a x] := by
      have := take_end (xs := ngX a x) (k := a.length) (x := endX a x) (by rw [e1]; exact endX_at a x)
      rw [List.take_of_length_le (by omega)] at this; exact this
    rw [e3, hsp, List.append_assoc, List.singleton_append, ← e2, List.length_append]
    rw [List.take_append, List.length_take, hu, Nat.min_eq_left (by omega), List.take_take, Nat.min_eq_right (by omega), List.take_append]
    simp [hu, List.take_take]
  have hrev : (a ++ b).reverse = b.reverse ++ a.reverse := by simp
  have hl : b.reverse.length = ((ngX b (endX a x)).take b.length).reverse.length := by simp [hv]
  rw [hcut, hrev, List.reverse_append] at i4
  obtain ⟨j1, j2, j3⟩ := bk_app b.reverse ((ngX b (endX a x)).take b.length).reverse a.reverse ((ngX a x).take a.length).reverse g hl
  obtain ⟨k1, k2⟩ := j1 i4
  rw [List.length_append] at i1
  have hb := (nbE_iff b (ngX b (endX a x)) g).2 ⟨by omega, hv, i3, k1⟩
  have hX : nbX b (ngX b (endX a x)) g = bkX b.reverse ((ngX b (endX a x)).take b.length).reverse g := by unfold nbX; rw [if_pos hb]
  have ha := (nbE_iff a (ngX a x) (nbX b (ngX b (endX a x)) g)).2 ⟨by omega, hu, by rw [hX]; exact bk_good _ _ _ i3 k1, by rw [hX]; exact k2⟩
  refine ⟨hb, ha, ?_, ?_⟩
  · rw [show nbX (a ++ b) (ngX (a ++ b) x) g = bkX (b.reverse ++ a.reverse) (((ngX b (endX a x)).take b.length).reverse ++ ((ngX a x).take a.length).reverse) g by unfold nbX; rw [if_pos h, hcut, hrev, List.reverse_append], j2, ← hX]
    show (if _ then _ else _) = _
    rw [if_pos ha]
  · rw [show nbD (a ++ b) (ngX (a ++ b) x) g = bkD (b.reverse ++ a.reverse) (((ngX b (endX a x)).take b.length).reverse ++ ((ngX a x).take a.length).reverse) g by unfold nbD; rw [if_pos h, hcut, hrev, List.reverse_append], j3, ← hX]
    unfold nbD
    rw [if_pos ha, if_pos hb]
end Go.Proofs.Ytbkkhdekjgabfad
