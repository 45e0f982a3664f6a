/- A wave keeps all parts; turns keep as many as there are stages from one on, or all parts. Reckoned for all stages and parts that may be. No program in sight. -/
import Derived.Test.YtgdggaieekakhahPkP
import Derived.Test.YtgdggaieekakhahPlD
namespace Go.Proofs.Ytgdggaieekakhah
def pkF (zs : List Int) : Int → Int → List (Int × Int) → Int
  | _, best, [] => best
  | cur, best, a :: t => pkF zs (cur + if a.1 = 1 then szA zs a else -szA zs a) (if best < cur + (if a.1 = 1 then szA zs a else -szA zs a) then cur + (if a.1 = 1 then szA zs a else -szA zs a) else best) t
theorem pkF_at {zs : List Int} {l : List (Int × Int)} : ∀ {d k : Nat}, k + d = l.length → pkF zs (runX zs (l.take k)) (pkX zs l k) (l.drop k) = pkX zs l l.length
  | 0, k, h => by
    rw [List.drop_of_length_le (by omega), pkF, show k = l.length by omega]
  | d + 1, k, h => by
    have hk : k < l.length := by omega
    have hx : l[k]? = some l[k] := List.getElem?_eq_getElem hk
    have e : runX zs (l.take (k + 1)) = runX zs (l.take k) + (if l[k].1 = 1 then szA zs l[k] else -szA zs l[k]) := by
      rw [List.take_add_one, hx, runX_app]
      show runX zs (l.take k) + runX zs [l[k]] = _
      unfold runX runX
      omega
    rw [List.drop_eq_getElem_cons hk, pkF, ← e]
    have := pkF_at (zs := zs) (l := l) (d := d) (k := k + 1) (by omega)
    rw [pkX] at this
    exact this
theorem pk_fast (zs : List Int) (l : List (Int × Int)) : pkX zs l l.length = pkF zs 0 0 l := by
  have := pkF_at (zs := zs) (l := l) (d := l.length) (k := 0) (by omega)
  rw [List.take_zero, List.drop_zero] at this
  exact this.symm
def pkW (S M : Nat) (wave : Bool) (s : Nat) : Int := if wave = true ∨ M < S - s then (M : Int) else ((S - s : Nat) : Int)
def pkOK (S M : Nat) : Bool := (List.range S).all fun s => decide (pkF (List.replicate M 1) 0 0 (stageX S M true s) = pkW S M true s) && decide (pkF (List.replicate M 1) 0 0 (stageX S M false s) = pkW S M false s)
def pkAll (S : Nat) : Bool := (List.range 12).all fun m => pkOK S (m + 1)
theorem pk1 : pkAll 1 = true := by kernel_rfl
theorem pk2 : pkAll 2 = true := by kernel_rfl
theorem pk3 : pkAll 3 = true := by kernel_rfl
theorem pk4 : pkAll 4 = true := by kernel_rfl
theorem pk5 : pkAll 5 = true := by kernel_rfl
theorem pk6 : pkAll 6 = true := by kernel_rfl
/-- How much each stage of waves and turns keeps at once. -/
theorem pk_made {S M : Nat} (hS : 1 ≤ S) (hS6 : S ≤ 6) (hM : 1 ≤ M) (hM12 : M ≤ 12) (wave : Bool) {s : Nat} (hs : s < S) : pkX (List.replicate M 1) (stageX S M wave s) (stageX S M wave s).length = pkW S M wave s := by
  have hall : pkAll S = true := by
    have : S = 1 ∨ S = 2 ∨ S = 3 ∨ S = 4 ∨ S = 5 ∨ S = 6 := by omega
    rcases this with rfl | rfl | rfl | rfl | rfl | rfl
    · exact pk1
    · exact pk2
    · exact pk3
    · exact pk4
    · exact pk5
    · exact pk6
  have h1 : pkOK S M = true := by
    have := List.all_eq_true.1 hall (M - 1) (List.mem_range.2 (by omega))
    rw [show M - 1 + 1 = M by omega] at this
    exact this
  have h2 := List.all_eq_true.1 h1 s (List.mem_range.2 hs)
  rw [Bool.and_eq_true, decide_eq_true_eq, decide_eq_true_eq] at h2
  rw [pk_fast]
  cases wave
  · exact h2.2
  · exact h2.1
end Go.Proofs.Ytgdggaieekakhah
