/- Batches joined, as plain data: what is wrong with any, with all together; what they come to. No program in sight. -/
import Derived.Test.YtokohpabmmcioaeDoorBatch
import Derived.Test.YtokohpabmmcioaeDoorMStk
import Derived.Test.YtokohpabmmcioaeDoorNetB
namespace Go.Proofs.YtokohpabmmcioaeDoor
open Go.RowKit
/-- The first fault of some batches. -/
def bfaults : List (Mx × Mx) → Int
  | [] => 0
  | b :: l => if batE b = 0 then bfaults l else batE b
theorem bfaults_snoc (l : List (Mx × Mx)) (d : Mx × Mx) : bfaults (l ++ [d]) = if bfaults l = 0 then batE d else bfaults l := by
  induction l with
  | nil => show (if batE d = 0 then 0 else batE d) = _; by_cases h : batE d = 0 <;> simp [bfaults, h]
  | cons b l ih =>
    show (if batE b = 0 then bfaults (l ++ [d]) else batE b) = if (if batE b = 0 then bfaults l else batE b) = 0 then batE d else (if batE b = 0 then bfaults l else batE b)
    by_cases h : batE b = 0
    · rw [if_pos h, if_pos h, ih]
    · rw [if_neg h, if_neg h, if_neg h]
theorem bfaults_app (l r : List (Mx × Mx)) (h : bfaults l ≠ 0) : bfaults (l ++ r) = bfaults l := by
  induction l with
  | nil => exact absurd rfl h
  | cons b l ih =>
    show (if batE b = 0 then bfaults (l ++ r) else batE b) = if batE b = 0 then bfaults l else batE b
    by_cases hb : batE b = 0
    · rw [if_pos hb, if_pos hb]
      refine ih ?_
      have h' : (if batE b = 0 then bfaults l else batE b) ≠ 0 := h
      rw [if_pos hb] at h'; exact h'
    · rw [if_neg hb, if_neg hb]
theorem bfaults_part {ds : List (Mx × Mx)} {i : Nat} {d : Mx × Mx} {g : Int} (h : bfaults (ds.take i) = 0) (hd : ds[i]? = some d) (hg : batE d = g) (h0 : g ≠ 0) : bfaults ds = g := by
  have e1 : bfaults (ds.take (i + 1)) = g := by rw [take_end hd, bfaults_snoc, if_pos h, hg]
  have e2 : ds = ds.take (i + 1) ++ ds.drop (i + 1) := (List.take_append_drop _ _).symm
  rw [e2, bfaults_app _ _ (by rw [e1]; exact h0), e1]
theorem bfaults_all {ds : List (Mx × Mx)} (h : bfaults ds = 0) : ∀ d ∈ ds, batE d = 0 := by
  induction ds with
  | nil => intro d hd; simp at hd
  | cons b l ih =>
    have h' : (if batE b = 0 then bfaults l else batE b) = 0 := h
    by_cases hb : batE b = 0
    · rw [if_pos hb] at h'
      intro d hd
      rcases List.mem_cons.1 hd with rfl | hd
      · exact hb
      · exact ih h' d hd
    · rw [if_neg hb] at h'; exact absurd h' hb
theorem bfaults_none {ds : List (Mx × Mx)} (h : ∀ d ∈ ds, batE d = 0) : bfaults ds = 0 := by
  induction ds with
  | nil => rfl
  | cons b l ih =>
    show (if batE b = 0 then bfaults l else batE b) = 0
    rw [if_pos (h b (by simp))]
    exact ih (fun d hd => h d (by simp [hd]))
/-- What stack says of batches that Check takes, and gives. -/
def stkE (ds : List (Mx × Mx)) : Int := if stackE (ds.map Prod.fst) ≠ 0 then stackE (ds.map Prod.fst) else stackE (ds.map Prod.snd)
def stkX (ds : List (Mx × Mx)) : Mx × Mx := if stkE ds = 0 then (stackX (ds.map Prod.fst), stackX (ds.map Prod.snd)) else (noMx, noMx)
/-- What Join says and gives. -/
def joinE (ds : List (Mx × Mx)) : Int := if ds = [] then 2 else if bfaults ds ≠ 0 then bfaults ds else stkE ds
def joinX (ds : List (Mx × Mx)) : Mx × Mx := if joinE ds = 0 then stkX ds else (noMx, noMx)
end Go.Proofs.YtokohpabmmcioaeDoor
