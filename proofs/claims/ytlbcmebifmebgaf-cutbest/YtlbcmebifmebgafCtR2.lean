/- What BestOf of the document's answer comes to: the first cuts of all that begin so, whose dearest stage is cheapest, and what that one costs. -/
import Derived.Test.YtlbcmebifmebgafCtR1
namespace Go.Proofs.Ytlbcmebifmebgaf
open Go.RowKit
def lstN (ts : List Nat) : Nat := ts.getLastD 0
theorem lstN_snoc (ts : List Nat) (e : Nat) : lstN (ts ++ [e]) = e := by simp [lstN, List.getLastD_eq_getLast?]
theorem ctI_at {ts : List Nat} {i e : Nat} (h : ts[i]? = some e) : (ctI ts)[i]? = some (e : Int) := by simp [ctI, h]
theorem prv_lst (ts : List Nat) : prv (ctI ts) ts.length = (lstN ts : Int) := by
  cases h : ts.length with
  | zero =>
    obtain rfl : ts = [] := List.eq_nil_of_length_eq_zero h
    rfl
  | succ k =>
    have hl : ts.getLast? = ts[k]? := by rw [List.getLast?_eq_getElem?, h]; rfl
    obtain ⟨e, he⟩ : ∃ e, ts[k]? = some e := ⟨ts[k], List.getElem?_eq_getElem (by omega)⟩
    rw [prv_at (ctI_at he)]
    unfold lstN
    rw [List.getLastD_eq_getLast?, hl, he]
    rfl
theorem prv_old (ts : List Nat) (e : Nat) {i : Nat} (h : i ≤ ts.length) : prv (ctI (ts ++ [e])) i = prv (ctI ts) i := by
  cases i with
  | zero => rfl
  | succ i =>
    have : i < ts.length := by omega
    rw [prv_at (ctI_at (List.getElem?_append_left (by omega) |>.trans (List.getElem?_eq_getElem this))), prv_at (ctI_at (List.getElem?_eq_getElem this))]
theorem prv_new (ts : List Nat) (e : Nat) : prv (ctI (ts ++ [e])) (ts.length + 1) = (e : Int) := by
  have := prv_lst (ts ++ [e])
  rw [lstN_snoc, List.length_append] at this
  exact this
theorem rising_snoc {ts : List Nat} {e : Nat} (h : rising (ctI ts)) (he : lstN ts < e) : rising (ctI (ts ++ [e])) := by
  intro i hi
  rw [ctI_len, List.length_append] at hi
  simp at hi
  rcases Nat.lt_or_ge i ts.length with q | q
  · rw [prv_old ts e (by omega), prv_old ts e (by omega)]
    exact h i (by rw [ctI_len]; exact q)
  · obtain rfl : i = ts.length := by omega
    rw [prv_old ts e (Nat.le_refl _), prv_new, prv_lst]
    omega
/-- What the dearest of the stages so far costs. -/
def topT (cs : List Int) (ts : List Nat) : Int := topF (stg cs (ctI ts)) ts.length
theorem topT_nil (cs : List Int) : topT cs [] = 0 := rfl
theorem topT_snoc (cs : List Int) (ts : List Nat) (e : Nat) : topT cs (ts ++ [e]) = max (topT cs ts) (preS cs e - preS cs (lstN ts)) := by
  have h1 : topT cs (ts ++ [e]) = max (topF (stg cs (ctI (ts ++ [e]))) ts.length) (stg cs (ctI (ts ++ [e])) ts.length) := by
    unfold topT
    rw [List.length_append]
    rfl
  have h2 : topF (stg cs (ctI (ts ++ [e]))) ts.length = topT cs ts := by
    unfold topT
    refine topF_congr (fun i hi => ?_)
    unfold stg
    rw [prv_old ts e (by omega), prv_old ts e (by omega)]
  have h3 : stg cs (ctI (ts ++ [e])) ts.length = preS cs e - preS cs (lstN ts) := by
    unfold stg
    rw [prv_new, prv_old ts e (Nat.le_refl _), prv_lst, Int.toNat_natCast, Int.toNat_natCast]
  rw [h1, h2, h3]
theorem empty_own (w : World) : OwnZ (w.alloc (.cells #[] 3)) w.heap.size (.slice (some ⟨w.heap.size, 0, none⟩) 0 0) [] := World.ownsRow_made _ _ _ (Nat.le_refl _) (by unfold maxLen; omega) rfl
end Go.Proofs.Ytlbcmebifmebgaf
