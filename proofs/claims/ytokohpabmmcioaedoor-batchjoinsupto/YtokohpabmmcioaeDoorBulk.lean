/- What the bound of a second form gives: a list that came in is not longer than the bound. -/
import Derived.Test.YtokohpabmmcioaeDoorRows
namespace Go.Proofs.YtokohpabmmcioaeDoor
theorem bulk_pos {H : Type} (d : DataW H) : 0 < Rows.uptoBulk d := by
  cases d with
  | lit l => cases l <;> simp [Rows.uptoBulk]
  | _ => simp [Rows.uptoBulk]
theorem bulk_count {H : Type} (l : List (DataW H)) : l.length ≤ Rows.uptoBulkAll l := by
  induction l with
  | nil => exact Nat.zero_le _
  | cons d l ih =>
    have h := bulk_pos d
    have e : Rows.uptoBulkAll (d :: l) = Rows.uptoBulk d + Rows.uptoBulkAll l := by simp [Rows.uptoBulkAll]
    rw [e, List.length_cons]; omega
theorem bulk_mem {H : Type} {d : DataW H} {l : List (DataW H)} (h : d ∈ l) : Rows.uptoBulk d ≤ Rows.uptoBulkAll l := by
  induction l with
  | nil => cases h
  | cons x l ih =>
    have e : Rows.uptoBulkAll (x :: l) = Rows.uptoBulk x + Rows.uptoBulkAll l := by simp [Rows.uptoBulkAll]
    rw [e]
    rcases List.mem_cons.1 h with rfl | h'
    · omega
    · have := ih h'; omega
theorem bulk_list {H : Type} {l es sp : List (DataW H)} (hk : Rows.uptoSmall H l = true) (hm : DataW.slice es sp ∈ l) : es.length ≤ 1048576 := by
  have h1 : Rows.uptoBulkAll l ≤ 1048576 := of_decide_eq_true hk
  have h2 := bulk_mem hm
  have h3 := bulk_count es
  have e : Rows.uptoBulk (DataW.slice es sp) = Rows.uptoBulkAll es + Rows.uptoBulkAll sp + 1 := by simp [Rows.uptoBulk]
  rw [e] at h2
  omega
end Go.Proofs.YtokohpabmmcioaeDoor
