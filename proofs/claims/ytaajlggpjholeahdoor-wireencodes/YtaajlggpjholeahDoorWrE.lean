/- What Encode and Decode of package wire are to answer. -/
import Derived.Test.YtaajlggpjholeahDoorWrR4
import Derived.Test.YtaajlggpjholeahDoorMCheckAll
namespace Go.Proofs.YtaajlggpjholeahDoor
open Go.RowKit
/-- A message's bytes; none where something is wrong with it. -/
def encX (k mi : Int) (b : Mx) : List Int := if msgF k mi b = 0 then msgB k mi b else []
def EncEnd (w w' : World) (k mi : Int) (b : Mx) (e : Ending) : Prop := ∃ s, e = .returned (.tuple #[s, errV (msgF k mi b)]) ∧ IsBys w' s (encX k mi b) ∧ NilOk s ∧ Below w.heap.size w w'
def decE (l : List Int) : Int := match rdMsg l with | none => 7 | some _ => 0
def DecEnd (w w' : World) (l : List Int) (e : Ending) : Prop :=
  ∃ mv j, e = .returned (.tuple #[mv, .int .i64 j, errV (decE l)]) ∧ Below w.heap.size w w' ∧ match rdMsg l with
    | none => IsMsg w' mv 0 0 ⟨0, 0, []⟩ ∧ j = 0
    | some ((k, mi, b), c) => IsMsg w' mv k mi b ∧ j = (c : Int) ∧ ∀ a0 a1 a2 a3 s, mv = .agg #[a0, a1, a2, a3, s] → NilOk s
theorem decE_no {l : List Int} (h : rdMsg l = none) : decE l = 7 := by unfold decE; rw [h]
theorem decE_yes {l : List Int} {x : (Int × Int × Mx) × Nat} (h : rdMsg l = some x) : decE l = 0 := by unfold decE; rw [h]
theorem DecEnd.no {w w' : World} {l : List Int} {e : Ending} (h : DecEnd w w' l e) (hr : rdMsg l = none) : ∃ mv, e = .returned (.tuple #[mv, .int .i64 0, .iface 32 (.int .i64 7)]) ∧ Below w.heap.size w w' ∧ IsMsg w' mv 0 0 ⟨0, 0, []⟩ := by
  obtain ⟨mv, j, h1, h2, h3⟩ := h
  rw [hr] at h3
  rw [decE_no hr, err_ne (by decide), h3.2] at h1
  exact ⟨mv, h1, h2, h3.1⟩
theorem DecEnd.yesN {w w' : World} {l : List Int} {e : Ending} {k mi : Int} {b : Mx} {c : Nat} (h : DecEnd w w' l e) (hr : rdMsg l = some ((k, mi, b), c)) : ∃ mv, e = .returned (.tuple #[mv, .int .i64 (c : Int), .nilIface]) ∧ Below w.heap.size w w' ∧ IsMsg w' mv k mi b ∧ ∀ a0 a1 a2 a3 s, mv = .agg #[a0, a1, a2, a3, s] → NilOk s := by
  obtain ⟨mv, j, h1, h2, h3⟩ := h
  rw [hr] at h3
  rw [decE_yes hr, err_eq rfl, h3.2.1] at h1
  exact ⟨mv, h1, h2, h3.1, h3.2.2⟩
theorem DecEnd.yes {w w' : World} {l : List Int} {e : Ending} {k mi : Int} {b : Mx} {c : Nat} (h : DecEnd w w' l e) (hr : rdMsg l = some ((k, mi, b), c)) : ∃ mv, e = .returned (.tuple #[mv, .int .i64 (c : Int), .nilIface]) ∧ Below w.heap.size w w' ∧ IsMsg w' mv k mi b := by
  obtain ⟨mv, h1, h2, h3, _⟩ := h.yesN hr
  exact ⟨mv, h1, h2, h3⟩
theorem ReadEnd.none {w w' : World} {l : List Int} {e : Ending} (h : ReadEnd w w' l e) (hr : rdMsg l = .none) : ∃ mv, e = .returned (.tuple #[mv, .int .i64 (-1)]) ∧ Below w.heap.size w w' ∧ IsMsg w' mv 0 0 ⟨0, 0, []⟩ := by
  obtain ⟨mv, j, h1, h2, h3⟩ := h
  rw [hr] at h3
  rw [h3.2] at h1
  exact ⟨mv, h1, h2, h3.1⟩
theorem ReadEnd.some {w w' : World} {l : List Int} {e : Ending} {k mi : Int} {b : Mx} {c : Nat} (h : ReadEnd w w' l e) (hr : rdMsg l = .some ((k, mi, b), c)) : ∃ mv, e = .returned (.tuple #[mv, .int .i64 (c : Int)]) ∧ Below w.heap.size w w' ∧ IsMsg w' mv k mi b := by
  obtain ⟨mv, j, h1, h2, h3⟩ := h
  rw [hr] at h3
  rw [h3.2] at h1
  exact ⟨mv, h1, h2, h3.1⟩
/- To be proved of package wire in the text WrC:
wenc_any (v : Value) (k mi : Int) (b : Mx) (w : World) (hv : IsMsg w v k mi b) : Calls prog (wire.Encode) #[v] w (fun e w' => EncEnd w w' k mi b e)
wdec_any (v : Value) (l : List Int) (w : World) (hv : IsBys w v l) : Calls prog (wire.Decode) #[v] w (fun e w' => DecEnd w w' l e) -/
end Go.Proofs.YtaajlggpjholeahDoor
