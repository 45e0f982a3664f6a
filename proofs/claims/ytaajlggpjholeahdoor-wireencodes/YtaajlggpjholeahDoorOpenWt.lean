/- How much each of the parameters may weigh. -/
import Derived.Test.YtaajlggpjholeahDoorOpenMf
import Derived.SizedLaws
namespace Go.Proofs.YtaajlggpjholeahDoor
open Go.ChangeShapes Go.WideShapes Go.ChangeAt Go.RowKit Go.Joins Go.Deep
theorem weights_of {H : Type} {P : Program} {ts : List TypeId} {ds : List (DataW H)} (h : (DataW.weightsEach P ts ds).all (· ≤ reachBytes) = true) {j : Nat} {t : TypeId} {d : DataW H} (ht : ts[j]? = some t) (hd : ds[j]? = some d) : ∀ n ∈ d.weights P t, n ≤ 140737488351232 := fun n hn => by
  have := List.all_eq_true.1 h n (DataW.weights_mem_each ht hd n hn)
  have h2 : n ≤ reachBytes := of_decide_eq_true this
  exact h2
theorem bytesInt : Tryd.prog.bytesOf 3 = 8 := by kernel_rfl
theorem ints_w {H : Type} {enc : TypeId × Value → H} {w : World} {held : Bool} {base fuel B : Nat} {v : Value} {x : DataW H × List MemPlace} {zs : List Int} (h : DataW.trod enc Tryd.prog w base (fun _ => true) held fuel 22 [v] = some x) (hz : IsInts w v zs) (hB : ∀ n ∈ x.1.weights Tryd.prog 22, n ≤ B) : zs.length * 8 ≤ B := by
  obtain ⟨a', cap', hv, _, _, _⟩ := hz
  rcases open_slice Tryd.underlying22 h with ⟨hcs, _⟩ | ⟨a, len, cap, m, n, D, Pl, hcs, hb, hl, hm, hmm, rfl, hx⟩
  · obtain rfl : v = .slice none 0 0 := by simpa using hcs
    injection hv with _ e _
    omega
  · obtain rfl : v = .slice (some a) len cap := by simpa using hcs
    injection hv with _ e _
    have := hB ((len + (m - len)) * Tryd.prog.bytesOf 3) (by simp [DataW.weights, Tryd.underlying22])
    rw [bytesInt] at this
    omega
set_option maxRecDepth 100000 in
theorem mx_w {H : Type} {enc : TypeId × Value → H} {w : World} {held : Bool} {base n B : Nat} {m : Mx} {s : Value} {x : DataW H × List MemPlace} (h : DataW.trod enc Tryd.prog w base (fun _ => true) held n 24 [.int .i64 m.rows, .int .i64 m.cols, s] = some x) (hs : IsInts w s m.cells) (hB : ∀ n ∈ x.1.weights Tryd.prog 24, n ≤ B) : m.cells.length * 8 ≤ B := by
  obtain ⟨y0, y1, y2, n', hx, hl, h0, h1, h2⟩ := trod_struct3 Tryd.underlying24 h
  have h2' : DataW.trod enc Tryd.prog w base (fun _ => true) held n' 22 [s] = some y2 := by
    have hc : Tryd.prog.cellsOf 22 = 1 := by kernel_rfl
    simpa [hc] using h2
  refine ints_w h2' hs (fun k hk => hB k ?_)
  rw [hx]
  simp only [DataW.weights, Tryd.underlying24, DataW.weightsEach, List.map_cons, List.map_nil, List.mem_append]
  exact .inr (.inr (.inl hk))
theorem weightsAll_in {H : Type} {P : Program} {e : TypeId} {d : DataW H} {l : List (DataW H)} (h : d ∈ l) : ∀ n ∈ d.weights P e, n ∈ DataW.weightsAll P e l := by
  induction l with
  | nil => cases h
  | cons y l ih =>
    intro n hn
    simp only [DataW.weightsAll, List.mem_append]
    rcases List.mem_cons.1 h with rfl | h'
    · exact .inl hn
    · exact .inr (ih h' n hn)
end Go.Proofs.YtaajlggpjholeahDoor
