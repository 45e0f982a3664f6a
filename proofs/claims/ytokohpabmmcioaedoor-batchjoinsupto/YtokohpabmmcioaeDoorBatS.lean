/- Lists of batches in memory. No program in sight but for the sizes of its types. -/
import Derived.Test.YtokohpabmmcioaeDoorNetP
namespace Go.Proofs.YtokohpabmmcioaeDoor
open Go.RowKit
/-- A list of batches. -/
def IsBts (w : World) (v : Value) (ds : List (Mx × Mx)) : Prop := Reads w v ds.length (ds.flatMap gdS)
theorem IsBts.below {w w' : World} {v : Value} {ds : List (Mx × Mx)} (h : IsBts w v ds) (hb : Below w.heap.size w w') : IsBts w' v ds := Reads.below h hb
theorem isBts_nil (w : World) : IsBts w (.slice none 0 0) [] := ⟨none, 0, rfl, Nat.le_refl _, Nat.zero_le _, .inl rfl⟩
theorem infoBt : (Tryd.prog.info? 26).map (fun i => (i.zero, i.size, i.bytes)) = some (some (.agg #[.int .i64 0, .int .i64 0, .slice none 0 0, .int .i64 0, .int .i64 0, .slice none 0 0]), 6, 80) := by kernel_rfl
theorem range_map_snoc {α : Type} (f : Nat → α) (i : Nat) : (List.range i).map f ++ [f i] = (List.range (i + 1)).map f := by simp [List.range_succ]
end Go.Proofs.YtokohpabmmcioaeDoor
