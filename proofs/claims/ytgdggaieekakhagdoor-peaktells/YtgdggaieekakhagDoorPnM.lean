/- What was done, as a map in memory: who, what, which part; and when. -/
import Derived.Test.YtgdggaieekakhagDoorPlD
import Derived.Maps.Keyed
import Derived.Maps.OwnSet
import Derived.DeepKeys4
namespace Go.Proofs.YtgdggaieekakhagDoor
open Go.RowKit
/-- A deed as the map's key. -/
def keyD (d : Int × Int × Int) : Value := .agg #[.int .i64 d.1, .int .i64 d.2.1, .int .i64 d.2.2]
def okD (d : Int × Int × Int) : Prop := 0 ≤ d.1 ∧ d.1 ≤ 100 ∧ 0 ≤ d.2.1 ∧ d.2.1 ≤ 100 ∧ 0 ≤ d.2.2 ∧ d.2.2 ≤ 100
theorem keyD_inj {a b : Int × Int × Int} (h : keyD a = keyD b) : a = b := by
  obtain ⟨a1, a2, a3⟩ := a
  obtain ⟨b1, b2, b3⟩ := b
  simpa [keyD] using h
theorem laidD : laidOutB Tryd.prog = true := by kernel_rfl
theorem rowD : (99 : TypeId) < Tryd.prog.types.size := of_decide_eq_true (by kernel_rfl)
theorem wideD : (match Tryd.prog.underlying 99 with | some (.array _ _) | some (.struct _) => true | _ => false) = true := by kernel_rfl
set_option maxRecDepth 100000 in
theorem lawD : Maps.Keyed Tryd.prog 99 := Maps.Keyed.of_law (deep_law_laid laidD (m := 3) (by omega) rowD (by kernel_rfl) wideD)
theorem typesD : ∃ n, Tryd.prog.types.size = n + 2 := ⟨Tryd.prog.types.size - 2, by kernel_rfl⟩
theorem ktypeD : Tryd.prog.keyType 99 = true := by kernel_rfl
theorem cellsD : Tryd.prog.cellsOf 99 = 3 := by kernel_rfl
theorem cellsD2 : Tryd.prog.cellsOf 56 = 2 := by kernel_rfl
theorem cellsD1 : Tryd.prog.cellsOf 3 = 1 := by kernel_rfl
theorem zeroI (w : World) : (zeroValue 3).run Tryd.prog w = .ok (.int .i64 0) w := by kernel_rfl
theorem keyD_of {d : Int × Int × Int} (h : okD d) : ∃ l, keyOf Tryd.prog 99 (keyD d) = some l := by
  obtain ⟨a, b, c⟩ := d
  obtain ⟨h1, h2, h3, h4, h5, h6⟩ := h
  dsimp only at h1 h2 h3 h4 h5 h6
  have wa : (Lit.int .i64 a).wf = true := WalkArith.wf_i64 (by omega)
  have wb : (Lit.int .i64 b).wf = true := WalkArith.wf_i64 (by omega)
  have wc : (Lit.int .i64 c).wf = true := WalkArith.wf_i64 (by omega)
  obtain ⟨n, hn⟩ := typesD
  have hf : (keyD (a, b, c)).formed Tryd.prog 99 = true := by
    simp [Value.formed, keyD, Tryd.underlying99, cellsD]
  have e : ∃ ls, Tryd.prog.keyLits (Tryd.prog.types.size + 1) 99 (keyD (a, b, c)).cells.toList = some ls := by
    rw [hn]
    simp [Program.keyLits, keyD, Value.cells, Tryd.underlying99, Tryd.underlying56, Tryd.underlying3, cellsD, cellsD2, cellsD1, wa, wb, wc]
    rw [if_pos (by decide)]
    exact ⟨_, rfl⟩
  obtain ⟨ls, hls⟩ := e
  unfold keyOf
  rw [Tryd.underlying99]
  dsimp only
  rw [ktypeD, hf, hls]
  exact ⟨_, rfl⟩
/-- Block b is a map of these deeds, in the order in which they were done. -/
def Deeds (w : World) (b : Nat) (L : List (Int × Int × Int)) : Prop :=
  ∃ es clock, w.heap[b]? = some (.map es clock) ∧ L.Nodup ∧ (∀ d ∈ L, okD d) ∧ es.size = L.length ∧ ∀ (i : Nat) (e : MapEntry), es[i]? = some e → ∃ d, L[i]? = some d ∧ e.key = keyD d ∧ e.val = .int .i64 (i : Int)
/-- When a deed was done; 0: never. -/
def posD (d : Int × Int × Int) (L : List (Int × Int × Int)) : Int := if d ∈ L then (L.idxOf d : Int) else 0
theorem idx_at {L : List (Int × Int × Int)} (hn : L.Nodup) {i : Nat} {d : Int × Int × Int} (h : L[i]? = some d) : L.idxOf d = i := by
  obtain ⟨hi, rfl⟩ := List.getElem?_eq_some_iff.1 h
  exact List.Nodup.idxOf_getElem hn i hi
theorem posD_at {L : List (Int × Int × Int)} (hn : L.Nodup) {i : Nat} {d : Int × Int × Int} (h : L[i]? = some d) : posD d L = i := by
  unfold posD
  rw [if_pos (List.mem_of_getElem? h), idx_at hn h]
theorem Deeds.new (w : World) : Deeds (w.alloc (.map #[] 0)) w.heap.size [] := ⟨#[], 0, (MapKept.heap_alloc w _).1, List.nodup_nil, fun d h => by simp at h, rfl, fun i e h => by simp at h⟩
theorem Deeds.lt {w : World} {b : Nat} {L : List (Int × Int × Int)} (h : Deeds w b L) : b < w.heap.size := by
  obtain ⟨es, clock, hb, _⟩ := h
  exact (Array.getElem?_eq_some_iff.1 hb).1
theorem Deeds.nodup {w : World} {b : Nat} {L : List (Int × Int × Int)} (h : Deeds w b L) : L.Nodup := by obtain ⟨_, _, _, h2, _⟩ := h; exact h2
theorem Deeds.below {w w' : World} {b : Nat} {L : List (Int × Int × Int)} (h : Deeds w b L) (hb : Below w.heap.size w w') : Deeds w' b L := by
  have hl := h.lt
  obtain ⟨es, clock, h1, h2⟩ := h
  exact ⟨es, clock, (hb.block b hl).trans h1, h2⟩
theorem Deeds.find {w : World} {b : Nat} {L : List (Int × Int × Int)} (h : Deeds w b L) {d : Int × Int × Int} (hd : okD d) (w2 : World) : ∃ es clock, w.heap[b]? = some (.map es clock) ∧ es.size = L.length ∧
    ((d ∉ L ∧ (Instr.findKey 99 (keyD d) es.toList).run Tryd.prog w2 = .ok none w2) ∨ (∃ i : Nat, L[i]? = some d ∧ (Instr.findKey 99 (keyD d) es.toList).run Tryd.prog w2 = .ok (some (i, .int .i64 (i : Int))) w2)) := by
  obtain ⟨es, clock, h1, h2, h3, h4, h5⟩ := h
  refine ⟨es, clock, h1, h4, ?_⟩
  obtain ⟨l, hl⟩ := keyD_of hd
  have hall : ∀ e ∈ es.toList, ∃ l, keyOf Tryd.prog 99 e.key = some l := by
    intro e he
    obtain ⟨i, hi⟩ := List.getElem?_of_mem he
    obtain ⟨d', q1, q2, _⟩ := h5 i e (by simpa using hi)
    rw [q2]
    exact keyD_of (h3 d' (List.mem_of_getElem? q1))
  rcases lawD.find w2 hl es.toList hall with ⟨f1, f2⟩ | ⟨j, e, f1, f2, f3⟩
  · left
    refine ⟨fun hm => ?_, f1⟩
    obtain ⟨i, hi⟩ := List.getElem?_of_mem hm
    have hlt : i < es.size := by rw [h4]; exact (List.getElem?_eq_some_iff.1 hi).1
    obtain ⟨d', q1, q2, _⟩ := h5 i es[i] (Array.getElem?_eq_getElem hlt)
    rw [hi] at q1
    rw [← Option.some.inj q1] at q2
    exact f2 es[i] (by simp) q2
  · right
    obtain ⟨d', q1, q2, q3⟩ := h5 j e (by simpa using f2)
    have : d' = d := keyD_inj (q2.symm.trans f3)
    subst this
    exact ⟨j, q1, by rw [f1, q3]⟩
theorem Deeds.look {w : World} {b : Nat} {L : List (Int × Int × Int)} (h : Deeds w b L) {d : Int × Int × Int} (hd : okD d) (c : Bool) :
    (Instr.lookup 75 (.map (some b)) (keyD d) c).run Tryd.prog w = .ok (if c then .tuple #[.int .i64 (posD d L), .bool (decide (d ∈ L))] else .int .i64 (posD d L)) w := by
  obtain ⟨es, clock, hb, _, hf⟩ := h.find hd w
  obtain ⟨l, hl⟩ := keyD_of hd
  rcases hf with ⟨q1, q2⟩ | ⟨i, q1, q2⟩
  · have : posD d L = 0 := by unfold posD; rw [if_neg q1]
    simp [Instr.lookup, run_underlying Tryd.underlying75, MapKept.run_getObj_map hb, lawD.check w _ hl, q2, Result.andThen, this, q1]
  · have hp := posD_at h.nodup q1
    have hm := List.mem_of_getElem? q1
    simp [Instr.lookup, run_underlying Tryd.underlying75, MapKept.run_getObj_map hb, lawD.check w _ hl, q2, Result.andThen, hp, hm]
theorem Deeds.add {w : World} {b : Nat} {L : List (Int × Int × Int)} (h : Deeds w b L) {d : Int × Int × Int} (hd : okD d) (hn : d ∉ L) :
    ∃ w', (Instr.mapUpdate 75 (.map (some b)) (keyD d) (.int .i64 (L.length : Int))).run Tryd.prog w = .ok () w' ∧ Deeds w' b (L ++ [d]) ∧ w.grownBy w' (some b) := by
  obtain ⟨es, clock, hb, hs, hf⟩ := h.find hd w
  obtain ⟨l, hl⟩ := keyD_of hd
  rcases hf with ⟨q1, q2⟩ | ⟨i, q1, q2⟩
  · refine ⟨ChangeMaps.setBlock w b (.map (es.push ⟨keyD d, .int .i64 (L.length : Int), clock⟩) (clock + 1)), ?_, ?_, ⟨rfl, rfl, rfl, by simp [ChangeMaps.setBlock], fun i _ hi => ChangeMaps.heap_setBlock_other hb _ (fun e => hi (by rw [e]))⟩⟩
    · simp [Instr.mapUpdate, run_underlying Tryd.underlying75, MapKept.run_getObj_map hb, lawD.check w false hl, q2, MapKept.run_setObj_map _ hb, Result.andThen, ChangeMaps.setBlock]
    · obtain ⟨es', clock', hb', h2, h3, h4, h5⟩ := h
      rw [hb] at hb'
      have hb' := Option.some.inj hb'
      injection hb' with e1 e2
      subst e1
      refine ⟨_, _, ChangeMaps.heap_setBlock_same hb _, ?_, ?_, by simp [h4], ?_⟩
      · rw [List.nodup_append]
        exact ⟨h2, by simp, fun a ha c hc e => by simp at hc; subst hc; exact hn (e ▸ ha)⟩
      · intro x hx
        rw [List.mem_append] at hx
        rcases hx with hx | hx
        · exact h3 x hx
        · simp at hx; subst hx; exact hd
      · intro i e he
        rw [Array.getElem?_push] at he
        by_cases hi : i = es.size
        · rw [if_pos hi] at he
          have he := Option.some.inj he
          subst he
          exact ⟨d, by rw [List.getElem?_append_right (by omega), hi, h4]; simp, rfl, by rw [hi, h4]⟩
        · rw [if_neg hi] at he
          obtain ⟨d', k1, k2⟩ := h5 i e he
          exact ⟨d', by rw [List.getElem?_append_left (List.getElem?_eq_some_iff.1 k1).1]; exact k1, k2⟩
  · exact absurd (List.mem_of_getElem? q1) hn
theorem Deeds.len {w : World} {b : Nat} {L : List (Int × Int × Int)} (h : Deeds w b L) (ty : TypeId) : (Builtin.len_ #[75] ty #[.map (some b)]).run Tryd.prog w = .ok (.int .i64 (L.length : Int)) w := by
  obtain ⟨es, clock, hb, _, _, h4, _⟩ := h
  simp [Builtin.len_, run_underlying Tryd.underlying75, MapKept.run_getObj_map hb, goInt, Result.andThen, h4]
theorem Deeds.clear {w : World} {b : Nat} {L : List (Int × Int × Int)} (h : Deeds w b L) : ∃ w', (∀ ty : TypeId, (Builtin.clear_ #[75] ty #[.map (some b)]).run Tryd.prog w = .ok (.tuple #[]) w') ∧ Deeds w' b [] ∧ w.grownBy w' (some b) := by
  obtain ⟨es, clock, hb, _⟩ := h
  refine ⟨ChangeMaps.setBlock w b (.map #[] clock), ?_, ⟨#[], clock, ChangeMaps.heap_setBlock_same hb _, List.nodup_nil, fun d h => by simp at h, rfl, fun i e h => by simp at h⟩, ⟨rfl, rfl, rfl, by simp [ChangeMaps.setBlock], fun i _ hi => ChangeMaps.heap_setBlock_other hb _ (fun e => hi (by rw [e]))⟩⟩
  intro ty
  simp [Builtin.clear_, run_underlying Tryd.underlying75, MapKept.run_getObj_map hb, MapKept.run_setObj_map _ hb, Result.andThen, ChangeMaps.setBlock]
end Go.Proofs.YtgdggaieekakhagDoor
