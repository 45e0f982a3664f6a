/- When what has ended, as a map in memory: who, what, which part; and when. Lists of such keys in memory. -/
import Derived.Test.YtcpgomjaegickagDoorPnP
import Derived.Test.YtcpgomjaegickagDoorClG
import Derived.Laws.AppendOwn
namespace Go.Proofs.YtcpgomjaegickagDoor
open Go.RowKit
theorem rowC : (51 : TypeId) < Tryd.prog.types.size := of_decide_eq_true (by kernel_rfl)
theorem wideC : (match Tryd.prog.underlying 51 with | some (.array _ _) | some (.struct _) => true | _ => false) = true := by kernel_rfl
set_option maxRecDepth 100000 in
theorem lawC : Maps.Keyed Tryd.prog 51 := Maps.Keyed.of_law (deep_law_laid laidD (m := 3) (by omega) rowC (by kernel_rfl) wideC)
theorem ktypeC : Tryd.prog.keyType 51 = true := by kernel_rfl
theorem cellsC : Tryd.prog.cellsOf 51 = 3 := by kernel_rfl
theorem keyC_of {d : Int × Int × Int} (h : okD d) : ∃ l, keyOf Tryd.prog 51 (keyD d) = some l := by
  obtain ⟨a, b, c⟩ := d
  obtain ⟨h1, h2, h3, h4, h5, h6⟩ := h
  dsimp only at h1 h2 h3 h4 h5 h6
  have wa : (Lit.int .i64 a).wf = true := WalkArith.wf_i64 (by omega)
  have wb : (Lit.int .i64 b).wf = true := WalkArith.wf_i64 (by omega)
  have wc : (Lit.int .i64 c).wf = true := WalkArith.wf_i64 (by omega)
  obtain ⟨n, hn⟩ := typesD
  have hf : (keyD (a, b, c)).formed Tryd.prog 51 = true := by
    simp [Value.formed, keyD, Tryd.underlying51, cellsC]
  have hr : List.range 3 = [0, 1, 2] := by decide
  have e : ∃ ls, Tryd.prog.keyLits (Tryd.prog.types.size + 1) 51 (keyD (a, b, c)).cells.toList = some ls := by
    rw [hn]
    simp [Program.keyLits, keyD, Value.cells, Tryd.underlying51, Tryd.underlying3, cellsC, cellsD1, hr, wa, wb, wc]
  obtain ⟨ls, hls⟩ := e
  unfold keyOf
  rw [Tryd.underlying51]
  dsimp only
  rw [ktypeC, hf, hls]
  exact ⟨_, rfl⟩
/-- Block b is a map of these ends, in the order in which they were told. -/
def Ends (w : World) (b : Nat) (M : List ((Int × Int × Int) × Int)) : Prop :=
  ∃ es clock, w.heap[b]? = some (.map es clock) ∧ (M.map (·.1)).Nodup ∧ (∀ e ∈ M, okD e.1) ∧ es.size = M.length ∧ ∀ (i : Nat) (e : MapEntry), es[i]? = some e → ∃ d x, M[i]? = some (d, x) ∧ e.key = keyD d ∧ e.val = .int .i64 x
theorem lookC_at : ∀ {M : List ((Int × Int × Int) × Int)} {i : Nat} {d : Int × Int × Int} {x : Int}, (M.map (·.1)).Nodup → M[i]? = some (d, x) → lookC M d = some x
  | [], i, d, x, _, h => by simp at h
  | (d', x') :: t, 0, d, x, _, h => by
    obtain ⟨rfl, rfl⟩ : d' = d ∧ x' = x := by simpa using h
    simp [lookC]
  | (d', x') :: t, i + 1, d, x, hn, h => by
    have h' : t[i]? = some (d, x) := by simpa using h
    have hn' : d' ∉ t.map (·.1) ∧ (t.map (·.1)).Nodup := by simpa using hn
    have hne : d' ≠ d := fun e => hn'.1 (by rw [e]; exact List.mem_map.2 ⟨(d, x), List.mem_of_getElem? h', rfl⟩)
    have ih := lookC_at hn'.2 h'
    unfold lookC at ih ⊢
    rw [List.find?_cons_of_neg (by simpa using hne)]
    exact ih
theorem lookC_none {M : List ((Int × Int × Int) × Int)} {d : Int × Int × Int} (h : ∀ e ∈ M, e.1 ≠ d) : lookC M d = none := by
  unfold lookC
  rw [List.find?_eq_none.2 (fun e he => by simpa using h e he)]
  rfl
theorem lookC_out {M : List ((Int × Int × Int) × Int)} {d : Int × Int × Int} (h : lookC M d = none) : d ∉ M.map (·.1) := by
  intro hm
  obtain ⟨e, he, rfl⟩ := List.mem_map.1 hm
  unfold lookC at h
  have := List.find?_eq_none.1 (Option.map_eq_none_iff.1 h) e he
  simp at this
theorem Ends.new (w : World) : Ends (w.alloc (.map #[] 0)) w.heap.size [] := ⟨#[], 0, (MapKept.heap_alloc w _).1, by simp, fun d h => by simp at h, rfl, fun i e h => by simp at h⟩
theorem Ends.lt {w : World} {b : Nat} {M : List ((Int × Int × Int) × Int)} (h : Ends w b M) : b < w.heap.size := by
  obtain ⟨es, clock, hb, _⟩ := h
  exact (Array.getElem?_eq_some_iff.1 hb).1
theorem Ends.grown {w w' : World} {b : Nat} {B : Option Nat} {M : List ((Int × Int × Int) × Int)} (h : Ends w b M) (hg : w.grownBy w' B) (hne : some b ≠ B) : Ends w' b M := by
  have hl := h.lt
  obtain ⟨es, clock, h1, h2⟩ := h
  exact ⟨es, clock, (hg.block b hl hne).trans h1, h2⟩
theorem Ends.below {w w' : World} {b : Nat} {M : List ((Int × Int × Int) × Int)} (h : Ends w b M) (hb : Below w.heap.size w w') : Ends w' b M := h.grown (grow_of hb none) (by simp)
theorem Ends.find {w : World} {b : Nat} {M : List ((Int × Int × Int) × Int)} (h : Ends w b M) {d : Int × Int × Int} (hd : okD d) (w2 : World) : ∃ es clock, w.heap[b]? = some (.map es clock) ∧ es.size = M.length ∧
    ((lookC M d = none ∧ (Instr.findKey 51 (keyD d) es.toList).run Tryd.prog w2 = .ok none w2) ∨ (∃ (i : Nat) (x : Int), lookC M d = some x ∧ (Instr.findKey 51 (keyD d) es.toList).run Tryd.prog w2 = .ok (some (i, .int .i64 x)) w2)) := by
  obtain ⟨es, clock, h1, h2, h3, h4, h5⟩ := h
  refine ⟨es, clock, h1, h4, ?_⟩
  obtain ⟨l, hl⟩ := keyC_of hd
  have hall : ∀ e ∈ es.toList, ∃ l, keyOf Tryd.prog 51 e.key = some l := by
    intro e he
    obtain ⟨i, hi⟩ := List.getElem?_of_mem he
    obtain ⟨d', x, q1, q2, _⟩ := h5 i e (by simpa using hi)
    rw [q2]
    exact keyC_of (h3 _ (List.mem_of_getElem? q1))
  rcases lawC.find w2 hl es.toList hall with ⟨f1, f2⟩ | ⟨j, e, f1, f2, f3⟩
  · left
    refine ⟨lookC_none (fun q hq hqd => ?_), f1⟩
    obtain ⟨i, hi⟩ := List.getElem?_of_mem hq
    have hlt : i < es.size := by rw [h4]; exact (List.getElem?_eq_some_iff.1 hi).1
    obtain ⟨d', x, q1, q2, _⟩ := h5 i es[i] (Array.getElem?_eq_getElem hlt)
    rw [hi] at q1
    obtain rfl := Option.some.inj q1
    rw [show d' = d from hqd] at q2
    exact f2 es[i] (by simp) q2
  · right
    obtain ⟨d', x, q1, q2, q3⟩ := h5 j e (by simpa using f2)
    have : d' = d := keyD_inj (q2.symm.trans f3)
    subst this
    exact ⟨j, x, lookC_at h2 q1, by rw [f1, q3]⟩
theorem Ends.look {w : World} {b : Nat} {M : List ((Int × Int × Int) × Int)} (h : Ends w b M) {d : Int × Int × Int} (hd : okD d) :
    (Instr.lookup 42 (.map (some b)) (keyD d) true).run Tryd.prog w = .ok (.tuple #[.int .i64 ((lookC M d).getD 0), .bool (lookC M d).isSome]) w := by
  obtain ⟨es, clock, hb, _, hf⟩ := h.find hd w
  obtain ⟨l, hl⟩ := keyC_of hd
  rcases hf with ⟨q1, q2⟩ | ⟨i, x, q1, q2⟩
  · simp [Instr.lookup, run_underlying Tryd.underlying42, MapKept.run_getObj_map hb, lawC.check w _ hl, q2, Result.andThen, q1]
  · simp [Instr.lookup, run_underlying Tryd.underlying42, MapKept.run_getObj_map hb, lawC.check w _ hl, q2, Result.andThen, q1]
theorem Ends.add {w : World} {b : Nat} {M : List ((Int × Int × Int) × Int)} (h : Ends w b M) {d : Int × Int × Int} (hd : okD d) (hn : lookC M d = none) (x : Int) :
    ∃ w', (Instr.mapUpdate 42 (.map (some b)) (keyD d) (.int .i64 x)).run Tryd.prog w = .ok () w' ∧ Ends w' b (M ++ [(d, x)]) ∧ w.grownBy w' (some b) := by
  obtain ⟨es, clock, hb, hs, hf⟩ := h.find hd w
  obtain ⟨l, hl⟩ := keyC_of hd
  rcases hf with ⟨q1, q2⟩ | ⟨i, y, q1, q2⟩
  · refine ⟨ChangeMaps.setBlock w b (.map (es.push ⟨keyD d, .int .i64 x, clock⟩) (clock + 1)), ?_, ?_, ⟨rfl, rfl, rfl, by simp [ChangeMaps.setBlock], fun i _ hi => ChangeMaps.heap_setBlock_other hb _ (fun e => hi (by rw [e]))⟩⟩
    · simp [Instr.mapUpdate, run_underlying Tryd.underlying42, MapKept.run_getObj_map hb, lawC.check w false hl, q2, MapKept.run_setObj_map _ hb, Result.andThen, ChangeMaps.setBlock]
    · obtain ⟨es', clock', hb', h2, h3, h4, h5⟩ := h
      rw [hb] at hb'
      have hb' := Option.some.inj hb'
      injection hb' with e1 e2
      subst e1
      refine ⟨_, _, ChangeMaps.heap_setBlock_same hb _, ?_, ?_, by simp [h4], ?_⟩
      · rw [List.map_append, List.nodup_append]
        refine ⟨h2, by simp, fun a ha c hc e => ?_⟩
        have hc : c = d := by simpa using hc
        subst hc
        exact lookC_out hn (e ▸ ha)
      · intro z hz
        rw [List.mem_append] at hz
        rcases hz with hz | hz
        · exact h3 z hz
        · have hz : z = (d, x) := by simpa using hz
          subst hz; exact hd
      · intro i e he
        rw [Array.getElem?_push] at he
        by_cases hi : i = es.size
        · rw [if_pos hi] at he
          have he := Option.some.inj he
          subst he
          exact ⟨d, x, by rw [List.getElem?_append_right (by omega), hi, h4]; simp, rfl, rfl⟩
        · rw [if_neg hi] at he
          obtain ⟨d', y, k1, k2⟩ := h5 i e he
          exact ⟨d', y, by rw [List.getElem?_append_left (List.getElem?_eq_some_iff.1 k1).1]; exact k1, k2⟩
  · rw [hn] at q1; cases q1
/-- A block of cells is no map. -/
theorem Ends.apart {w : World} {b : Nat} {M : List ((Int × Int × Int) × Int)} (h : Ends w b M) {p : Addr} {v : Value} (hc : w.cell? p = some v) : some p.block ≠ some b := by
  intro e
  have e := Option.some.inj e
  obtain ⟨es, clock, hb, _⟩ := h
  rw [← e] at hb
  simp [World.cell?, hb] at hc
end Go.Proofs.YtcpgomjaegickagDoor
