/- In one goroutine, where something is sent or received on the way: a call met by its contract, and calls that were put off. No program in sight. -/
import Derived.Test.YtgedldbkghkahahDoorPlain
import Derived.Conc.LoneSelect
import Derived.Conc.DeferLaws
import Derived.Defers
namespace Go.Proofs.YtgedldbkghkahahDoor
open Go.RowKit Go.Conc
/-- A call, by its contract. -/
theorem lone_call {P : Program} {Q : Goroutine → World → Prop} {b : Frame} {a : Act} {k : List Item} {cs : List Frame} {w w₁ : World} {ops : Array Oper} {i : Nat} {rest : List Nat} {o : Oper} {f : FuncId} {args : Array Value} {R : Value → World → Prop}
    (ho : ops[i]? = some o) (hw : Region.wanted o (yielded ops a.tmps) = true) (hr : (execOp a.eval o).run P w = .ok (.enter f args) w₁) (hc : Calls P f args w₁ fun e w' => ∃ v, e = .returned v ∧ R v w')
    (h : ∀ v w', R v w' → LoneTo P Q (G (b.at (a.put o.dst v) (.inRegion ops rest :: k)) cs) w') : LoneTo P Q (G (b.at a (.inRegion ops (i :: rest) :: k)) cs) w := by
  have hg := stepG_op (P := P) (b := b) (k := k) (cs := cs) (w := w) (rest := rest) ho hw
  have hfin : ∀ v, (b.at a (.inRegion ops (i :: rest) :: k)).finish v = b.at (a.put o.dst v) (.inRegion ops rest :: k) := by
    intro v; rw [Frame.finish_at, ho]; rfl
  have henter : step P (lone (b.at a (.inRegion ops (i :: rest) :: k)) cs w) = .next (lone (Frame.enter P f args .normal) (b.at a (.inRegion ops (i :: rest) :: k) :: cs) w₁) :=
    step_lone_go (by rw [hg]; simp [stepG.apply, hr, Frame.at])
  obtain ⟨e, w'', fr, ⟨v, rfl, hR⟩, hsteps, _, hleave⟩ := hc (b.at a (.inRegion ops (i :: rest) :: k) :: cs)
  obtain ⟨g₂, w₂, hs, hq⟩ := h v w'' hR
  refine ⟨g₂, w₂, Steps.trans (.head henter (Steps.trans hsteps (.one (step_leave_returned hleave)))) ?_, hq⟩
  rw [hfin]
  exact hs
/-- What was put off is done at the end. -/
theorem lone_leaves {P : Program} {f : FuncId} {fn : Func} {fr : Frame} {cs : List Frame} {w : World} {R : Ending → World → Prop} (hf : P.funcs[f]? = some fn) (hm : fr.mode = .returning) (hfn : fr.fn = f) (hk : fr.kind = .normal) (hno : ∀ w', ¬ R .outgrown w')
    (h : Leaves P fn fr.tmps R fr.defers .returning w) : LoneTo P (fun g' w' => ∃ e fr, g' = G fr cs ∧ R e w' ∧ fr.fn = f ∧ fr.leaving P w' e) (G fr cs) w := by
  obtain ⟨e, w', fr', hR, hs, hfn', hl⟩ := leaves_steps fr.defers .returning w fr cs hm rfl rfl (by rw [hfn]; exact hf) hk h
  cases e with
  | returned v => exact ⟨G fr' cs, w', hs, _, fr', rfl, hR, hfn'.trans hfn, hl⟩
  | panicked chain => exact ⟨G fr' cs, w', hs, _, fr', rfl, hR, hfn'.trans hfn, hl⟩
  | outgrown => exact absurd hR (hno _)
end Go.Proofs.YtgedldbkghkahahDoor
