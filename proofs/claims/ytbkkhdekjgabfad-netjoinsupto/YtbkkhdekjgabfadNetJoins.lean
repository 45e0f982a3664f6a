/- The law NetJoins of the landed program returns true for every two lists of layers and every two matrices of bulk up to the bound: two nets, one behind the other, are one net, there and back. No other condition. -/
import Derived.Test.YtbkkhdekjgabfadRows
import Derived.WalkKit
import Derived.ProofKit
import Derived.OpenShut
import Derived.JoinedCond
import Derived.Test.YtbkkhdekjgabfadWNJoins
import Derived.Test.YtbkkhdekjgabfadOpenA
import Derived.Test.YtbkkhdekjgabfadBulk
namespace Go.Proofs.Ytbkkhdekjgabfad.netJoins
open Go.ChangeShapes Go.WideShapes Go.ChangeAt Go.WideMaps Go.WideElems Go.RowKit
open Go.ChangeMaps (open_string shut_string)
set_option linter.unusedVariables false

theorem own : ownKnob Try.prog.godebug = none := by kernel_rfl
theorem walk (v0 : Value) (m0 : List Ly) (v1 : Value) (m1 : List Ly) (v2 : Value) (m2 : Mx) (v3 : Value) (m3 : Mx) (w : World) (w0 : IsLys w v0 m0) (y0 : m0.length ≤ 1048576) (w1 : IsLys w v1 m1) (y1 : m1.length ≤ 1048576) (w2 : IsMx w v2 m2) (x2 : (Lit.int .i64 m2.rows).wf = true) (y2 : (Lit.int .i64 m2.cols).wf = true) (w3 : IsMx w v3 m3) (x3 : (Lit.int .i64 m3.rows).wf = true) (y3 : (Lit.int .i64 m3.cols).wf = true) :
    Calls Try.prog 4 #[v0, v1, v2, v3] w fun e w' => e = .returned (.bool true) ∧ Below w.heap.size w w' := by
  exact njoins_walk v0 m0 v1 m1 v2 m2 v3 m3 w w0 y0 w1 y1 w2 w3

set_option maxRecDepth 100000 in
theorem lifted (os : Os) (started : os.Started) (H : Type) (enc : TypeId × Value → H) (F : Stop.Interp) :
    ReturnsInHanded {} Try.checked os 4 .any ((Rows.OpenSpec.upto Rows.netJoinsSpec).pre6 enc Try.prog Try.f4 Rows.netJoinsUptoRow.domain false) (((Rows.OpenSpec.upto Rows.netJoinsSpec).at F).post enc Try.prog Try.f4 false true false false) := by
  refine returnsInHanded_of_cond (C := Try.checked) (s := Rows.OpenSpec.upto Rows.netJoinsSpec) (k := Rows.uptoSmall) rfl own started (by kernel_rfl) Try.func4
    (OpenSpec.witness (enc := enc) (C := Try.checked) (s := Rows.OpenSpec.upto Rows.netJoinsSpec) (k := Rows.uptoSmall) rfl false ⟨#[], #[.slice none 0 0, .slice none 0 0, .agg #[.int .i64 0, .int .i64 0, .slice none 0 0], .agg #[.int .i64 0, .int .i64 0, .slice none 0 0]], []⟩ 8 (by kernel_rfl) (by kernel_rfl) (by kernel_rfl)
      (x := ([.nil, .nil, .agg [.lit (.int .i64 0), .lit (.int .i64 0), .nil], .agg [.lit (.int .i64 0), .lit (.int .i64 0), .nil]], [], [])) (by kernel_rfl) rfl (by kernel_rfl)) ?_
  intro W base args ds gs before hval0 hW _ hk0 _
  have hcond : ∀ k, some Rows.uptoSmall = some k → k H (ds ++ gs) = true := fun k e => by cases e; exact hk0
  have hval : ∀ (j : Nat) t v, Try.f4.params[j]? = some t → args[j]? = some v → Value.okWide Try.prog W .any base t v := hval0
  have hW' := hW
  obtain ⟨p, q, hA0, hV, rfl, hfz, hnd⟩ := hW
  have hA : DataW.TrodAll enc Try.prog W 0 (fun _ => true) true Try.f4.params.toList args.toList ds p := hA0
  rw [Try.params4] at hA hval
  obtain ⟨v0, vs0, d0, ds0, p0, q0, hargs, rfl, rfl, h0, r0⟩ := trodAll_cons hA
  obtain ⟨v1, vs1, d1, ds1, p1, q1, rfl, rfl, rfl, h1, r1⟩ := trodAll_cons r0
  obtain ⟨v2, vs2, d2, ds2, p2, q2, rfl, rfl, rfl, h2, r2⟩ := trodAll_cons r1
  obtain ⟨v3, vs3, d3, ds3, p3, q3, rfl, rfl, rfl, h3, r3⟩ := trodAll_cons r2
  obtain ⟨rfl, rfl, rfl⟩ := trodAll_nil r3
  obtain rfl : args = #[v0, v1, v2, v3] := by cases args; simp_all
  obtain ⟨rfl, rfl⟩ := trodVars_none hV
  have k0 := h0
  have lt0 : ∀ x ∈ p0, x.block < W.heap.size := by obtain ⟨m, hm⟩ := k0; exact DataW.trod_lt m _ _ _ hm
  obtain ⟨m0, w0, z0⟩ := lys_param (hval 0 32 v0 rfl rfl) h0
  have y0 : m0.length ≤ 1048576 := by
    rcases z0 with q | ⟨es, sp, q1, q2⟩
    · rw [q]; exact Nat.zero_le _
    · rw [← q2]; exact bulk_list (hcond _ rfl) (by rw [← q1]; simp)
  have k1 := h1
  have lt1 : ∀ x ∈ p1, x.block < W.heap.size := by obtain ⟨m, hm⟩ := k1; exact DataW.trod_lt m _ _ _ hm
  obtain ⟨m1, w1, z1⟩ := lys_param (hval 1 32 v1 rfl rfl) h1
  have y1 : m1.length ≤ 1048576 := by
    rcases z1 with q | ⟨es, sp, q1, q2⟩
    · rw [q]; exact Nat.zero_le _
    · rw [← q2]; exact bulk_list (hcond _ rfl) (by rw [← q1]; simp)
  have k2 := h2
  have lt2 : ∀ x ∈ p2, x.block < W.heap.size := by obtain ⟨m, hm⟩ := k2; exact DataW.trod_lt m _ _ _ hm
  obtain ⟨m2, w2, x2, y2⟩ := mx_open (hval 2 24 v2 rfl rfl) h2
  have k3 := h3
  have lt3 : ∀ x ∈ p3, x.block < W.heap.size := by obtain ⟨m, hm⟩ := k3; exact DataW.trod_lt m _ _ _ hm
  obtain ⟨m3, w3, x3, y3⟩ := mx_open (hval 3 24 v3 rfl rfl) h3
  clear hA0 hval0
  refine (walk v0 m0 v1 m1 v2 m2 v3 m3 W w0 y0 w1 y1 w2 x2 y2 w3 x3 y3).mono fun e W' ⟨he, bel⟩ => ?_
  subst he
  exact ⟨_, rfl, _, _, _, [], _, [], hW', trodAll_mk1 (shut_bool Try.underlying4 _), (trodAll_cons_mk (Below.trod laidOut (by kernel_rfl) (of_decide_eq_true (by kernel_rfl)) k0 bel lt0) (trodAll_cons_mk (Below.trod laidOut (by kernel_rfl) (of_decide_eq_true (by kernel_rfl)) k1 bel lt1) (trodAll_cons_mk (Below.trod laidOut (by kernel_rfl) (of_decide_eq_true (by kernel_rfl)) k2 bel lt2) (trodAll_cons_mk (Below.trod laidOut (by kernel_rfl) (of_decide_eq_true (by kernel_rfl)) k3 bel lt3) trodAll_mk0)))), rfl, bel.frame _, fun h => by cases h⟩

theorem row_holds : Rows.NetJoinsUptoSaid :=
  OpenClaim.holds_of_cond 4 Try.f4 rfl rfl rfl rfl rfl rfl rfl ⟨rfl, rfl, rfl, rfl, rfl⟩ rfl rfl rfl rfl rfl (by kernel_rfl) Try.func4 (by kernel_rfl)
    (of_decide_eq_true (by kernel_rfl)) (by unfold Func.isWrapper; first | (rw [if_pos (by decide +kernel)]; kernel_rfl) | (rw [if_neg (by decide +kernel)]; exact ⟨rfl, rfl⟩))
    (fun os started H enc _ F => lifted os started H enc F)
end Go.Proofs.Ytbkkhdekjgabfad.netJoins
namespace Go.Proofs.Ytbkkhdekjgabfad
theorem netJoins_upto : Rows.NetJoinsUptoSaid := netJoins.row_holds
end Go.Proofs.Ytbkkhdekjgabfad
