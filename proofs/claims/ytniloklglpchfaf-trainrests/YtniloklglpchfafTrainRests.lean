/- The law TrainRests of the landed program returns true for every state, every matrix, every number of parts and all rates: where just what comes is wanted nothing is learned, if nothing was under way. No condition. -/
import Derived.Test.YtniloklglpchfafRows
import Derived.WalkKit
import Derived.ProofKit
import Derived.OpenShut
import Derived.Test.YtniloklglpchfafWTRests
import Derived.Test.YtniloklglpchfafPkOpenMx
import Derived.Test.YtniloklglpchfafPkOpenWt
namespace Go.Proofs.Ytniloklglpchfaf.trainRests
open Go.ChangeShapes Go.WideShapes Go.ChangeAt Go.WideMaps Go.WideElems Go.RowKit
open Go.ChangeMaps (open_string shut_string)
set_option linter.unusedVariables false

theorem own:ownKnob Try.prog.godebug=none:=by kernel_rfl
theorem walk(e0 f0:Value)(l0:List Ly)(g0:List (Mx×Mx))(n0:Int)(v1:Value)(m1:Mx)(a2:Int)(a3 b3:Int)(w:World)(w0:Y_ w e0 l0)(x0:D_ w f0 g0)(w1:M_ w v1 m1)(x1:(Lit.int .i64 m1.rows).wf=true)(y1:(Lit.int .i64 m1.cols).wf=true)(w2:(Lit.int .i64 a2).wf=true):
  Calls Try.prog 3 #[.agg #[e0,f0,.int .i64 n0],v1,.int .i64 a2,.agg #[.int .i64 a3,.int .i64 b3]] w fun e w'=>e=.returned (.bool true)∧Below w.heap.size w w':=by
 exact trests_walk e0 f0 l0 g0 n0 v1 m1 a2 a3 b3 w w0 x0 w1

set_option maxRecDepth 100000 in
theorem lifted(os:Os)(started:os.Started)(H:Type)(enc:TypeId×Value→H):
  ReturnsInHanded {} Try.checked os 3 .any (Rows.trainRestsSpec.pre6 enc Try.prog Try.f3 Rows.trainRestsRow.domain false) (Rows.trainRestsSpec.post enc Try.prog Try.f3 false true false false):=by
 refine returnsInHanded_of_change (C:=Try.checked) own started (by kernel_rfl) Try.func3
  (ChangeSpec.witness6 (enc:=enc) (C:=Try.checked) false ⟨#[],#[.agg #[.slice none 0 0,.slice none 0 0,.int .i64 0],.agg #[.int .i64 0,.int .i64 0,.slice none 0 0],.int .i64 0,.agg #[.int .i64 0,.int .i64 0]],[]⟩ 8 (by kernel_rfl) (by kernel_rfl) (by kernel_rfl) (by kernel_rfl)) ?_
 intro W base args ds gs before hval0 hW hcnd _
 have hval:∀(j:Nat) t v,Try.f3.params[j]?=some t→args[j]?=some v→Value.okWide Try.prog W .any base t v:=hval0
 have hW':=hW
 obtain ⟨p,q,hA0,hV,rfl,hfz,hnd⟩:=hW
 have hA:DataW.TrodAll enc Try.prog W 0 (fun _=>true) true Try.f3.params.toList args.toList ds p:=hA0
 rw[Try.params3]at hA hval
 obtain ⟨v0,vs0,d0,ds0,p0,q0,hargs,rfl,rfl,h0,r0⟩:=trodAll_cons hA
 obtain ⟨v1,vs1,d1,ds1,p1,q1,rfl,rfl,rfl,h1,r1⟩:=trodAll_cons r0
 obtain ⟨v2,vs2,d2,ds2,p2,q2,rfl,rfl,rfl,h2,r2⟩:=trodAll_cons r1
 obtain ⟨v3,vs3,d3,ds3,p3,q3,rfl,rfl,rfl,h3,r3⟩:=trodAll_cons r2
 obtain ⟨rfl,rfl,rfl⟩:=trodAll_nil r3
 obtain rfl:args=#[v0,v1,v2,v3]:=by cases args;simp_all
 obtain ⟨rfl,rfl⟩:=trodVars_none hV
 have k0:=h0
 have lt0:∀x∈p0,x.block<W.heap.size:=by obtain ⟨m,hm⟩:=k0;exact DataW.trod_lt m _ _ _ hm
 obtain ⟨e0,f0,l0,g0,n0,rfl,w0,x0,z0⟩:=st_open (hval 0 25 v0 rfl rfl) h0
 clear z0
 have k1:=h1
 have lt1:∀x∈p1,x.block<W.heap.size:=by obtain ⟨m,hm⟩:=k1;exact DataW.trod_lt m _ _ _ hm
 obtain ⟨m1,w1,x1,y1⟩:=mx_open (hval 1 28 v1 rfl rfl) h1
 obtain ⟨a2,rfl,rfl,rfl,w2⟩:=open_int Try.underlying3 (hval 2 3 v2 rfl rfl) h2
 have k3:=h3
 have lt3:∀x∈p3,x.block<W.heap.size:=by obtain ⟨m,hm⟩:=k3;exact DataW.trod_lt m _ _ _ hm
 obtain ⟨a3,b3,rfl,_,_⟩:=rt_open (hval 3 30 v3 rfl rfl) h3
 clear hA0 hval0
 refine (walk e0 f0 l0 g0 n0 v1 m1 a2 a3 b3 W w0 x0 w1 x1 y1 w2).mono fun e W' ⟨he,bel⟩=>?_
 subst he
 exact ⟨_,rfl,_,_,_,[],_,[],hW',trodAll_mk1 (shut_bool Try.underlying4 _),(trodAll_cons_mk (Below.trod laidOut (by kernel_rfl) (of_decide_eq_true (by kernel_rfl)) k0 bel lt0) (trodAll_cons_mk (Below.trod laidOut (by kernel_rfl) (of_decide_eq_true (by kernel_rfl)) k1 bel lt1) (trodAll_cons_mk (shut_int Try.underlying3 w2) (trodAll_cons_mk (Below.trod laidOut (by kernel_rfl) (of_decide_eq_true (by kernel_rfl)) k3 bel lt3) trodAll_mk0)))),rfl,bel.frame _,fun h=>by cases h⟩

theorem row_holds:Rows.TrainRestsSaid:=
 OpenClaim.holds_of_wide 3 Try.f3 rfl rfl rfl rfl rfl rfl rfl ⟨rfl,rfl,rfl,rfl,rfl⟩ rfl rfl rfl rfl rfl (by kernel_rfl) Try.func3 (by kernel_rfl)
  (of_decide_eq_true (by kernel_rfl)) (by unfold Func.isWrapper;first|(rw[if_pos (by decide+kernel)];kernel_rfl)|(rw[if_neg (by decide+kernel)];exact ⟨rfl,rfl⟩))
  (fun os started H enc _=>lifted os started H enc)
end Go.Proofs.Ytniloklglpchfaf.trainRests
namespace Go.Proofs.Ytniloklglpchfaf
theorem trainRests_holds:Rows.TrainRestsSaid:=trainRests.row_holds
end Go.Proofs.Ytniloklglpchfaf
