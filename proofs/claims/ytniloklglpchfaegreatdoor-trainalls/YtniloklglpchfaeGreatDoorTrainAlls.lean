/- The law TrainAlls of the landed program returns true for every state, every list of batches, every number of parts and all rates: All of package train answers batch by batch what the document's answer does, and Begin begins with a copy of the net and noughts. Condition: the listed variable of the library is as its text lays it, which the card ties. -/
import Derived.Test.YtniloklglpchfaeGreatDoorRows
import Derived.Test.YtniloklglpchfaeGreatDoorTie
import Derived.Test.YtniloklglpchfaeGreatDoorCards
import Derived.WalkKit
import Derived.ProofKit
import Derived.LaidMore
import Derived.OpenShut
import Derived.Stop.Joined
import Derived.SevenTiedAt
import Derived.Test.YtniloklglpchfaeGreatDoorWTAlls
import Derived.Test.YtniloklglpchfaeGreatDoorPkOpenMx
namespace Go.Proofs.YtniloklglpchfaeGreatDoor.trainAlls
open Go.ChangeShapes Go.WideShapes Go.ChangeAt Go.WideMaps Go.WideElems Go.RowKit
open Go.ChangeMaps (open_string shut_string)
set_option linter.unusedVariables false

theorem handle_of_laid{W:World}(h:laidMetH Tryz.prog Rows.trainAllsRow.laid W):Handle W:=by
 have e1 : (Rows.trainAllsRow.laid.filter fun x => x.2.handleName?.isSome) = [("errors.errorType", Rows.laid_errors_errorType)] := by rfl
 unfold laidMetH at h
 rw[e1]at h
 have h' : handlesMet Tryz.prog [("errors.errorType", Rows.laid_errors_errorType)] W := h.2
 obtain ⟨name,u,ty,e1,e2,e3,e4,e5⟩:=h' _ (List.mem_singleton.2 rfl)
 have en:name=[101,114,114,111,114]:=(Option.some.inj e1).symm
 subst en
 obtain rfl := Option.some.inj ((show (Tryz.prog.cutTypes.find? (·.1 == "internal/reflectlite.rtype")).map (·.2) = some 167 by kernel_rfl).symm.trans e2)
 have hm:ty∈(List.range 244).filter fun t=>Tryz.prog.rowNamed t [101,114,114,111,114]:=List.mem_filter.2 ⟨List.mem_range.2 (by rw[<-(show Tryz.prog.types.size=244 by kernel_rfl)];exact e3),e4⟩
 rw[show ((List.range 244).filter fun t=>Tryz.prog.rowNamed t [101,114,114,111,114])=[38] by kernel_rfl]at hm
 obtain rfl:=List.mem_singleton.1 hm
 rw[show typeHandle Tryz.prog 38=.pointer (some ⟨1,38,none⟩) by kernel_rfl]at e5
 have := World.var?_cell (show Tryz.prog.globalNamed "errors.errorType" = some 0 by kernel_rfl) e5 0
 simpa [Handle] using this
theorem own:ownKnob Tryz.prog.godebug=none:=by kernel_rfl
theorem door_met(os:Os)(args:Array Value):laidMetH Tryz.prog Rows.trainAllsRow.laid ((World.doorLaid Tryz.prog 16 os).forCall (fun _ _=>0) ⟨#[],args,[]⟩).memory:=
 laidMetH_of_parts3 (fuel:=8) (laidMet_of_run' 8 (by kernel_rfl) (by kernel_rfl)) (by kernel_rfl) (by kernel_rfl)
theorem walk(e0 f0:Value)(l0:List Ly)(g0:List (Mx×Mx))(n0:Int)(v1:Value)(m1:List (Mx×Mx))(a2:Int)(a3 b3:Int)(w:World)(w0:Y_ w e0 l0)(x0:D_ w f0 g0)(y0:l0.length<=1599289640355)(z0:∀l∈l0,l.w.cells.length<=17592186043904/\l.b.cells.length<=17592186043904)(w1:IsBts w v1 m1)(x1:NilsB w v1)(w2:(Lit.int .i64 a2).wf=true)(hL:laidMetH Tryz.prog Rows.trainAllsRow.laid w):
  Calls Tryz.prog 4 #[.agg #[e0,f0,.int .i64 n0],v1,.int .i64 a2,.agg #[.int .i64 a3,.int .i64 b3]] w fun e w'=>e=.returned (.bool true)/\Below w.heap.size w w':=by
 exact talls_walk e0 f0 v1 l0 g0 n0 m1 a2 a3 b3 w w0 x0 w1 y0 z0 (handle_of_laid hL)

set_option maxRecDepth 100000 in
theorem lifted(os:Os)(started:os.Started)(H:Type)(enc:TypeId×Value->H):
  ReturnsInHanded {} Tryz.checked os 4 .any (fun w args=>(Rows.trainAllsSpec.pre enc Tryz.prog Tryz.f4 [] false w args/\laidMetH Tryz.prog Rows.trainAllsRow.laid w)/\sizedMet enc Tryz.prog Tryz.f4 (OpenSpec.ofChange Rows.trainAllsSpec) false w args)
   (Rows.trainAllsSpec.post enc Tryz.prog Tryz.f4 false true false false):=by
 refine returnsInHanded_of_change_and (C:=Tryz.checked) (X:=fun w _=>laidMetH Tryz.prog Rows.trainAllsRow.laid w) (fun _ _ _ hh h=>h.of_heap hh) own started (by kernel_rfl) Tryz.func4
  (ChangeSpec.witness_shaped (enc:=enc) (C:=Tryz.checked) (os:=os) (X:=fun w _=>laidMetH Tryz.prog Rows.trainAllsRow.laid w) false (World.doorLaid Tryz.prog 16 os) #[.agg #[.slice none 0 0,.slice none 0 0,.int .i64 0],.slice none 0 0,.int .i64 0,.agg #[.int .i64 0,.int .i64 0]] 8 rfl (World.shaped_of_RefB (by kernel_rfl) (by kernel_rfl)) (by kernel_rfl) (by kernel_rfl) (by kernel_rfl) (door_met os _)) ?_
 intro W base args ds gs before hval0 hW _ hsz0 hL _
 have hval:∀(j:Nat) t v,Tryz.f4.params[j]?=some t->args[j]?=some v->Value.okWide Tryz.prog W .any base t v:=hval0
 have hW':=hW
 obtain ⟨p,q,hA0,hV,rfl,hfz,hnd⟩:=hW
 have hA:DataW.TrodAll enc Tryz.prog W 0 (fun _=>true) true Tryz.f4.params.toList args.toList ds p:=hA0
 rw[Tryz.params4]at hA hval
 have hsz:(DataW.weightsEach Tryz.prog (Tryz.f4.params.toList++Rows.trainAllsSpec.plain.varTypes Tryz.prog) (ds++gs)).all (·<=reachBytes)=true:=hsz0
 rw[Tryz.params4]at hsz
 clear hsz0
 obtain ⟨v0,vs0,d0,ds0,p0,q0,hargs,rfl,rfl,h0,r0⟩:=trodAll_cons hA
 obtain ⟨v1,vs1,d1,ds1,p1,q1,rfl,rfl,rfl,h1,r1⟩:=trodAll_cons r0
 obtain ⟨v2,vs2,d2,ds2,p2,q2,rfl,rfl,rfl,h2,r2⟩:=trodAll_cons r1
 obtain ⟨v3,vs3,d3,ds3,p3,q3,rfl,rfl,rfl,h3,r3⟩:=trodAll_cons r2
 obtain ⟨rfl,rfl,rfl⟩:=trodAll_nil r3
 obtain rfl:args=#[v0,v1,v2,v3]:=by cases args;simp_all
 obtain ⟨rfl,rfl⟩:=trodVars_none hV
 have k0:=h0
 have lt0:∀x∈p0,x.block<W.heap.size:=by obtain ⟨m,hm⟩:=k0;exact DataW.trod_lt m _ _ _ hm
 obtain ⟨e0,f0,l0,g0,n0,rfl,w0,x0,z0⟩:=st_open (hval 0 25 v0 rfl rfl) h0
 obtain ⟨s0,t0⟩:=z0 _ (weights_of hsz (j:=0) rfl rfl)
 have y0:l0.length<=1599289640355:=by omega
 clear z0
 have z0:∀l∈l0,l.w.cells.length<=17592186043904/\l.b.cells.length<=17592186043904:=fun l hl=>⟨by have:=(t0 l hl).1;omega,by have:=(t0 l hl).2;omega⟩
 have k1:=h1
 have lt1:∀x∈p1,x.block<W.heap.size:=by obtain ⟨m,hm⟩:=k1;exact DataW.trod_lt m _ _ _ hm
 obtain ⟨m1,w1,x1,z1⟩:=bts_param (hval 1 47 v1 rfl rfl) h1
 obtain ⟨a2,rfl,rfl,rfl,w2⟩:=open_int Tryz.underlying3 (hval 2 3 v2 rfl rfl) h2
 have k3:=h3
 have lt3:∀x∈p3,x.block<W.heap.size:=by obtain ⟨m,hm⟩:=k3;exact DataW.trod_lt m _ _ _ hm
 obtain ⟨a3,b3,rfl,_,_⟩:=rt_open (hval 3 32 v3 rfl rfl) h3
 clear hA0 hval0
 refine (walk e0 f0 l0 g0 n0 v1 m1 a2 a3 b3 W w0 x0 y0 z0 w1 x1 w2 hL).mono fun e W' ⟨he,bel⟩=>?_
 subst he
 exact ⟨_,rfl,_,_,_,[],_,[],hW',trodAll_mk1 (shut_bool Tryz.underlying4 _),(trodAll_cons_mk (Below.trod laidOut (by kernel_rfl) (of_decide_eq_true (by kernel_rfl)) k0 bel lt0) (trodAll_cons_mk (Below.trod laidOut (by kernel_rfl) (of_decide_eq_true (by kernel_rfl)) k1 bel lt1) (trodAll_cons_mk (shut_int Tryz.underlying3 w2) (trodAll_cons_mk (Below.trod laidOut (by kernel_rfl) (of_decide_eq_true (by kernel_rfl)) k3 bel lt3) trodAll_mk0)))),rfl,bel.frame _,fun h=>by cases h⟩

theorem row_holds:Rows.TrainAllsSaid:=
 OpenClaim.holds_of_wide 4 Tryz.f4 rfl rfl rfl rfl rfl rfl rfl ⟨rfl,rfl,rfl,rfl,rfl⟩ rfl rfl rfl rfl rfl (by kernel_rfl) Tryz.func4 (by kernel_rfl)
  (of_decide_eq_true (by kernel_rfl)) (by unfold Func.isWrapper;first|(rw[if_pos (by decide+kernel)];kernel_rfl)|(rw[if_neg (by decide+kernel)];exact ⟨rfl,rfl⟩))
  (fun os started H enc _=>lifted os started H enc)

theorem card_holds:Rows.TrainAllsCardSaid:=
 Claim7.holds_tied_plain_at .later [] [.handle] true (true, "864129ca26663c98e9e6c1b8a919e144604e47d8aa002022d0074d4faecd07e6") true
  row_holds (fun _ h=>by cases h) (by kernel_rfl) (fun _ h=>by cases h) trainAlls_row_tie rfl ⟨rfl,rfl⟩ (by kernel_rfl) rfl
  (fun f fn hf hfn=>by
   obtain rfl : f = 4 := Option.some.inj ((show Tryz.prog.funcNamed "galley/galleylaw1.TrainAlls" = some 4 by kernel_rfl).symm.trans hf) |>.symm
   obtain rfl:fn=Tryz.f4:=(Option.some.inj (Tryz.func4.symm.trans hfn)).symm
   exact ⟨by kernel_rfl,fun j t ht=>by
    rw[Tryz.params4]at ht
    rcases j with _|_|_|_|j
    ·obtain rfl:25=t:=by simpa using ht
     exact (show Tryz.prog.wantsStandIn 25=false by kernel_rfl)
    ·obtain rfl:47=t:=by simpa using ht
     exact (show Tryz.prog.wantsStandIn 47=false by kernel_rfl)
    ·obtain rfl:3=t:=by simpa using ht
     exact (show Tryz.prog.wantsStandIn 3=false by kernel_rfl)
    ·obtain rfl:32=t:=by simpa using ht
     exact (show Tryz.prog.wantsStandIn 32=false by kernel_rfl)
    ·simp at ht⟩)
  (by kernel_rfl)
end Go.Proofs.YtniloklglpchfaeGreatDoor.trainAlls
namespace Go.Proofs.YtniloklglpchfaeGreatDoor
theorem trainAlls_holds:Rows.TrainAllsCardSaid:=trainAlls.card_holds
end Go.Proofs.YtniloklglpchfaeGreatDoor
