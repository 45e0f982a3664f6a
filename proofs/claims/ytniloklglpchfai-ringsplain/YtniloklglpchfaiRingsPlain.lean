/- The law RingsPlain of the landed program returns true for every list of lists of ints, on every tape, whichever goroutine goes first: where no sum comes to an end, all ways lead to the same; what is read reads as it did. -/
import Derived.Test.YtniloklglpchfaiRows
import Derived.WalkKit
import Derived.ProofKit
import Derived.OpenShut
import Derived.Conc.LeavingOf
import Derived.Test.YtniloklglpchfaiPkRgBL
namespace Go.Proofs.Ytniloklglpchfai
open Go Go.ChangeShapes Go.WideShapes Go.ChangeAt Go.WideMaps Go.WideElems Go.RowKit Go.Conc
theorem ringsPlain_own:ownKnob Try.prog.godebug=none:=by kernel_rfl
theorem RpEnd.u_{W w:World}{v:Value}(h:RpEnd W v w):Below W.heap.size W { w with tape:=W.tape }:=by
 obtain ⟨-,hb,hs,hk⟩:=h
 refine ⟨?_,rfl,?_,hs,hk⟩
 ·exact (congrArg World.os hb:(bare w).os=(bare W).os)
 ·exact (congrArg World.output hb:(bare w).output=(bare W).output)
theorem frame_tape{W w:World}{t:Tape}{may:MemPlace→Prop}(h:W.keptBut { w with tape:=t } may):W.keptBut w may:=h
set_option maxRecDepth 100000 in
theorem ringsPlain_lifted(os:Os)(started:os.Started)(H:Type)(enc:TypeId×Value→H):
  ReturnsInLeavingWide {} Try.checked os 3 .any (Rows.ringsPlainSpec.pre6 enc Try.prog Try.f3 Rows.ringsPlainRow.domain false) (Rows.ringsPlainSpec.post enc Try.prog Try.f3 false true false false):=by
 refine returnsInLeavingWide_of_change_sized (C:=Try.checked) ringsPlain_own started Try.func3
  (ChangeSpec.witness6 (enc:=enc) (C:=Try.checked) false ⟨#[],#[.slice none 0 0],[]⟩ 8 (by kernel_rfl) (by kernel_rfl) (by kernel_rfl) (by kernel_rfl)) ?_
 intro W base args ds gs before hval0 hW _ _ _
 have hval:∀(j:Nat) t v,Try.f3.params[j]?=some t→args[j]?=some v→Value.okWide Try.prog W .any base t v:=hval0
 have hW':=hW
 obtain ⟨p,q,hA0,hV,rfl,_,_⟩:=hW
 have hA:DataW.TrodAll enc Try.prog W 0 (fun _=>true) true Try.f3.params.toList args.toList ds p:=hA0
 rw[Try.params3]at hA hval
 obtain ⟨v0,d0,rfl,rfl,h0⟩:=trodAll_one hA
 obtain ⟨rfl,rfl⟩:=trodVars_none hV
 clear hA0 hval0
 simp only[List.append_nil]at hW'
 have hlt:∀x∈p,x.block<W.heap.size:=by obtain ⟨m,hm⟩:=h0;exact DataW.trod_lt m _ _ _ hm
 have hv:=hval 0 22 v0 rfl rfl
 obtain ⟨Pb,po,c,us,ps,hP,hI⟩:=rw_param hv h0
 obtain ⟨M,last,o,w',t',h1,h2,h3,h4⟩:=rp_ends (W:=W) (Nat.zero_le _) (cellsB_lies rfl W) hP hI
 refine ⟨M,last,o,w',t',h1,h2,h3,h4.mono fun v hF=>?_⟩
 have bel:=hF.u_
 obtain rfl:=hF.1
 exact ⟨_,_,_,[],p,[],hW',trodAll_mk1 (shut_bool Try.underlying4 _),trodAll_mk1 (DataW.Trod.of_heap (w':=w') (by rfl) (Below.trod laidOut (by kernel_rfl) (of_decide_eq_true (by kernel_rfl)) h0 bel hlt)),rfl,frame_tape (bel.frame _),fun h=>by cases h⟩
theorem ringsPlain_holds:Rows.RingsPlainSaid:=
 OpenClaim.holds_of_wide_leaving 3 Try.f3 rfl rfl rfl rfl rfl rfl rfl ⟨rfl,rfl,rfl,rfl,rfl⟩ rfl rfl rfl rfl rfl (by kernel_rfl) Try.func3 (by kernel_rfl)
  (of_decide_eq_true (by kernel_rfl)) (by unfold Func.isWrapper;first|(rw[if_pos (by decide+kernel)];kernel_rfl)|(rw[if_neg (by decide+kernel)];exact ⟨rfl,rfl⟩))
  (fun os started H enc _=>ringsPlain_lifted os started H enc)
end Go.Proofs.Ytniloklglpchfai
