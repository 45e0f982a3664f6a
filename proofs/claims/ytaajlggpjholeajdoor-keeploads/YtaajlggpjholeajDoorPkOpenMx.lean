/- A matrix that came in, opened: a struct by value with a list of ints in it. -/
import Derived.Test.YtaajlggpjholeajDoorRows
import Derived.ProofKit
import Derived.OpenShut
import Derived.Lib.SmallJoins
import Derived.Test.YtaajlggpjholeajDoorPlain
import Derived.Deep.Slices
import Derived.SizedLaws
import Derived.Test.YtaajlggpjholeajDoorPkWrR3
namespace Go.Proofs.YtaajlggpjholeajDoor
open Go.ChangeShapes Go.WideShapes Go.ChangeAt Go.RowKit Go.Joins
theorem laidOut:laidOutB Tryd.prog=true:=by kernel_rfl
end Go.Proofs.YtaajlggpjholeajDoor
/- The parts of a matrix that came in. -/
namespace Go.Proofs.YtaajlggpjholeajDoor
open Go.ChangeShapes Go.WideShapes Go.ChangeAt Go.RowKit Go.Joins Go.Deep
theorem cellsBy:Tryd.prog.cellsOf 5=1:=by kernel_rfl
theorem bys_open{H:Type}{enc:TypeId×Value→H}{w:World}{held:Bool}{base fuel:Nat}{v:Value}{x:DataW H×List MemPlace}(h:DataW.trod enc Tryd.prog w base (fun _=>true) held fuel 28 [v]=some x):∃l,IsBys w v l∧NilOk v:=by
 rcases open_ints Tryd.underlying28 Tryd.underlying5 cellsBy h with ⟨hcs,_⟩|⟨a,len,cap,zs,hcs,_,hl,hm,hz,_,hcell,hwf⟩
 ·obtain rfl:v=.slice none 0 0:=by simpa using hcs
  refine ⟨[],IsBys.nil w,?_⟩
  intro n k e;injection e with _ e2 e3;exact ⟨e2.symm,e3.symm⟩
 ·obtain rfl:v=.slice (some a) len cap:=by simpa using hcs
  have hz':zs.length=cap:=by simpa using hz
  have hlen:(zs.take len).length=len:=by simp;omega
  refine ⟨zs.take len,⟨some a,cap,by rw[hlen],by omega,hm,fun x hx=>?_,?_⟩,?_⟩
  ·have:=hwf x (List.mem_of_mem_take hx)
   have e1:IntKind.u8.min=0:=by decide
   have e2:IntKind.u8.max=255:=by decide
   simp only[Lit.wf,Bool.and_eq_true,decide_eq_true_eq,e1,e2]at this
   omega
  ·by_cases h0:len=0
   ·exact .inl (by subst h0;simp)
   ·obtain ⟨b,off,rfl,hc⟩:=ints_at hcell (by omega)
    refine .inr ⟨b,off,rfl,fun i y hy=>?_⟩
    have hi:i<len:=by
     rcases Nat.lt_or_ge i len with h|h
     ·exact h
     ·rw[List.getElem?_eq_none (by omega)]at hy;cases hy
    rw[List.getElem?_take_of_lt hi]at hy
    rw[hc i (by omega)]
    simp[List.getD,hy]
  ·intro n k e;injection e with e1;cases e1
set_option maxRecDepth 100000 in
theorem bys_param{H:Type}{enc:TypeId×Value→H}{w:World}{r:Reach}{b0:Nat}{v:Value}{d:DataW H}{p:List MemPlace}(hv:Value.okWide Tryd.prog w r b0 28 v)(h:DataW.Trod enc Tryd.prog w 0 (fun _=>true) true 28 v d p):∃l,IsBys w v l∧NilOk v:=by
 obtain ⟨a,len,cap,rfl⟩:=okWide_slice Tryd.underlying28 hv
 obtain ⟨fuel,hf⟩:=h
 exact bys_open (x:=(d,p)) (by simpa [Value.cells] using hf)
end Go.Proofs.YtaajlggpjholeajDoor
