/- A matrix that came in, opened: a struct by value with a list of ints in it. -/
import Derived.Test.YtpniemnfdleiiajRows
import Derived.ProofKit
import Derived.OpenShut
import Derived.Lib.SmallJoins
import Derived.Test.YtpniemnfdleiiajPlain
import Derived.Deep.Slices
import Derived.Test.YtpniemnfdleiiajPkMCheckAll
import Derived.Test.YtpniemnfdleiiajPkMLaw
namespace Go.Proofs.Ytpniemnfdleiiaj
open Go.ChangeShapes Go.WideShapes Go.ChangeAt Go.RowKit Go.Joins
theorem laidOut:laidOutB Try.prog=true:=by kernel_rfl
theorem cellsMx:Try.prog.cellsOf 25=3:=by kernel_rfl
theorem cellsInt:Try.prog.cellsOf 3=1:=by kernel_rfl
theorem ints_open{H:Type}{enc:TypeId×Value→H}{w:World}{held:Bool}{base fuel:Nat}{v:Value}{x:DataW H×List MemPlace}(h:DataW.trod enc Try.prog w base (fun _=>true) held fuel 23 [v]=some x):∃zs,I_ w v zs:=by
 rcases open_ints Try.underlying23 Try.underlying3 cellsInt h with ⟨hcs,_⟩|⟨a,len,cap,zs,hcs,_,hl,hm,hz,_,hcell,_⟩
 ·obtain rfl:v=.slice none 0 0:=by simpa using hcs
  exact ⟨[],I_.nil w⟩
 ·obtain rfl:v=.slice (some a) len cap:=by simpa using hcs
  have hz':zs.length=cap:=by simpa using hz
  have hlen:(zs.take len).length=len:=by simp;omega
  refine ⟨zs.take len,some a,cap,by rw[hlen],by omega,hm,?_⟩
  by_cases h0:len=0
  ·exact .inl (by subst h0;simp)
  ·obtain ⟨b,off,rfl,hc⟩:=ints_at hcell (by omega)
   refine .inr ⟨b,off,rfl,fun i y hy=>?_⟩
   have hi:i<len:=by
    rcases Nat.lt_or_ge i len with h|h
    ·exact h
    ·rw[List.getElem?_eq_none (by omega)]at hy;cases hy
   rw[List.getElem?_take_of_lt hi]at hy
   rw[hc i (by omega)]
   simp[List.getD,hy]
set_option maxRecDepth 100000 in
theorem mx_open{H:Type}{enc:TypeId×Value→H}{w:World}{r:Reach}{b0:Nat}{v:Value}{d:DataW H}{p:List MemPlace}(hv:Value.okWide Try.prog w r b0 25 v)(h:DataW.Trod enc Try.prog w 0 (fun _=>true) true 25 v d p):
  ∃m:Mx,M_ w v m∧(Lit.int .i64 m.rows).wf=true∧(Lit.int .i64 m.cols).wf=true:=by
 obtain ⟨v0,v1,v2,y0,y1,y2,n,rfl,rfl,rfl,h0,h1,h2⟩:=open_agg3 Try.underlying25 (by kernel_rfl) cellsMx hv h
 obtain ⟨a,e0,rfl,wa⟩:=DataW.trod_int Try.underlying3 h0
 obtain ⟨b,e1,rfl,wb⟩:=DataW.trod_int Try.underlying3 h1
 obtain ⟨zs,hz⟩:=ints_open h2
 simp at e0 e1
 subst e0 e1
 exact ⟨⟨a,b,zs⟩,⟨v2,rfl,hz⟩,wa,wb⟩
end Go.Proofs.Ytpniemnfdleiiaj
/- The parts of a matrix that came in. -/
namespace Go.Proofs.Ytpniemnfdleiiaj
open Go.ChangeShapes Go.WideShapes Go.ChangeAt Go.RowKit Go.Joins Go.Deep
theorem ints_nil{H:Type}{enc:TypeId×Value→H}{w:World}{held:Bool}{base fuel:Nat}{v:Value}{x:DataW H×List MemPlace}(h:DataW.trod enc Try.prog w base (fun _=>true) held fuel 23 [v]=some x):NilOk v:=by
 rcases open_ints Try.underlying23 Try.underlying3 cellsInt h with ⟨hcs,_⟩|⟨a,len,cap,zs,hcs,_,_⟩
 ·obtain rfl:v=.slice none 0 0:=by simpa using hcs
  intro n k e;injection e with _ e2 e3;exact ⟨e2.symm,e3.symm⟩
 ·obtain rfl:v=.slice (some a) len cap:=by simpa using hcs
  intro n k e;injection e with e1;cases e1
set_option maxRecDepth 100000 in
theorem mx_fields{H:Type}{enc:TypeId×Value→H}{w:World}{held:Bool}{base n:Nat}{cs:List Value}{x:DataW H×List MemPlace}(h:DataW.trod enc Try.prog w base (fun _=>true) held n 25 cs=some x):
  ∃(m:Mx) (s:Value),cs=[.int .i64 m.rows,.int .i64 m.cols,s]∧I_ w s m.cells∧NilOk s:=by
 obtain ⟨y0,y1,y2,n',hx,hl,h0,h1,h2⟩:=trod_struct3 Try.underlying25 h
 rw[cellsMx]at hl
 match cs,hl with
 |[c0,c1,c2],_=>
  have h0':DataW.trod enc Try.prog w base (fun _=>true) held n' 3 [c0]=some y0:=by simpa [cellsInt] using h0
  have h1':DataW.trod enc Try.prog w base (fun _=>true) held n' 3 [c1]=some y1:=by simpa [cellsInt] using h1
  have h2':DataW.trod enc Try.prog w base (fun _=>true) held n' 23 [c2]=some y2:=by
   have hc:Try.prog.cellsOf 23=1:=by kernel_rfl
   simpa [hc] using h2
  obtain ⟨a,e0,_,_⟩:=DataW.trod_int Try.underlying3 h0'
  obtain ⟨b,e1,_,_⟩:=DataW.trod_int Try.underlying3 h1'
  obtain ⟨zs,hz⟩:=ints_open h2'
  simp at e0 e1
  subst e0 e1
  exact ⟨⟨a,b,zs⟩,c2,rfl,hz,ints_nil h2'⟩
theorem cellsLy:Try.prog.cellsOf 61=7:=by kernel_rfl
set_option maxRecDepth 100000 in
theorem ly_fields{H:Type}{enc:TypeId×Value→H}{w:World}{held:Bool}{base n:Nat}{cs:List Value}{x:DataW H×List MemPlace}(h:DataW.trod enc Try.prog w base (fun _=>true) held n 61 cs=some x):
  ∃(l:Ly) (s t:Value),cs=[.int .i64 l.k,.int .i64 l.w.rows,.int .i64 l.w.cols,s,.int .i64 l.b.rows,.int .i64 l.b.cols,t]∧I_ w s l.w.cells∧I_ w t l.b.cells∧NilOk s∧NilOk t:=by
 obtain ⟨y0,y1,y2,n',hx,hl,h0,h1,h2⟩:=trod_struct3 Try.underlying61 h
 rw[cellsLy]at hl
 match cs,hl with
 |[c0,c1,c2,c3,c4,c5,c6],_=>
  have h0':DataW.trod enc Try.prog w base (fun _=>true) held n' 3 [c0]=some y0:=by simpa [cellsInt] using h0
  have h1':DataW.trod enc Try.prog w base (fun _=>true) held n' 25 [c1,c2,c3]=some y1:=by simpa [cellsMx] using h1
  have h2':DataW.trod enc Try.prog w base (fun _=>true) held n' 25 [c4,c5,c6]=some y2:=by simpa [cellsMx] using h2
  obtain ⟨a,e0,_,_⟩:=DataW.trod_int Try.underlying3 h0'
  obtain ⟨m,s,e1,hs,ns⟩:=mx_fields h1'
  obtain ⟨k,t,e2,ht,nt⟩:=mx_fields h2'
  simp at e0 e1 e2
  obtain ⟨rfl,rfl,rfl⟩:=e1
  obtain ⟨rfl,rfl,rfl⟩:=e2
  subst e0
  exact ⟨⟨a,m,k⟩,_,_,rfl,hs,ht,ns,nt⟩
end Go.Proofs.Ytpniemnfdleiiaj
