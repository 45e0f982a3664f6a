/- A message, and a list of bytes, that came in, opened; how long they may be. -/
import Derived.Test.YtaajlggpjholeahDoorOpenMf
import Derived.Test.YtaajlggpjholeahDoorWrR3
import Derived.Test.YtaajlggpjholeahDoorOpenWt
namespace Go.Proofs.YtaajlggpjholeahDoor
open Go.ChangeShapes Go.WideShapes Go.ChangeAt Go.RowKit Go.Joins Go.Deep
theorem cellsMs:Tryd.prog.cellsOf 26=5:=by kernel_rfl
set_option maxRecDepth 100000 in
theorem ms_fields{H:Type}{enc:TypeId×Value→H}{w:World}{held:Bool}{base n:Nat}{cs:List Value}{x:DataW H×List MemPlace}(h:DataW.trod enc Tryd.prog w base (fun _=>true) held n 26 cs=some x):
  ∃(k mi:Int) (b:Mx) (s:Value),cs=[.int .i64 k,.int .i64 mi,.int .i64 b.rows,.int .i64 b.cols,s]∧I_ w s b.cells∧NilOk s:=by
 obtain ⟨y0,y1,y2,n',hx,hl,h0,h1,h2⟩:=trod_struct3 Tryd.underlying26 h
 rw[cellsMs]at hl
 match cs,hl with
 |[c0,c1,c2,c3,c4],_=>
  have h0':DataW.trod enc Tryd.prog w base (fun _=>true) held n' 3 [c0]=some y0:=by simpa [cellsInt] using h0
  have h1':DataW.trod enc Tryd.prog w base (fun _=>true) held n' 3 [c1]=some y1:=by simpa [cellsInt] using h1
  have h2':DataW.trod enc Tryd.prog w base (fun _=>true) held n' 24 [c2,c3,c4]=some y2:=by simpa [cellsMx,cellsInt] using h2
  obtain ⟨a,e0,_,_⟩:=DataW.trod_int Tryd.underlying3 h0'
  obtain ⟨b,e1,_,_⟩:=DataW.trod_int Tryd.underlying3 h1'
  obtain ⟨m,s,e2,hs,ns⟩:=mx_fields h2'
  simp at e0 e1 e2
  obtain ⟨rfl,rfl,rfl⟩:=e2
  subst e0 e1
  exact ⟨a,b,m,_,rfl,hs,ns⟩
set_option maxRecDepth 100000 in
theorem ms_open{H:Type}{enc:TypeId×Value→H}{w:World}{r:Reach}{b0:Nat}{v:Value}{d:DataW H}{p:List MemPlace}(hv:Value.okWide Tryd.prog w r b0 26 v)(h:DataW.Trod enc Tryd.prog w 0 (fun _=>true) true 26 v d p):
  ∃(k mi:Int) (b:Mx),IsMsg w v k mi b:=by
 obtain ⟨cs,rfl,hsz⟩:=okWide_struct Tryd.underlying26 hv
 obtain ⟨fuel,hf⟩:=h
 obtain ⟨k,mi,b,s,e,hs,_⟩:=ms_fields (x:=(d,p)) hf
 exact ⟨k,mi,b,s,by rw[←e];simp[Value.cells],hs⟩
end Go.Proofs.YtaajlggpjholeahDoor
