/- A layer that came in, opened: a struct by value with two matrices in it. -/
import Derived.Test.YtaajlggpjholeajDoorOpenMxs
import Derived.Test.YtaajlggpjholeajDoorLy
namespace Go.Proofs.YtaajlggpjholeajDoor
open Go.ChangeShapes Go.WideShapes Go.ChangeAt Go.RowKit Go.Joins Go.Deep
theorem cellsLy:Tryd.prog.cellsOf 53=7:=by kernel_rfl
set_option maxRecDepth 100000 in
theorem ly_fields{H:Type}{enc:TypeId×Value→H}{w:World}{held:Bool}{base n:Nat}{cs:List Value}{x:DataW H×List MemPlace}(h:DataW.trod enc Tryd.prog w base (fun _=>true) held n 53 cs=some x):
  ∃(l:Ly) (s t:Value),cs=[.int .i64 l.k,.int .i64 l.w.rows,.int .i64 l.w.cols,s,.int .i64 l.b.rows,.int .i64 l.b.cols,t]∧I_ w s l.w.cells∧I_ w t l.b.cells∧NilOk s∧NilOk t:=by
 obtain ⟨y0,y1,y2,n',hx,hl,h0,h1,h2⟩:=trod_struct3 Tryd.underlying53 h
 rw[cellsLy]at hl
 match cs,hl with
 |[c0,c1,c2,c3,c4,c5,c6],_=>
  have h0':DataW.trod enc Tryd.prog w base (fun _=>true) held n' 3 [c0]=some y0:=by simpa [cellsInt] using h0
  have h1':DataW.trod enc Tryd.prog w base (fun _=>true) held n' 51 [c1,c2,c3]=some y1:=by simpa [cellsMx] using h1
  have h2':DataW.trod enc Tryd.prog w base (fun _=>true) held n' 51 [c4,c5,c6]=some y2:=by simpa [cellsMx] using h2
  obtain ⟨a,e0,_,_⟩:=DataW.trod_int Tryd.underlying3 h0'
  obtain ⟨m,s,e1,hs,ns⟩:=mx_fields h1'
  obtain ⟨k,t,e2,ht,nt⟩:=mx_fields h2'
  simp at e0 e1 e2
  obtain ⟨rfl,rfl,rfl⟩:=e1
  obtain ⟨rfl,rfl,rfl⟩:=e2
  subst e0
  exact ⟨⟨a,m,k⟩,_,_,rfl,hs,ht,ns,nt⟩
end Go.Proofs.YtaajlggpjholeajDoor
