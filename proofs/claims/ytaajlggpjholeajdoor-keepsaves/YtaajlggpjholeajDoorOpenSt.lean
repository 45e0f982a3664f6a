/- A state that came in, opened: a struct by value of two lists and an int; how long its lists may be. -/
import Derived.Test.YtaajlggpjholeajDoorOpenSz
import Derived.Test.YtaajlggpjholeajDoorOpenRt
namespace Go.Proofs.YtaajlggpjholeajDoor
open Go.ChangeShapes Go.WideShapes Go.ChangeAt Go.RowKit Go.Joins Go.Deep
theorem cellsSt:Tryd.prog.cellsOf 25=3:=by kernel_rfl
theorem lys_trod{H:Type}{enc:TypeId×Value→H}{w:World}{fuel:Nat}{v:Value}{x:DataW H×List MemPlace}(h:DataW.trod enc Tryd.prog w 0 (fun _=>true) true fuel 22 [v]=some x):∃ls,Y_ w v ls:=by
 have:Inhabited Ly:=⟨⟨0,noMx,noMx⟩⟩
 obtain ⟨ls,h1,_⟩:=list_open lyS (k:=7) (fun _=>rfl) (by decide) Tryd.underlying22 cellsLy (fun n cs y hy=>by
  obtain ⟨l,s,t,rfl,hs,ht,_,_⟩:=ly_fields hy
  exact ⟨l,.cons rfl (.cons rfl (.cons rfl (.cons (part_any hs) (.cons rfl (.cons rfl (.cons (part_any ht) (.nil _ _)))))))⟩) h
 exact ⟨ls,h1⟩
theorem gds_trod{H:Type}{enc:TypeId×Value→H}{w:World}{fuel:Nat}{v:Value}{x:DataW H×List MemPlace}(h:DataW.trod enc Tryd.prog w 0 (fun _=>true) true fuel 23 [v]=some x):∃ds,D_ w v ds:=by
 have:Inhabited (Mx×Mx):=⟨(noMx,noMx)⟩
 obtain ⟨ds,h1,_⟩:=list_open gdS (k:=6) (fun _=>rfl) (by decide) Tryd.underlying23 cellsGd (fun n cs y hy=>by
  obtain ⟨d,s,t,rfl,hs,ht⟩:=gd_fields hy
  exact ⟨d,.cons rfl (.cons rfl (.cons (part_any hs) (.cons rfl (.cons rfl (.cons (part_any ht) (.nil _ _))))))⟩) h
 exact ⟨ds,h1⟩
set_option maxRecDepth 100000 in
theorem st_open{H:Type}{enc:TypeId×Value→H}{w:World}{r:Reach}{b0:Nat}{v:Value}{d:DataW H}{p:List MemPlace}(hv:Value.okWide Tryd.prog w r b0 25 v)(h:DataW.Trod enc Tryd.prog w 0 (fun _=>true) true 25 v d p):
  ∃(v0 v1:Value) (ls:List Ly) (ps:List (Mx×Mx)) (n:Int),v=.agg #[v0,v1,.int .i64 n]∧Y_ w v0 ls∧D_ w v1 ps∧
   ∀B,(∀k∈d.weights Tryd.prog 25,k≤B)→ls.length*88≤B∧∀l∈ls,l.w.cells.length*8≤B∧l.b.cells.length*8≤B:=by
 obtain ⟨v0,v1,v2,y0,y1,y2,m,rfl,rfl,rfl,h0,h1,h2⟩:=open_agg3 Tryd.underlying25 (by kernel_rfl) cellsSt hv h
 obtain ⟨n,e2,_,_⟩:=DataW.trod_int Tryd.underlying3 h2
 simp at e2
 subst e2
 obtain ⟨ls,hl⟩:=lys_trod h0
 obtain ⟨ps,hp⟩:=gds_trod h1
 refine ⟨v0,v1,ls,ps,n,rfl,hl,hp,fun B hB=>?_⟩
 refine lys_w (enc:=enc) (d:=y0.1) (p:=y0.2) ?_ hl (fun k hk=>hB k ?_)
 ·obtain ⟨a,cap,rfl,_,_⟩:=hl.shape
  exact ⟨m,by simpa [Value.cells] using h0⟩
 ·simp only[DataW.weights,Tryd.underlying25,DataW.weightsEach,List.map_cons,List.map_nil,List.mem_append]
  exact .inl hk
end Go.Proofs.YtaajlggpjholeajDoor
