/- How long lists that came in may be: by the room that each slice that comes in may have. -/
import Derived.Test.YtaajlggpjholeajDoorOpenLs
import Derived.SizedLaws
import Derived.Test.YtaajlggpjholeajDoorOpenWt
namespace Go.Proofs.YtaajlggpjholeajDoor
open Go.ChangeShapes Go.WideShapes Go.ChangeAt Go.RowKit Go.Joins Go.Deep
set_option maxRecDepth 100000 in
theorem ly_w{H:Type}{enc:TypeId×Value→H}{w:World}{held:Bool}{base n B:Nat}{l:Ly}{s t:Value}{x:DataW H×List MemPlace}(h:DataW.trod enc Tryd.prog w base (fun _=>true) held n 53 [.int .i64 l.k,.int .i64 l.w.rows,.int .i64 l.w.cols,s,.int .i64 l.b.rows,.int .i64 l.b.cols,t]=some x)(hs:I_ w s l.w.cells)(ht:I_ w t l.b.cells)(hB:∀n∈x.1.weights Tryd.prog 53,n≤B):l.w.cells.length*8≤B∧l.b.cells.length*8≤B:=by
 obtain ⟨y0,y1,y2,n',hx,hl,h0,h1,h2⟩:=trod_struct3 Tryd.underlying53 h
 have h1':DataW.trod enc Tryd.prog w base (fun _=>true) held n' 51 [.int .i64 l.w.rows,.int .i64 l.w.cols,s]=some y1:=by simpa [cellsMx] using h1
 have h2':DataW.trod enc Tryd.prog w base (fun _=>true) held n' 51 [.int .i64 l.b.rows,.int .i64 l.b.cols,t]=some y2:=by simpa [cellsMx] using h2
 have key:∀k,k∈y1.1.weights Tryd.prog 51∨k∈y2.1.weights Tryd.prog 51→k≤B:=fun k hk=>hB k (by
  rw[hx]
  simp only[DataW.weights,Tryd.underlying53,DataW.weightsEach,List.map_cons,List.map_nil,List.mem_append]
  rcases hk with hk|hk
  ·exact .inr (.inl hk)
  ·exact .inr (.inr (.inl hk)))
 exact ⟨mx_w h1' hs (fun k hk=>key k (.inl hk)),mx_w h2' ht (fun k hk=>key k (.inr hk))⟩
theorem bytesLy:Tryd.prog.bytesOf 53=88:=by kernel_rfl
set_option maxRecDepth 100000 in
theorem lys_w{H:Type}{enc:TypeId×Value→H}{w:World}{B:Nat}{v:Value}{d:DataW H}{p:List MemPlace}{ls:List Ly}(h:DataW.Trod enc Tryd.prog w 0 (fun _=>true) true 22 v d p)(hv:Y_ w v ls)(hB:∀n∈d.weights Tryd.prog 22,n≤B):
  ls.length*88≤B∧∀l∈ls,l.w.cells.length*8≤B∧l.b.cells.length*8≤B:=by
 obtain ⟨a',cap',rfl,_,_⟩:=hv.shape
 obtain ⟨fuel,hf⟩:=h
 have hf':DataW.trod enc Tryd.prog w 0 (fun _=>true) true fuel 22 [.slice a' ls.length cap']=some (d,p):=by simpa [Value.cells] using hf
 rcases open_slice Tryd.underlying22 hf' with ⟨hcs,_⟩|⟨a,len,cap,m,n,D,Pl,hcs,hb,hl,hm,hmm,hd,hx⟩
 ·have e:Value.slice a' ls.length cap'=.slice none 0 0:=by simpa using hcs
  injection e with _ e _
  have:ls=[]:=List.eq_nil_of_length_eq_zero e
  subst this
  exact ⟨by simp,fun l hl=>by cases hl⟩
 ·have e:Value.slice a' ls.length cap'=.slice (some a) len cap:=by simpa using hcs
  injection e with e1 e2 e3
  have hml:m=cap:=by simpa using hmm
  injection hd with hd1 _
  rw[cellsLy]at hx
  constructor
  ·have:=hB ((len+(m - len))*Tryd.prog.bytesOf 53) (by rw[hd1];simp[DataW.weights,Tryd.underlying22])
   rw[bytesLy]at this
   omega
  ·intro l hl'
   obtain ⟨i,hi⟩:=List.getElem?_of_mem hl'
   have hil:i<ls.length:=by
    rcases Nat.lt_or_ge i ls.length with h|h
    ·exact h
    ·rw[List.getElem?_eq_none h]at hi;cases hi
   obtain ⟨cs,h1,h2⟩:=hx i (by omega)
   obtain ⟨b,off,cp,sa,sn,sk,ta,tn,tk,ev,k0,k1,k2,k3,k4,k5,k6,hly⟩:=hv.at hi
   injection ev with ev1 _ _
   have ea:a=⟨b,off,none⟩:=Option.some.inj (e1.symm.trans ev1)
   subst ea
   obtain ⟨l',s',t',rfl,hs',ht',_,_⟩:=ly_fields h2
   have hc:=fun j hj=>(World.cells?_some h1).2.2 j hj
   have c3:=hc 3 (by decide)
   have c6:=hc 6 (by decide)
   have g3:s'=.slice sa sn sk:=by
    rw[add_add,Addr.add_lit,←Nat.add_assoc,k3]at c3;simpa using c3.symm
   have g6:t'=.slice ta tn tk:=by
    rw[add_add,Addr.add_lit,←Nat.add_assoc,k6]at c6;simpa using c6.symm
   obtain ⟨i1,i2⟩:=Y_.ints hly
   have hw:=ly_w (B:=B) h2 hs' ht' (fun k hk=>hB k (by
    rw[hd1]
    simp only[DataW.weights,Tryd.underlying22,List.mem_cons,List.mem_append]
    exact .inr (.inl (weightsAll_in (List.mem_map.2 ⟨i,List.mem_range.2 (by omega),rfl⟩) k hk))))
   subst g3 g6
   have f1:l'.w.cells.length=l.w.cells.length:=by
    obtain ⟨_,_,e1,_⟩:=hs';obtain ⟨_,_,e2,_⟩:=i1
    injection e1 with _ e1 _;injection e2 with _ e2 _;omega
   have f2:l'.b.cells.length=l.b.cells.length:=by
    obtain ⟨_,_,e1,_⟩:=ht';obtain ⟨_,_,e2,_⟩:=i2
    injection e1 with _ e1 _;injection e2 with _ e2 _;omega
   rw[f1,f2]at hw;exact hw
end Go.Proofs.YtaajlggpjholeajDoor
