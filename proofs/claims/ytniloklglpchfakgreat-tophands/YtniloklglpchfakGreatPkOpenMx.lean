/- A matrix that came in, opened: a struct by value with a list of ints in it. -/
import Derived.Test.YtniloklglpchfakGreatRows
import Derived.ProofKit
import Derived.OpenShut
import Derived.Lib.SmallJoins
import Derived.Test.YtniloklglpchfakGreatPkLvOf
import Derived.Deep.Slices
import Derived.Test.YtniloklglpchfakGreatPkFix
import Derived.Test.YtniloklglpchfakGreatPkMOps1
import Derived.Test.YtniloklglpchfakGreatLists
import Derived.SizedLaws
import Derived.Test.YtniloklglpchfakGreatPkBatC1
import Derived.Test.YtniloklglpchfakGreatPkPlA
namespace Go.Proofs.YtniloklglpchfakGreat
open Go.ChangeShapes Go.WideShapes Go.ChangeAt Go.RowKit Go.Joins
theorem laidOut:laidOutB Tryz.prog=true:=by kernel_rfl
theorem cellsMx:Tryz.prog.cellsOf 28=3:=by kernel_rfl
theorem cellsInt:Tryz.prog.cellsOf 3=1:=by kernel_rfl
theorem ints_open{H:Type}{enc:TypeId×Value→H}{w:World}{held:Bool}{base fuel:Nat}{v:Value}{x:DataW H×List MemPlace}(h:DataW.trod enc Tryz.prog w base (fun _=>true) held fuel 26 [v]=some x):∃zs,I_ w v zs:=by
 rcases open_ints Tryz.underlying26 Tryz.underlying3 cellsInt h with ⟨hcs,_⟩|⟨a,len,cap,zs,hcs,_,hl,hm,hz,_,hcell,_⟩
 ·obtain rfl:v=.slice none 0 0:=by simpa using hcs
  exact ⟨[],I_.nil w⟩
 ·obtain rfl:v=.slice (some a) len cap:=by simpa using hcs
  have hz':zs.length=cap:=by simpa using hz
  have hlen:(zs.take len).length=len:=by simp;omega
  refine ⟨zs.take len,some a,cap,by rw[hlen],by omega,hm,?_⟩
  by_cases h0:len=0
  ·exact .inl (by subst h0;simp)
  ·obtain ⟨b,off,rfl,hc⟩:=ints_at hcell (by omega)
   refine .inr ⟨b,off,rfl,fun i y hy=>?_⟩
   have hi:i<len:=by
    rcases Nat.lt_or_ge i len with h|h
    ·exact h
    ·rw[List.getElem?_eq_none (by omega)]at hy;cases hy
   rw[List.getElem?_take_of_lt hi]at hy
   rw[hc i (by omega)]
   simp[List.getD,hy]
end Go.Proofs.YtniloklglpchfakGreat
/- The parts of a matrix that came in. -/
namespace Go.Proofs.YtniloklglpchfakGreat
open Go.ChangeShapes Go.WideShapes Go.ChangeAt Go.RowKit Go.Joins Go.Deep
theorem ints_nil{H:Type}{enc:TypeId×Value→H}{w:World}{held:Bool}{base fuel:Nat}{v:Value}{x:DataW H×List MemPlace}(h:DataW.trod enc Tryz.prog w base (fun _=>true) held fuel 26 [v]=some x):NilOk v:=by
 rcases open_ints Tryz.underlying26 Tryz.underlying3 cellsInt h with ⟨hcs,_⟩|⟨a,len,cap,zs,hcs,_,_⟩
 ·obtain rfl:v=.slice none 0 0:=by simpa using hcs
  intro n k e;injection e with _ e2 e3;exact ⟨e2.symm,e3.symm⟩
 ·obtain rfl:v=.slice (some a) len cap:=by simpa using hcs
  intro n k e;injection e with e1;cases e1
set_option maxRecDepth 100000 in
theorem mx_fields{H:Type}{enc:TypeId×Value→H}{w:World}{held:Bool}{base n:Nat}{cs:List Value}{x:DataW H×List MemPlace}(h:DataW.trod enc Tryz.prog w base (fun _=>true) held n 28 cs=some x):
  ∃(m:Mx) (s:Value),cs=[.int .i64 m.rows,.int .i64 m.cols,s]∧I_ w s m.cells∧NilOk s:=by
 obtain ⟨y0,y1,y2,n',hx,hl,h0,h1,h2⟩:=trod_struct3 Tryz.underlying28 h
 rw[cellsMx]at hl
 match cs,hl with
 |[c0,c1,c2],_=>
  have h0':DataW.trod enc Tryz.prog w base (fun _=>true) held n' 3 [c0]=some y0:=by simpa [cellsInt] using h0
  have h1':DataW.trod enc Tryz.prog w base (fun _=>true) held n' 3 [c1]=some y1:=by simpa [cellsInt] using h1
  have h2':DataW.trod enc Tryz.prog w base (fun _=>true) held n' 26 [c2]=some y2:=by
   have hc:Tryz.prog.cellsOf 26=1:=by kernel_rfl
   simpa [hc] using h2
  obtain ⟨a,e0,_,_⟩:=DataW.trod_int Tryz.underlying3 h0'
  obtain ⟨b,e1,_,_⟩:=DataW.trod_int Tryz.underlying3 h1'
  obtain ⟨zs,hz⟩:=ints_open h2'
  simp at e0 e1
  subst e0 e1
  exact ⟨⟨a,b,zs⟩,c2,rfl,hz,ints_nil h2'⟩
theorem cellsLy:Tryz.prog.cellsOf 83=7:=by kernel_rfl
set_option maxRecDepth 100000 in
theorem ly_fields{H:Type}{enc:TypeId×Value→H}{w:World}{held:Bool}{base n:Nat}{cs:List Value}{x:DataW H×List MemPlace}(h:DataW.trod enc Tryz.prog w base (fun _=>true) held n 83 cs=some x):
  ∃(l:Ly) (s t:Value),cs=[.int .i64 l.k,.int .i64 l.w.rows,.int .i64 l.w.cols,s,.int .i64 l.b.rows,.int .i64 l.b.cols,t]∧I_ w s l.w.cells∧I_ w t l.b.cells∧NilOk s∧NilOk t:=by
 obtain ⟨y0,y1,y2,n',hx,hl,h0,h1,h2⟩:=trod_struct3 Tryz.underlying83 h
 rw[cellsLy]at hl
 match cs,hl with
 |[c0,c1,c2,c3,c4,c5,c6],_=>
  have h0':DataW.trod enc Tryz.prog w base (fun _=>true) held n' 3 [c0]=some y0:=by simpa [cellsInt] using h0
  have h1':DataW.trod enc Tryz.prog w base (fun _=>true) held n' 28 [c1,c2,c3]=some y1:=by simpa [cellsMx] using h1
  have h2':DataW.trod enc Tryz.prog w base (fun _=>true) held n' 28 [c4,c5,c6]=some y2:=by simpa [cellsMx] using h2
  obtain ⟨a,e0,_,_⟩:=DataW.trod_int Tryz.underlying3 h0'
  obtain ⟨m,s,e1,hs,ns⟩:=mx_fields h1'
  obtain ⟨k,t,e2,ht,nt⟩:=mx_fields h2'
  simp at e0 e1 e2
  obtain ⟨rfl,rfl,rfl⟩:=e1
  obtain ⟨rfl,rfl,rfl⟩:=e2
  subst e0
  exact ⟨⟨a,m,k⟩,_,_,rfl,hs,ht,ns,nt⟩
theorem list_open{H α:Type}[Inhabited α]{enc:TypeId×Value→H}{w:World}{held:Bool}{base fuel k:Nat}{t e:TypeId}{v:Value}{x:DataW H×List MemPlace}(f:α→List (Int⊕List Int))(hf:∀y,(f y).length=k)(hk:0<k)
  (ht:Tryz.prog.underlying t=some (.slice e)) (hc:Tryz.prog.cellsOf e=k) (fields:∀n cs y,DataW.trod enc Tryz.prog w base (fun _=>true) held n e cs=some y→∃z,Enc w (fun _=>False) (f z) cs)
  (h:DataW.trod enc Tryz.prog w base (fun _=>true) held fuel t [v]=some x):∃xs:List α,Reads w v xs.length (xs.flatMap f)∧(xs=[]∨∃es sp,x.1=.slice es sp∧es.length=xs.length):=by
 rcases open_slice ht h with ⟨hcs,_⟩|⟨a,len,cap,m,n,D,Pl,hcs,hb,hl,hm,hmm,rfl,hx⟩
 ·obtain rfl:v=.slice none 0 0:=by simpa using hcs
  exact ⟨[],⟨none,0,rfl,Nat.le_refl _,Nat.zero_le _,.inl rfl⟩,.inl rfl⟩
 ·obtain rfl:v=.slice (some a) len cap:=by simpa using hcs
  have hml:m=cap:=by simpa using hmm
  rw[hc]at hx
  have key:∀i,i<len→∃z:α,∃cs,w.cells? base (a.add (i*k)) k=some cs∧Enc w (fun _=>False) (f z) cs:=fun i hi=>by
   obtain ⟨cs',h1,h2⟩:=hx i (by omega)
   obtain ⟨z,hz⟩:=fields _ _ _ h2
   exact ⟨z,cs',h1,hz⟩
  obtain ⟨Q,hQ⟩:=choose_lt key
  have hlen:((List.range len).map Q).length=len:=by simp
  refine ⟨(List.range len).map Q,⟨some a,cap,by rw[hlen],by rw[hlen];exact hl,hm,?_⟩,.inr ⟨_,_,rfl,by simp⟩⟩
  rw[hlen]
  rcases Nat.eq_zero_or_pos len with h0|h0
  ·exact .inl h0
  ·obtain ⟨b,off,e⟩:∃b off,a=⟨b,off,none⟩:=by
    obtain ⟨cs,h1,h2⟩:=hQ 0 h0
    have hcl:cs.length=k:=by rw[h2.1,hf]
    have hc0:=(World.cells?_some h1).2.2 0 hk
    have hs:=World.cell?_spot (v:=cs[0]'(by omega)) (by rw[hc0];exact List.getElem?_eq_getElem _)
    obtain ⟨b,off,sp⟩:=a
    refine ⟨b,off,?_⟩
    have:sp=none:=by simpa [Addr.add] using hs
    rw[this]
   subst e
   refine .inr ⟨b,off,rfl,fun j p hp=>?_⟩
   have hjl:j<len*k:=by
    rcases Nat.lt_or_ge j (len*k) with h|h
    ·exact h
    ·have e2:(((List.range len).map Q).flatMap f).length=len*k:=by
      have:∀l:List Nat,((l.map Q).flatMap f).length=l.length*k:=by
       intro l
       induction l with
       |nil=>simp
       |cons i l ih=>rw[List.map_cons,List.flatMap_cons,List.length_append,ih,hf,List.length_cons,Nat.succ_mul];omega
      rw[this,List.length_range]
     rw[List.getElem?_eq_none (by omega)]at hp;cases hp
   have hi:j / k<len:=(Nat.div_lt_iff_lt_mul hk).2 hjl
   have hr:j % k<k:=Nat.mod_lt _ hk
   have ej:j=j / k*k+j % k:=by rw[Nat.mul_comm];exact (Nat.div_add_mod j k).symm
   obtain ⟨cs,h1,h2⟩:=hQ (j / k) hi
   have hp':(f (Q (j / k)))[j % k]?=some p:=by
    rw[←hp,←flat_at f k hf ((List.range len).map Q) (j / k) (j % k) (Q (j / k)) (by simp[hi]) hr,←ej]
   obtain ⟨u,hu,hpu⟩:=h2.2 (j % k) p hp'
   have hcell:=(World.cells?_some h1).2.2 (j % k) hr
   rw[add_add,Addr.add_lit,←ej,hu]at hcell
   exact ⟨u,hcell,hpu⟩
theorem part_any{w:World}{s:Value}{zs:List Int}(h:I_ w s zs):P_ w (fun _=>False) (.inr zs) s:=⟨h,.inr fun _ _ hf=>hf⟩
theorem cellsGd:Tryz.prog.cellsOf 109=6:=by kernel_rfl
set_option maxRecDepth 100000 in
theorem gd_fields{H:Type}{enc:TypeId×Value→H}{w:World}{held:Bool}{base n:Nat}{cs:List Value}{x:DataW H×List MemPlace}(h:DataW.trod enc Tryz.prog w base (fun _=>true) held n 109 cs=some x):
  ∃(d:Mx×Mx) (s t:Value),cs=[.int .i64 d.1.rows,.int .i64 d.1.cols,s,.int .i64 d.2.rows,.int .i64 d.2.cols,t]∧I_ w s d.1.cells∧I_ w t d.2.cells:=by
 obtain ⟨y0,y1,n',hx,hl,h0,h1⟩:=trod_struct2 Tryz.underlying109 h
 rw[cellsGd]at hl
 match cs,hl with
 |[c0,c1,c2,c3,c4,c5],_=>
  have h1':DataW.trod enc Tryz.prog w base (fun _=>true) held n' 28 [c0,c1,c2]=some y0:=by simpa [cellsMx] using h0
  have h2':DataW.trod enc Tryz.prog w base (fun _=>true) held n' 28 [c3,c4,c5]=some y1:=by simpa [cellsMx] using h1
  obtain ⟨m,s,e1,hs,_⟩:=mx_fields h1'
  obtain ⟨k,t,e2,ht,_⟩:=mx_fields h2'
  simp at e1 e2
  obtain ⟨rfl,rfl,rfl⟩:=e1
  obtain ⟨rfl,rfl,rfl⟩:=e2
  exact ⟨(m,k),_,_,rfl,hs,ht⟩
theorem bytesInt:Tryz.prog.bytesOf 3=8:=by kernel_rfl
theorem ints_w{H:Type}{enc:TypeId×Value→H}{w:World}{held:Bool}{base fuel B:Nat}{v:Value}{x:DataW H×List MemPlace}{zs:List Int}(h:DataW.trod enc Tryz.prog w base (fun _=>true) held fuel 26 [v]=some x)(hz:I_ w v zs)(hB:∀n∈x.1.weights Tryz.prog 26,n≤B):zs.length*8≤B:=by
 obtain ⟨a',cap',hv,_,_,_⟩:=hz
 rcases open_slice Tryz.underlying26 h with ⟨hcs,_⟩|⟨a,len,cap,m,n,D,Pl,hcs,hb,hl,hm,hmm,rfl,hx⟩
 ·obtain rfl:v=.slice none 0 0:=by simpa using hcs
  injection hv with _ e _
  omega
 ·obtain rfl:v=.slice (some a) len cap:=by simpa using hcs
  injection hv with _ e _
  have:=hB ((len+(m - len))*Tryz.prog.bytesOf 3) (by simp[DataW.weights,Tryz.underlying26])
  rw[bytesInt]at this
  omega
set_option maxRecDepth 100000 in
theorem mx_w{H:Type}{enc:TypeId×Value→H}{w:World}{held:Bool}{base n B:Nat}{m:Mx}{s:Value}{x:DataW H×List MemPlace}(h:DataW.trod enc Tryz.prog w base (fun _=>true) held n 28 [.int .i64 m.rows,.int .i64 m.cols,s]=some x)(hs:I_ w s m.cells)(hB:∀n∈x.1.weights Tryz.prog 28,n≤B):m.cells.length*8≤B:=by
 obtain ⟨y0,y1,y2,n',hx,hl,h0,h1,h2⟩:=trod_struct3 Tryz.underlying28 h
 have h2':DataW.trod enc Tryz.prog w base (fun _=>true) held n' 26 [s]=some y2:=by
  have hc:Tryz.prog.cellsOf 26=1:=by kernel_rfl
  simpa [hc] using h2
 refine ints_w h2' hs (fun k hk=>hB k ?_)
 rw[hx]
 simp only[DataW.weights,Tryz.underlying28,DataW.weightsEach,List.map_cons,List.map_nil,List.mem_append]
 exact .inr (.inr (.inl hk))
theorem weightsAll_in{H:Type}{P:Program}{e:TypeId}{d:DataW H}{l:List (DataW H)}(h:d∈l):∀n∈d.weights P e,n∈DataW.weightsAll P e l:=by
 induction l with
 |nil=>cases h
 |cons y l ih=>
  intro n hn
  simp only[DataW.weightsAll,List.mem_append]
  rcases List.mem_cons.1 h with rfl|h'
  ·exact .inl hn
  ·exact .inr (ih h' n hn)
set_option maxRecDepth 100000 in
theorem ly_w{H:Type}{enc:TypeId×Value→H}{w:World}{held:Bool}{base n B:Nat}{l:Ly}{s t:Value}{x:DataW H×List MemPlace}(h:DataW.trod enc Tryz.prog w base (fun _=>true) held n 83 [.int .i64 l.k,.int .i64 l.w.rows,.int .i64 l.w.cols,s,.int .i64 l.b.rows,.int .i64 l.b.cols,t]=some x)(hs:I_ w s l.w.cells)(ht:I_ w t l.b.cells)(hB:∀n∈x.1.weights Tryz.prog 83,n≤B):l.w.cells.length*8≤B∧l.b.cells.length*8≤B:=by
 obtain ⟨y0,y1,y2,n',hx,hl,h0,h1,h2⟩:=trod_struct3 Tryz.underlying83 h
 have h1':DataW.trod enc Tryz.prog w base (fun _=>true) held n' 28 [.int .i64 l.w.rows,.int .i64 l.w.cols,s]=some y1:=by simpa [cellsMx] using h1
 have h2':DataW.trod enc Tryz.prog w base (fun _=>true) held n' 28 [.int .i64 l.b.rows,.int .i64 l.b.cols,t]=some y2:=by simpa [cellsMx] using h2
 have key:∀k,k∈y1.1.weights Tryz.prog 28∨k∈y2.1.weights Tryz.prog 28→k≤B:=fun k hk=>hB k (by
  rw[hx]
  simp only[DataW.weights,Tryz.underlying83,DataW.weightsEach,List.map_cons,List.map_nil,List.mem_append]
  rcases hk with hk|hk
  ·exact .inr (.inl hk)
  ·exact .inr (.inr (.inl hk)))
 exact ⟨mx_w h1' hs (fun k hk=>key k (.inl hk)),mx_w h2' ht (fun k hk=>key k (.inr hk))⟩
theorem bytesLy:Tryz.prog.bytesOf 83=88:=by kernel_rfl
set_option maxRecDepth 100000 in
theorem lys_w{H:Type}{enc:TypeId×Value→H}{w:World}{B:Nat}{v:Value}{d:DataW H}{p:List MemPlace}{ls:List Ly}(h:DataW.Trod enc Tryz.prog w 0 (fun _=>true) true 22 v d p)(hv:Y_ w v ls)(hB:∀n∈d.weights Tryz.prog 22,n≤B):
  ls.length*88≤B∧∀l∈ls,l.w.cells.length*8≤B∧l.b.cells.length*8≤B:=by
 obtain ⟨a',cap',rfl,_,_⟩:=hv.shape
 obtain ⟨fuel,hf⟩:=h
 have hf':DataW.trod enc Tryz.prog w 0 (fun _=>true) true fuel 22 [.slice a' ls.length cap']=some (d,p):=by simpa [Value.cells] using hf
 rcases open_slice Tryz.underlying22 hf' with ⟨hcs,_⟩|⟨a,len,cap,m,n,D,Pl,hcs,hb,hl,hm,hmm,hd,hx⟩
 ·have e:Value.slice a' ls.length cap'=.slice none 0 0:=by simpa using hcs
  injection e with _ e _
  have:ls=[]:=List.eq_nil_of_length_eq_zero e
  subst this
  exact ⟨by simp,fun l hl=>by cases hl⟩
 ·have e:Value.slice a' ls.length cap'=.slice (some a) len cap:=by simpa using hcs
  injection e with e1 e2 e3
  have hml:m=cap:=by simpa using hmm
  injection hd with hd1 _
  rw[cellsLy]at hx
  constructor
  ·have:=hB ((len+(m - len))*Tryz.prog.bytesOf 83) (by rw[hd1];simp[DataW.weights,Tryz.underlying22])
   rw[bytesLy]at this
   omega
  ·intro l hl'
   obtain ⟨i,hi⟩:=List.getElem?_of_mem hl'
   have hil:i<ls.length:=by
    rcases Nat.lt_or_ge i ls.length with h|h
    ·exact h
    ·rw[List.getElem?_eq_none h]at hi;cases hi
   obtain ⟨cs,h1,h2⟩:=hx i (by omega)
   obtain ⟨b,off,cp,sa,sn,sk,ta,tn,tk,ev,k0,k1,k2,k3,k4,k5,k6,hly⟩:=hv.at hi
   injection ev with ev1 _ _
   have ea:a=⟨b,off,none⟩:=Option.some.inj (e1.symm.trans ev1)
   subst ea
   obtain ⟨l',s',t',rfl,hs',ht',_,_⟩:=ly_fields h2
   have hc:=fun j hj=>(World.cells?_some h1).2.2 j hj
   have c3:=hc 3 (by decide)
   have c6:=hc 6 (by decide)
   have g3:s'=.slice sa sn sk:=by
    rw[add_add,Addr.add_lit,←Nat.add_assoc,k3]at c3;simpa using c3.symm
   have g6:t'=.slice ta tn tk:=by
    rw[add_add,Addr.add_lit,←Nat.add_assoc,k6]at c6;simpa using c6.symm
   obtain ⟨i1,i2⟩:=Y_.ints hly
   have hw:=ly_w (B:=B) h2 hs' ht' (fun k hk=>hB k (by
    rw[hd1]
    simp only[DataW.weights,Tryz.underlying22,List.mem_cons,List.mem_append]
    exact .inr (.inl (weightsAll_in (List.mem_map.2 ⟨i,List.mem_range.2 (by omega),rfl⟩) k hk))))
   subst g3 g6
   have f1:l'.w.cells.length=l.w.cells.length:=by
    obtain ⟨_,_,e1,_⟩:=hs';obtain ⟨_,_,e2,_⟩:=i1
    injection e1 with _ e1 _;injection e2 with _ e2 _;omega
   have f2:l'.b.cells.length=l.b.cells.length:=by
    obtain ⟨_,_,e1,_⟩:=ht';obtain ⟨_,_,e2,_⟩:=i2
    injection e1 with _ e1 _;injection e2 with _ e2 _;omega
   rw[f1,f2]at hw;exact hw
end Go.Proofs.YtniloklglpchfakGreat
/- Rates that came in, opened: a struct by value of two ints. -/
namespace Go.Proofs.YtniloklglpchfakGreat
open Go.ChangeShapes Go.WideShapes Go.ChangeAt Go.RowKit Go.Joins
theorem cellsRt:Tryz.prog.cellsOf 33=2:=by kernel_rfl
set_option maxRecDepth 100000 in
theorem rt_open{H:Type}{enc:TypeId×Value→H}{w:World}{r:Reach}{b0:Nat}{v:Value}{d:DataW H}{p:List MemPlace}(hv:Value.okWide Tryz.prog w r b0 33 v)(h:DataW.Trod enc Tryz.prog w 0 (fun _=>true) true 33 v d p):
  ∃le ke:Int,v=.agg #[.int .i64 le,.int .i64 ke]∧(Lit.int .i64 le).wf=true∧(Lit.int .i64 ke).wf=true:=by
 obtain ⟨v0,v1,y0,y1,n,rfl,rfl,rfl,h0,h1⟩:=open_agg2 Tryz.underlying33 (by kernel_rfl) cellsRt hv h
 obtain ⟨a,e0,rfl,wa⟩:=DataW.trod_int Tryz.underlying3 h0
 obtain ⟨b,e1,rfl,wb⟩:=DataW.trod_int Tryz.underlying3 h1
 simp at e0 e1
 subst e0 e1
 exact ⟨a,b,rfl,wa,wb⟩
end Go.Proofs.YtniloklglpchfakGreat
/- A state that came in, opened: a struct by value of two lists and an int; how long its lists may be. -/
namespace Go.Proofs.YtniloklglpchfakGreat
open Go.ChangeShapes Go.WideShapes Go.ChangeAt Go.RowKit Go.Joins Go.Deep
theorem cellsSt:Tryz.prog.cellsOf 25=3:=by kernel_rfl
theorem lys_trod{H:Type}{enc:TypeId×Value→H}{w:World}{fuel:Nat}{v:Value}{x:DataW H×List MemPlace}(h:DataW.trod enc Tryz.prog w 0 (fun _=>true) true fuel 22 [v]=some x):∃ls,Y_ w v ls:=by
 have:Inhabited Ly:=⟨⟨0,noMx,noMx⟩⟩
 obtain ⟨ls,h1,_⟩:=list_open lyS (k:=7) (fun _=>rfl) (by decide) Tryz.underlying22 cellsLy (fun n cs y hy=>by
  obtain ⟨l,s,t,rfl,hs,ht,_,_⟩:=ly_fields hy
  exact ⟨l,.cons rfl (.cons rfl (.cons rfl (.cons (part_any hs) (.cons rfl (.cons rfl (.cons (part_any ht) (.nil _ _)))))))⟩) h
 exact ⟨ls,h1⟩
theorem gds_trod{H:Type}{enc:TypeId×Value→H}{w:World}{fuel:Nat}{v:Value}{x:DataW H×List MemPlace}(h:DataW.trod enc Tryz.prog w 0 (fun _=>true) true fuel 23 [v]=some x):∃ds,D_ w v ds:=by
 have:Inhabited (Mx×Mx):=⟨(noMx,noMx)⟩
 obtain ⟨ds,h1,_⟩:=list_open gdS (k:=6) (fun _=>rfl) (by decide) Tryz.underlying23 cellsGd (fun n cs y hy=>by
  obtain ⟨d,s,t,rfl,hs,ht⟩:=gd_fields hy
  exact ⟨d,.cons rfl (.cons rfl (.cons (part_any hs) (.cons rfl (.cons rfl (.cons (part_any ht) (.nil _ _))))))⟩) h
 exact ⟨ds,h1⟩
set_option maxRecDepth 100000 in
theorem st_open{H:Type}{enc:TypeId×Value→H}{w:World}{r:Reach}{b0:Nat}{v:Value}{d:DataW H}{p:List MemPlace}(hv:Value.okWide Tryz.prog w r b0 25 v)(h:DataW.Trod enc Tryz.prog w 0 (fun _=>true) true 25 v d p):
  ∃(v0 v1:Value) (ls:List Ly) (ps:List (Mx×Mx)) (n:Int),v=.agg #[v0,v1,.int .i64 n]∧Y_ w v0 ls∧D_ w v1 ps∧
   ∀B,(∀k∈d.weights Tryz.prog 25,k≤B)→ls.length*88≤B∧∀l∈ls,l.w.cells.length*8≤B∧l.b.cells.length*8≤B:=by
 obtain ⟨v0,v1,v2,y0,y1,y2,m,rfl,rfl,rfl,h0,h1,h2⟩:=open_agg3 Tryz.underlying25 (by kernel_rfl) cellsSt hv h
 obtain ⟨n,e2,_,_⟩:=DataW.trod_int Tryz.underlying3 h2
 simp at e2
 subst e2
 obtain ⟨ls,hl⟩:=lys_trod h0
 obtain ⟨ps,hp⟩:=gds_trod h1
 refine ⟨v0,v1,ls,ps,n,rfl,hl,hp,fun B hB=>?_⟩
 refine lys_w (enc:=enc) (d:=y0.1) (p:=y0.2) ?_ hl (fun k hk=>hB k ?_)
 ·obtain ⟨a,cap,rfl,_,_⟩:=hl.shape
  exact ⟨m,by simpa [Value.cells] using h0⟩
 ·simp only[DataW.weights,Tryz.underlying25,DataW.weightsEach,List.map_cons,List.map_nil,List.mem_append]
  exact .inl hk
theorem cellsBt:Tryz.prog.cellsOf 30=6:=by kernel_rfl
set_option maxRecDepth 100000 in
theorem bt_fields{H:Type}{enc:TypeId×Value→H}{w:World}{held:Bool}{base n:Nat}{cs:List Value}{x:DataW H×List MemPlace}(h:DataW.trod enc Tryz.prog w base (fun _=>true) held n 30 cs=some x):
  ∃(d:Mx×Mx) (s t:Value),cs=[.int .i64 d.1.rows,.int .i64 d.1.cols,s,.int .i64 d.2.rows,.int .i64 d.2.cols,t]∧I_ w s d.1.cells∧I_ w t d.2.cells∧NilOk s∧NilOk t:=by
 obtain ⟨y0,y1,n',hx,hl,h0,h1⟩:=trod_struct2 Tryz.underlying30 h
 rw[cellsBt]at hl
 match cs,hl with
 |[c0,c1,c2,c3,c4,c5],_=>
  have h1':DataW.trod enc Tryz.prog w base (fun _=>true) held n' 28 [c0,c1,c2]=some y0:=by simpa [cellsMx] using h0
  have h2':DataW.trod enc Tryz.prog w base (fun _=>true) held n' 28 [c3,c4,c5]=some y1:=by simpa [cellsMx] using h1
  obtain ⟨m,s,e1,hs,ns⟩:=mx_fields h1'
  obtain ⟨k,t,e2,ht,nt⟩:=mx_fields h2'
  simp at e1 e2
  obtain ⟨rfl,rfl,rfl⟩:=e1
  obtain ⟨rfl,rfl,rfl⟩:=e2
  exact ⟨(m,k),_,_,rfl,hs,ht,ns,nt⟩
set_option maxRecDepth 100000 in
theorem bt_open{H:Type}{enc:TypeId×Value→H}{w:World}{r:Reach}{b0:Nat}{v:Value}{d:DataW H}{p:List MemPlace}(hv:Value.okWide Tryz.prog w r b0 30 v)(h:DataW.Trod enc Tryz.prog w 0 (fun _=>true) true 30 v d p):
  ∃m:Mx×Mx,IsTwo w v m.1 m.2:=by
 obtain ⟨cs,rfl,hsz⟩:=okWide_struct Tryz.underlying30 hv
 obtain ⟨fuel,hf⟩:=h
 obtain ⟨l,s,t,e,hs,ht,_,_⟩:=bt_fields (x:=(d,p)) hf
 exact ⟨l,s,t,by rw[←e];simp[Value.cells],hs,ht⟩
theorem cellsAct:Tryz.prog.cellsOf 60=2:=by kernel_rfl
theorem cellsActs:Tryz.prog.cellsOf 61=1:=by kernel_rfl
set_option maxRecDepth 100000 in
theorem act_fields{H:Type}{enc:TypeId×Value→H}{w:World}{held:Bool}{base n:Nat}{cs:List Value}{x:DataW H×List MemPlace}(h:DataW.trod enc Tryz.prog w base (fun _=>true) held n 60 cs=some x):
  ∃a:Int×Int,cs=[.int .i64 a.1,.int .i64 a.2]:=by
 obtain ⟨y0,y1,n',hx,hl,h0,h1⟩:=trod_struct2 Tryz.underlying60 h
 rw[cellsAct]at hl
 match cs,hl with
 |[c0,c1],_=>
  have h0':DataW.trod enc Tryz.prog w base (fun _=>true) held n' 3 [c0]=some y0:=by simpa [cellsInt] using h0
  have h1':DataW.trod enc Tryz.prog w base (fun _=>true) held n' 3 [c1]=some y1:=by simpa [cellsInt] using h1
  obtain ⟨a,e0,_,_⟩:=DataW.trod_int Tryz.underlying3 h0'
  obtain ⟨b,e1,_,_⟩:=DataW.trod_int Tryz.underlying3 h1'
  simp at e0 e1
  subst e0 e1
  exact ⟨(a,b),rfl⟩
theorem acts_open{H:Type}{enc:TypeId×Value→H}{w:World}{held:Bool}{base fuel:Nat}{v:Value}{x:DataW H×List MemPlace}(h:DataW.trod enc Tryz.prog w base (fun _=>true) held fuel 61 [v]=some x):∃l,IsActs w v l:=by
 rcases open_slice Tryz.underlying61 h with ⟨hcs,_⟩|⟨a,len,cap,m,n,D,Pl,hcs,hb,hl,hm,hmm,rfl,hx⟩
 ·obtain rfl:v=.slice none 0 0:=by simpa using hcs
  exact ⟨[],IsActs.nil w⟩
 ·obtain rfl:v=.slice (some a) len cap:=by simpa using hcs
  have hml:m=cap:=by simpa using hmm
  rw[cellsAct]at hx
  have key:∀i,i<len→∃q:Int×Int,w.cells? base (a.add (i*2)) 2=some [.int .i64 q.1,.int .i64 q.2]:=fun i hi=>by
   obtain ⟨cs',h1,h2⟩:=hx i (by omega)
   obtain ⟨q,rfl⟩:=act_fields h2
   exact ⟨q,h1⟩
  obtain ⟨Q,hQ⟩:=choose_lt (α:=Int×Int) key
  refine ⟨(List.range len).map Q,some a,cap,by simp,by simpa using hl,hm,?_⟩
  rcases Nat.eq_zero_or_pos len with h0|h0
  ·exact .inl (by subst h0;simp)
  ·obtain ⟨b,off,e⟩:∃b off,a=⟨b,off,none⟩:=by
    have hc:=(World.cells?_some (hQ 0 h0)).2.2 0 (by omega)
    have hs:=World.cell?_spot (v:=.int .i64 (Q 0).1) (by rw[hc];rfl)
    obtain ⟨b,off,sp⟩:=a
    refine ⟨b,off,?_⟩
    have:sp=none:=by simpa [Addr.add] using hs
    rw[this]
   subst e
   refine .inr ⟨b,off,rfl,fun i q hq=>?_⟩
   have hi:i<len:=by
    rcases Nat.lt_or_ge i len with h|h
    ·exact h
    ·rw[List.getElem?_eq_none (by simp;omega)]at hq;cases hq
   simp[hi]at hq
   subst hq
   have hc:=(World.cells?_some (hQ i hi)).2.2
   have g:∀j,j<2→w.cell? ⟨b,off+i*2+j,none⟩=[Value.int .i64 (Q i).1,.int .i64 (Q i).2][j]?:=fun j hj=>by
    rw[←hc j hj,add_add,Addr.add_lit,Nat.add_assoc]
   exact ⟨g 0 (by omega),g 1 (by omega)⟩
theorem plan_open{H:Type}{enc:TypeId×Value→H}{w:World}{held:Bool}{base fuel:Nat}{v:Value}{x:DataW H×List MemPlace}(h:DataW.trod enc Tryz.prog w base (fun _=>true) held fuel 31 [v]=some x):∃p,IsPlan w v p:=by
 rcases open_slice Tryz.underlying31 h with ⟨hcs,_⟩|⟨a,len,cap,m,n,D,Pl,hcs,hb,hl,hm,hmm,rfl,hx⟩
 ·obtain rfl:v=.slice none 0 0:=by simpa using hcs
  exact ⟨[],IsPlan.nil w⟩
 ·obtain rfl:v=.slice (some a) len cap:=by simpa using hcs
  have hml:m=cap:=by simpa using hmm
  rw[cellsActs]at hx
  have key:∀i,i<len→∃q:List (Int×Int)×Value,w.cells? base (a.add (i*1)) 1=some [q.2]∧IsActs w q.2 q.1:=fun i hi=>by
   obtain ⟨cs',h1,h2⟩:=hx i (by omega)
   have hl1:cs'.length=1:=(World.cells?_some h1).2.1
   match cs',hl1,h1,h2 with
   |[c],_,h1,h2=>
    obtain ⟨l,hl⟩:=acts_open h2
    exact ⟨(l,c),h1,hl⟩
  have:Inhabited (List (Int×Int)×Value):=⟨([],.nilIface)⟩
  obtain ⟨Q,hQ⟩:=choose_lt (α:=List (Int×Int)×Value) key
  refine ⟨(List.range len).map (fun i=>(Q i).1),some a,cap,by simp,by simpa using hl,hm,?_⟩
  rcases Nat.eq_zero_or_pos len with h0|h0
  ·exact .inl (by subst h0;simp)
  ·obtain ⟨b,off,e⟩:∃b off,a=⟨b,off,none⟩:=by
    have hc:=(World.cells?_some (hQ 0 h0).1).2.2 0 (by omega)
    have hs:=World.cell?_spot (v:=(Q 0).2) (by rw[hc];rfl)
    obtain ⟨b,off,sp⟩:=a
    refine ⟨b,off,?_⟩
    have:sp=none:=by simpa [Addr.add] using hs
    rw[this]
   subst e
   refine .inr ⟨b,off,rfl,fun i l hq=>?_⟩
   have hi:i<len:=by
    rcases Nat.lt_or_ge i len with h|h
    ·exact h
    ·rw[List.getElem?_eq_none (by simp;omega)]at hq;cases hq
   simp[hi]at hq
   subst hq
   obtain ⟨h1,h2⟩:=hQ i hi
   have hc:=(World.cells?_some h1).2.2 0 (by omega)
   rw[add_add,Addr.add_lit,Nat.mul_one,Nat.add_zero]at hc
   exact ⟨(Q i).2,by rw[hc];rfl,h2⟩
set_option maxRecDepth 100000 in
theorem plan_param{H:Type}{enc:TypeId×Value→H}{w:World}{r:Reach}{b0:Nat}{v:Value}{d:DataW H}{p:List MemPlace}(hv:Value.okWide Tryz.prog w r b0 31 v)(h:DataW.Trod enc Tryz.prog w 0 (fun _=>true) true 31 v d p):∃q,IsPlan w v q:=by
 obtain ⟨a,len,cap,rfl⟩:=okWide_slice Tryz.underlying31 hv
 obtain ⟨fuel,hf⟩:=h
 exact plan_open (x:=(d,p)) (by simpa [Value.cells] using hf)
end Go.Proofs.YtniloklglpchfakGreat
