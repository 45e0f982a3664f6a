/- Lists of structs that came in, opened: layers, Grads. -/
import Derived.Test.YtaajlggpjholeajDoorOpenLy
import Derived.Test.YtaajlggpjholeajDoorLists
namespace Go.Proofs.YtaajlggpjholeajDoor
open Go.ChangeShapes Go.WideShapes Go.ChangeAt Go.RowKit Go.Joins Go.Deep
theorem list_open{H α:Type}[Inhabited α]{enc:TypeId×Value→H}{w:World}{held:Bool}{base fuel k:Nat}{t e:TypeId}{v:Value}{x:DataW H×List MemPlace}(f:α→List (Int⊕List Int))(hf:∀y,(f y).length=k)(hk:0<k)
  (ht:Tryd.prog.underlying t=some (.slice e)) (hc:Tryd.prog.cellsOf e=k) (fields:∀n cs y,DataW.trod enc Tryd.prog w base (fun _=>true) held n e cs=some y→∃z,Enc w (fun _=>False) (f z) cs)
  (h:DataW.trod enc Tryd.prog w base (fun _=>true) held fuel t [v]=some x):∃xs:List α,Reads w v xs.length (xs.flatMap f)∧(xs=[]∨∃es sp,x.1=.slice es sp∧es.length=xs.length):=by
 rcases open_slice ht h with ⟨hcs,_⟩|⟨a,len,cap,m,n,D,Pl,hcs,hb,hl,hm,hmm,rfl,hx⟩
 ·obtain rfl:v=.slice none 0 0:=by simpa using hcs
  exact ⟨[],⟨none,0,rfl,Nat.le_refl _,Nat.zero_le _,.inl rfl⟩,.inl rfl⟩
 ·obtain rfl:v=.slice (some a) len cap:=by simpa using hcs
  have hml:m=cap:=by simpa using hmm
  rw[hc]at hx
  have key:∀i,i<len→∃z:α,∃cs,w.cells? base (a.add (i*k)) k=some cs∧Enc w (fun _=>False) (f z) cs:=fun i hi=>by
   obtain ⟨cs',h1,h2⟩:=hx i (by omega)
   obtain ⟨z,hz⟩:=fields _ _ _ h2
   exact ⟨z,cs',h1,hz⟩
  obtain ⟨Q,hQ⟩:=choose_lt key
  have hlen:((List.range len).map Q).length=len:=by simp
  refine ⟨(List.range len).map Q,⟨some a,cap,by rw[hlen],by rw[hlen];exact hl,hm,?_⟩,.inr ⟨_,_,rfl,by simp⟩⟩
  rw[hlen]
  rcases Nat.eq_zero_or_pos len with h0|h0
  ·exact .inl h0
  ·obtain ⟨b,off,e⟩:∃b off,a=⟨b,off,none⟩:=by
    obtain ⟨cs,h1,h2⟩:=hQ 0 h0
    have hcl:cs.length=k:=by rw[h2.1,hf]
    have hc0:=(World.cells?_some h1).2.2 0 hk
    have hs:=World.cell?_spot (v:=cs[0]'(by omega)) (by rw[hc0];exact List.getElem?_eq_getElem _)
    obtain ⟨b,off,sp⟩:=a
    refine ⟨b,off,?_⟩
    have:sp=none:=by simpa [Addr.add] using hs
    rw[this]
   subst e
   refine .inr ⟨b,off,rfl,fun j p hp=>?_⟩
   have hjl:j<len*k:=by
    rcases Nat.lt_or_ge j (len*k) with h|h
    ·exact h
    ·have e2:(((List.range len).map Q).flatMap f).length=len*k:=by
      have:∀l:List Nat,((l.map Q).flatMap f).length=l.length*k:=by
       intro l
       induction l with
       |nil=>simp
       |cons i l ih=>rw[List.map_cons,List.flatMap_cons,List.length_append,ih,hf,List.length_cons,Nat.succ_mul];omega
      rw[this,List.length_range]
     rw[List.getElem?_eq_none (by omega)]at hp;cases hp
   have hi:j / k<len:=(Nat.div_lt_iff_lt_mul hk).2 hjl
   have hr:j % k<k:=Nat.mod_lt _ hk
   have ej:j=j / k*k+j % k:=by rw[Nat.mul_comm];exact (Nat.div_add_mod j k).symm
   obtain ⟨cs,h1,h2⟩:=hQ (j / k) hi
   have hp':(f (Q (j / k)))[j % k]?=some p:=by
    rw[←hp,←flat_at f k hf ((List.range len).map Q) (j / k) (j % k) (Q (j / k)) (by simp[hi]) hr,←ej]
   obtain ⟨u,hu,hpu⟩:=h2.2 (j % k) p hp'
   have hcell:=(World.cells?_some h1).2.2 (j % k) hr
   rw[add_add,Addr.add_lit,←ej,hu]at hcell
   exact ⟨u,hcell,hpu⟩
theorem part_any{w:World}{s:Value}{zs:List Int}(h:I_ w s zs):P_ w (fun _=>False) (.inr zs) s:=⟨h,.inr fun _ _ hf=>hf⟩
theorem cellsGd:Tryd.prog.cellsOf 56=6:=by kernel_rfl
set_option maxRecDepth 100000 in
theorem gd_fields{H:Type}{enc:TypeId×Value→H}{w:World}{held:Bool}{base n:Nat}{cs:List Value}{x:DataW H×List MemPlace}(h:DataW.trod enc Tryd.prog w base (fun _=>true) held n 56 cs=some x):
  ∃(d:Mx×Mx) (s t:Value),cs=[.int .i64 d.1.rows,.int .i64 d.1.cols,s,.int .i64 d.2.rows,.int .i64 d.2.cols,t]∧I_ w s d.1.cells∧I_ w t d.2.cells:=by
 obtain ⟨y0,y1,n',hx,hl,h0,h1⟩:=trod_struct2 Tryd.underlying56 h
 rw[cellsGd]at hl
 match cs,hl with
 |[c0,c1,c2,c3,c4,c5],_=>
  have h1':DataW.trod enc Tryd.prog w base (fun _=>true) held n' 51 [c0,c1,c2]=some y0:=by simpa [cellsMx] using h0
  have h2':DataW.trod enc Tryd.prog w base (fun _=>true) held n' 51 [c3,c4,c5]=some y1:=by simpa [cellsMx] using h1
  obtain ⟨m,s,e1,hs,_⟩:=mx_fields h1'
  obtain ⟨k,t,e2,ht,_⟩:=mx_fields h2'
  simp at e1 e2
  obtain ⟨rfl,rfl,rfl⟩:=e1
  obtain ⟨rfl,rfl,rfl⟩:=e2
  exact ⟨(m,k),_,_,rfl,hs,ht⟩
end Go.Proofs.YtaajlggpjholeajDoor
