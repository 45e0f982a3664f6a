/- What goes back through a net, layer by layer from the last on; the memory of Back of package net while it does so. No program in sight, but for the numbers of types. -/
import Derived.Test.YtpniemnfdleiiajPkNetLaw
import Derived.Test.YtpniemnfdleiiajPkLBox
import Derived.Test.YtpniemnfdleiiajPkNetB
namespace Go.Proofs.Ytpniemnfdleiiaj
open Go.RowKit
def down (N k:Nat):List Nat:=(List.range k).map (fun j=>N - 1 - j)
theorem down_succ(N k:Nat):down N (k+1)=down N k++[N - 1 - k]:=by simp[down,List.range_succ]
theorem down_len(N k:Nat):(down N k).length=k:=by simp[down]
structure Rel (ls:List Ly) (ms:List Mx) (g:Mx) (N k:Nat) (T:Mx) (D:List (Mx×Mx)):Prop where
 e:bkE ls.reverse (ms.take N).reverse g=bkE (ls.take (N - k)).reverse (ms.take (N - k)).reverse T
 x:bkX ls.reverse (ms.take N).reverse g=bkX (ls.take (N - k)).reverse (ms.take (N - k)).reverse T
 d:bkD ls.reverse (ms.take N).reverse g=bkD (ls.take (N - k)).reverse (ms.take (N - k)).reverse T++D.drop (N - k)
theorem rel_start{ls:List Ly}{ms:List Mx}{g:Mx}{N:Nat}(hN:ls.length=N){D:List (Mx×Mx)}(hD:D.length=N):Rel ls ms g N 0 g D:=by
 refine ⟨?_,?_,?_⟩
 ·rw[Nat.sub_zero,←hN,List.take_length]
 ·rw[Nat.sub_zero,←hN,List.take_length]
 ·rw[Nat.sub_zero,←hN,List.take_length,hN,←hD,List.drop_length,List.append_nil]
section
variable {ls:List Ly} {ms:List Mx} {g T:Mx} {N k i:Nat} {D:List (Mx×Mx)} {l:Ly} {m:Mx}
theorem rel_rev(hi:N - k=i+1)(hl:ls[i]?=some l)(hm:ms[i]?=some m):(ls.take (N - k)).reverse=l::(ls.take i).reverse∧(ms.take (N - k)).reverse=m::(ms.take i).reverse:=by
 rw[hi,take_end hl,take_end hm]
 simp
theorem rel_step(h:Rel ls ms g N k T D)(hi:N - k=i+1)(hl:ls[i]?=some l)(hm:ms[i]?=some m)(hE:backE l m T=0)(hD:D.length=N):Rel ls ms g N (k+1) (backX l m T) (D.set i (gradW l m T,gradB l m T)):=by
 obtain ⟨e1,e2⟩:=rel_rev hi hl hm
 have hk:N - (k+1)=i:=by omega
 refine ⟨?_,?_,?_⟩
 ·rw[h.e,e1,e2,hk];show (if backE l m T≠0 then _ else _)=_;rw[if_neg (by simp[hE])]
 ·rw[h.x,e1,e2,hk];rfl
 ·rw[h.d,e1,e2,hk]
  show (bkD (ls.take i).reverse (ms.take i).reverse (backX l m T)++[(gradW l m T,gradB l m T)])++_=_
  rw[List.append_assoc]
  congr 1
  rw[hi,List.drop_eq_getElem_cons (l:=D.set i _) (by simp;omega)]
  simp[List.drop_set]
theorem rel_err(h:Rel ls ms g N k T D)(hi:N - k=i+1)(hl:ls[i]?=some l)(hm:ms[i]?=some m)(hE:backE l m T≠0):bkE ls.reverse (ms.take N).reverse g=backE l m T:=by
 obtain ⟨e1,e2⟩:=rel_rev hi hl hm
 rw[h.e,e1,e2];show (if backE l m T≠0 then _ else _)=_;rw[if_pos hE]
theorem rel_end(h:Rel ls ms g N N T D):bkE ls.reverse (ms.take N).reverse g=0∧bkX ls.reverse (ms.take N).reverse g=T∧bkD ls.reverse (ms.take N).reverse g=D:=by
 have h1:=h.e
 have h2:=h.x
 have h3:=h.d
 rw[Nat.sub_self]at h1 h2 h3
 exact ⟨h1,h2,h3⟩
end
theorem flat_len6{α β:Type}(f:α→List β)(k:Nat)(hk:∀x,(f x).length=k):∀xs:List α,(xs.flatMap f).length=xs.length*k
 |[]=>by simp
 |x::xs=>by rw[List.flatMap_cons,List.length_append,hk,flat_len6 f k hk xs,List.length_cons,Nat.succ_mul];omega
def set6 (cs:List Value) (q:Nat) (a b c a' b' c':Value):List Value:=(((((cs.set q a).set (q+1) b).set (q+2) c).set (q+3) a').set (q+4) b').set (q+5) c'
theorem set6_len(cs:List Value)(q:Nat)(a b c a' b' c':Value):(set6 cs q a b c a' b' c').length=cs.length:=by simp[set6]
theorem set6_in{cs:List Value}{q r:Nat}{a b c a' b' c' u:Value}(hq:q+5<cs.length)(h:[a,b,c,a',b',c'][r]?=some u):(set6 cs q a b c a' b' c')[q+r]?=some u:=by
 match r,h with
 |0,h=>simp[set6,List.getElem?_set]at h ⊢;subst h;simp;omega
 |1,h=>simp[set6,List.getElem?_set]at h ⊢;subst h;simp;omega
 |2,h=>simp[set6,List.getElem?_set]at h ⊢;subst h;simp;omega
 |3,h=>simp[set6,List.getElem?_set]at h ⊢;subst h;simp;omega
 |4,h=>simp[set6,List.getElem?_set]at h ⊢;subst h;simp;omega
 |5,h=>simp[set6,List.getElem?_set]at h ⊢;subst h;simp;omega
 |r+6,h=>simp at h
theorem set6_out{cs:List Value}{q j:Nat}{a b c a' b' c':Value}(h:j<q∨q+5<j):(set6 cs q a b c a' b' c')[j]?=cs[j]?:=by
 unfold set6
 rw[List.getElem?_set_ne (by omega),List.getElem?_set_ne (by omega),List.getElem?_set_ne (by omega),List.getElem?_set_ne (by omega),List.getElem?_set_ne (by omega),List.getElem?_set_ne (by omega)]
theorem enc_set6{W:World}{G:Nat→Prop}{D:List (Mx×Mx)}{cs:List Value}{i:Nat}{d:Mx×Mx}{a b c a' b' c':Value}(h:Enc W G (D.flatMap gdS) cs)(hi:i<D.length)(hd:Enc W G (gdS d) [a,b,c,a',b',c']):Enc W G ((D.set i d).flatMap gdS) (set6 cs (i*6) a b c a' b' c'):=by
 have hl:cs.length=D.length*6:=by rw[h.1,flat_len6 gdS 6 (fun _=>rfl)]
 refine ⟨by rw[set6_len,hl,flat_len6 gdS 6 (fun _=>rfl),List.length_set],fun j p hp=>?_⟩
 have hj:j<D.length*6:=by
  rcases Nat.lt_or_ge j ((D.set i d).flatMap gdS).length with h'|h'
  ·rw[flat_len6 gdS 6 (fun _=>rfl),List.length_set]at h';exact h'
  ·rw[List.getElem?_eq_none h']at hp;cases hp
 have hq:j / 6<D.length:=by omega
 have hjj:j=j / 6*6+j % 6:=by omega
 by_cases he:j / 6=i
 ·have hx:(D.set i d)[j / 6]?=some d:=by rw[he,List.getElem?_set_self (by omega)]
  have hf:=flat_at gdS 6 (fun _=>rfl) (D.set i d) (j / 6) (j % 6) d hx (by omega)
  rw[←hjj,hp]at hf
  obtain ⟨u,hu,hpu⟩:=hd.2 (j % 6) p hf.symm
  refine ⟨u,?_,hpu⟩
  have:=set6_in (cs:=cs) (q:=i*6) (r:=j % 6) (by omega) hu
  rw[show i*6+j % 6=j by omega]at this
  exact this
 ·obtain ⟨x,hx⟩:∃x,D[j / 6]?=some x:=⟨_,List.getElem?_eq_getElem hq⟩
  have hx':(D.set i d)[j / 6]?=some x:=by rw[List.getElem?_set_ne (by omega)];exact hx
  have hf:=flat_at gdS 6 (fun _=>rfl) (D.set i d) (j / 6) (j % 6) x hx' (by omega)
  have hf':=flat_at gdS 6 (fun _=>rfl) D (j / 6) (j % 6) x hx (by omega)
  rw[←hjj]at hf hf'
  obtain ⟨u,hu,hpu⟩:=h.2 j p (by rw[hf',←hf];exact hp)
  exact ⟨u,by rw[set6_out (by omega)];exact hu,hpu⟩
theorem enc_none(W:World)(G:Nat→Prop)(N:Nat):Enc W G ((List.replicate N (noMx,noMx)).flatMap gdS) (List.replicate N [Value.int .i64 0,.int .i64 0,.slice none 0 0,.int .i64 0,.int .i64 0,.slice none 0 0]).flatten:=by
 induction N with
 |zero=>exact Enc.nil _ _
 |succ N ih=>
  rw[List.replicate_succ,List.replicate_succ,List.flatMap_cons,List.flatten_cons]
  exact Enc.append (enc_gd (d:=(noMx,noMx)) ⟨I_.nil _,.inl rfl⟩ ⟨I_.nil _,.inl rfl⟩) ih
end Go.Proofs.Ytpniemnfdleiiaj
