/- What goes back through a net, layer by layer from the last on; the memory of Back of package net while it does so. No program in sight, but for the numbers of types. -/
import Derived.Test.YtpniemnfdleiiajGreatDoorPkLyGood
import Derived.Test.YtpniemnfdleiiajGreatDoorPkLBox
import Derived.Test.YtpniemnfdleiiajGreatDoorPkReg
import Derived.Test.YtpniemnfdleiiajGreatDoorPkFix
import Derived.Shelf.Abstract
import Derived.Shelf.RegionOpen
import Derived.OwnWalkIn
import Derived.TacticsInMore
import Derived.LoopNIn
import Derived.LoopIn
namespace Go.Proofs.YtpniemnfdleiiajGreatDoor
open Go.RowKit
def down (N k:Nat):List Nat:=(List.range k).map (fun j=>N - 1 - j)
structure Rel (ls:List Ly) (ms:List Mx) (g:Mx) (N k:Nat) (T:Mx) (D:List (Mx×Mx)):Prop where
 e:bkE ls.reverse (ms.take N).reverse g=bkE (ls.take (N - k)).reverse (ms.take (N - k)).reverse T
 x:bkX ls.reverse (ms.take N).reverse g=bkX (ls.take (N - k)).reverse (ms.take (N - k)).reverse T
 d:bkD ls.reverse (ms.take N).reverse g=bkD (ls.take (N - k)).reverse (ms.take (N - k)).reverse T++D.drop (N - k)
theorem rel_start{ls:List Ly}{ms:List Mx}{g:Mx}{N:Nat}(hN:ls.length=N){D:List (Mx×Mx)}(hD:D.length=N):Rel ls ms g N 0 g D:=by
 refine ⟨?_,?_,?_⟩
 ·rw[Nat.sub_zero,←hN,List.take_length]
 ·rw[Nat.sub_zero,←hN,List.take_length]
 ·rw[Nat.sub_zero,←hN,List.take_length,hN,←hD,List.drop_length,List.append_nil]
section
variable {ls:List Ly} {ms:List Mx} {g T:Mx} {N k i:Nat} {D:List (Mx×Mx)} {l:Ly} {m:Mx}
theorem rel_rev(hi:N - k=i+1)(hl:ls[i]?=some l)(hm:ms[i]?=some m):(ls.take (N - k)).reverse=l::(ls.take i).reverse∧(ms.take (N - k)).reverse=m::(ms.take i).reverse:=by
 rw[hi,take_end hl,take_end hm]
 simp
theorem rel_step(h:Rel ls ms g N k T D)(hi:N - k=i+1)(hl:ls[i]?=some l)(hm:ms[i]?=some m)(hE:backE l m T=0)(hD:D.length=N):Rel ls ms g N (k+1) (backX l m T) (D.set i (gradW l m T,gradB l m T)):=by
 obtain ⟨e1,e2⟩:=rel_rev hi hl hm
 have hk:N - (k+1)=i:=by omega
 refine ⟨?_,?_,?_⟩
 ·rw[h.e,e1,e2,hk];show (if backE l m T≠0 then _ else _)=_;rw[if_neg (by simp[hE])]
 ·rw[h.x,e1,e2,hk];rfl
 ·rw[h.d,e1,e2,hk]
  show (bkD (ls.take i).reverse (ms.take i).reverse (backX l m T)++[(gradW l m T,gradB l m T)])++_=_
  rw[List.append_assoc]
  congr 1
  rw[hi,List.drop_eq_getElem_cons (l:=D.set i _) (by simp;omega)]
  simp[List.drop_set]
theorem rel_err(h:Rel ls ms g N k T D)(hi:N - k=i+1)(hl:ls[i]?=some l)(hm:ms[i]?=some m)(hE:backE l m T≠0):bkE ls.reverse (ms.take N).reverse g=backE l m T:=by
 obtain ⟨e1,e2⟩:=rel_rev hi hl hm
 rw[h.e,e1,e2];show (if backE l m T≠0 then _ else _)=_;rw[if_pos hE]
theorem rel_end(h:Rel ls ms g N N T D):bkE ls.reverse (ms.take N).reverse g=0∧bkX ls.reverse (ms.take N).reverse g=T∧bkD ls.reverse (ms.take N).reverse g=D:=by
 have h1:=h.e
 have h2:=h.x
 have h3:=h.d
 rw[Nat.sub_self]at h1 h2 h3
 exact ⟨h1,h2,h3⟩
end
theorem flat_len6{α β:Type}(f:α→List β)(k:Nat)(hk:∀x,(f x).length=k):∀xs:List α,(xs.flatMap f).length=xs.length*k
 |[]=>by simp
 |x::xs=>by rw[List.flatMap_cons,List.length_append,hk,flat_len6 f k hk xs,List.length_cons,Nat.succ_mul];omega
def set6 (cs:List Value) (q:Nat) (a b c a' b' c':Value):List Value:=(((((cs.set q a).set (q+1) b).set (q+2) c).set (q+3) a').set (q+4) b').set (q+5) c'
theorem set6_len(cs:List Value)(q:Nat)(a b c a' b' c':Value):(set6 cs q a b c a' b' c').length=cs.length:=by simp[set6]
theorem set6_in{cs:List Value}{q r:Nat}{a b c a' b' c' u:Value}(hq:q+5<cs.length)(h:[a,b,c,a',b',c'][r]?=some u):(set6 cs q a b c a' b' c')[q+r]?=some u:=by
 match r,h with
 |0,h=>simp[set6,List.getElem?_set]at h ⊢;subst h;simp;omega
 |1,h=>simp[set6,List.getElem?_set]at h ⊢;subst h;simp;omega
 |2,h=>simp[set6,List.getElem?_set]at h ⊢;subst h;simp;omega
 |3,h=>simp[set6,List.getElem?_set]at h ⊢;subst h;simp;omega
 |4,h=>simp[set6,List.getElem?_set]at h ⊢;subst h;simp;omega
 |5,h=>simp[set6,List.getElem?_set]at h ⊢;subst h;simp;omega
 |r+6,h=>simp at h
theorem set6_out{cs:List Value}{q j:Nat}{a b c a' b' c':Value}(h:j<q∨q+5<j):(set6 cs q a b c a' b' c')[j]?=cs[j]?:=by
 unfold set6
 rw[List.getElem?_set_ne (by omega),List.getElem?_set_ne (by omega),List.getElem?_set_ne (by omega),List.getElem?_set_ne (by omega),List.getElem?_set_ne (by omega),List.getElem?_set_ne (by omega)]
theorem enc_set6{W:World}{G:Nat→Prop}{D:List (Mx×Mx)}{cs:List Value}{i:Nat}{d:Mx×Mx}{a b c a' b' c':Value}(h:Enc W G (D.flatMap gdS) cs)(hi:i<D.length)(hd:Enc W G (gdS d) [a,b,c,a',b',c']):Enc W G ((D.set i d).flatMap gdS) (set6 cs (i*6) a b c a' b' c'):=by
 have hl:cs.length=D.length*6:=by rw[h.1,flat_len6 gdS 6 (fun _=>rfl)]
 refine ⟨by rw[set6_len,hl,flat_len6 gdS 6 (fun _=>rfl),List.length_set],fun j p hp=>?_⟩
 have hj:j<D.length*6:=by
  rcases Nat.lt_or_ge j ((D.set i d).flatMap gdS).length with h'|h'
  ·rw[flat_len6 gdS 6 (fun _=>rfl),List.length_set]at h';exact h'
  ·rw[List.getElem?_eq_none h']at hp;cases hp
 have hq:j / 6<D.length:=by omega
 have hjj:j=j / 6*6+j % 6:=by omega
 by_cases he:j / 6=i
 ·have hx:(D.set i d)[j / 6]?=some d:=by rw[he,List.getElem?_set_self (by omega)]
  have hf:=flat_at gdS 6 (fun _=>rfl) (D.set i d) (j / 6) (j % 6) d hx (by omega)
  rw[←hjj,hp]at hf
  obtain ⟨u,hu,hpu⟩:=hd.2 (j % 6) p hf.symm
  refine ⟨u,?_,hpu⟩
  have:=set6_in (cs:=cs) (q:=i*6) (r:=j % 6) (by omega) hu
  rw[show i*6+j % 6=j by omega]at this
  exact this
 ·obtain ⟨x,hx⟩:∃x,D[j / 6]?=some x:=⟨_,List.getElem?_eq_getElem hq⟩
  have hx':(D.set i d)[j / 6]?=some x:=by rw[List.getElem?_set_ne (by omega)];exact hx
  have hf:=flat_at gdS 6 (fun _=>rfl) (D.set i d) (j / 6) (j % 6) x hx' (by omega)
  have hf':=flat_at gdS 6 (fun _=>rfl) D (j / 6) (j % 6) x hx (by omega)
  rw[←hjj]at hf hf'
  obtain ⟨u,hu,hpu⟩:=h.2 j p (by rw[hf',←hf];exact hp)
  exact ⟨u,by rw[set6_out (by omega)];exact hu,hpu⟩
theorem enc_none(W:World)(G:Nat→Prop)(N:Nat):Enc W G ((List.replicate N (noMx,noMx)).flatMap gdS) (List.replicate N [Value.int .i64 0,.int .i64 0,.slice none 0 0,.int .i64 0,.int .i64 0,.slice none 0 0]).flatten:=by
 induction N with
 |zero=>exact Enc.nil _ _
 |succ N ih=>
  rw[List.replicate_succ,List.replicate_succ,List.flatMap_cons,List.flatten_cons]
  exact Enc.append (enc_gd (d:=(noMx,noMx)) ⟨I_.nil _,.inl rfl⟩ ⟨I_.nil _,.inl rfl⟩) ih
end Go.Proofs.YtpniemnfdleiiajGreatDoor
/- What is kept of a net that goes forward and back, and how much at once: plain lists of numbers. No program in sight. -/
namespace Go.Proofs.YtpniemnfdleiiajGreatDoor
def hdK (e n:Nat):List Nat:=(List.range n).filter (fun k=>k % e==0)
theorem hdK_in{e n:Nat}(h:n % e=0):hdK e (n+1)=hdK e n++[n]:=by
 unfold hdK;rw[List.range_succ,List.filter_append];simp[h]
theorem hdK_out{e n:Nat}(h:n % e≠0):hdK e (n+1)=hdK e n:=by
 unfold hdK;rw[List.range_succ,List.filter_append];simp[h]
theorem hdK_lt{e n k:Nat}(h:k∈hdK e n):k<n:=by
 unfold hdK at h;exact List.mem_range.1 (List.mem_filter.1 h).1
theorem hdK_more{e f:Nat}(hf:f % e=0):∀j,j<e→hdK e (f+1+j)=hdK e f++[f]
 |0,_=>hdK_in hf
 |j+1,h=>by
  have ih:=hdK_more hf j (by omega)
  rw[←Nat.add_assoc,hdK_out,ih]
  rw[Nat.add_assoc,Nat.add_mod,hf,Nat.zero_add,Nat.mod_mod,Nat.mod_eq_of_lt (by omega)]
  omega
theorem hdK_group{e f t:Nat}(hf:f % e=0)(h1:f<t)(h2:t≤f+e):hdK e t=hdK e f++[f]:=by
 obtain ⟨j,rfl⟩:∃j,t=f+1+j:=⟨t - (f+1),by omega⟩
 exact hdK_more hf j (by omega)
def btw (f t:Nat):List Nat:=(List.range (t - (f+1))).map (fun j=>f+1+j)
theorem btw_none{f t:Nat}(h:t≤f+1):btw f t=[]:=by unfold btw;rw[show t - (f+1)=0 by omega];rfl
theorem btw_more{f t:Nat}(h:f<t):btw f (t+1)=btw f t++[t]:=by
 unfold btw
 rw[show t+1 - (f+1)=t - (f+1)+1 by omega,List.range_succ,List.map_append]
 simp;omega
theorem btw_mem{f t k:Nat}:k∈btw f t↔f<k∧k<t:=by
 unfold btw
 constructor
 ·intro h;obtain ⟨j,hj,rfl⟩:=List.mem_map.1 h;have:=List.mem_range.1 hj;omega
 ·rintro ⟨h1,h2⟩;exact List.mem_map.2 ⟨k - (f+1),List.mem_range.2 (by omega),by omega⟩
theorem btw_len(f t:Nat):(btw f t).length=t - (f+1):=by simp[btw]
def keyK (e N f t:Nat):List Nat:=hdK e f++[f]++[N]++btw f t
theorem keyK_mem{e N f t k:Nat}(h:k∈keyK e N f t):k≤f∨k=N∨k<t:=by
 simp only[keyK,List.mem_append,List.mem_singleton]at h
 rcases h with ((h|h)|h)|h
 ·exact .inl (Nat.le_of_lt (hdK_lt h))
 ·exact .inl (Nat.le_of_eq h)
 ·exact .inr (.inl h)
 ·exact .inr (.inr (btw_mem.1 h).2)
theorem keyK_in{e N f t:Nat}:∀{k:Nat},f≤k→k<t→k∈keyK e N f t:=fun {k} h1 h2=>by
 simp only[keyK,List.mem_append,List.mem_singleton]
 by_cases h:k=f
 ·exact .inl (.inl (.inr h))
 ·exact .inr (btw_mem.2 ⟨by omega,h2⟩)
theorem keyK_more{e N f t:Nat}(h:f<t):keyK e N f (t+1)=keyK e N f t++[t]:=by unfold keyK;rw[btw_more h];simp
theorem keyK_one{e N f:Nat}:keyK e N f (f+1)=hdK e f++[f]++[N]:=by unfold keyK;rw[btw_none (Nat.le_refl _),List.append_nil]
theorem keyK_new{e N f t:Nat}(h1:f<t)(h2:t<N):t ∉ keyK e N f t:=fun h=>by
 rcases keyK_mem h with h|h|h<;>omega
theorem erase_last{K:List Nat}{k:Nat}(h:k ∉ K):(K++[k]).erase k=K:=by
 rw[List.erase_append_right _ h];simp
theorem keyK_less{e N f t:Nat}(h1:f<t)(h2:t<N):(keyK e N f (t+1)).erase t=keyK e N f t:=by
 rw[keyK_more h1];exact erase_last (keyK_new h1 h2)
theorem keyK_last{e N f:Nat}:(keyK e N f (f+1)).erase f=hdK e f++[N]:=by
 rw[keyK_one,List.erase_append_left _ (by simp),erase_last (fun h=>by have:=hdK_lt h;omega)]
def backQ (e N:Nat):Nat→Nat→Nat→Nat
 |0,_,q=>q
 |n+1,t,q=>if t=0 then q else backQ e N n ((t - 1) / e*e) (max q ((hdK e t).length+1+(t - (t - 1) / e*e - 1)))
def mostL (e N:Nat):Nat→Nat→Nat→Nat
 |0,_,q=>q
 |n+1,f,q=>if N≤f then q else mostL e N n (f+e) (max q (f / e+1+(min e (N - f) - 1)+1))
def mostN (e N:Nat):Nat:=mostL e N 13 0 1
theorem most_same:∀e,e<13→∀N,N<13→0<e→backQ e N 13 N ((hdK e N).length+1)=mostN e N:=by decide+kernel
end Go.Proofs.YtpniemnfdleiiajGreatDoor
/- What stays where all blocks stay but some. No program in sight. -/
namespace Go.Proofs.YtpniemnfdleiiajGreatDoor
open Go.RowKit
structure Kept (X:Nat→Prop) (w w':World):Prop where
 os:w'.os=w.os
 tape:w'.tape=w.tape
 output:w'.output=w.output
 size:w.heap.size≤w'.heap.size
 block:∀k,k<w.heap.size→¬X k→w'.heap[k]?=w.heap[k]?
theorem Kept.refl(X:Nat→Prop)(w:World):Kept X w w:=⟨rfl,rfl,rfl,Nat.le_refl _,fun _ _ _=>rfl⟩
theorem Kept.trans{X Y:Nat→Prop}{w u v:World}(h:Kept X w u)(k:Kept Y u v)(hy:∀b,b<w.heap.size→Y b→X b):Kept X w v:=
 ⟨k.os.trans h.os,k.tape.trans h.tape,k.output.trans h.output,Nat.le_trans h.size k.size,fun b hb hx=>(k.block b (Nat.lt_of_lt_of_le hb h.size) (fun e=>hx (hy b hb e))).trans (h.block b hb hx)⟩
theorem Kept.of{X:Nat→Prop}{w w':World}(h:Below w.heap.size w w'):Kept X w w':=⟨h.os,h.tape,h.output,h.size,fun k hk _=>h.block k hk⟩
theorem Kept.mono{X Y:Nat→Prop}{w w':World}(h:Kept X w w')(hxy:∀b,b<w.heap.size→X b→Y b):Kept Y w w':=⟨h.os,h.tape,h.output,h.size,fun k hk hy=>h.block k hk (fun e=>hy (hxy k hk e))⟩
theorem Kept.set{X:Nat→Prop}(w:World){B:Nat}(hB:X B)(q:Nat)(v:Value):Kept X w (w.setCell ⟨B,q,none⟩ v):=
 ⟨rfl,rfl,rfl,by simp[World.setCell],fun k _ hk=>Below.heap_setCell _ _ _ k (fun e=>hk (by rw[e];exact hB))⟩
theorem Kept.cell{X:Nat→Prop}{w w':World}(h:Kept X w w'){p:Addr}{v:Value}(hp:¬X p.block)(hc:w.cell? p=some v):w'.cell? p=some v:=
 (World.cell?_of_block (h.block _ (World.block_lt_of_cell? w _ hc) hp)).trans hc
theorem Kept.u_{X:Nat→Prop}{N:Nat}{w0 w w':World}(hb:Below N w0 w)(h:Kept X w w')(hN:N≤w.heap.size)(hx:∀k,X k→N≤k):Below N w0 w':=
 ⟨h.os.trans hb.os,h.tape.trans hb.tape,h.output.trans hb.output,Nat.le_trans hb.size h.size,fun k hk=>(h.block k (Nat.lt_of_lt_of_le hk hN) (fun e=>absurd (hx k e) (by omega))).trans (hb.block k hk)⟩
end Go.Proofs.YtpniemnfdleiiajGreatDoor
/- What slices.Backward at a list of layers comes to: a function that hands on the layers, the last one first, to whatever goes through it. -/
namespace Go.Proofs.YtpniemnfdleiiajGreatDoor
open Go.RowKit Go.Shelf
attribute [local go_sem] Oper.semAt_some
end Go.Proofs.YtpniemnfdleiiajGreatDoor
/- What holds wherever all cells stay but those of some blocks: lists that lie in none of these. No program in sight. -/
namespace Go.Proofs.YtpniemnfdleiiajGreatDoor
open Go.RowKit
def Hold (G:Nat→Prop) (w:World) (F:World→Prop):Prop:=∀W:World,(∀(p:Addr) x,¬G p.block→w.cell? p=some x→W.cell? p=some x)→F W
theorem Hold.now{G:Nat→Prop}{w:World}{F:World→Prop}(h:Hold G w F):F w:=h w (fun _ _ _ hx=>hx)
theorem Hold.grown{G G':Nat→Prop}{w w':World}{g:Option Nat}{F:World→Prop}(h:Hold G w F)(hg:w.grownBy w' g)(hG:∀b,g=some b→G b)(hG':∀b,b<w.heap.size→G' b→G b):Hold G' w' F:=fun W hW=>h W (fun p x hp hx=>by
 have hlt:=World.block_lt_of_cell? w p hx
 exact hW p x (fun e=>hp (hG' _ hlt e)) (hg.cell hx (fun e=>hp (hG _ e.symm))))
theorem Hold.u_{G:Nat→Prop}{w w':World}{F:World→Prop}(h:Hold G w F)(hb:Below w.heap.size w w'):Hold G w' F:=h.grown (below_grown hb) (fun b e=>by cases e) (fun _ _ hb=>hb)
theorem Hold.mono{G G':Nat→Prop}{w:World}{F:World→Prop}(h:Hold G w F)(hG:∀b,b<w.heap.size→G' b→G b):Hold G' w F:=h.grown (World.grownBy.refl w none) (fun b e=>by cases e) hG
theorem Reads.hold{w V:World}{v:Value}{n:Nat}{sp:List (Int⊕List Int)}(h:Reads w v n sp)(hb:Below w.heap.size w V){G:Nat→Prop}(hG:∀b,G b→w.heap.size≤b):Hold G V (fun W=>Reads W v n sp):=by
 intro W hW
 have key:∀(p:Addr) x,w.cell? p=some x→W.cell? p=some x:=fun p x hx=>hW p x (fun hg=>by
  have:=World.block_lt_of_cell? w p hx
  have:=hG _ hg
  omega) (c_ hb hx)
 obtain ⟨a,cap,h1,h2,h3,h4⟩:=h
 refine ⟨a,cap,h1,h2,h3,h4.imp id ?_⟩
 rintro ⟨b,off,ha,hc⟩
 refine ⟨b,off,ha,fun j p hp=>?_⟩
 obtain ⟨u,hu,hp'⟩:=hc j p hp
 refine ⟨u,key _ _ hu,?_⟩
 cases p with
 |inl i=>exact hp'
 |inr zs=>exact ⟨hp'.1.stay (fun q y _ hy=>key q y hy),hp'.2⟩
def put3 (W:World) (B:Nat) (x y z:Value):World:=((W.setCell ⟨B,0,none⟩ x).setCell ⟨B,1,none⟩ y).setCell ⟨B,2,none⟩ z
def put6 (W:World) (B q:Nat) (x y z x' y' z':Value):World:=(((((W.setCell ⟨B,q,none⟩ x).setCell ⟨B,q+1,none⟩ y).setCell ⟨B,q+2,none⟩ z).setCell ⟨B,q+3,none⟩ x').setCell ⟨B,q+4,none⟩ y').setCell ⟨B,q+5,none⟩ z'
end Go.Proofs.YtpniemnfdleiiajGreatDoor
