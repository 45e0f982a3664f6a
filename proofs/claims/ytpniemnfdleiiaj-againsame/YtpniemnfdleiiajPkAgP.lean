/- What is kept of a net that goes forward and back, and how much at once: plain lists of numbers. No program in sight. -/
import Derived.Test.YtpniemnfdleiiajPkNetLaw
import Derived.Test.YtpniemnfdleiiajNetBk
import Derived.Test.YtpniemnfdleiiajPkMCheckAll
namespace Go.Proofs.Ytpniemnfdleiiaj
def hdK (e n:Nat):List Nat:=(List.range n).filter (fun k=>k % e==0)
theorem hdK_in{e n:Nat}(h:n % e=0):hdK e (n+1)=hdK e n++[n]:=by
 unfold hdK;rw[List.range_succ,List.filter_append];simp[h]
theorem hdK_out{e n:Nat}(h:n % e≠0):hdK e (n+1)=hdK e n:=by
 unfold hdK;rw[List.range_succ,List.filter_append];simp[h]
theorem hdK_lt{e n k:Nat}(h:k∈hdK e n):k<n:=by
 unfold hdK at h;exact List.mem_range.1 (List.mem_filter.1 h).1
theorem hdK_more{e f:Nat}(hf:f % e=0):∀j,j<e→hdK e (f+1+j)=hdK e f++[f]
 |0,_=>hdK_in hf
 |j+1,h=>by
  have ih:=hdK_more hf j (by omega)
  rw[←Nat.add_assoc,hdK_out,ih]
  rw[Nat.add_assoc,Nat.add_mod,hf,Nat.zero_add,Nat.mod_mod,Nat.mod_eq_of_lt (by omega)]
  omega
theorem hdK_group{e f t:Nat}(hf:f % e=0)(h1:f<t)(h2:t≤f+e):hdK e t=hdK e f++[f]:=by
 obtain ⟨j,rfl⟩:∃j,t=f+1+j:=⟨t - (f+1),by omega⟩
 exact hdK_more hf j (by omega)
def btw (f t:Nat):List Nat:=(List.range (t - (f+1))).map (fun j=>f+1+j)
theorem btw_none{f t:Nat}(h:t≤f+1):btw f t=[]:=by unfold btw;rw[show t - (f+1)=0 by omega];rfl
theorem btw_more{f t:Nat}(h:f<t):btw f (t+1)=btw f t++[t]:=by
 unfold btw
 rw[show t+1 - (f+1)=t - (f+1)+1 by omega,List.range_succ,List.map_append]
 simp;omega
theorem btw_mem{f t k:Nat}:k∈btw f t↔f<k∧k<t:=by
 unfold btw
 constructor
 ·intro h;obtain ⟨j,hj,rfl⟩:=List.mem_map.1 h;have:=List.mem_range.1 hj;omega
 ·rintro ⟨h1,h2⟩;exact List.mem_map.2 ⟨k - (f+1),List.mem_range.2 (by omega),by omega⟩
theorem btw_len(f t:Nat):(btw f t).length=t - (f+1):=by simp[btw]
def keyK (e N f t:Nat):List Nat:=hdK e f++[f]++[N]++btw f t
theorem keyK_mem{e N f t k:Nat}(h:k∈keyK e N f t):k≤f∨k=N∨k<t:=by
 simp only[keyK,List.mem_append,List.mem_singleton]at h
 rcases h with ((h|h)|h)|h
 ·exact .inl (Nat.le_of_lt (hdK_lt h))
 ·exact .inl (Nat.le_of_eq h)
 ·exact .inr (.inl h)
 ·exact .inr (.inr (btw_mem.1 h).2)
theorem keyK_in{e N f t:Nat}:∀{k:Nat},f≤k→k<t→k∈keyK e N f t:=fun {k} h1 h2=>by
 simp only[keyK,List.mem_append,List.mem_singleton]
 by_cases h:k=f
 ·exact .inl (.inl (.inr h))
 ·exact .inr (btw_mem.2 ⟨by omega,h2⟩)
theorem keyK_more{e N f t:Nat}(h:f<t):keyK e N f (t+1)=keyK e N f t++[t]:=by unfold keyK;rw[btw_more h];simp
theorem keyK_one{e N f:Nat}:keyK e N f (f+1)=hdK e f++[f]++[N]:=by unfold keyK;rw[btw_none (Nat.le_refl _),List.append_nil]
theorem keyK_new{e N f t:Nat}(h1:f<t)(h2:t<N):t ∉ keyK e N f t:=fun h=>by
 rcases keyK_mem h with h|h|h<;>omega
theorem erase_last{K:List Nat}{k:Nat}(h:k ∉ K):(K++[k]).erase k=K:=by
 rw[List.erase_append_right _ h];simp
theorem keyK_less{e N f t:Nat}(h1:f<t)(h2:t<N):(keyK e N f (t+1)).erase t=keyK e N f t:=by
 rw[keyK_more h1];exact erase_last (keyK_new h1 h2)
theorem keyK_last{e N f:Nat}:(keyK e N f (f+1)).erase f=hdK e f++[N]:=by
 rw[keyK_one,List.erase_append_left _ (by simp),erase_last (fun h=>by have:=hdK_lt h;omega)]
def backQ (e N:Nat):Nat→Nat→Nat→Nat
 |0,_,q=>q
 |n+1,t,q=>if t=0 then q else backQ e N n ((t - 1) / e*e) (max q ((hdK e t).length+1+(t - (t - 1) / e*e - 1)))
def mostL (e N:Nat):Nat→Nat→Nat→Nat
 |0,_,q=>q
 |n+1,f,q=>if N≤f then q else mostL e N n (f+e) (max q (f / e+1+(min e (N - f) - 1)+1))
def mostN (e N:Nat):Nat:=mostL e N 13 0 1
theorem most_same:∀e,e<13→∀N,N<13→0<e→backQ e N 13 N ((hdK e N).length+1)=mostN e N:=by decide+kernel
theorem most_le:∀e,e<13→∀N,N<13→0<e→1≤mostN e N∧mostN e N≤N+1:=by decide+kernel
end Go.Proofs.Ytpniemnfdleiiaj
/- What stays where all blocks stay but some. No program in sight. -/
namespace Go.Proofs.Ytpniemnfdleiiaj
open Go.RowKit
structure Kept (X:Nat→Prop) (w w':World):Prop where
 os:w'.os=w.os
 tape:w'.tape=w.tape
 output:w'.output=w.output
 size:w.heap.size≤w'.heap.size
 block:∀k,k<w.heap.size→¬X k→w'.heap[k]?=w.heap[k]?
theorem Kept.refl(X:Nat→Prop)(w:World):Kept X w w:=⟨rfl,rfl,rfl,Nat.le_refl _,fun _ _ _=>rfl⟩
theorem Kept.trans{X Y:Nat→Prop}{w u v:World}(h:Kept X w u)(k:Kept Y u v)(hy:∀b,b<w.heap.size→Y b→X b):Kept X w v:=
 ⟨k.os.trans h.os,k.tape.trans h.tape,k.output.trans h.output,Nat.le_trans h.size k.size,fun b hb hx=>(k.block b (Nat.lt_of_lt_of_le hb h.size) (fun e=>hx (hy b hb e))).trans (h.block b hb hx)⟩
theorem Kept.of{X:Nat→Prop}{w w':World}(h:Below w.heap.size w w'):Kept X w w':=⟨h.os,h.tape,h.output,h.size,fun k hk _=>h.block k hk⟩
theorem Kept.mono{X Y:Nat→Prop}{w w':World}(h:Kept X w w')(hxy:∀b,b<w.heap.size→X b→Y b):Kept Y w w':=⟨h.os,h.tape,h.output,h.size,fun k hk hy=>h.block k hk (fun e=>hy (hxy k hk e))⟩
theorem Kept.set{X:Nat→Prop}(w:World){B:Nat}(hB:X B)(q:Nat)(v:Value):Kept X w (w.setCell ⟨B,q,none⟩ v):=
 ⟨rfl,rfl,rfl,by simp[World.setCell],fun k _ hk=>Below.heap_setCell _ _ _ k (fun e=>hk (by rw[e];exact hB))⟩
theorem Kept.cell{X:Nat→Prop}{w w':World}(h:Kept X w w'){p:Addr}{v:Value}(hp:¬X p.block)(hc:w.cell? p=some v):w'.cell? p=some v:=
 (World.cell?_of_block (h.block _ (World.block_lt_of_cell? w _ hc) hp)).trans hc
theorem Kept.u_{X:Nat→Prop}{N:Nat}{w0 w w':World}(hb:Below N w0 w)(h:Kept X w w')(hN:N≤w.heap.size)(hx:∀k,X k→N≤k):Below N w0 w':=
 ⟨h.os.trans hb.os,h.tape.trans hb.tape,h.output.trans hb.output,Nat.le_trans hb.size h.size,fun k hk=>(h.block k (Nat.lt_of_lt_of_le hk hN) (fun e=>absurd (hx k e) (by omega))).trans (hb.block k hk)⟩
end Go.Proofs.Ytpniemnfdleiiaj
