/- What goes back through a net, layer by layer from the last on; the memory of Back of package net while it does so. No program in sight, but for the numbers of types. -/
import Derived.Test.YtniloklglpchfafPkLsBoth
import Derived.Test.YtniloklglpchfafPkLBox
import Derived.Test.YtniloklglpchfafPkReg
import Derived.Shelf.Abstract
import Derived.Shelf.RegionOpen
import Derived.OwnWalkIn
import Derived.TacticsInMore
import Derived.LoopNIn
import Derived.LoopIn
namespace Go.Proofs.Ytniloklglpchfaf
open Go.RowKit
def down (N k:Nat):List Nat:=(List.range k).map (fun j=>N - 1 - j)
theorem down_succ(N k:Nat):down N (k+1)=down N k++[N - 1 - k]:=by simp[down,List.range_succ]
theorem down_len(N k:Nat):(down N k).length=k:=by simp[down]
structure Rel (ls:List Ly) (ms:List Mx) (g:Mx) (N k:Nat) (T:Mx) (D:List (Mx×Mx)):Prop where
 e:bkE ls.reverse (ms.take N).reverse g=bkE (ls.take (N - k)).reverse (ms.take (N - k)).reverse T
 x:bkX ls.reverse (ms.take N).reverse g=bkX (ls.take (N - k)).reverse (ms.take (N - k)).reverse T
 d:bkD ls.reverse (ms.take N).reverse g=bkD (ls.take (N - k)).reverse (ms.take (N - k)).reverse T++D.drop (N - k)
theorem rel_start{ls:List Ly}{ms:List Mx}{g:Mx}{N:Nat}(hN:ls.length=N){D:List (Mx×Mx)}(hD:D.length=N):Rel ls ms g N 0 g D:=by
 refine ⟨?_,?_,?_⟩
 ·rw[Nat.sub_zero,←hN,List.take_length]
 ·rw[Nat.sub_zero,←hN,List.take_length]
 ·rw[Nat.sub_zero,←hN,List.take_length,hN,←hD,List.drop_length,List.append_nil]
section
variable {ls:List Ly} {ms:List Mx} {g T:Mx} {N k i:Nat} {D:List (Mx×Mx)} {l:Ly} {m:Mx}
theorem rel_rev(hi:N - k=i+1)(hl:ls[i]?=some l)(hm:ms[i]?=some m):(ls.take (N - k)).reverse=l::(ls.take i).reverse∧(ms.take (N - k)).reverse=m::(ms.take i).reverse:=by
 rw[hi,take_end hl,take_end hm]
 simp
theorem rel_step(h:Rel ls ms g N k T D)(hi:N - k=i+1)(hl:ls[i]?=some l)(hm:ms[i]?=some m)(hE:backE l m T=0)(hD:D.length=N):Rel ls ms g N (k+1) (backX l m T) (D.set i (gradW l m T,gradB l m T)):=by
 obtain ⟨e1,e2⟩:=rel_rev hi hl hm
 have hk:N - (k+1)=i:=by omega
 refine ⟨?_,?_,?_⟩
 ·rw[h.e,e1,e2,hk];show (if backE l m T≠0 then _ else _)=_;rw[if_neg (by simp[hE])]
 ·rw[h.x,e1,e2,hk];rfl
 ·rw[h.d,e1,e2,hk]
  show (bkD (ls.take i).reverse (ms.take i).reverse (backX l m T)++[(gradW l m T,gradB l m T)])++_=_
  rw[List.append_assoc]
  congr 1
  rw[hi,List.drop_eq_getElem_cons (l:=D.set i _) (by simp;omega)]
  simp[List.drop_set]
theorem rel_err(h:Rel ls ms g N k T D)(hi:N - k=i+1)(hl:ls[i]?=some l)(hm:ms[i]?=some m)(hE:backE l m T≠0):bkE ls.reverse (ms.take N).reverse g=backE l m T:=by
 obtain ⟨e1,e2⟩:=rel_rev hi hl hm
 rw[h.e,e1,e2];show (if backE l m T≠0 then _ else _)=_;rw[if_pos hE]
theorem rel_end(h:Rel ls ms g N N T D):bkE ls.reverse (ms.take N).reverse g=0∧bkX ls.reverse (ms.take N).reverse g=T∧bkD ls.reverse (ms.take N).reverse g=D:=by
 have h1:=h.e
 have h2:=h.x
 have h3:=h.d
 rw[Nat.sub_self]at h1 h2 h3
 exact ⟨h1,h2,h3⟩
end
theorem flat_len6{α β:Type}(f:α→List β)(k:Nat)(hk:∀x,(f x).length=k):∀xs:List α,(xs.flatMap f).length=xs.length*k
 |[]=>by simp
 |x::xs=>by rw[List.flatMap_cons,List.length_append,hk,flat_len6 f k hk xs,List.length_cons,Nat.succ_mul];omega
def set6 (cs:List Value) (q:Nat) (a b c a' b' c':Value):List Value:=(((((cs.set q a).set (q+1) b).set (q+2) c).set (q+3) a').set (q+4) b').set (q+5) c'
theorem set6_len(cs:List Value)(q:Nat)(a b c a' b' c':Value):(set6 cs q a b c a' b' c').length=cs.length:=by simp[set6]
theorem set6_in{cs:List Value}{q r:Nat}{a b c a' b' c' u:Value}(hq:q+5<cs.length)(h:[a,b,c,a',b',c'][r]?=some u):(set6 cs q a b c a' b' c')[q+r]?=some u:=by
 match r,h with
 |0,h=>simp[set6,List.getElem?_set]at h ⊢;subst h;simp;omega
 |1,h=>simp[set6,List.getElem?_set]at h ⊢;subst h;simp;omega
 |2,h=>simp[set6,List.getElem?_set]at h ⊢;subst h;simp;omega
 |3,h=>simp[set6,List.getElem?_set]at h ⊢;subst h;simp;omega
 |4,h=>simp[set6,List.getElem?_set]at h ⊢;subst h;simp;omega
 |5,h=>simp[set6,List.getElem?_set]at h ⊢;subst h;simp;omega
 |r+6,h=>simp at h
theorem set6_out{cs:List Value}{q j:Nat}{a b c a' b' c':Value}(h:j<q∨q+5<j):(set6 cs q a b c a' b' c')[j]?=cs[j]?:=by
 unfold set6
 rw[List.getElem?_set_ne (by omega),List.getElem?_set_ne (by omega),List.getElem?_set_ne (by omega),List.getElem?_set_ne (by omega),List.getElem?_set_ne (by omega),List.getElem?_set_ne (by omega)]
theorem enc_set6{W:World}{G:Nat→Prop}{D:List (Mx×Mx)}{cs:List Value}{i:Nat}{d:Mx×Mx}{a b c a' b' c':Value}(h:Enc W G (D.flatMap gdS) cs)(hi:i<D.length)(hd:Enc W G (gdS d) [a,b,c,a',b',c']):Enc W G ((D.set i d).flatMap gdS) (set6 cs (i*6) a b c a' b' c'):=by
 have hl:cs.length=D.length*6:=by rw[h.1,flat_len6 gdS 6 (fun _=>rfl)]
 refine ⟨by rw[set6_len,hl,flat_len6 gdS 6 (fun _=>rfl),List.length_set],fun j p hp=>?_⟩
 have hj:j<D.length*6:=by
  rcases Nat.lt_or_ge j ((D.set i d).flatMap gdS).length with h'|h'
  ·rw[flat_len6 gdS 6 (fun _=>rfl),List.length_set]at h';exact h'
  ·rw[List.getElem?_eq_none h']at hp;cases hp
 have hq:j / 6<D.length:=by omega
 have hjj:j=j / 6*6+j % 6:=by omega
 by_cases he:j / 6=i
 ·have hx:(D.set i d)[j / 6]?=some d:=by rw[he,List.getElem?_set_self (by omega)]
  have hf:=flat_at gdS 6 (fun _=>rfl) (D.set i d) (j / 6) (j % 6) d hx (by omega)
  rw[←hjj,hp]at hf
  obtain ⟨u,hu,hpu⟩:=hd.2 (j % 6) p hf.symm
  refine ⟨u,?_,hpu⟩
  have:=set6_in (cs:=cs) (q:=i*6) (r:=j % 6) (by omega) hu
  rw[show i*6+j % 6=j by omega]at this
  exact this
 ·obtain ⟨x,hx⟩:∃x,D[j / 6]?=some x:=⟨_,List.getElem?_eq_getElem hq⟩
  have hx':(D.set i d)[j / 6]?=some x:=by rw[List.getElem?_set_ne (by omega)];exact hx
  have hf:=flat_at gdS 6 (fun _=>rfl) (D.set i d) (j / 6) (j % 6) x hx' (by omega)
  have hf':=flat_at gdS 6 (fun _=>rfl) D (j / 6) (j % 6) x hx (by omega)
  rw[←hjj]at hf hf'
  obtain ⟨u,hu,hpu⟩:=h.2 j p (by rw[hf',←hf];exact hp)
  exact ⟨u,by rw[set6_out (by omega)];exact hu,hpu⟩
theorem enc_none(W:World)(G:Nat→Prop)(N:Nat):Enc W G ((List.replicate N (noMx,noMx)).flatMap gdS) (List.replicate N [Value.int .i64 0,.int .i64 0,.slice none 0 0,.int .i64 0,.int .i64 0,.slice none 0 0]).flatten:=by
 induction N with
 |zero=>exact Enc.nil _ _
 |succ N ih=>
  rw[List.replicate_succ,List.replicate_succ,List.flatMap_cons,List.flatten_cons]
  exact Enc.append (enc_gd (d:=(noMx,noMx)) ⟨I_.nil _,.inl rfl⟩ ⟨I_.nil _,.inl rfl⟩) ih
end Go.Proofs.Ytniloklglpchfaf
/- What slices.Backward at a list of layers comes to: a function that hands on the layers, the last one first, to whatever goes through it. -/
namespace Go.Proofs.Ytniloklglpchfaf
open Go.RowKit Go.Shelf
attribute [local go_sem] Oper.semAt_some
structure Item (w:World) (ls:List Ly) where
 i:Nat
 xi:Int
 l:Ly
 sa:Option Addr
 sn:Nat
 sk:Nat
 ta:Option Addr
 tn:Nat
 tk:Nat
 hx:xi=(i:Int)
 hl:ls[i]?=some l
 hly:IsLy w (.agg #[.int .i64 l.k,.int .i64 l.w.rows,.int .i64 l.w.cols,.slice sa sn sk,.int .i64 l.b.rows,.int .i64 l.b.cols,.slice ta tn tk]) l
def itemV {w:World} {ls:List Ly} (x:Item w ls):Array Value:=#[.int .i64 x.xi,.agg #[.int .i64 x.l.k,.int .i64 x.l.w.rows,.int .i64 x.l.w.cols,.slice x.sa x.sn x.sk,.int .i64 x.l.b.rows,.int .i64 x.l.b.cols,.slice x.ta x.tn x.tk]]
set_option maxHeartbeats 400000 in
theorem backward_any(a:Option Addr)(N cap:Nat)(w:World):Calls Try.prog 74 #[.slice a N cap] w fun e w'=>
  e=.returned (.func (.func 79) #[] #[.pointer (some ⟨w.heap.size,0,none⟩)])∧w'=w.alloc (.cells #[.slice a N cap] 22):=by
 go_enter Try.func74,Try.ntmps74
 go_wp2
 go_ret
 exact ⟨rfl,rfl⟩
def KeepL (n B:Nat) (W W':World):Prop:=Below n W W'∧∀cs,Blk W B cs 22→Blk W' B cs 22
theorem KeepL.trans{n B:Nat}{X Y Z:World}(h:KeepL n B X Y)(k:KeepL n B Y Z):KeepL n B X Z:=⟨h.1.trans k.1,fun cs hb=>k.2 cs (h.2 cs hb)⟩
theorem KeepL.put{n B:Nat}{w:World}(hn:n≤w.heap.size)(W:World)(l:Nat)(o o':Obj)(hl:w.heap.size≤l)(h:W.heap[l]?=some o)(hc:o.isCells=false)(hw:o.isWalk=false):KeepL n B W (W.putObj l o'):=
 ⟨belowK_b hn W l o o' hl h hc hw,fun cs hb=>hb.kept (grownBy_putObj' W l o') (fun e=>by cases e;rw[show W.heap[B]?=_ from hb]at h;cases h;cases hc)⟩
set_option maxRecDepth 100000 in
set_option maxHeartbeats 2000000 in
theorem backward1_in(n:Nat)(hn:1≤n)(l B N:Nat)(a:Option Addr)(cap:Nat)(ls:List Ly)(w:World)(hv:Y_ w (.slice a N cap) ls)(hN:ls.length=N)(h12:N≤12)(J Jx:List (Item w ls)→World→Prop)
  (hY:∀pre x W,J pre W→pre.length<N→YieldAt Fence.wide (n - 1) Try.prog l (itemV x) W fun e W'=>(e=.returned (.bool true)∧J (pre++[x]) W'∧KeepL w.heap.size B W W')∨(e=.returned (.bool false)∧Jx (pre++[x]) W'))
  (W:World) (hW:Below w.heap.size w W) (hB:Blk W B #[.slice a N cap] 22) (h0:J [] W):
  CallsIn Fence.wide n Try.prog 79 #[.func (.yield l) #[] #[],.pointer (some ⟨B,0,none⟩)] W fun e W'=>(∃v,e=.returned v)∧
   ((∃ys,ys.map Item.i=down N N∧J ys W')∨(∃pre,(∃k,k≤N∧pre.map Item.i=down N k)∧Jx pre W')):=by
 have HV:=h_ hv
 have HN:=h_ hN
 have HW:=h_ hW
 have HBK:=h_ hB
 have HJ:=h_ h0
 have HY:=h_ hY
 have q0:=hB.cell (j:=0) rfl
 clear hv hN hW hB h0 hY
 refine callsIn_of_wp Try.func79 rfl trivial ?_ rfl
 simp only[Try.ntmps79,List.size_toArray,List.length_cons,List.length_nil,Nat.reduceAdd,Nat.reduceSub,Array.replicate_succ,Array.replicate_zero,List.push_toArray,List.append_toArray,List.nil_append,List.cons_append]
 gi_wp2
 clear q0
 gi_loopw [3] (fun c wr=>∃(k:Nat) (xi:Int) (ys:List (Item w ls)),k≤N∧xi=(N:Int) - 1 - (k:Int)∧c=.int .i64 xi∧ys.map Item.i=down N k∧J ys wr∧Below w.heap.size w wr∧Blk wr B #[.slice a N cap] 22) (fun c _=>(intOf c+1).toNat)
 case atStart=>exact ⟨0,_,[],Nat.zero_le _,by simp,rfl,rfl,HJ.out,HW.out,HBK.out⟩
 case round=>
  obtain ⟨k,xi,ys,hk,hxi,rfl,hys,hj,hbw,hbk⟩:=hrel
  have HJI:=h_ hj
  have HBW:=h_ hbw
  have HBB:=h_ hbk
  have HXI:=h_ hxi
  have HYS:=h_ hys
  have hxi0:-1≤xi:=by omega
  have hxi1:xi≤11:=by omega
  have q0:=hbk.cell (j:=0) rfl
  clear hj hbw hbk hxi hys
  by_cases hge:0≤xi
  ·have hkn:k<N:=by have:=HXI.out;omega
   have hxn:xi.toNat=N - 1 - k:=by have:=HXI.out;omega
   have hlt:xi<(N:Int):=by have:=HXI.out;omega
   obtain ⟨ly,hl⟩:∃x,ls[N - 1 - k]?=some x:=⟨ls[N - 1 - k]'(by have:=HN.out;omega),List.getElem?_eq_getElem _⟩
   obtain ⟨b,off,cp,sa,sn,sk,ta,tn,tk,ev,k0,k1,k2,k3,k4,k5,k6,hly⟩:=HV.out.at hl
   injection ev with ev1 ev2 ev3
   clear ev2 ev3
   subst ev1
   rw[←hxn]at k0 k1 k2 k3 k4 k5 k6
   replace k0:=c_ HBW.out k0
   replace k1:=c_ HBW.out k1
   replace k2:=c_ HBW.out k2
   replace k3:=c_ HBW.out k3
   replace k4:=c_ HBW.out k4
   replace k5:=c_ HBW.out k5
   replace k6:=c_ HBW.out k6
   obtain ⟨x,hxe⟩:∃x:Item w ls,x=⟨N - 1 - k,xi,ly,sa,sn,sk,ta,tn,tk,by omega,hl,hly⟩:=⟨_,rfl⟩
   obtain ⟨fn,tmps,assign,body,hy,hR⟩:=HY.out ys x wr HJI.out (by have h:=congrArg List.length HYS.out;rw[List.length_map,down_len]at h;omega)
   have HM:=h_ (show (ys++[x]).map Item.i=down N (k+1) by rw[List.map_append,HYS.out,down_succ,hxe];rfl)
   rw[show itemV x=#[.int .i64 xi,.agg #[.int .i64 ly.k,.int .i64 ly.w.rows,.int .i64 ly.w.cols,.slice sa sn sk,.int .i64 ly.b.rows,.int .i64 ly.b.cols,.slice ta tn tk]] by rw[hxe];rfl]at hy
   have HR:=h_ hR
   clear hR hl hly hxn hxe
   gi_wp2
   refine HR.out.mono ?_
   rintro e W3 (⟨rfl,hJ3,hk3⟩|⟨rfl,hJx3⟩)
   ·have HJ3:=h_ hJ3
    have HK3:=h_ hk3
    clear hJ3 hk3
    gi_wp2
    go_roundw
    case rel=>exact ⟨k+1,_,ys++[x],by omega,by have:=HXI.out;omega,rfl,HM.out,HJ3.out,HBW.out.trans HK3.out.1,HK3.out.2 _ HBB.out⟩
    case measure=>have:=HXI.out;simp[intOf];omega
   ·have HJX:=h_ hJx3
    clear hJx3
    gi_wp2
    refine bodyPost_ret (results_none rfl _ _ _) rfl ?_
    exact ⟨⟨_,rfl⟩,.inr ⟨_,⟨k+1,by omega,HM.out⟩,HJX.out⟩⟩
  ·have hin:k=N:=by have:=HXI.out;omega
   gi_wp2
   go_end0
   exact ⟨⟨_,rfl⟩,.inl ⟨ys,by rw[HYS.out,hin],HJI.out⟩⟩
theorem backward_stops(n:Nat)(hn:1≤n)(B N:Nat)(a:Option Addr)(cap:Nat)(ls:List Ly)(w V:World)(hv:Y_ w (.slice a N cap) ls)(hN:ls.length=N)(h12:N≤12)(hV:Below w.heap.size w V)(hB:Blk V B #[.slice a N cap] 22):
  SeqStopsK Fence.wide n Try.prog 79 #[.pointer (some ⟨B,0,none⟩)] (itemV (w:=w) (ls:=ls)) (KeepL w.heap.size B) (fun ys=>ys.map Item.i=down N N) (fun pre=>∃k,k≤N∧pre.map Item.i=down N k) N V:=fun l J Jx W hW _ _ hY h0=>
 backward1_in n hn l B N a cap ls w hv hN h12 J Jx hY W (b_ hV hW) (hB.u_ hW) h0
end Go.Proofs.Ytniloklglpchfaf
/- What holds wherever all cells stay but those of some blocks: lists that lie in none of these. No program in sight. -/
namespace Go.Proofs.Ytniloklglpchfaf
open Go.RowKit
def Hold (G:Nat→Prop) (w:World) (F:World→Prop):Prop:=∀W:World,(∀(p:Addr) x,¬G p.block→w.cell? p=some x→W.cell? p=some x)→F W
theorem Hold.now{G:Nat→Prop}{w:World}{F:World→Prop}(h:Hold G w F):F w:=h w (fun _ _ _ hx=>hx)
end Go.Proofs.Ytniloklglpchfaf
