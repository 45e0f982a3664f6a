/- What goes back through a net, layer by layer from the last on; the memory of Back of package net while it does so. No program in sight, but for the numbers of types. -/
import Derived.Test.YtniloklglpchfakGreatPkLsBoth
import Derived.Test.YtniloklglpchfakGreatPkLBox
import Derived.Test.YtniloklglpchfakGreatPkReg
import Derived.Shelf.Abstract
import Derived.Shelf.RegionOpen
import Derived.OwnWalkIn
import Derived.TacticsInMore
import Derived.LoopNIn
import Derived.LoopIn
import Derived.RangeFuncNested
import Derived.RangeFuncCalls
import Derived.OrdersIn
import Derived.Deep.RegionHeld3
import Derived.Test.YtniloklglpchfakGreatRows
import Derived.Test.YtniloklglpchfakGreatPkNetC2
namespace Go.Proofs.YtniloklglpchfakGreat
open Go.RowKit
def down (N k:Nat):List Nat:=(List.range k).map (fun j=>N - 1 - j)
theorem down_succ(N k:Nat):down N (k+1)=down N k++[N - 1 - k]:=by simp[down,List.range_succ]
theorem down_len(N k:Nat):(down N k).length=k:=by simp[down]
structure Rel (ls:List Ly) (ms:List Mx) (g:Mx) (N k:Nat) (T:Mx) (D:List (Mx×Mx)):Prop where
 e:bkE ls.reverse (ms.take N).reverse g=bkE (ls.take (N - k)).reverse (ms.take (N - k)).reverse T
 x:bkX ls.reverse (ms.take N).reverse g=bkX (ls.take (N - k)).reverse (ms.take (N - k)).reverse T
 d:bkD ls.reverse (ms.take N).reverse g=bkD (ls.take (N - k)).reverse (ms.take (N - k)).reverse T++D.drop (N - k)
theorem rel_start{ls:List Ly}{ms:List Mx}{g:Mx}{N:Nat}(hN:ls.length=N){D:List (Mx×Mx)}(hD:D.length=N):Rel ls ms g N 0 g D:=by
 refine ⟨?_,?_,?_⟩
 ·rw[Nat.sub_zero,←hN,List.take_length]
 ·rw[Nat.sub_zero,←hN,List.take_length]
 ·rw[Nat.sub_zero,←hN,List.take_length,hN,←hD,List.drop_length,List.append_nil]
section
variable {ls:List Ly} {ms:List Mx} {g T:Mx} {N k i:Nat} {D:List (Mx×Mx)} {l:Ly} {m:Mx}
theorem rel_rev(hi:N - k=i+1)(hl:ls[i]?=some l)(hm:ms[i]?=some m):(ls.take (N - k)).reverse=l::(ls.take i).reverse∧(ms.take (N - k)).reverse=m::(ms.take i).reverse:=by
 rw[hi,take_end hl,take_end hm]
 simp
theorem rel_step(h:Rel ls ms g N k T D)(hi:N - k=i+1)(hl:ls[i]?=some l)(hm:ms[i]?=some m)(hE:backE l m T=0)(hD:D.length=N):Rel ls ms g N (k+1) (backX l m T) (D.set i (gradW l m T,gradB l m T)):=by
 obtain ⟨e1,e2⟩:=rel_rev hi hl hm
 have hk:N - (k+1)=i:=by omega
 refine ⟨?_,?_,?_⟩
 ·rw[h.e,e1,e2,hk];show (if backE l m T≠0 then _ else _)=_;rw[if_neg (by simp[hE])]
 ·rw[h.x,e1,e2,hk];rfl
 ·rw[h.d,e1,e2,hk]
  show (bkD (ls.take i).reverse (ms.take i).reverse (backX l m T)++[(gradW l m T,gradB l m T)])++_=_
  rw[List.append_assoc]
  congr 1
  rw[hi,List.drop_eq_getElem_cons (l:=D.set i _) (by simp;omega)]
  simp[List.drop_set]
theorem rel_err(h:Rel ls ms g N k T D)(hi:N - k=i+1)(hl:ls[i]?=some l)(hm:ms[i]?=some m)(hE:backE l m T≠0):bkE ls.reverse (ms.take N).reverse g=backE l m T:=by
 obtain ⟨e1,e2⟩:=rel_rev hi hl hm
 rw[h.e,e1,e2];show (if backE l m T≠0 then _ else _)=_;rw[if_pos hE]
theorem rel_end(h:Rel ls ms g N N T D):bkE ls.reverse (ms.take N).reverse g=0∧bkX ls.reverse (ms.take N).reverse g=T∧bkD ls.reverse (ms.take N).reverse g=D:=by
 have h1:=h.e
 have h2:=h.x
 have h3:=h.d
 rw[Nat.sub_self]at h1 h2 h3
 exact ⟨h1,h2,h3⟩
end
theorem flat_len6{α β:Type}(f:α→List β)(k:Nat)(hk:∀x,(f x).length=k):∀xs:List α,(xs.flatMap f).length=xs.length*k
 |[]=>by simp
 |x::xs=>by rw[List.flatMap_cons,List.length_append,hk,flat_len6 f k hk xs,List.length_cons,Nat.succ_mul];omega
def set6 (cs:List Value) (q:Nat) (a b c a' b' c':Value):List Value:=(((((cs.set q a).set (q+1) b).set (q+2) c).set (q+3) a').set (q+4) b').set (q+5) c'
theorem set6_len(cs:List Value)(q:Nat)(a b c a' b' c':Value):(set6 cs q a b c a' b' c').length=cs.length:=by simp[set6]
theorem set6_in{cs:List Value}{q r:Nat}{a b c a' b' c' u:Value}(hq:q+5<cs.length)(h:[a,b,c,a',b',c'][r]?=some u):(set6 cs q a b c a' b' c')[q+r]?=some u:=by
 match r,h with
 |0,h=>simp[set6,List.getElem?_set]at h ⊢;subst h;simp;omega
 |1,h=>simp[set6,List.getElem?_set]at h ⊢;subst h;simp;omega
 |2,h=>simp[set6,List.getElem?_set]at h ⊢;subst h;simp;omega
 |3,h=>simp[set6,List.getElem?_set]at h ⊢;subst h;simp;omega
 |4,h=>simp[set6,List.getElem?_set]at h ⊢;subst h;simp;omega
 |5,h=>simp[set6,List.getElem?_set]at h ⊢;subst h;simp;omega
 |r+6,h=>simp at h
theorem set6_out{cs:List Value}{q j:Nat}{a b c a' b' c':Value}(h:j<q∨q+5<j):(set6 cs q a b c a' b' c')[j]?=cs[j]?:=by
 unfold set6
 rw[List.getElem?_set_ne (by omega),List.getElem?_set_ne (by omega),List.getElem?_set_ne (by omega),List.getElem?_set_ne (by omega),List.getElem?_set_ne (by omega),List.getElem?_set_ne (by omega)]
theorem enc_set6{W:World}{G:Nat→Prop}{D:List (Mx×Mx)}{cs:List Value}{i:Nat}{d:Mx×Mx}{a b c a' b' c':Value}(h:Enc W G (D.flatMap gdS) cs)(hi:i<D.length)(hd:Enc W G (gdS d) [a,b,c,a',b',c']):Enc W G ((D.set i d).flatMap gdS) (set6 cs (i*6) a b c a' b' c'):=by
 have hl:cs.length=D.length*6:=by rw[h.1,flat_len6 gdS 6 (fun _=>rfl)]
 refine ⟨by rw[set6_len,hl,flat_len6 gdS 6 (fun _=>rfl),List.length_set],fun j p hp=>?_⟩
 have hj:j<D.length*6:=by
  rcases Nat.lt_or_ge j ((D.set i d).flatMap gdS).length with h'|h'
  ·rw[flat_len6 gdS 6 (fun _=>rfl),List.length_set]at h';exact h'
  ·rw[List.getElem?_eq_none h']at hp;cases hp
 have hq:j / 6<D.length:=by omega
 have hjj:j=j / 6*6+j % 6:=by omega
 by_cases he:j / 6=i
 ·have hx:(D.set i d)[j / 6]?=some d:=by rw[he,List.getElem?_set_self (by omega)]
  have hf:=flat_at gdS 6 (fun _=>rfl) (D.set i d) (j / 6) (j % 6) d hx (by omega)
  rw[←hjj,hp]at hf
  obtain ⟨u,hu,hpu⟩:=hd.2 (j % 6) p hf.symm
  refine ⟨u,?_,hpu⟩
  have:=set6_in (cs:=cs) (q:=i*6) (r:=j % 6) (by omega) hu
  rw[show i*6+j % 6=j by omega]at this
  exact this
 ·obtain ⟨x,hx⟩:∃x,D[j / 6]?=some x:=⟨_,List.getElem?_eq_getElem hq⟩
  have hx':(D.set i d)[j / 6]?=some x:=by rw[List.getElem?_set_ne (by omega)];exact hx
  have hf:=flat_at gdS 6 (fun _=>rfl) (D.set i d) (j / 6) (j % 6) x hx' (by omega)
  have hf':=flat_at gdS 6 (fun _=>rfl) D (j / 6) (j % 6) x hx (by omega)
  rw[←hjj]at hf hf'
  obtain ⟨u,hu,hpu⟩:=h.2 j p (by rw[hf',←hf];exact hp)
  exact ⟨u,by rw[set6_out (by omega)];exact hu,hpu⟩
theorem enc_none(W:World)(G:Nat→Prop)(N:Nat):Enc W G ((List.replicate N (noMx,noMx)).flatMap gdS) (List.replicate N [Value.int .i64 0,.int .i64 0,.slice none 0 0,.int .i64 0,.int .i64 0,.slice none 0 0]).flatten:=by
 induction N with
 |zero=>exact Enc.nil _ _
 |succ N ih=>
  rw[List.replicate_succ,List.replicate_succ,List.flatMap_cons,List.flatten_cons]
  exact Enc.append (enc_gd (d:=(noMx,noMx)) ⟨I_.nil _,.inl rfl⟩ ⟨I_.nil _,.inl rfl⟩) ih
end Go.Proofs.YtniloklglpchfakGreat
/- What slices.Backward at a list of layers comes to: a function that hands on the layers, the last one first, to whatever goes through it. -/
namespace Go.Proofs.YtniloklglpchfakGreat
open Go.RowKit Go.Shelf
attribute [local go_sem] Oper.semAt_some
structure Item (w:World) (ls:List Ly) where
 i:Nat
 xi:Int
 l:Ly
 sa:Option Addr
 sn:Nat
 sk:Nat
 ta:Option Addr
 tn:Nat
 tk:Nat
 hx:xi=(i:Int)
 hl:ls[i]?=some l
 hly:IsLy w (.agg #[.int .i64 l.k,.int .i64 l.w.rows,.int .i64 l.w.cols,.slice sa sn sk,.int .i64 l.b.rows,.int .i64 l.b.cols,.slice ta tn tk]) l
def itemV {w:World} {ls:List Ly} (x:Item w ls):Array Value:=#[.int .i64 x.xi,.agg #[.int .i64 x.l.k,.int .i64 x.l.w.rows,.int .i64 x.l.w.cols,.slice x.sa x.sn x.sk,.int .i64 x.l.b.rows,.int .i64 x.l.b.cols,.slice x.ta x.tn x.tk]]
set_option maxHeartbeats 400000 in
theorem backward_any(a:Option Addr)(N cap:Nat)(w:World):Calls Tryz.prog 43 #[.slice a N cap] w fun e w'=>
  e=.returned (.func (.func 76) #[] #[.pointer (some ⟨w.heap.size,0,none⟩)])∧w'=w.alloc (.cells #[.slice a N cap] 22):=by
 go_enter Tryz.func43,Tryz.ntmps43
 go_wp2
 go_ret
 exact ⟨rfl,rfl⟩
def KeepL (n B:Nat) (W W':World):Prop:=Below n W W'∧∀cs,Blk W B cs 22→Blk W' B cs 22
theorem KeepL.trans{n B:Nat}{X Y Z:World}(h:KeepL n B X Y)(k:KeepL n B Y Z):KeepL n B X Z:=⟨h.1.trans k.1,fun cs hb=>k.2 cs (h.2 cs hb)⟩
theorem KeepL.put{n B:Nat}{w:World}(hn:n≤w.heap.size)(W:World)(l:Nat)(o o':Obj)(hl:w.heap.size≤l)(h:W.heap[l]?=some o)(hc:o.isCells=false)(hw:o.isWalk=false):KeepL n B W (W.putObj l o'):=
 ⟨belowK_b hn W l o o' hl h hc hw,fun cs hb=>hb.kept (grownBy_putObj' W l o') (fun e=>by cases e;rw[show W.heap[B]?=_ from hb]at h;cases h;cases hc)⟩
set_option maxRecDepth 100000 in
set_option maxHeartbeats 2000000 in
theorem backward1_in(n:Nat)(hn:1≤n)(l B N:Nat)(a:Option Addr)(cap:Nat)(ls:List Ly)(w:World)(hv:Y_ w (.slice a N cap) ls)(hN:ls.length=N)(h12:N≤12)(J Jx:List (Item w ls)→World→Prop)
  (hY:∀pre x W,J pre W→pre.length<N→YieldAt Fence.wide (n - 1) Tryz.prog l (itemV x) W fun e W'=>(e=.returned (.bool true)∧J (pre++[x]) W'∧KeepL w.heap.size B W W')∨(e=.returned (.bool false)∧Jx (pre++[x]) W'))
  (W:World) (hW:Below w.heap.size w W) (hB:Blk W B #[.slice a N cap] 22) (h0:J [] W):
  CallsIn Fence.wide n Tryz.prog 76 #[.func (.yield l) #[] #[],.pointer (some ⟨B,0,none⟩)] W fun e W'=>(∃v,e=.returned v)∧
   ((∃ys,ys.map Item.i=down N N∧J ys W')∨(∃pre,(∃k,k≤N∧pre.map Item.i=down N k)∧Jx pre W')):=by
 have HV:=h_ hv
 have HN:=h_ hN
 have HW:=h_ hW
 have HBK:=h_ hB
 have HJ:=h_ h0
 have HY:=h_ hY
 have q0:=hB.cell (j:=0) rfl
 clear hv hN hW hB h0 hY
 refine callsIn_of_wp Tryz.func76 rfl trivial ?_ rfl
 simp only[Tryz.ntmps76,List.size_toArray,List.length_cons,List.length_nil,Nat.reduceAdd,Nat.reduceSub,Array.replicate_succ,Array.replicate_zero,List.push_toArray,List.append_toArray,List.nil_append,List.cons_append]
 gi_wp2
 clear q0
 gi_loopw [3] (fun c wr=>∃(k:Nat) (xi:Int) (ys:List (Item w ls)),k≤N∧xi=(N:Int) - 1 - (k:Int)∧c=.int .i64 xi∧ys.map Item.i=down N k∧J ys wr∧Below w.heap.size w wr∧Blk wr B #[.slice a N cap] 22) (fun c _=>(intOf c+1).toNat)
 case atStart=>exact ⟨0,_,[],Nat.zero_le _,by simp,rfl,rfl,HJ.out,HW.out,HBK.out⟩
 case round=>
  obtain ⟨k,xi,ys,hk,hxi,rfl,hys,hj,hbw,hbk⟩:=hrel
  have HJI:=h_ hj
  have HBW:=h_ hbw
  have HBB:=h_ hbk
  have HXI:=h_ hxi
  have HYS:=h_ hys
  have hxi0:-1≤xi:=by omega
  have hxi1:xi≤11:=by omega
  have q0:=hbk.cell (j:=0) rfl
  clear hj hbw hbk hxi hys
  by_cases hge:0≤xi
  ·have hkn:k<N:=by have:=HXI.out;omega
   have hxn:xi.toNat=N - 1 - k:=by have:=HXI.out;omega
   have hlt:xi<(N:Int):=by have:=HXI.out;omega
   obtain ⟨ly,hl⟩:∃x,ls[N - 1 - k]?=some x:=⟨ls[N - 1 - k]'(by have:=HN.out;omega),List.getElem?_eq_getElem _⟩
   obtain ⟨b,off,cp,sa,sn,sk,ta,tn,tk,ev,k0,k1,k2,k3,k4,k5,k6,hly⟩:=HV.out.at hl
   injection ev with ev1 ev2 ev3
   clear ev2 ev3
   subst ev1
   rw[←hxn]at k0 k1 k2 k3 k4 k5 k6
   replace k0:=c_ HBW.out k0
   replace k1:=c_ HBW.out k1
   replace k2:=c_ HBW.out k2
   replace k3:=c_ HBW.out k3
   replace k4:=c_ HBW.out k4
   replace k5:=c_ HBW.out k5
   replace k6:=c_ HBW.out k6
   obtain ⟨x,hxe⟩:∃x:Item w ls,x=⟨N - 1 - k,xi,ly,sa,sn,sk,ta,tn,tk,by omega,hl,hly⟩:=⟨_,rfl⟩
   obtain ⟨fn,tmps,assign,body,hy,hR⟩:=HY.out ys x wr HJI.out (by have h:=congrArg List.length HYS.out;rw[List.length_map,down_len]at h;omega)
   have HM:=h_ (show (ys++[x]).map Item.i=down N (k+1) by rw[List.map_append,HYS.out,down_succ,hxe];rfl)
   rw[show itemV x=#[.int .i64 xi,.agg #[.int .i64 ly.k,.int .i64 ly.w.rows,.int .i64 ly.w.cols,.slice sa sn sk,.int .i64 ly.b.rows,.int .i64 ly.b.cols,.slice ta tn tk]] by rw[hxe];rfl]at hy
   have HR:=h_ hR
   clear hR hl hly hxn hxe
   gi_wp2
   refine HR.out.mono ?_
   rintro e W3 (⟨rfl,hJ3,hk3⟩|⟨rfl,hJx3⟩)
   ·have HJ3:=h_ hJ3
    have HK3:=h_ hk3
    clear hJ3 hk3
    gi_wp2
    go_roundw
    case rel=>exact ⟨k+1,_,ys++[x],by omega,by have:=HXI.out;omega,rfl,HM.out,HJ3.out,HBW.out.trans HK3.out.1,HK3.out.2 _ HBB.out⟩
    case measure=>have:=HXI.out;simp[intOf];omega
   ·have HJX:=h_ hJx3
    clear hJx3
    gi_wp2
    refine bodyPost_ret (results_none rfl _ _ _) rfl ?_
    exact ⟨⟨_,rfl⟩,.inr ⟨_,⟨k+1,by omega,HM.out⟩,HJX.out⟩⟩
  ·have hin:k=N:=by have:=HXI.out;omega
   gi_wp2
   go_end0
   exact ⟨⟨_,rfl⟩,.inl ⟨ys,by rw[HYS.out,hin],HJI.out⟩⟩
theorem backward_stops(n:Nat)(hn:1≤n)(B N:Nat)(a:Option Addr)(cap:Nat)(ls:List Ly)(w V:World)(hv:Y_ w (.slice a N cap) ls)(hN:ls.length=N)(h12:N≤12)(hV:Below w.heap.size w V)(hB:Blk V B #[.slice a N cap] 22):
  SeqStopsK Fence.wide n Tryz.prog 76 #[.pointer (some ⟨B,0,none⟩)] (itemV (w:=w) (ls:=ls)) (KeepL w.heap.size B) (fun ys=>ys.map Item.i=down N N) (fun pre=>∃k,k≤N∧pre.map Item.i=down N k) N V:=fun l J Jx W hW _ _ hY h0=>
 backward1_in n hn l B N a cap ls w hv hN h12 J Jx hY W (b_ hV hW) (hB.u_ hW) h0
end Go.Proofs.YtniloklglpchfakGreat
/- What holds wherever all cells stay but those of some blocks: lists that lie in none of these. No program in sight. -/
namespace Go.Proofs.YtniloklglpchfakGreat
open Go.RowKit
def Hold (G:Nat→Prop) (w:World) (F:World→Prop):Prop:=∀W:World,(∀(p:Addr) x,¬G p.block→w.cell? p=some x→W.cell? p=some x)→F W
theorem Hold.now{G:Nat→Prop}{w:World}{F:World→Prop}(h:Hold G w F):F w:=h w (fun _ _ _ hx=>hx)
theorem Hold.grown{G G':Nat→Prop}{w w':World}{g:Option Nat}{F:World→Prop}(h:Hold G w F)(hg:w.grownBy w' g)(hG:∀b,g=some b→G b)(hG':∀b,b<w.heap.size→G' b→G b):Hold G' w' F:=fun W hW=>h W (fun p x hp hx=>by
 have hlt:=World.block_lt_of_cell? w p hx
 exact hW p x (fun e=>hp (hG' _ hlt e)) (hg.cell hx (fun e=>hp (hG _ e.symm))))
theorem Hold.u_{G:Nat→Prop}{w w':World}{F:World→Prop}(h:Hold G w F)(hb:Below w.heap.size w w'):Hold G w' F:=h.grown (below_grown hb) (fun b e=>by cases e) (fun _ _ hb=>hb)
theorem Hold.set{G:Nat→Prop}{w:World}{F:World→Prop}(h:Hold G w F){B:Nat}(hB:G B)(q:Nat)(x:Value):Hold G (w.setCell ⟨B,q,none⟩ x) F:=h.grown (grown_of_set w B q x) (fun b e=>by rw[←Option.some.inj e];exact hB) (fun _ _ hb=>hb)
theorem Hold.mono{G G':Nat→Prop}{w:World}{F:World→Prop}(h:Hold G w F)(hG:∀b,b<w.heap.size→G' b→G b):Hold G' w F:=h.grown (World.grownBy.refl w none) (fun b e=>by cases e) hG
theorem Owns.hold{base:Nat}{w:World}{e:TypeId}{size n:Nat}{v:Value}{sp:List (Int⊕List Int)}(h:Owns 0 base w e size v n sp):Hold (fun b=>b<base) w (fun W=>Reads W v n sp):=by
 intro W hW
 obtain ⟨cs,h1,h2⟩:=h
 rcases h1.2 with ⟨rfl,rfl⟩|⟨g,cap,cur,rfl,hbg,_,hnc,hcm,_,_⟩
 ·exact ⟨none,0,rfl,Nat.le_refl _,Nat.zero_le _,.inl rfl⟩
 ·refine ⟨some ⟨g,0,none⟩,cap,rfl,hnc,hcm,.inr ⟨g,0,rfl,fun j p hp=>?_⟩⟩
  obtain ⟨u,hu,hp'⟩:=h2.2 j p hp
  have hc:=h1.cells (g:=g) rfl j u hu
  have hadd:(⟨g,0,none⟩:Addr).add j=⟨g,0+j,none⟩:=by unfold Addr.add;split<;>simp_all
  rw[hadd]at hc
  refine ⟨u,hW _ _ (by show ¬g<base;omega) hc,?_⟩
  cases p with
  |inl i=>exact hp'
  |inr zs=>
   by_cases h0:zs=[]
   ·exact ⟨hp'.1.nilAny h0,.inl h0⟩
   ·have hn:=hp'.2.resolve_left h0
    exact ⟨hp'.1.stay (fun q y hq hy=>hW q y (fun hlt=>hn q.block hq (.inr ⟨Nat.zero_le _,hlt⟩)) hy),.inr fun _ _ hf=>hf⟩
theorem Reads.hold{w V:World}{v:Value}{n:Nat}{sp:List (Int⊕List Int)}(h:Reads w v n sp)(hb:Below w.heap.size w V){G:Nat→Prop}(hG:∀b,G b→w.heap.size≤b):Hold G V (fun W=>Reads W v n sp):=by
 intro W hW
 have key:∀(p:Addr) x,w.cell? p=some x→W.cell? p=some x:=fun p x hx=>hW p x (fun hg=>by
  have:=World.block_lt_of_cell? w p hx
  have:=hG _ hg
  omega) (c_ hb hx)
 obtain ⟨a,cap,h1,h2,h3,h4⟩:=h
 refine ⟨a,cap,h1,h2,h3,h4.imp id ?_⟩
 rintro ⟨b,off,ha,hc⟩
 refine ⟨b,off,ha,fun j p hp=>?_⟩
 obtain ⟨u,hu,hp'⟩:=hc j p hp
 refine ⟨u,key _ _ hu,?_⟩
 cases p with
 |inl i=>exact hp'
 |inr zs=>exact ⟨hp'.1.stay (fun q y _ hy=>key q y hy),hp'.2⟩
def gBk (tp lo s b:Nat):Prop:=(b<tp∨lo≤b)∧b<s+8
structure NbSt (tp lo:Nat) (w W:World) (N:Nat) (vs:Value) (T:Mx) (ts:Value) (D:List (Mx×Mx)) (cs:List Value):Prop where
 saw:Blk W w.heap.size #[vs] 55
 res:Blk W (w.heap.size+1+1) #[.int .i64 0,.int .i64 0,.slice none 0 0] 28
 rgd:Blk W (w.heap.size+1+1+1) #[.slice none 0 0] 23
 rer:Blk W (w.heap.size+1+1+1+1) #[.nilIface] 38
 dat:Blk W (w.heap.size+1+1+1+1+1) cs.toArray 109
 var:Blk W (w.heap.size+1+1+1+1+1+1) #[.slice (some ⟨w.heap.size+1+1+1+1+1,0,none⟩) N N] 23
 cur:Blk W (w.heap.size+1+1+1+1+1+1+1) #[.int .i64 T.rows,.int .i64 T.cols,ts] 28
 prt:P_ W (gBk tp lo w.heap.size) (.inr T.cells) ts
 enc:Enc W (gBk tp lo w.heap.size) (D.flatMap gdS) cs
 len:D.length=N
 bel:Below w.heap.size w W
 los:lo≤w.heap.size
theorem P_.stays{w w':World}{G:Nat→Prop}{p:Int⊕List Int}{u:Value}(h:P_ w G p u)(hs:∀(q:Addr) x,w.cell? q=some x→w'.cell? q=some x):P_ w' G p u:=by
 cases p with
 |inl i=>exact h
 |inr zs=>exact ⟨h.1.stay (fun p x _ hx=>hs p x hx),h.2⟩
theorem NbSt.u_{tp lo:Nat}{w W W':World}{N:Nat}{vs:Value}{T:Mx}{ts:Value}{D:List (Mx×Mx)}{cs:List Value}(h:NbSt tp lo w W N vs T ts D cs)(hb:Below W.heap.size W W'):NbSt tp lo w W' N vs T ts D cs:=
 ⟨h.saw.u_ hb,h.res.u_ hb,h.rgd.u_ hb,h.rer.u_ hb,h.dat.u_ hb,h.var.u_ hb,h.cur.u_ hb,h.prt.u_ hb,h.enc.map (fun _ _ hp=>hp.u_ hb),h.len,b_ h.bel hb,h.los⟩
theorem NbSt.own{tp lo:Nat}{w W W':World}{N:Nat}{vs:Value}{T:Mx}{ts:Value}{D:List (Mx×Mx)}{cs:List Value}{row:Option Nat}{B:Nat}(hB:w.heap.size≤B)(h:NbSt tp lo w W N vs T ts D cs)(hg:W.grownBy W' row)(hr:∀r,row=some r→B≤r∧∃o:Obj,W.heap[r]?=some o∧o.isCells=false):NbSt tp lo w W' N vs T ts D cs:=by
 have kb:∀{b:Nat} {c:Array Value} {t:TypeId},Blk W b c t→Blk W' b c t:=fun {b c t} hb=>Blk.own (β:=Unit) b c t () W W' row hb hg (fun r e=>(hr r e).2)
 have kc:∀(q:Addr) x,W.cell? q=some x→W'.cell? q=some x:=fun q x hx=>cell_kept hx hg (fun r e=>(hr r e).2)
 exact ⟨kb h.saw,kb h.res,kb h.rgd,kb h.rer,kb h.dat,kb h.var,kb h.cur,h.prt.stays kc,h.enc.map (fun _ _ hp=>hp.stays kc),h.len,h.bel.grown hg h.bel.size (fun k e=>Nat.le_trans hB (hr k e).1),h.los⟩
def put3 (W:World) (B:Nat) (x y z:Value):World:=((W.setCell ⟨B,0,none⟩ x).setCell ⟨B,1,none⟩ y).setCell ⟨B,2,none⟩ z
theorem NbSt.putTo{tp lo:Nat}{w W:World}{N:Nat}{vs:Value}{T T':Mx}{ts ts':Value}{D:List (Mx×Mx)}{cs:List Value}(h:NbSt tp lo w W N vs T ts D cs)(hp:P_ W (gBk tp lo w.heap.size) (.inr T'.cells) ts'):NbSt tp lo w (put3 W (w.heap.size+1+1+1+1+1+1+1) (.int .i64 T'.rows) (.int .i64 T'.cols) ts') N vs T' ts' D cs:=by
 have o:∀{b:Nat} {c:Array Value} {t:TypeId},Blk W b c t→b≠w.heap.size+1+1+1+1+1+1+1→Blk (put3 W (w.heap.size+1+1+1+1+1+1+1) (.int .i64 T'.rows) (.int .i64 T'.cols) ts') b c t:=fun hb hne=>((hb.other hne _).other hne _).other hne _
 have g7:gBk tp lo w.heap.size (w.heap.size+1+1+1+1+1+1+1):=⟨.inr (by have:=h.los;omega),by omega⟩
 refine ⟨o h.saw (by omega),o h.res (by omega),o h.rgd (by omega),o h.rer (by omega),o h.dat (by omega),o h.var (by omega),?_,((hp.set g7 0 _).set g7 1 _).set g7 2 _,h.enc.map (fun _ _ hq=>((hq.set g7 0 _).set g7 1 _).set g7 2 _),h.len,S_ h.bel (by omega) _ _ _,h.los⟩
 exact ((h.cur.set 0 _).set 1 _).set 2 _
def put6 (W:World) (B q:Nat) (x y z x' y' z':Value):World:=(((((W.setCell ⟨B,q,none⟩ x).setCell ⟨B,q+1,none⟩ y).setCell ⟨B,q+2,none⟩ z).setCell ⟨B,q+3,none⟩ x').setCell ⟨B,q+4,none⟩ y').setCell ⟨B,q+5,none⟩ z'
theorem NbSt.putGd{tp lo:Nat}{w W:World}{N:Nat}{vs:Value}{T:Mx}{ts:Value}{D:List (Mx×Mx)}{cs:List Value}(h:NbSt tp lo w W N vs T ts D cs){i:Nat}(hi:i<N){d:Mx×Mx}{s1 s2:Value}(h1:P_ W (gBk tp lo w.heap.size) (.inr d.1.cells) s1)(h2:P_ W (gBk tp lo w.heap.size) (.inr d.2.cells) s2):
  NbSt tp lo w (put6 W (w.heap.size+1+1+1+1+1) (i*6) (.int .i64 d.1.rows) (.int .i64 d.1.cols) s1 (.int .i64 d.2.rows) (.int .i64 d.2.cols) s2) N vs T ts (D.set i d) (set6 cs (i*6) (.int .i64 d.1.rows) (.int .i64 d.1.cols) s1 (.int .i64 d.2.rows) (.int .i64 d.2.cols) s2):=by
 have o:∀{b:Nat} {c:Array Value} {t:TypeId},Blk W b c t→b≠w.heap.size+1+1+1+1+1→Blk (put6 W (w.heap.size+1+1+1+1+1) (i*6) (.int .i64 d.1.rows) (.int .i64 d.1.cols) s1 (.int .i64 d.2.rows) (.int .i64 d.2.cols) s2) b c t:=fun hb hne=>(((((hb.other hne _).other hne _).other hne _).other hne _).other hne _).other hne _
 have g5:gBk tp lo w.heap.size (w.heap.size+1+1+1+1+1):=⟨.inr (by have:=h.los;omega),by omega⟩
 have hp:∀{p:Int⊕List Int} {u:Value},P_ W (gBk tp lo w.heap.size) p u→P_ (put6 W (w.heap.size+1+1+1+1+1) (i*6) (.int .i64 d.1.rows) (.int .i64 d.1.cols) s1 (.int .i64 d.2.rows) (.int .i64 d.2.cols) s2) (gBk tp lo w.heap.size) p u:=fun hq=>(((((hq.set g5 _ _).set g5 _ _).set g5 _ _).set g5 _ _).set g5 _ _).set g5 _ _
 refine ⟨o h.saw (by omega),o h.res (by omega),o h.rgd (by omega),o h.rer (by omega),?_,o h.var (by omega),o h.cur (by omega),hp h.prt,enc_set6 (h.enc.map (fun _ _ hq=>hp hq)) (by rw[h.len];exact hi) (enc_gd (hp h1) (hp h2)),by rw[List.length_set];exact h.len,?_,h.los⟩
 ·have:=(((((h.dat.set (i*6) (.int .i64 d.1.rows)).set (i*6+1) (.int .i64 d.1.cols)).set (i*6+2) s1).set (i*6+3) (.int .i64 d.2.rows)).set (i*6+4) (.int .i64 d.2.cols)).set (i*6+5) s2
  simpa [set6,put6] using this
 ·exact (((((h.bel.setCell (p:=⟨_,_,none⟩) (by simp;omega) _).setCell (p:=⟨_,_,none⟩) (by simp;omega) _).setCell (p:=⟨_,_,none⟩) (by simp;omega) _).setCell (p:=⟨_,_,none⟩) (by simp;omega) _).setCell (p:=⟨_,_,none⟩) (by simp;omega) _).setCell (p:=⟨_,_,none⟩) (by simp;omega) _
theorem P_.keep{w w':World}{G P:Nat→Prop}{q:Int⊕List Int}{u:Value}(h:P_ w G q u)(hk:Keep P w w')(hP:∀b,¬G b→P b):P_ w' G q u:=by
 cases q with
 |inl i=>exact h
 |inr zs=>
  rcases h.2 with h0|h0
  ·exact ⟨h.1.nilAny h0,.inl h0⟩
  ·exact ⟨h.1.stay (fun p x hp hx=>hk p x (hP _ (h0 _ hp)) hx),.inr h0⟩
theorem keep_put{p:Nat→Prop}{w u:World}{D:Nat}{o o':Obj}(h:Keep p w u)(hK:u.heap[D]?=some o)(hc:o.isCells=false):Keep p w (u.putObj D o'):=fun a x ha hx=>cell_kept (h a x ha hx) (grownBy_putObj' u D o') (fun r e=>by cases e;exact ⟨_,hK,hc⟩)
theorem part_lo{w Z:World}{s:Value}{zs:List Int}{tp lo:Nat}(h:P_ w (fun b=>(b<tp∨lo≤b)∧b<w.heap.size) (.inr zs) s)(hb:Below w.heap.size w Z):P_ Z (gBk tp lo w.heap.size) (.inr zs) s:=by
 have h1:=part_old h.1 hb (G:=fun b=>w.heap.size≤b) (fun b q=>q)
 refine ⟨h1.1,?_⟩
 rcases h.2 with q|q
 ·exact .inl q
 rcases h1.2 with r|r
 ·exact .inl r
 exact .inr (fun b e hg=>by
  have q1:=q b e
  have q2:=r b e
  unfold gBk at hg
  dsimp only at q1 q2
  omega)
theorem NbSt.ends{tp lo:Nat}{w W W':World}{N:Nat}{vs:Value}{T:Mx}{ts:Value}{D:List (Mx×Mx)}{cs:List Value}(h:NbSt tp lo w W N vs T ts D cs)(hN:N≤12)(hk:Keep (fun b=>b≠w.heap.size+1+1∧b≠w.heap.size+1+1+1∧b≠w.heap.size+1+1+1+1) W W'):Hold (fun b=>(b<tp∨lo≤b)∧b<w.heap.size) W' (fun X=>I_ X ts T.cells∧D_ X (.slice (some ⟨w.heap.size+1+1+1+1+1,0,none⟩) N N) D):=by
 intro X hX
 have hl:=h.los
 have hk:Keep (fun b=>(b≠w.heap.size+1+1∧b≠w.heap.size+1+1+1∧b≠w.heap.size+1+1+1+1)∧¬((b<tp∨lo≤b)∧b<w.heap.size)) W X:=fun a x ha hx=>hX a x ha.2 (hk a x ha.1 hx)
 have hP:∀q,¬gBk tp lo w.heap.size q→(fun b=>(b≠w.heap.size+1+1∧b≠w.heap.size+1+1+1∧b≠w.heap.size+1+1+1+1)∧¬((b<tp∨lo≤b)∧b<w.heap.size)) q:=fun q hq=>by unfold gBk at hq;refine ⟨⟨?_,?_,?_⟩,?_⟩<;>omega
 refine ⟨(h.prt.keep hk hP).1,?_⟩
 show Reads _ _ D.length _
 rw[h.len]
 refine ⟨_,_,rfl,Nat.le_refl _,by unfold maxLen;omega,.inr ⟨_,0,rfl,fun j p hp=>?_⟩⟩
 obtain ⟨u,hu,hp'⟩:=h.enc.2 j p hp
 exact ⟨u,hk _ _ (show (_∧_∧_)∧_ from ⟨⟨(by dsimp only;omega),(by dsimp only;omega),(by dsimp only;omega)⟩,(by dsimp only;omega)⟩) (h.dat.cell (j:=0+j) (by simpa using hu)),(hp'.keep hk hP).mono (fun _ _ hf=>hf.elim)⟩
theorem upon_in{l n:Nat}{P:Program}{o:Oper}{a:Act}{K:Act→World→Prop}{Q:Exit→Act→World→Prop}{r:Result Next}(h:o.upon P a K Q r):o.uponIn (Fence.wide.inRound l) n P a K Q r:=by
 cases r with
 |ok x w=>
  cases x with
  |value v=>exact h
  |skip=>exact h
  |defer d=>exact h
  |enter f args=>exact ⟨fun hd=>(by cases hd),CallsIn.inRound l (callsIn_wide.2 h)⟩
  |row row args=>exact ⟨fun hd=>(by cases hd),fun c cs _=>let ⟨v,w',r,s⟩:=h c cs;⟨v,w',r,stepsIn_wide.2 s⟩⟩
  |_=>exact (h:False).elim
 |halt x w=>cases x<;>exact h
def noDefer (ops:Array Oper):Bool:=ops.toList.all fun o=>match o.op with|.defer _=>false|_=>true
theorem noDefer_at{ops:Array Oper}(h:noDefer ops=true){i:Nat}{o:Oper}(ho:ops[i]?=some o):∀c,o.op≠.defer c:=by
 intro c e
 have:=List.all_eq_true.1 h o (List.mem_of_getElem? (i:=i) (by simpa using ho))
 rw[e]at this;cases this
theorem op_in{l n:Nat}{P:Program}{ops:Array Oper}{Q:Exit→Act→World→Prop}{i:Nat}{K:Act→World→Prop}{a:Act}{w:World}(hQ:¬LetsOut Q)(hnd:noDefer ops=true)(h:wpOp P ops Q i K a w):wpOpIn (Fence.wide.inRound l) n P ops Q i K a w:=by
 unfold wpOp at h
 unfold wpOpIn
 cases ho:ops[i]? with
 |none=>simp only[ho]at h ⊢;exact h
 |some o=>
  simp only[ho]at h ⊢
  split
  ·rename_i hw
   rw[if_pos hw]at h
   refine ⟨fun f _=>trivial,?_⟩
   rw[Oper.semAt_eq _ _ _ (noDefer_at hnd ho)]
   exact upon_in (h.resolve_right (fun h'=>hQ h'.2))
  ·rename_i hw
   rw[if_neg hw]at h
   exact ⟨fun f _=>trivial,h⟩
theorem any_in{l n:Nat}{P:Program}{md:Region.Mode}{ops:Array Oper}{Q:Exit→Act→World→Prop}(hQ:¬LetsOut Q)(hnd:noDefer ops=true):∀(fuel:Nat) (listed:Array Bool) (a:Act) (w:World),wpAny P md ops Q fuel listed a w→wpAnyIn (Fence.wide.inRound l) n P md ops Q fuel listed a w
 |0,_,_,_,h=>h
 |fuel+1,_,_,_,h=>⟨h.1,fun i hi=>op_in hQ hnd (wpOp_mono (fun a' w' h'=>any_in hQ hnd fuel _ a' w' h') (h.2 i hi))⟩
theorem region_round{l n:Nat}{P:Program}{ops:Array Oper}{Q:Exit→Act→World→Prop}{S:World→Prop}{id:Nat}{a:Act}{w:World}(hm:P.follows .mixedOrders=true)(hQ:¬LetsOut Q)(hnd:noDefer ops=true)(hS:S w.drew)
  (h:S w.drew→wpAnyH P .any ops Q S ops.size (Array.replicate ops.size false) a w.drew):(Code.region id ops true).wpIn (Fence.wide.inRound l) n P Q a w:=
 wpIn_region_any hm (any_in hQ hnd _ _ _ _ (wpAny_of_held _ _ _ _ (h hS)))
end Go.Proofs.YtniloklglpchfakGreat
/- What Back of package net comes to: what goes back through a net, and its Grads, or what is wrong. -/
namespace Go.Proofs.YtniloklglpchfakGreat
open Go.RowKit Go.Shelf
attribute [local go_sem] Oper.semAt_some
set_option maxHeartbeats 2000000 in
set_option maxRecDepth 100000 in
theorem nback_full(N:Nat)(a:Option Addr)(cap:Nat)(sa:Option Addr)(N' scap:Nat)(za:Option Addr)(zn zk:Nat)(r c:Int)(w:World)(hN:N≤maxLen)(h12:12<N):
  Calls Tryz.prog 18 #[.slice a N cap,.slice sa N' scap,.agg #[.int .i64 r,.int .i64 c,.slice za zn zk]] w fun e w'=>e=.returned (.tuple #[.agg #[.int .i64 0,.int .i64 0,.slice none 0 0],.slice none 0 0,.iface 94 (.int .i64 3)])∧Below w.heap.size w w':=by
 have HC:=h_ (fun W=>count_any a N cap W hN)
 unfold maxLen at hN
 rw[if_pos h12,n_ (by decide)]at HC
 clear h12
 go_enter Tryz.func18,Tryz.ntmps18
 go_wp2_with fail
 refine (HC.out _).mono ?_
 rintro e w1 ⟨rfl,rfl⟩
 go_wp2
 exact bodyPost_ret (v:=.tuple #[.agg #[.int .i64 0,.int .i64 0,.slice none 0 0],.slice none 0 0,.iface 94 (.int .i64 3)]) (by simp[results,Tryz.results18,go_sem]) rfl ⟨rfl,a_ (a_ (a_ (a_ (a_ (Below.refl _ _)))))⟩
set_option maxHeartbeats 2000000 in
set_option maxRecDepth 100000 in
theorem nback_shape(N:Nat)(a:Option Addr)(cap:Nat)(sa:Option Addr)(N' scap:Nat)(za:Option Addr)(zn zk:Nat)(r c:Int)(w:World)(hN:N≤maxLen)(h12:¬12<N)(hs:N'≠N+1):
  Calls Tryz.prog 18 #[.slice a N cap,.slice sa N' scap,.agg #[.int .i64 r,.int .i64 c,.slice za zn zk]] w fun e w'=>e=.returned (.tuple #[.agg #[.int .i64 0,.int .i64 0,.slice none 0 0],.slice none 0 0,.iface 94 (.int .i64 2)])∧Below w.heap.size w w':=by
 have HC:=h_ (fun W=>count_any a N cap W hN)
 unfold maxLen at hN
 have hq:((N':Int) !=(N:Int)+1)=true:=by simp;omega
 have h12':(N:Int)≤12:=by omega
 rw[if_neg h12,e_ rfl]at HC
 clear h12 hs
 go_enter Tryz.func18,Tryz.ntmps18
 go_wp2_with fail
 refine (HC.out _).mono ?_
 rintro e w1 ⟨rfl,rfl⟩
 go_wp2
 exact bodyPost_ret (v:=.tuple #[.agg #[.int .i64 0,.int .i64 0,.slice none 0 0],.slice none 0 0,.iface 94 (.int .i64 2)]) (by simp[results,Tryz.results18,go_sem]) rfl ⟨rfl,a_ (a_ (a_ (a_ (a_ (Below.refl _ _)))))⟩
set_option maxHeartbeats 4000000 in
set_option maxRecDepth 100000 in
theorem nback_none(a:Option Addr)(cap:Nat)(sa:Option Addr)(scap:Nat)(za:Option Addr)(zn zk:Nat)(r c:Int)(g:Mx)(hr:g.rows=r)(hc:g.cols=c)(w:World)(hg:I_ w (.slice za zn zk) g.cells):
  Calls Tryz.prog 18 #[.slice a 0 cap,.slice sa 1 scap,.agg #[.int .i64 r,.int .i64 c,.slice za zn zk]] w fun e w'=>∃vx,e=.returned (.tuple #[vx,.slice none 0 0,errV (q_ g)])∧M_ w' vx (keepX g)∧Below w.heap.size w w':=by
 have HC:=h_ (fun W=>count_any a 0 cap W (Nat.zero_le _))
 rw[if_neg (by decide),e_ rfl]at HC
 obtain ⟨V,hV⟩:=gM ((((((w.alloc (.cells #[.slice sa 1 scap] 55)).alloc (.cells #[.int .i64 r,.int .i64 c,.slice za zn zk] 28)).alloc (.cells #[.int .i64 0,.int .i64 0,.slice none 0 0] 28)).alloc (.cells #[.slice none 0 0] 23)).alloc (.cells #[.nilIface] 38)))
 have HV:=h_ hV
 have HWV:Hid (Below w.heap.size w V):=by rw[hV];exact h_ (a_ (a_ (a_ (a_ (a_ (Below.refl _ _))))))
 have HVS:Hid (V.heap.size=w.heap.size+5):=by rw[hV];exact h_ (by simp)
 have H0:Hid (Box V w.heap.size [.slice sa 1 scap]):=by rw[hV];exact h_ ((Box.new _ [.slice sa 1 scap] 55 rfl).u_ (a_ (a_ (a_ (a_ (Below.refl _ _))))))
 have H1:Hid (Box V (w.heap.size+1) [.int .i64 r,.int .i64 c,.slice za zn zk]):=by rw[hV];exact h_ ((Box.new _ [.int .i64 r,.int .i64 c,.slice za zn zk] 28 (by simp)).u_ (a_ (a_ (a_ (Below.refl _ _)))))
 have H2:Hid (Blk V (w.heap.size+1+1) #[.int .i64 0,.int .i64 0,.slice none 0 0] 28):=by rw[hV];exact h_ (((Blk.new _ _ _ (by simp)).alloc _).alloc _)
 have H3:Hid (Blk V (w.heap.size+1+1+1) #[.slice none 0 0] 23):=by rw[hV];exact h_ ((Blk.new _ _ _ (by simp)).alloc _)
 have H4:Hid (Blk V (w.heap.size+1+1+1+1) #[.nilIface] 38):=by rw[hV];exact h_ (Blk.new _ _ _ (by simp))
 have HCP:=h_ (copy_any (.agg #[.int .i64 g.rows,.int .i64 g.cols,.slice za zn zk]) g V ⟨_,rfl,hg.u_ HWV.out⟩)
 obtain ⟨X,hX⟩:=gN (keepX g)
 obtain ⟨E,hE⟩:=gN (q_ g)
 rw[hX,hE,hr,hc]at HCP
 rw[hX,hE]
 obtain ⟨d0,d1,d2⟩:=H1.out.c3
 have d3:=H0.out 0 _ rfl
 clear hg hr hc hX hE hV
 go_enter Tryz.func18,Tryz.ntmps18
 go_wp2_with fail
 rw[←HV.out]
 refine (HC.out _).mono ?_
 rintro e w0 ⟨rfl,rfl⟩
 go_wp2_with fail
 refine HCP.out.mono ?_
 rintro e w1 ⟨v',rfl,⟨sy,rfl,hsy⟩,hb1,hf⟩
 obtain ⟨pa,pn,pk,rfl⟩:=hsy.shape
 have HBA:=h_ (show Below w0.heap.size w0 (w1.alloc (.cells #[.int .i64 X.rows,.int .i64 X.cols,.slice pa pn pk] 28)) from a_ hb1)
 have HSY:=h_ (show M_ (w1.alloc (.cells #[.int .i64 X.rows,.int .i64 X.cols,.slice pa pn pk] 28)) (.agg #[.int .i64 X.rows,.int .i64 X.cols,.slice pa pn pk]) X from ⟨_,rfl,hsy.u_ (o_ _ _)⟩)
 have HF:=h_ hf
 have t0:=(H2.out.u_ HBA.out).cell (j:=0) rfl
 have t1:=(H2.out.u_ HBA.out).cell (j:=1) rfl
 have t2:=(H2.out.u_ HBA.out).cell (j:=2) rfl
 have t3:=(H3.out.u_ HBA.out).cell (j:=0) rfl
 have t4:=(H4.out.u_ HBA.out).cell (j:=0) rfl
 have f0:=(H2.out.u_ HBA.out).frozen 0
 have f1:=(H2.out.u_ HBA.out).frozen 1
 have f2:=(H2.out.u_ HBA.out).frozen 2
 have f3:=(H3.out.u_ HBA.out).frozen 0
 have f4:=(H4.out.u_ HBA.out).frozen 0
 clear hsy hb1 hf d0 d1 d2 d3 HC HCP
 by_cases hE0:E=0
 ·subst hE0
  rw[e_ rfl]
  have HM:=h_ (show M_ ((((((w1.alloc (.cells #[.int .i64 X.rows,.int .i64 X.cols,.slice pa pn pk] 28)).setCell ⟨w.heap.size+1+1,0,none⟩ (.int .i64 X.rows)).setCell ⟨w.heap.size+1+1,1,none⟩ (.int .i64 X.cols)).setCell ⟨w.heap.size+1+1,2,none⟩ (.slice pa pn pk)).setCell ⟨w.heap.size+1+1+1,0,none⟩ (.slice none 0 0)).setCell ⟨w.heap.size+1+1+1+1,0,none⟩ (.nilIface)) (.agg #[.int .i64 X.rows,.int .i64 X.cols,.slice pa pn pk]) X from ((((HSY.out.set HF.out (by have:=HVS.out;omega) _ _).set HF.out (by have:=HVS.out;omega) _ _).set HF.out (by have:=HVS.out;omega) _ _).set HF.out (by have:=HVS.out;omega) _ _).set HF.out (by have:=HVS.out;omega) _ _)
  have HB:=h_ (show Below w.heap.size w ((((((w1.alloc (.cells #[.int .i64 X.rows,.int .i64 X.cols,.slice pa pn pk] 28)).setCell ⟨w.heap.size+1+1,0,none⟩ (.int .i64 X.rows)).setCell ⟨w.heap.size+1+1,1,none⟩ (.int .i64 X.cols)).setCell ⟨w.heap.size+1+1,2,none⟩ (.slice pa pn pk)).setCell ⟨w.heap.size+1+1+1,0,none⟩ (.slice none 0 0)).setCell ⟨w.heap.size+1+1+1+1,0,none⟩ (.nilIface)) from t_ (t_ (t_ (t_ (t_ (b_ HWV.out HBA.out) (by omega)) (by omega)) (by omega)) (by omega)) (by omega))
  go_wp2
  exact bodyPost_ret (v:=.tuple #[.agg #[.int .i64 X.rows,.int .i64 X.cols,.slice pa pn pk],.slice none 0 0,.nilIface]) (by simp[results,Tryz.results18,go_sem,t0,t1,t2,t3,t4]) rfl ⟨_,rfl,HM.out,HB.out⟩
 ·have HE:=h_ hE0
  rw[n_ hE0]
  clear hE0
  have HM:=h_ (show M_ ((((((w1.alloc (.cells #[.int .i64 X.rows,.int .i64 X.cols,.slice pa pn pk] 28)).setCell ⟨w.heap.size+1+1,0,none⟩ (.int .i64 X.rows)).setCell ⟨w.heap.size+1+1,1,none⟩ (.int .i64 X.cols)).setCell ⟨w.heap.size+1+1,2,none⟩ (.slice pa pn pk)).setCell ⟨w.heap.size+1+1+1,0,none⟩ (.slice none 0 0)).setCell ⟨w.heap.size+1+1+1+1,0,none⟩ (.iface 94 (.int .i64 E))) (.agg #[.int .i64 X.rows,.int .i64 X.cols,.slice pa pn pk]) X from ((((HSY.out.set HF.out (by have:=HVS.out;omega) _ _).set HF.out (by have:=HVS.out;omega) _ _).set HF.out (by have:=HVS.out;omega) _ _).set HF.out (by have:=HVS.out;omega) _ _).set HF.out (by have:=HVS.out;omega) _ _)
  have HB:=h_ (show Below w.heap.size w ((((((w1.alloc (.cells #[.int .i64 X.rows,.int .i64 X.cols,.slice pa pn pk] 28)).setCell ⟨w.heap.size+1+1,0,none⟩ (.int .i64 X.rows)).setCell ⟨w.heap.size+1+1,1,none⟩ (.int .i64 X.cols)).setCell ⟨w.heap.size+1+1,2,none⟩ (.slice pa pn pk)).setCell ⟨w.heap.size+1+1+1,0,none⟩ (.slice none 0 0)).setCell ⟨w.heap.size+1+1+1+1,0,none⟩ (.iface 94 (.int .i64 E))) from t_ (t_ (t_ (t_ (t_ (b_ HWV.out HBA.out) (by omega)) (by omega)) (by omega)) (by omega)) (by omega))
  go_wp2
  exact bodyPost_ret (v:=.tuple #[.agg #[.int .i64 X.rows,.int .i64 X.cols,.slice pa pn pk],.slice none 0 0,.iface 94 (.int .i64 E)]) (by simp[results,Tryz.results18,go_sem,t0,t1,t2,t3,t4]) rfl ⟨_,by rw[n_ HE.out],HM.out,HB.out⟩
end Go.Proofs.YtniloklglpchfakGreat
