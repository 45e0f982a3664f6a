/- A message put into a box as bytes and back, and taken out of one: put and take of the law. -/
import Derived.Test.YtniloklglpchfakGreatPkHdM
import Derived.Test.YtniloklglpchfakGreatPkWrC6
import Derived.Test.YtniloklglpchfakGreatPkWrMs
import Derived.Test.YtniloklglpchfakGreatPkReg
import Derived.Test.YtniloklglpchfakGreatPkBatC1
namespace Go.Proofs.YtniloklglpchfakGreat
open Go.RowKit
theorem Kept.fresh{X:Nat→Prop}{w u v:World}(h:Below w.heap.size w u)(k:Kept X u v):Kept X w v:=(Kept.of h (X:=X)).trans k (fun _ _ e=>e)
theorem BoxOf.u_{A:Nat→Prop}{w w':World}{B C:Nat}{ms:List (Int×Int×Mx)}(h:BoxOf A w B C ms)(hb:Below w.heap.size w w'):BoxOf A w' B C ms:=h.keep (Kept.of hb (X:=fun _=>False)) (fun _ q=>q.elim) (fun q=>q) (fun q=>q)
theorem msgX{k mi:Int}{b:Mx}(h:msgF k mi b=0):encX k mi b=msgB k mi b∧rdMsg (encX k mi b)=some ((k,mi,b),(msgB k mi b).length):=by
 have e:encX k mi b=msgB k mi b:=by unfold encX;rw[if_pos h]
 refine ⟨e,?_⟩
 have:=msg_back h []
 rw[List.append_nil]at this
 rw[e]
 exact this
set_option maxHeartbeats 8000000 in
set_option maxRecDepth 100000 in
theorem hput_any{A:Nat→Prop}{w:World}{B C:Nat}{ms:List (Int×Int×Mx)}{v:Value}{k mi:Int}{b:Mx}(h:BoxOf A w B C ms)(hl:ms.length<16)(hA:∀b,A b→b<w.heap.size)(hv:IsMsg w v k mi b)(hm:msgF k mi b=0):
  Calls Tryz.prog 14 #[.pointer (some ⟨B,0,none⟩),v] w fun e w'=>e=.returned (.bool true)∧BoxOf A w' B C (ms++[(k,mi,b)])∧Kept (fun b=>b=B∨b=C) w w':=by
 obtain ⟨s,rfl,hs⟩:=id hv
 obtain ⟨sa,sk,hse,hs2⟩:=id hs
 obtain ⟨r,hr⟩:=gN (b.rows)
 obtain ⟨c,hc⟩:=gN (b.cols)
 obtain ⟨sn,hsn⟩:=gN (b.cells.length)
 rw[hsn]at hse
 subst hse
 obtain ⟨eX,eR⟩:=msgX hm
 obtain ⟨_,_,_,_,hf0⟩:=msgF_in hm
 obtain ⟨⟨r1,r2,r3,r4⟩,hcl,_⟩:=fault_zero hf0
 have hrc:=rc_bd b.rows b.cols ⟨r1,r2,r3,r4⟩
 have HCL:=h_ (show b.cells.length≤1000 by omega)
 have HB0:=h_ (o_ w (.cells #[.int .i64 k,.int .i64 mi,.int .i64 r,.int .i64 c,.slice sa sn sk] 63))
 have HEN:=h_ (wenc_any _ k mi b (w.alloc (.cells #[.int .i64 k,.int .i64 mi,.int .i64 r,.int .i64 c,.slice sa sn sk] 63)) (hv.u_ HB0.out))
 rw[hr,hc]at HEN ⊢
 have HBX:=h_ h
 have HL:=h_ hl
 have HAA:=h_ hA
 have HR:=h_ eR
 have HX:=h_ eX
 have HM:=h_ hm
 clear h hl hA hv hm hs hs2 hr hc hsn eX eR hf0 hcl hrc r1 r2 r3 r4
 go_enter Tryz.func14,Tryz.ntmps14
 go_wp2_with fail
 refine HEN.out.mono ?_
 rintro e w1 ⟨t,rfl,ht,_,hb1⟩
 rw[HM.out,e_ rfl]
 obtain ⟨ta,tk,hte⟩:=ht.shape
 obtain ⟨tn,htn⟩:=gN ((encX k mi b).length)
 rw[htn]at hte
 subst hte
 have HTN:=h_ htn
 have HB1:=h_ (bel_on HB0.out hb1)
 have HDE:=h_ (wdec_any _ (encX k mi b) w1 ht)
 clear ht hb1 htn
 go_wp2_with fail
 refine HDE.out.mono ?_
 intro e w2 hde
 obtain ⟨mv,rfl,hb2,hm2,hn2⟩:=hde.yesN HR.out
 obtain ⟨u,rfl,hu⟩:=id hm2
 obtain ⟨ua,uk,hue,_⟩:=id hu
 obtain ⟨un,hun⟩:=gN (b.cells.length)
 rw[hun]at hue
 subst hue
 obtain ⟨r,hr⟩:=gN (b.rows)
 obtain ⟨c,hc⟩:=gN (b.cols)
 have HB2:=h_ (bel_on HB1.out hb2)
 have HB3:=h_ (bel_on HB2.out (o_ w2 (.cells #[.int .i64 k,.int .i64 mi,.int .i64 r,.int .i64 c,.slice ua un uk] 63)))
 have HPU:=h_ (hbput (m:=(k,mi,b)) (v:=.agg #[.int .i64 k,.int .i64 mi,.int .i64 b.rows,.int .i64 b.cols,.slice ua un uk]) (HBX.out.u_ HB3.out) HL.out (fun q hq=>Nat.lt_of_lt_of_le (HAA.out q hq) HB3.out.size) (hm2.u_ (o_ w2 _)) hn2 HCL.out)
 have hlen:((msgB k mi b).length:Int)=(tn:Int):=by rw[←HTN.out,HX.out]
 rw[hlen]
 rw[hr,hc]at HPU ⊢
 clear hm2 hn2 hu hb2 hde hun hr hc hlen
 go_wp2_with fail
 refine HPU.out.mono ?_
 rintro e w3 ⟨rfl,hb3,hk3⟩
 have HE:=h_ (And.intro hb3 (Kept.fresh HB3.out hk3))
 clear hb3 hk3
 go_wp2
 go_ret
 exact ⟨rfl,HE.out.1,HE.out.2⟩
theorem keep5(w:World)(R:Nat)(y0 y1 y2 y3 y4:Value):Kept (fun b=>b=R) w (((((w.setCell ⟨R,0,none⟩ y0).setCell ⟨R,1,none⟩ y1).setCell ⟨R,2,none⟩ y2).setCell ⟨R,3,none⟩ y3).setCell ⟨R,4,none⟩ y4):=by
 have q:∀(u:World) (i:Nat) (v:Value),Kept (fun b=>b=R) u (u.setCell ⟨R,i,none⟩ v):=fun u i v=>Kept.set (X:=fun b=>b=R) u rfl i v
 exact (((((q w 0 y0).trans (q _ 1 y1) (fun _ _ e=>e)).trans (q _ 2 y2) (fun _ _ e=>e)).trans (q _ 3 y3) (fun _ _ e=>e)).trans (q _ 4 y4) (fun _ _ e=>e))
theorem Kept.past{X:Nat→Prop}{w u v v':World}{R:Nat}(h:Kept X w u)(hb:Below u.heap.size u v)(k:Kept (fun b=>b=R) v v')(hR:w.heap.size≤R):Kept X w v':=
 (h.trans (Kept.of hb (X:=fun _=>False)) (fun _ _ q=>q.elim)).trans k (fun b hb e=>by omega)
theorem BoxOf.more{A A':Nat→Prop}{w:World}{B C:Nat}{ms:List (Int×Int×Mx)}(h:BoxOf A w B C ms)(hA:∀b,A' b→A b∨w.heap.size≤b):BoxOf A' w B C ms:=by
 obtain ⟨P,h1,h2⟩:=h
 refine ⟨P,h1,fun b hb=>?_⟩
 rcases h2 b hb with q|q|q
 ·exact .inl q
 ·exact .inr (.inl q)
 ·refine .inr (.inr (fun e=>?_))
  rcases hA b e with k|k
  ·exact q k
  ·have:=h1.lt b hb;omega
theorem BoxOf.less{A A':Nat→Prop}{w:World}{B C:Nat}{ms:List (Int×Int×Mx)}(h:BoxOf A' w B C ms)(hA:∀b,A b→A' b):BoxOf A w B C ms:=by
 obtain ⟨P,h1,h2⟩:=h
 exact ⟨P,h1,fun b hb=>(h2 b hb).imp id (fun q=>q.imp id (fun q e=>q (hA b e)))⟩
theorem BoxOf.lts{A:Nat→Prop}{w:World}{B C:Nat}{ms:List (Int×Int×Mx)}(h:BoxOf A w B C ms):B<w.heap.size∧C<w.heap.size:=by
 obtain ⟨P,h1,_⟩:=h
 exact ⟨h1.lt B h1.pB,h1.lt C h1.pC⟩
theorem took_end{A:Nat→Prop}{w w1 v':World}{B C R:Nat}{ms:List (Int×Int×Mx)}{o:Obj}(hw:w.heap.size=R)(hB:B<R)(hC:C<R)(hb:BoxOf (fun b=>A b∨b=R) w1 B C ms)(hk:Kept (fun b=>b=B∨b=C) w w1)(hk2:Kept (fun b=>b=R) (w1.alloc o) v'):BoxOf A v' B C ms∧Kept (fun b=>b=B∨b=C) w v':=by
 refine ⟨BoxOf.less ((hb.u_ (o_ w1 o)).keep hk2 (fun b e=>.inr e) (by omega) (by omega)) (fun b h=>.inl h),hk.past (o_ w1 o) hk2 (by omega)⟩
set_option maxHeartbeats 8000000 in
set_option maxRecDepth 100000 in
theorem htake_any{A:Nat→Prop}{w:World}{B C:Nat}{ms:List (Int×Int×Mx)}{m:Int×Int×Mx}(h:BoxOf A w B C (m::ms))(hA:∀b,A b→b<w.heap.size):
  Calls Tryz.prog 12 #[.pointer (some ⟨B,0,none⟩)] w fun e w'=>∃s,e=.returned (.tuple #[.agg #[.int .i64 m.1,.int .i64 m.2.1,.int .i64 m.2.2.rows,.int .i64 m.2.2.cols,s],.nilIface])∧BoxOf A w' B C ms∧Hold A w' (fun W=>I_ W s m.2.2.cells)∧Kept (fun b=>b=B∨b=C) w w':=by
 obtain ⟨hlB,hlC⟩:=h.lts
 have HLT:=h_ (And.intro hlB hlC)
 have HB0:=h_ (o_ w (.cells #[.int .i64 0,.int .i64 0,.int .i64 0,.int .i64 0,.slice none 0 0] 63))
 have HTK:=h_ (hbtake (m:=m) (ms:=ms) (A:=fun b=>A b∨b=w.heap.size) ((h.more (fun b hb=>hb.imp id (fun e=>Nat.le_of_eq e.symm))).u_ HB0.out) (fun q hq=>by
  rw[World.size_alloc]
  rcases hq with q'|q'
  ·have:=hA q q';omega
  ·omega))
 have HR0:=h_ (WBk.new w #[.int .i64 0,.int .i64 0,.int .i64 0,.int .i64 0,.slice none 0 0] 63)
 clear h hA hlB hlC
 go_enter Tryz.func12,Tryz.ntmps12
 go_wp2_with fail
 refine HTK.out.mono ?_
 rintro e w1 ⟨s,rfl,hb,hh,hk⟩
 obtain ⟨sa,sn,sk,rfl⟩:=hh.now.shape
 have HHO:=h_ hh
 obtain ⟨k,hk0⟩:=gN (m.1)
 obtain ⟨mi,hmi⟩:=gN (m.2.1)
 obtain ⟨r,hr⟩:=gN (m.2.2.rows)
 obtain ⟨c,hc⟩:=gN (m.2.2.cols)
 have HRC:=h_ (And.intro hk0 (And.intro hmi (And.intro hr hc)))
 rw[hk0,hmi,hr,hc]
 clear hh hk0 hmi hr hc
 have HR1:=h_ (show WBk w1 w.heap.size #[.int .i64 0,.int .i64 0,.int .i64 0,.int .i64 0,.slice none 0 0] 63 from (hk.block _ HR0.out.lt (fun q=>by have:=HLT.out;omega)).trans HR0.out)
 have HRM:=h_ (HR1.out.kept (o_ w1 (.cells #[.int .i64 k,.int .i64 mi,.int .i64 r,.int .i64 c,.slice sa sn sk] 63)))
 obtain ⟨z0,z1,z2,z3,z4⟩:=HRM.out.f5
 obtain ⟨y0,y1,y2,y3,y4⟩:=HRM.out.c5
 have HF:=h_ (bk5 HRM.out (.int .i64 k) (.int .i64 mi) (.int .i64 r) (.int .i64 c) (.slice sa sn sk))
 obtain ⟨q0,q1,q2,q3,q4⟩:=HF.out.c5
 have HKF:=h_ (keep5 (w1.alloc (.cells #[.int .i64 k,.int .i64 mi,.int .i64 r,.int .i64 c,.slice sa sn sk] 63)) w.heap.size (.int .i64 k) (.int .i64 mi) (.int .i64 r) (.int .i64 c) (.slice sa sn sk))
 have HEND:=h_ (took_end rfl HLT.out.1 HLT.out.2 hb (Kept.fresh HB0.out hk) HKF.out)
 clear hk hb
 go_wp2_with fail
 refine bodyPost_ret (v:=.tuple #[.agg #[.int .i64 k,.int .i64 mi,.int .i64 r,.int .i64 c,.slice sa sn sk],.nilIface]) (by simp[results,Tryz.results12,go_sem,q0,q1,q2,q3,q4]) rfl ?_
 rw[←HRC.out.1,←HRC.out.2.1,←HRC.out.2.2.1,←HRC.out.2.2.2]at HEND ⊢
 refine ⟨_,rfl,HEND.out.1,?_,HEND.out.2⟩
 have:=((HHO.out.u_ (o_ w1 _)).kept HKF.out (fun b e=>.inr e)).mono (G':=A) (fun b _ h=>.inl h)
 rw[←HRC.out.1,←HRC.out.2.1,←HRC.out.2.2.1,←HRC.out.2.2.2]at this
 exact this
set_option maxHeartbeats 8000000 in
set_option maxRecDepth 100000 in
theorem htake_no{A:Nat→Prop}{w:World}{B C:Nat}(h:BoxOf A w B C [])(hA:∀b,A b→b<w.heap.size):
  Calls Tryz.prog 12 #[.pointer (some ⟨B,0,none⟩)] w fun e w'=>∃u n,e=.returned (.tuple #[u,.iface 94 (.int .i64 n)])∧u=.agg #[.int .i64 0,.int .i64 0,.int .i64 0,.int .i64 0,.slice none 0 0]∧BoxOf A w' B C []∧Kept (fun b=>b=B∨b=C) w w':=by
 obtain ⟨hlB,hlC⟩:=h.lts
 have HLT:=h_ (And.intro hlB hlC)
 have HB0:=h_ (o_ w (.cells #[.int .i64 0,.int .i64 0,.int .i64 0,.int .i64 0,.slice none 0 0] 63))
 have HTK:=h_ (hbtake_no (A:=fun b=>A b∨b=w.heap.size) ((h.more (fun b hb=>hb.imp id (fun e=>Nat.le_of_eq e.symm))).u_ HB0.out) (fun q hq=>by
  rw[World.size_alloc]
  rcases hq with q'|q'
  ·have:=hA q q';omega
  ·omega))
 have HR0:=h_ (WBk.new w #[.int .i64 0,.int .i64 0,.int .i64 0,.int .i64 0,.slice none 0 0] 63)
 clear h hA hlB hlC
 go_enter Tryz.func12,Tryz.ntmps12
 go_wp2_with fail
 refine HTK.out.mono ?_
 rintro e w1 ⟨n,rfl,hb,hk⟩
 have HR1:=h_ (show WBk w1 w.heap.size #[.int .i64 0,.int .i64 0,.int .i64 0,.int .i64 0,.slice none 0 0] 63 from (hk.block _ HR0.out.lt (fun q=>by have:=HLT.out;omega)).trans HR0.out)
 have HRM:=h_ (HR1.out.kept (o_ w1 (.cells #[.int .i64 0,.int .i64 0,.int .i64 0,.int .i64 0,.slice none 0 0] 63)))
 obtain ⟨z0,z1,z2,z3,z4⟩:=HRM.out.f5
 obtain ⟨y0,y1,y2,y3,y4⟩:=HRM.out.c5
 have HF:=h_ (bk5 HRM.out (.int .i64 0) (.int .i64 0) (.int .i64 0) (.int .i64 0) (.slice none 0 0))
 obtain ⟨q0,q1,q2,q3,q4⟩:=HF.out.c5
 have HKF:=h_ (keep5 (w1.alloc (.cells #[.int .i64 0,.int .i64 0,.int .i64 0,.int .i64 0,.slice none 0 0] 63)) w.heap.size (.int .i64 0) (.int .i64 0) (.int .i64 0) (.int .i64 0) (.slice none 0 0))
 have HEND:=h_ (took_end rfl HLT.out.1 HLT.out.2 hb (Kept.fresh HB0.out hk) HKF.out)
 clear hk hb
 go_wp2_with fail
 refine bodyPost_ret (v:=.tuple #[.agg #[.int .i64 0,.int .i64 0,.int .i64 0,.int .i64 0,.slice none 0 0],.iface 94 (.int .i64 n)]) (by simp[results,Tryz.results12,go_sem,q0,q1,q2,q3,q4]) rfl ?_
 exact ⟨_,n,rfl,rfl,HEND.out.1,HEND.out.2⟩
def upd (f:Nat→Bool) (m k:Nat):Bool:=if k=m then true else f k
theorem upd_at(f:Nat→Bool)(m:Nat):upd f m m=true:=if_pos rfl
theorem upd_ne{f:Nat→Bool}{m k:Nat}(h:k≠m):upd f m k=f k:=if_neg h
structure HLog (D:HD) (c0 c1:Nat) (q1 q0:List Nat) (m1 m0:Nat→Bool):Prop where
 r1:∀m,m<D.P→((1,(m:Int))∈D.p0.take c0↔m1 m=true∨m∈q1)
 r0:∀m,m<D.P→((2,(m:Int))∈D.p1.take c1↔m0 m=true∨m∈q0)
 l1:q1.Nodup∧∀m∈q1,m<D.P
 l0:q0.Nodup∧∀m∈q0,m<D.P
 le0:c0≤2*D.P
 le1:c1≤2*D.P
 und:Und [D.p0,D.p1] [c0,c1]
theorem few_in{P:Nat}{q:List Nat}(h:q.Nodup∧∀m∈q,m<P):q.length≤P:=few_nats P q h.1 h.2
section
variable {D:HD} {c0 c1:Nat} {q1 q0:List Nat} {m1 m0:Nat→Bool}
theorem HLog.take1{m:Nat}{q:List Nat}(l:HLog D c0 c1 (m::q) q0 m1 m0):HLog D c0 c1 q q0 (upd m1 m) m0:=by
 have hn:=List.nodup_cons.1 l.l1.1
 refine ⟨fun k hk=>(l.r1 k hk).trans ?_,l.r0,⟨hn.2,fun k hk=>l.l1.2 k (by simp[hk])⟩,l.l0,l.le0,l.le1,l.und⟩
 by_cases e:k=m
 ·subst e;simp[upd_at]
 ·rw[upd_ne e];simp[e]
theorem HLog.take0{m:Nat}{q:List Nat}(l:HLog D c0 c1 q1 (m::q) m1 m0):HLog D c0 c1 q1 q m1 (upd m0 m):=by
 have hn:=List.nodup_cons.1 l.l0.1
 refine ⟨l.r1,fun k hk=>(l.r0 k hk).trans ?_,l.l1,⟨hn.2,fun k hk=>l.l0.2 k (by simp[hk])⟩,l.le0,l.le1,l.und⟩
 by_cases e:k=m
 ·subst e;simp[upd_at]
 ·rw[upd_ne e];simp[e]
theorem act_new{l:List (Int×Int)}{P c:Nat}(h:StOK l P){a:Int×Int}(ha:l[c]?=some a):a ∉ l.take c:=fun q=>by
 have:=(take_iff h.ap ha c).1 q
 omega
theorem snoc_mem{l:List (Int×Int)}{c:Nat}{a b:Int×Int}(ha:l[c]?=some a):b∈l.take (c+1)↔b∈l.take c∨b=a:=by
 rw[take_snoc ha,List.mem_append,List.mem_singleton]
theorem lt_of_act{l:List (Int×Int)}{P c:Nat}(h:StOK l P){a:Int×Int}(ha:l[c]?=some a):c+1≤2*P:=by
 have:=(List.getElem?_eq_some_iff.1 ha).1
 rw[h.len]at this
 omega
theorem cast_ne{k m:Nat}(h:k≠m)(x:Int):(x,(k:Int))≠(x,(m:Int)):=fun e=>h (by have:=congrArg Prod.snd e;simp at this;omega)
theorem kind_ne(x y:Int)(h:x≠y)(k m:Int):(x,k)≠(y,m):=fun e=>h (congrArg Prod.fst e)
theorem HLog.forth0{m:Nat}(hp:HandP D.p0 D.p1 D.P)(l:HLog D c0 c1 q1 q0 m1 m0)(ha:D.p0[c0]?=some (1,(m:Int)))(hm:m<D.P):HLog D (c0+1) c1 (q1++[m]) q0 m1 m0:=by
 have hno:m ∉ q1:=fun q=>act_new hp.s0 ha ((l.r1 m hm).2 (.inr q))
 refine ⟨fun k hk=>?_,l.r0,⟨?_,fun k hk=>?_⟩,l.l0,lt_of_act hp.s0 ha,l.le1,und_next0 l.und ((can0 hp ha).2 (fun e=>absurd e (by show (1:Int)≠2;decide)))⟩
 ·rw[snoc_mem ha,l.r1 k hk]
  by_cases e:k=m
  ·subst e;simp
  ·simp[cast_ne e,e]
 ·exact List.nodup_append.2 ⟨l.l1.1,by simp,fun x hx y hy e=>by simp at hy;subst hy;subst e;exact hno hx⟩
 ·rcases List.mem_append.1 hk with q|q
  ·exact l.l1.2 k q
  ·simp at q;rw[q];exact hm
theorem HLog.forth1{m:Nat}(hp:HandP D.p0 D.p1 D.P)(l:HLog D c0 c1 q1 q0 m1 m0)(ha:D.p1[c1]?=some (1,(m:Int)))(hm:m<D.P)(hc:m1 m=true):HLog D c0 (c1+1) q1 q0 m1 m0:=by
 refine ⟨l.r1,fun k hk=>?_,l.l1,l.l0,l.le0,lt_of_act hp.s1 ha,und_next1 l.und ((can1 hp ha).2 (fun _=>(l.r1 m hm).2 (.inl hc)))⟩
 rw[snoc_mem ha,l.r0 k hk]
 simp[kind_ne 2 1 (by decide)]
theorem HLog.back1{m:Nat}(hp:HandP D.p0 D.p1 D.P)(l:HLog D c0 c1 q1 q0 m1 m0)(ha:D.p1[c1]?=some (2,(m:Int)))(hm:m<D.P):HLog D c0 (c1+1) q1 (q0++[m]) m1 m0:=by
 have hno:m ∉ q0:=fun q=>act_new hp.s1 ha ((l.r0 m hm).2 (.inr q))
 refine ⟨l.r1,fun k hk=>?_,l.l1,⟨?_,fun k hk=>?_⟩,l.le0,lt_of_act hp.s1 ha,und_next1 l.und ((can1 hp ha).2 (fun e=>absurd rfl e))⟩
 ·rw[snoc_mem ha,l.r0 k hk]
  by_cases e:k=m
  ·subst e;simp
  ·simp[cast_ne e,e]
 ·exact List.nodup_append.2 ⟨l.l0.1,by simp,fun x hx y hy e=>by simp at hy;subst hy;subst e;exact hno hx⟩
 ·rcases List.mem_append.1 hk with q|q
  ·exact l.l0.2 k q
  ·simp at q;rw[q];exact hm
theorem HLog.back0{m:Nat}(hp:HandP D.p0 D.p1 D.P)(l:HLog D c0 c1 q1 q0 m1 m0)(ha:D.p0[c0]?=some (2,(m:Int)))(hm:m<D.P)(hc:m0 m=true):HLog D (c0+1) c1 q1 q0 m1 m0:=by
 refine ⟨fun k hk=>?_,l.r0,l.l1,l.l0,lt_of_act hp.s0 ha,l.le1,und_next0 l.und ((can0 hp ha).2 (fun _=>(l.r0 m hm).2 (.inl hc)))⟩
 rw[snoc_mem ha,l.r1 k hk]
 simp[kind_ne 1 2 (by decide)]
theorem HLog.stop1{m:Nat}(hp:HandP D.p0 D.p1 D.P)(l:HLog D c0 c1 [] q0 m1 m0)(ha:D.p1[c1]?=some (1,(m:Int)))(hm:m<D.P)(hc:m1 m=false):¬Can [D.p0,D.p1] [c0,c1] 1:=fun q=>by
 have:=(l.r1 m hm).1 ((can1 hp ha).1 q (by show (1:Int)≠2;decide))
 simp[hc]at this
theorem HLog.stop0{m:Nat}(hp:HandP D.p0 D.p1 D.P)(l:HLog D c0 c1 q1 [] m1 m0)(ha:D.p0[c0]?=some (2,(m:Int)))(hm:m<D.P)(hc:m0 m=false):¬Can [D.p0,D.p1] [c0,c1] 0:=fun q=>by
 have:=(l.r0 m hm).1 ((can0 hp ha).1 q rfl)
 simp[hc]at this
def HInv (D:HD) (h:HBk) (W0 w:World) (c0 c1:Nat) (q1 q0:List Nat) (m1 m0:Nat→Bool):Prop:=
 HMem D h W0 w c0 c1 (fun m=>(1,(m:Int))∈D.p0.take c0) (fun m=>(1,(m:Int))∈D.p1.take c1) (by0 D.a D.b (D.L.take (bks D.p0 c0))) (by1 D.a D.b (D.L.take (bks D.p1 c1))) q1 q0 m1 m0 m1 m0∧HLog D c0 c1 q1 q0 m1 m0
theorem saw_forth{l:List (Int×Int)}{c m:Nat}(ha:l[c]?=some (1,(m:Int))):∀k,k≠m→(1,(k:Int))∈l.take (c+1)→(1,(k:Int))∈l.take c:=fun _ hk q=>((snoc_mem ha).1 q).resolve_right (cast_ne hk 1)
theorem saw_back{l:List (Int×Int)}{c m:Nat}(ha:l[c]?=some (2,(m:Int))):(fun k:Nat=>(1,(k:Int))∈l.take (c+1))=fun k:Nat=>(1,(k:Int))∈l.take c:=by
 funext k
 rw[eq_iff_iff,snoc_mem ha]
 simp[kind_ne 1 2 (by decide)]
theorem at_next{D:HD}{m:Nat}(h:m<D.L.length):D.L.take (m+1)=D.L.take m++[D.at m]:=by
 have hx:D.L[m]?=some (D.at m):=by unfold HD.at;rw[List.getElem?_eq_getElem h];rfl
 exact take_end hx
end
theorem Reads.head{w:World}{a:Option Addr}{n cap:Nat}{α:Type}{f:α→List (Int⊕List Int)}{xs:List α}(h:Reads w (.slice a n cap) n (xs.flatMap f)){k z:Nat}(hk:k≤n):Reads w (.slice (if cap=0 then a else a.map (·.add (0*z))) k cap) k ((xs.take k).flatMap f):=by
 have e:(if cap=0 then a else a.map (·.add (0*z)))=a:=by
  split
  ·rfl
  ·cases a with
   |none=>rfl
   |some x=>simp[Addr.add]
 rw[e]
 exact Reads.take h k hk
theorem flat_drop{α β:Type}(f:α→List β)(z:Nat)(hz:∀x,(f x).length=z):∀(xs:List α) (k:Nat),(xs.drop k).flatMap f=(xs.flatMap f).drop (k*z)
 |[],k=>by simp
 |x::xs,0=>by simp
 |x::xs,k+1=>by
  have e:(f x).drop ((k+1)*z)=[]:=List.drop_of_length_le (by rw[hz,Nat.succ_mul];omega)
  rw[List.drop_succ_cons,flat_drop f z hz xs k,List.flatMap_cons,List.drop_append,e,hz,List.nil_append,Nat.succ_mul,Nat.add_sub_cancel]
theorem Reads.tailH{w:World}{a:Option Addr}{n cap:Nat}{α:Type}{f:α→List (Int⊕List Int)}{xs:List α}(h:Reads w (.slice a n cap) n (xs.flatMap f)){k z:Nat}(hz:∀x,(f x).length=z)(hk:k≤n)(hx:xs.length=n):Reads w (.slice (if cap=k then a else a.map (·.add (k*z))) (n - k) (cap - k)) (n - k) ((xs.drop k).flatMap f):=by
 obtain ⟨a0,cap0,e,h2,h3,h4⟩:=h
 injection e with e1 e2 e3
 subst e1 e3
 refine ⟨_,_,rfl,by omega,by omega,?_⟩
 rcases Nat.eq_zero_or_pos (n - k) with q|q
 ·exact .inl q
 ·obtain ⟨b,off,rfl,hc⟩:=h4.resolve_left (by omega)
  refine .inr ⟨b,off+k*z,?_,fun j p hj=>?_⟩
  ·rw[if_neg (by omega)]
   show some (Addr.add _ _)=_
   rw[Addr.add_lit]
  ·rw[flat_drop f z hz,List.getElem?_drop]at hj
   rw[Nat.add_assoc]
   exact hc _ _ hj
theorem elemLy:Tryz.prog.underlying 22=some (.slice (Tryz.prog.elem 22)):=by kernel_rfl
theorem sizeLy(w:World):(Go.sizeOf (Tryz.prog.elem 22)).run Tryz.prog w=.ok 7 w:=by kernel_rfl
theorem elemGr:Tryz.prog.underlying 23=some (.slice (Tryz.prog.elem 23)):=by kernel_rfl
theorem sizeGr(w:World):(Go.sizeOf (Tryz.prog.elem 23)).run Tryz.prog w=.ok 6 w:=by kernel_rfl
theorem lyS_len(l:Ly):(lyS l).length=7:=rfl
theorem gdS_len(d:Mx×Mx):(gdS d).length=6:=rfl
theorem lys_cut{a:Option Addr}{n cap k:Nat}{ls:List Ly}(hk:k≤n)(hn:ls.length=n)(hc:n≤cap):∃a1 c1 a2 c2,(∀W,(Instr.slice 22 (.slice a n cap) none (some (.int .i64 (k:Int))) none).run Tryz.prog W=.ok (.slice a1 k c1) W)∧(∀W,(Instr.slice 22 (.slice a n cap) (some (.int .i64 (k:Int))) none none).run Tryz.prog W=.ok (.slice a2 (n - k) c2) W)∧
  ∀W,Y_ W (.slice a n cap) ls→Y_ W (.slice a1 k c1) (ls.take k)∧Y_ W (.slice a2 (n - k) c2) (ls.drop k):=by
 refine ⟨if cap=0 then a else a.map (·.add (0*7)),cap,if cap=k then a else a.map (·.add (k*7)),cap - k,fun W=>?_,fun W=>?_,fun W h=>?_⟩
 rotate_left 2
 ·unfold Y_ at h ⊢
  rw[hn]at h
  rw[List.length_take,List.length_drop,hn,Nat.min_eq_left hk]
  exact ⟨Reads.head (z:=7) h hk,Reads.tailH (z:=7) h lyS_len hk hn⟩
 ·rw[run_slice_h (P:=Tryz.prog) (w:=W) 22 a n cap elemLy .i64 (k:Int) (by omega) (by omega),sizeLy,Int.toNat_natCast]
  rfl
 ·rw[run_slice_l (P:=Tryz.prog) (w:=W) 22 a n cap elemLy .i64 (k:Int) (by omega) (by omega),sizeLy,Int.toNat_natCast]
  rfl
theorem gds_cut{a:Option Addr}{n cap k:Nat}{ds:List (Mx×Mx)}(hk:k≤n)(hn:ds.length=n)(hc:n≤cap):∃a1 c1 a2 c2,(∀W,(Instr.slice 23 (.slice a n cap) none (some (.int .i64 (k:Int))) none).run Tryz.prog W=.ok (.slice a1 k c1) W)∧(∀W,(Instr.slice 23 (.slice a n cap) (some (.int .i64 (k:Int))) none none).run Tryz.prog W=.ok (.slice a2 (n - k) c2) W)∧
  ∀W,D_ W (.slice a n cap) ds→D_ W (.slice a1 k c1) (ds.take k)∧D_ W (.slice a2 (n - k) c2) (ds.drop k):=by
 refine ⟨if cap=0 then a else a.map (·.add (0*6)),cap,if cap=k then a else a.map (·.add (k*6)),cap - k,fun W=>?_,fun W=>?_,fun W h=>?_⟩
 rotate_left 2
 ·unfold D_ at h ⊢
  rw[hn]at h
  rw[List.length_take,List.length_drop,hn,Nat.min_eq_left hk]
  exact ⟨Reads.head (z:=6) h hk,Reads.tailH (z:=6) h gdS_len hk hn⟩
 ·rw[run_slice_h (P:=Tryz.prog) (w:=W) 23 a n cap elemGr .i64 (k:Int) (by omega) (by omega),sizeGr,Int.toNat_natCast]
  rfl
 ·rw[run_slice_l (P:=Tryz.prog) (w:=W) 23 a n cap elemGr .i64 (k:Int) (by omega) (by omega),sizeGr,Int.toNat_natCast]
  rfl
theorem run_mkF(e s size bytes:Nat)(z:Value)(hu:Tryz.prog.underlying s=some (.slice e))(hi:(Tryz.prog.info? e).map (fun i=>(i.zero,i.size,i.bytes))=some (some z,size,bytes))(n:Nat)(hn:bytes*n≤281474976710656)(hm:n≤9223372036854775807)(W:World):
  (Instr.makeSlice s (.int .i64 (n:Int)) (.int .i64 (n:Int))).run Tryz.prog W=.ok (.slice (some ⟨W.heap.size,0,none⟩) n n) (W.alloc (.cells (rawCells z (n*size)) e)):=by
 obtain ⟨i0,hi0,hz0,hz1,hz2⟩:=info_parts hi
 have hr:=run_make (P:=Tryz.prog) W s e i0 z hu hi0 hz0 .i64 .i64 (n:Int) (n:Int) (by omega) (by omega) (by rw[hz2];omega) (by omega)
 simpa [hz1,rawCells] using hr
theorem infoMxs:(Tryz.prog.info? 55).map (fun i=>(i.zero,i.size,i.bytes))=some (some (.slice none 0 0),1,24):=by kernel_rfl
theorem infoBo:(Tryz.prog.info? 4).map (fun i=>(i.zero,i.size,i.bytes))=some (some (.bool false),1,1):=by kernel_rfl
theorem hands_mk(P:Nat)(hP:P≤12)(W:World):(Instr.makeSlice 53 (.int .i64 (P:Int)) (.int .i64 (P:Int))).run Tryz.prog W=.ok (.slice (some ⟨W.heap.size,0,none⟩) P P) (W.alloc (.cells (rawCells (.slice none 0 0) (P*1)) 55))∧
  (Instr.makeSlice 55 (.int .i64 (P:Int)) (.int .i64 (P:Int))).run Tryz.prog W=.ok (.slice (some ⟨W.heap.size,0,none⟩) P P) (W.alloc (.cells (rawCells (.agg #[.int .i64 0,.int .i64 0,.slice none 0 0]) (P*3)) 28))∧
  (Instr.makeSlice 57 (.int .i64 (P:Int)) (.int .i64 (P:Int))).run Tryz.prog W=.ok (.slice (some ⟨W.heap.size,0,none⟩) P P) (W.alloc (.cells (rawCells (.bool false) (P*1)) 4)):=
 ⟨run_mkF _ _ 1 24 _ (by kernel_rfl) infoMxs P (by omega) (by omega) W,run_mkF _ _ 3 40 _ (by kernel_rfl) infoMx P (by omega) (by omega) W,run_mkF _ _ 1 1 _ (by kernel_rfl) infoBo P (by omega) (by omega) W⟩
end Go.Proofs.YtniloklglpchfakGreat
