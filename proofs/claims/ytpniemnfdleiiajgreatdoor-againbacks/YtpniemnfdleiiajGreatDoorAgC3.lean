/- What backGroup of package again comes to. -/
import Derived.Test.YtpniemnfdleiiajGreatDoorAgS
namespace Go.Proofs.YtpniemnfdleiiajGreatDoor
open Go.RowKit
set_option maxHeartbeats 16000000 in
set_option maxRecDepth 100000 in
theorem bgroup_any(A:Nat→Prop)(S M D e f t N q:Nat)(ls:List Ly)(ms:List Mx)(g0 T0:Mx)(gs0:List (Mx×Mx))(cs0:List Value)(v vT:Value)(w:World)(hv:Hold A w (fun W=>Y_ W v ls))(hs:Shelf A w S M ms (keyK e N f (f+1)) q)(hr:RunOK ls ms)(hN:ls.length=N)(hft:f<t)(htN:t≤N)(hq:(keyK e N f (f+1)).length≤q)(hA:∀b,A b→b<w.heap.size)(hD:A D)(hdat:Blk w D cs0.toArray 65)(henc:Enc w A (gs0.flatMap gdS) cs0)(hgl:gs0.length=N)(hT:MxA A w vT T0)(hrel:Rel ls ms g0 N (N - t) T0 gs0):
  Calls Tryz.prog 33 #[.pointer (some ⟨S,0,none⟩),v,.int .i64 (f:Int),.int .i64 (t:Int),vT,.slice (some ⟨D,0,none⟩) N N] w fun x w'=>Kept (fun b=>b=S∨b=M∨b=D) w w'∧
   ((∃T' D' cs' vT',x=.returned (.tuple #[vT',.nilIface])∧Rel ls ms g0 N (N - f) T' D'∧MxA A w' vT' T'∧Shelf A w' S M ms (hdK e f++[N]) (max q (keyK e N f t).length)∧Blk w' D cs'.toArray 65∧Enc w' A (D'.flatMap gdS) cs'∧D'.length=N)∨
    (∃E:Int,E≠0∧bkE ls.reverse (ms.take N).reverse g0=E∧x=.returned (.tuple #[.agg #[.int .i64 0,.int .i64 0,.slice none 0 0],.iface 31 (.int .i64 E)]))):=by
 obtain ⟨sT,rfl,hsT⟩:=hT
 obtain ⟨ua,un,uk,rfl⟩:=hsT.1.shape
 obtain ⟨xf,hxf⟩:∃x:Int,(f:Int)=x:=⟨_,rfl⟩
 obtain ⟨xt,hxt⟩:∃x:Int,(t:Int)=x:=⟨_,rfl⟩
 have h13:=hs.lm
 have hml:=hr.1
 have HLM:=h_ (show N≤12 by omega)
 obtain ⟨V,hV⟩:=gM (((w.alloc (.cells #[.int .i64 T0.rows,.int .i64 T0.cols,.slice ua un uk] 25)).alloc (.cells #[.int .i64 0,.int .i64 0,.slice none 0 0] 25)))
 have HV:=h_ hV
 have HWV:Hid (Below w.heap.size w V):=by rw[hV];exact h_ (a_ (o_ _ _))
 obtain ⟨A',hA'⟩:∃A':Nat→Prop,A'=fun b=>A b∨b=w.heap.size∨b=w.heap.size+1:=⟨_,rfl⟩
 have hAA:∀b,b<w.heap.size→A' b→A b:=fun b hb h=>by rw[hA']at h;rcases h with h|h|h;exact h;omega;omega
 have hAi:∀b,A b→A' b:=fun b h=>by rw[hA'];exact .inl h
 have HAA:=h_ (And.intro hAA hAi)
 have HAC:=h_ hA'
 have HA:=h_ hA
 have HVL:=h_ ((hv.mono hAA).u_ HWV.out)
 have HLt:=h_ (show ∀b,A' b→b<V.heap.size from fun b hb=>by
  rw[hV,World.size_alloc,World.size_alloc]
  rw[hA']at hb
  rcases hb with hb|hb|hb
  ·have:=hA b hb;omega
  ·omega
  ·omega)
 have HST:Hid (BgSt A' w V S M D w.heap.size N ms (keyK e N f (f+1)) q T0 (.slice ua un uk) gs0 cs0):=by
  have hsh:=(hs.more hAA (hAi _ hs.aS) (hAi _ hs.aM)).u_ HWV.out
  refine h_ ⟨hsh,hdat.u_ HWV.out,henc.map (fun _ _ hp=>(hp.mono hAA).u_ HWV.out),hgl,?_,?_,(hsT.mono hAA).u_ HWV.out,Kept.of HWV.out,hAi _ hD,by rw[hA'];exact .inr (.inl rfl),by rw[hA'];exact .inr (.inr rfl),HLt.out⟩
  ·rw[hV];exact (Blk.new w _ _ rfl).alloc _
  ·rw[hV];exact Blk.new _ _ _ (by simp)
 have hfl:=agfill_any A' S M e f t N q ls ms v V HVL.out HST.out.sh hr hN hft htN hq HLt.out
 rw[hxf,hxt]at hfl
 have HFL:=h_ hfl
 obtain ⟨va,vk,rfl,hlc,hcm⟩:=hv.now.shape
 rw[hN]at hlc HFL HVL ⊢
 rw[hxf,hxt]
 have HR:=h_ hr
 have HN:=h_ hN
 have HX:=h_ (And.intro hxf hxt)
 have HO:=h_ (And.intro hft htN)
 have HRL:=h_ hrel
 have HBX:=h_ (show ∀b,b<w.heap.size→bX S M D w.heap.size b→b=S∨b=M∨b=D from fun b hb h=>by rcases h with h|h|h|h|h;exact .inl h;exact .inr (.inl h);exact .inr (.inr h);omega;omega)
 have HQ:=h_ hq
 obtain ⟨ur,hur⟩:=gN (T0.rows)
 obtain ⟨uc,huc⟩:=gN (T0.cols)
 rw[hur,huc]at HV ⊢
 have b0:0≤xf:=by omega
 have b1:xf≤11:=by omega
 have b2:1≤xt:=by omega
 have b3:xt≤12:=by omega
 have HAD:=h_ (And.intro hs.aS (And.intro hs.aM hD))
 clear hv hs hr hN hq hA hxf hxt hft htN hlc hcm h13 hml hV hAA hAi hA' hfl hD hdat henc hgl hsT hrel hur huc
 go_enter Tryz.func33,Tryz.ntmps33
 go_wp2_with fail
 rw[←HV.out]
 refine HFL.out.mono ?_
 rintro x w1 ⟨rfl,hs1,hk1⟩
 have HST1:Hid (BgSt A' w w1 S M D w.heap.size N ms (keyK e N f t) (max q (keyK e N f t).length) T0 (.slice ua un uk) gs0 cs0):=by
  have h:=HST.out
  have hx:∀b,b=S∨b=M→A' b:=fun b hb=>by rcases hb with rfl|rfl;exact h.sh.aS;exact h.sh.aM
  obtain ⟨n1,n2,n3⟩:=h.neM
  have kk:∀{b:Nat} {cs:Array Value} {ty:TypeId},Blk V b cs ty→b≠S→b≠M→Blk w1 b cs ty:=fun hb h1 h2=>hb.keep hk1 (fun e=>by rcases e with e|e;exact h1 e;exact h2 e)
  exact h_ ⟨hs1,kk h.dat (h.dat.apart h.sh.st (by decide)) n1,h.enc.kept hk1 hx,h.len,kk h.cur (h.cur.apart h.sh.st (by decide)) n2,kk h.res (h.res.apart h.sh.st (by decide)) n3,h.prt.kept hk1 hx,h.kp.trans hk1 (fun b _ e=>by rcases e with e|e;exact .inl e;exact .inr (.inl e)),h.aD,h.aB,h.aR,fun b hb=>Nat.lt_of_lt_of_le (h.lt b hb) hk1.size⟩
 have HVL1:=h_ (hold_on HVL.out hk1 (fun b hb=>by rcases hb with rfl|rfl;exact HST.out.sh.aS;exact HST.out.sh.aM))
 clear HFL hs1 hk1
 go_wp2
 go_loopw [15,16,17,18] (fun iv _ _ _ wr=>∃(j:Nat) (xi:Int) (T:Mx) (ua:Option Addr) (un uk:Nat) (gs:List (Mx×Mx)) (cs:List Value),f≤j∧j≤t∧xi=(j:Int) - 1∧iv=.int .i64 xi∧BgSt A' w wr S M D w.heap.size N ms (kJ e N f j) (max q (keyK e N f t).length) T (.slice ua un uk) gs cs∧Rel ls ms g0 N (N - j) T gs∧Hold A' wr (fun W=>Y_ W (.slice va N vk) ls)) (fun iv _ _ _ _=>(intOf iv+1).toNat)
 case atStart=>exact ⟨t,xt - 1,T0,ua,un,uk,gs0,cs0,by have:=HO.out.1;omega,Nat.le_refl _,by rw[HX.out.2],rfl,by rw[kJ_in HO.out.1];exact HST1.out,HRL.out,HVL1.out⟩
 case round=>
  obtain ⟨j,xi,T,ua,un,uk,gs,cs,hfj,hjt,hxi,rfl,hst,hrl,hvl⟩:=hrel
  have HXI:=h_ hxi
  have HFJ:=h_ (And.intro hfj hjt)
  have hxi0:-1≤xi:=by omega
  have hxi1:xi≤11:=by have:=HX.out.2;omega
  by_cases hlt:xf≤xi
  ·obtain ⟨i,rfl⟩:∃i,j=i+1:=⟨j - 1,by have:=HX.out.1;omega⟩
   have hxi':xi=(i:Int):=by omega
   have hfi:f≤i:=by have:=HX.out.1;omega
   have hiN:i<N:=by have:=HO.out.2;omega
   obtain ⟨l,hl⟩:∃l,ls[i]?=some l:=⟨ls[i]'(by rw[HN.out];exact hiN),List.getElem?_eq_getElem _⟩
   rw[kJ_in (show f<i+1 by omega)]at hst
   obtain ⟨vm,m,hm,hvm,hlook⟩:=hst.sh.look (k:=i) (keyK_in hfi (Nat.lt_succ_self _))
   obtain ⟨y,hy⟩:=gN (backX l m T)
   obtain ⟨p,hp⟩:=gN (gradW l m T)
   obtain ⟨r,hr⟩:=gN (gradB l m T)
   obtain ⟨E,hE⟩:=gN (backE l m T)
   have HRS:=h_ (show E=0→Rel ls ms g0 N (N - i) y (gs.set i (p,r)) from fun h0=>by
    have h:=rel_step hrl (show N - (N - (i+1))=i+1 by omega) hl hm (hE.trans h0) hst.len
    rw[hy,hp,hr,show N - (i+1)+1=N - i by omega]at h
    exact h)
   have HRE:=h_ (show E≠0→bkE ls.reverse (ms.take N).reverse g0=E from fun h0=>by
    rw[←hE];exact rel_err hrl (show N - (N - (i+1))=i+1 by omega) hl hm (by rw[hE];exact h0))
   obtain ⟨lb,lo,lcap,sa,sn,sk,ta,tn,tk,ev,k0,k1,k2,k3,k4,k5,k6,hly⟩:=hvl.now.at hl
   injection ev with ev1 ev2 ev3
   clear ev2 ev3
   subst ev1
   obtain ⟨sx,rfl,hsx⟩:=hvm
   obtain ⟨xa,xn,xk,rfl⟩:=hsx.1.shape
   have hxn:xi.toNat=i:=by omega
   rw[←hxn]at k0 k1 k2 k3 k4 k5 k6
   have hlook':∀W:World,W.heap[M]?=wr.heap[M]?→(Instr.lookup 52 (.map (some M)) (.int .i64 xi) false).run Tryz.prog W=.ok ((.agg #[.int .i64 m.rows,.int .i64 m.cols,.slice xa xn xk])) W:=fun W hW=>by rw[hxi'];exact hlook W hW
   have HT:=h_ (fun W (h:Below wr.heap.size wr W)=>((lback_any (.agg #[.int .i64 l.k,.int .i64 l.w.rows,.int .i64 l.w.cols,.slice sa sn sk,.int .i64 l.b.rows,.int .i64 l.b.cols,.slice ta tn tk]) l m T (.agg #[.int .i64 m.rows,.int .i64 m.cols,.slice xa xn xk]) (.agg #[.int .i64 T.rows,.int .i64 T.cols,.slice ua un uk]) W (hly.u_ h) ⟨_,rfl,hsx.1.u_ h⟩ ⟨_,rfl,hst.prt.1.u_ h⟩).mono (R':=fun e wz=>∃ja jn jk pa pn pk qa qn qk,e=.returned (.tuple #[(.agg #[.int .i64 y.rows,.int .i64 y.cols,.slice ja jn jk]),(.agg #[.int .i64 p.rows,.int .i64 p.cols,.slice pa pn pk,.int .i64 r.rows,.int .i64 r.cols,.slice qa qn qk]),errV E])∧M_ wz (.agg #[.int .i64 y.rows,.int .i64 y.cols,.slice ja jn jk]) y∧I_ wz (.slice pa pn pk) p.cells∧I_ wz (.slice qa qn qk) r.cells∧Below W.heap.size W wz∧F_ W.heap.size (.agg #[.int .i64 y.rows,.int .i64 y.cols,.slice ja jn jk])∧F_ W.heap.size (.agg #[.int .i64 p.rows,.int .i64 p.cols,.slice pa pn pk])∧F_ W.heap.size (.agg #[.int .i64 r.rows,.int .i64 r.cols,.slice qa qn qk])) (by
    rw[hE,hy,hp,hr]
    rintro e wz ⟨v',d,rfl,⟨s',rfl,hs'⟩,⟨s1,s2,rfl,h1,h2⟩,hb,hf,hf2⟩
    obtain ⟨ja,jn,jk,rfl⟩:=hs'.shape
    obtain ⟨pa,pn,pk,rfl⟩:=h1.shape
    obtain ⟨qa,qn,qk,rfl⟩:=h2.shape
    exact ⟨ja,jn,jk,pa,pn,pk,qa,qn,qk,rfl,⟨_,rfl,hs'⟩,h1,h2,hb,hf,(hf2 _ _ _ _ _ _ _ _ _ _ rfl).1,(hf2 _ _ _ _ _ _ _ _ _ _ rfl).2⟩)))
   have HSB:Hid (∀W',Below wr.heap.size wr W'→(fun W'=>W'.cell? ⟨lb,lo+xi.toNat*7,none⟩=some (.int .i64 l.k)∧W'.cell? ⟨lb,lo+xi.toNat*7+1,none⟩=some (.int .i64 l.w.rows)∧W'.cell? ⟨lb,lo+xi.toNat*7+2,none⟩=some (.int .i64 l.w.cols)∧W'.cell? ⟨lb,lo+xi.toNat*7+3,none⟩=some (.slice sa sn sk)∧W'.cell? ⟨lb,lo+xi.toNat*7+4,none⟩=some (.int .i64 l.b.rows)∧W'.cell? ⟨lb,lo+xi.toNat*7+5,none⟩=some (.int .i64 l.b.cols)∧W'.cell? ⟨lb,lo+xi.toNat*7+6,none⟩=some (.slice ta tn tk)∧W'.cell? ⟨S,0,none⟩=some (.map (some M))∧W'.cell? ⟨w.heap.size,0,none⟩=some (.int .i64 T.rows)∧W'.cell? ⟨w.heap.size,1,none⟩=some (.int .i64 T.cols)∧W'.cell? ⟨w.heap.size,2,none⟩=some (.slice ua un uk)∧(Instr.lookup 52 (.map (some M)) (.int .i64 xi) false).run Tryz.prog W'=.ok ((.agg #[.int .i64 m.rows,.int .i64 m.cols,.slice xa xn xk])) W') W'):=h_ (fun W' h=>⟨c_ h k0,c_ h k1,c_ h k2,c_ h k3,c_ h k4,c_ h k5,c_ h k6,c_ h (hst.sh.st.cell (j:=0) rfl),c_ h (hst.cur.cell (j:=0) rfl),c_ h (hst.cur.cell (j:=1) rfl),c_ h (hst.cur.cell (j:=2) rfl),hlook' W' (h.block M hst.sh.ltM)⟩)
   have HBS:=h_ hst
   have HVR:=h_ hvl
   have HII:=h_ (And.intro hxi' (And.intro hfi (And.intro hiN hxn)))
   have hxiN:xi<(N:Int):=by omega
   have hxiz:0≤xi:=by omega
   clear hfj hjt hxi hst hrl hvl hl hm hsx hlook hlook' hly k0 k1 k2 k3 k4 k5 k6 hxn hxi' hfi hiN hy hp hr hE
   go_wp2_with fail
   have HT12z:=h_ (HT.out ((wr.alloc (.cells #[.int .i64 0,.int .i64 0,.slice none 0 0] 25)).alloc (.cells #[.int .i64 0,.int .i64 0,.slice none 0 0,.int .i64 0,.int .i64 0,.slice none 0 0] 65)).drew (d_ (a_ (a_ (Below.refl wr.heap.size wr)))))
   have HT21z:=h_ (HT.out ((wr.alloc (.cells #[.int .i64 0,.int .i64 0,.slice none 0 0,.int .i64 0,.int .i64 0,.slice none 0 0] 65)).alloc (.cells #[.int .i64 0,.int .i64 0,.slice none 0 0] 25)).drew (d_ (a_ (a_ (Below.refl wr.heap.size wr)))))
   have HT1z:=h_ (HT.out (wr.alloc (.cells #[.int .i64 0,.int .i64 0,.slice none 0 0] 25)).drew (d_ (a_ (Below.refl wr.heap.size wr))))
   have HT2z:=h_ (HT.out (wr.alloc (.cells #[.int .i64 0,.int .i64 0,.slice none 0 0,.int .i64 0,.int .i64 0,.slice none 0 0] 65)).drew (d_ (a_ (Below.refl wr.heap.size wr))))
   have HTz:=h_ (HT.out wr.drew (d_ (Below.refl wr.heap.size wr)))
   obtain ⟨lm0,lm1,lm2,lm3,lm4,lm5,lm6,lm7,lm8,lm9,lm10,lm11⟩:=HSB.out wr (Below.refl _ _)
   go_wp2
   go_cut [16,17,18] from 35 to 50 (fun a1 a2 ev wx=>∃(B1 B2:Nat) (ja:Option Addr) (jn jk:Nat) (pa:Option Addr) (pn pk:Nat) (qa:Option Addr) (qn qk:Nat),a1=.pointer (some ⟨B1,0,none⟩)∧a2=.pointer (some ⟨B2,0,none⟩)∧ev=errV E∧M_ wx (.agg #[.int .i64 y.rows,.int .i64 y.cols,.slice ja jn jk]) y∧I_ wx (.slice pa pn pk) p.cells∧I_ wx (.slice qa qn qk) r.cells∧Cells3 wx B1 (.int .i64 y.rows) (.int .i64 y.cols) (.slice ja jn jk)∧Cells6 wx B2 (.int .i64 p.rows) (.int .i64 p.cols) (.slice pa pn pk) (.int .i64 r.rows) (.int .i64 r.cols) (.slice qa qn qk)∧wr.heap.size≤B1∧wr.heap.size≤B2∧F_ wr.heap.size (.agg #[.int .i64 y.rows,.int .i64 y.cols,.slice ja jn jk])∧F_ wr.heap.size (.agg #[.int .i64 p.rows,.int .i64 p.cols,.slice pa pn pk])∧F_ wr.heap.size (.agg #[.int .i64 r.rows,.int .i64 r.cols,.slice qa qn qk])∧Below wr.heap.size wr wx)
   case first=>
    go_region_held3 (fun W'=>W'.cell? ⟨lb,lo+xi.toNat*7,none⟩=some (.int .i64 l.k)∧W'.cell? ⟨lb,lo+xi.toNat*7+1,none⟩=some (.int .i64 l.w.rows)∧W'.cell? ⟨lb,lo+xi.toNat*7+2,none⟩=some (.int .i64 l.w.cols)∧W'.cell? ⟨lb,lo+xi.toNat*7+3,none⟩=some (.slice sa sn sk)∧W'.cell? ⟨lb,lo+xi.toNat*7+4,none⟩=some (.int .i64 l.b.rows)∧W'.cell? ⟨lb,lo+xi.toNat*7+5,none⟩=some (.int .i64 l.b.cols)∧W'.cell? ⟨lb,lo+xi.toNat*7+6,none⟩=some (.slice ta tn tk)∧W'.cell? ⟨S,0,none⟩=some (.map (some M))∧W'.cell? ⟨w.heap.size,0,none⟩=some (.int .i64 T.rows)∧W'.cell? ⟨w.heap.size,1,none⟩=some (.int .i64 T.cols)∧W'.cell? ⟨w.heap.size,2,none⟩=some (.slice ua un uk)∧(Instr.lookup 52 (.map (some M)) (.int .i64 xi) false).run Tryz.prog W'=.ok ((.agg #[.int .i64 m.rows,.int .i64 m.cols,.slice xa xn xk])) W') ((refine HSB.out _ ?_;repeat' (first|with_reducible exact Below.refl _ _|with_reducible exact HB2.out|with_reducible refine d_ ?_|with_reducible refine a_ ?_|with_reducible refine t_ ?_ ?_|exact Nat.le_refl _|exact Nat.le_succ _|exact HB2.out.size|exact Nat.le_succ_of_le HB2.out.size)))
     (first
      |(go_at_call 50;guard_target=Calls _ _ _ (World.drew (World.alloc (World.alloc wr (Obj.cells #[_,_,_] _)) (Obj.cells #[_,_,_,_,_,_] _))) _;refine HT12z.out.mono ?_;intro e wz h;obtain ⟨ja,jn,jk,pa,pn,pk,qa,qn,qk,rfl,hm,hs1,hs2,hb2,hf,hf1,hf2⟩:=id h;have hc2:=b_ (r_ (Below.refl _ ((wr.alloc (.cells #[.int .i64 0,.int .i64 0,.slice none 0 0] 25)).alloc (.cells #[.int .i64 0,.int .i64 0,.slice none 0 0,.int .i64 0,.int .i64 0,.slice none 0 0] 65)))) hb2;have HB2:=h_ (show Below wr.heap.size wr wz from (b_ (o_ wr (.cells #[.int .i64 0,.int .i64 0,.slice none 0 0] 25)) (b_ (o_ (wr.alloc (.cells #[.int .i64 0,.int .i64 0,.slice none 0 0] 25)) (.cells #[.int .i64 0,.int .i64 0,.slice none 0 0,.int .i64 0,.int .i64 0,.slice none 0 0] 65)) hc2)));have ZB0:=h_ ((Box.new wr [.int .i64 0,.int .i64 0,.slice none 0 0] 25 (B:=wr.heap.size) rfl).u_ (b_ (o_ (wr.alloc (.cells #[.int .i64 0,.int .i64 0,.slice none 0 0] 25)) (.cells #[.int .i64 0,.int .i64 0,.slice none 0 0,.int .i64 0,.int .i64 0,.slice none 0 0] 65)) hc2));have ZL0:=h_ (Box.new wr [.int .i64 0,.int .i64 0,.slice none 0 0] 25 (B:=wr.heap.size) rfl).lt;have ZF0:=h_ ((Free.new wr #[.int .i64 0,.int .i64 0,.slice none 0 0] 25 (B:=wr.heap.size) rfl).u_ (b_ (o_ (wr.alloc (.cells #[.int .i64 0,.int .i64 0,.slice none 0 0] 25)) (.cells #[.int .i64 0,.int .i64 0,.slice none 0 0,.int .i64 0,.int .i64 0,.slice none 0 0] 65)) hc2) ZL0.out);obtain ⟨z00,z01,z02⟩:=ZB0.out.c3;obtain ⟨f00,f01,f02⟩:=ZF0.out.f3;have lt0:=ZB0.out.lt;have ne0:¬wr.heap.size=wz.heap.size:=Nat.ne_of_lt lt0;have en0:¬wz.heap.size=wr.heap.size:=(Nat.ne_of_lt lt0).symm;have ZB1:=h_ ((Box.new (wr.alloc (.cells #[.int .i64 0,.int .i64 0,.slice none 0 0] 25)) [.int .i64 0,.int .i64 0,.slice none 0 0,.int .i64 0,.int .i64 0,.slice none 0 0] 65 (B:=wr.heap.size+1) (World.size_alloc _ _)).u_ hc2);have ZL1:=h_ (Box.new (wr.alloc (.cells #[.int .i64 0,.int .i64 0,.slice none 0 0] 25)) [.int .i64 0,.int .i64 0,.slice none 0 0,.int .i64 0,.int .i64 0,.slice none 0 0] 65 (B:=wr.heap.size+1) (World.size_alloc _ _)).lt;have ZF1:=h_ ((Free.new (wr.alloc (.cells #[.int .i64 0,.int .i64 0,.slice none 0 0] 25)) #[.int .i64 0,.int .i64 0,.slice none 0 0,.int .i64 0,.int .i64 0,.slice none 0 0] 65 (B:=wr.heap.size+1) (World.size_alloc _ _)).u_ hc2 ZL1.out);obtain ⟨z10,z11,z12,z13,z14,z15⟩:=ZB1.out.c6;obtain ⟨f10,f11,f12,f13,f14,f15⟩:=ZF1.out.f6;have lt1:=ZB1.out.lt;have ne1:¬wr.heap.size+1=wz.heap.size:=Nat.ne_of_lt lt1;have en1:¬wz.heap.size=wr.heap.size+1:=(Nat.ne_of_lt lt1).symm;have sz10:=s_ z10 (B:=wr.heap.size) (Nat.succ_ne_self _) (.int .i64 y.rows) (.int .i64 y.cols) (.slice ja jn jk);have sz11:=s_ z11 (B:=wr.heap.size) (Nat.succ_ne_self _) (.int .i64 y.rows) (.int .i64 y.cols) (.slice ja jn jk);have sz12:=s_ z12 (B:=wr.heap.size) (Nat.succ_ne_self _) (.int .i64 y.rows) (.int .i64 y.cols) (.slice ja jn jk);have sz13:=s_ z13 (B:=wr.heap.size) (Nat.succ_ne_self _) (.int .i64 y.rows) (.int .i64 y.cols) (.slice ja jn jk);have sz14:=s_ z14 (B:=wr.heap.size) (Nat.succ_ne_self _) (.int .i64 y.rows) (.int .i64 y.cols) (.slice ja jn jk);have sz15:=s_ z15 (B:=wr.heap.size) (Nat.succ_ne_self _) (.int .i64 y.rows) (.int .i64 y.cols) (.slice ja jn jk);have ne9:¬wr.heap.size=wr.heap.size+1:=(Nat.succ_ne_self _).symm;have ne8:¬wr.heap.size+1=wr.heap.size:=Nat.succ_ne_self _;have HN0:=h_ (show M_ wz (.agg #[.int .i64 y.rows,.int .i64 y.cols,.slice ja jn jk]) y from hm);have HF0:=h_ (show F_ (wr.heap.size+2) (.agg #[.int .i64 y.rows,.int .i64 y.cols,.slice ja jn jk]) from f_ hf (szd2 _ _ _));have HG0:=h_ (f_ HF0.out (show wr.heap.size≤wr.heap.size+2 by omega));have HN1:=h_ (show I_ wz (.slice pa pn pk) p.cells from hs1);have HF1:=h_ (show F_ (wr.heap.size+2) (.agg #[.int .i64 p.rows,.int .i64 p.cols,.slice pa pn pk]) from f_ hf1 (szd2 _ _ _));have HG1:=h_ (f_ HF1.out (show wr.heap.size≤wr.heap.size+2 by omega));have HN2:=h_ (show I_ wz (.slice qa qn qk) r.cells from hs2);have HF2:=h_ (show F_ (wr.heap.size+2) (.agg #[.int .i64 r.rows,.int .i64 r.cols,.slice qa qn qk]) from f_ hf2 (szd2 _ _ _));have HG2:=h_ (f_ HF2.out (show wr.heap.size≤wr.heap.size+2 by omega));have HE0:Hid ((Cells3 (((((((((wz.setCell ⟨wr.heap.size,0,none⟩ (.int .i64 y.rows)).setCell ⟨wr.heap.size,1,none⟩ (.int .i64 y.cols)).setCell ⟨wr.heap.size,2,none⟩ (.slice ja jn jk)).setCell ⟨wr.heap.size+1,0,none⟩ (.int .i64 p.rows)).setCell ⟨wr.heap.size+1,1,none⟩ (.int .i64 p.cols)).setCell ⟨wr.heap.size+1,2,none⟩ (.slice pa pn pk)).setCell ⟨wr.heap.size+1,3,none⟩ (.int .i64 r.rows)).setCell ⟨wr.heap.size+1,4,none⟩ (.int .i64 r.cols)).setCell ⟨wr.heap.size+1,5,none⟩ (.slice qa qn qk)) (wr.heap.size) (.int .i64 y.rows) (.int .i64 y.cols) (.slice ja jn jk))∧(Cells6 (((((((((wz.setCell ⟨wr.heap.size,0,none⟩ (.int .i64 y.rows)).setCell ⟨wr.heap.size,1,none⟩ (.int .i64 y.cols)).setCell ⟨wr.heap.size,2,none⟩ (.slice ja jn jk)).setCell ⟨wr.heap.size+1,0,none⟩ (.int .i64 p.rows)).setCell ⟨wr.heap.size+1,1,none⟩ (.int .i64 p.cols)).setCell ⟨wr.heap.size+1,2,none⟩ (.slice pa pn pk)).setCell ⟨wr.heap.size+1,3,none⟩ (.int .i64 r.rows)).setCell ⟨wr.heap.size+1,4,none⟩ (.int .i64 r.cols)).setCell ⟨wr.heap.size+1,5,none⟩ (.slice qa qn qk)) (wr.heap.size+1) (.int .i64 p.rows) (.int .i64 p.cols) (.slice pa pn pk) (.int .i64 r.rows) (.int .i64 r.cols) (.slice qa qn qk))):=h_ ⟨(c__ (box_set6 (set_three ZB0.out _ _ _) ((Nat.succ_ne_self _).symm) _ _ _ _ _ _)),(cells6_of (set_six (box_set3 ZB1.out (Nat.succ_ne_self _) _ _ _) _ _ _ _ _ _))⟩;have HE1:Hid ((Cells3 (((((((((wz.setCell ⟨wr.heap.size,0,none⟩ (.int .i64 y.rows)).setCell ⟨wr.heap.size,1,none⟩ (.int .i64 y.cols)).setCell ⟨wr.heap.size,2,none⟩ (.slice ja jn jk)).setCell ⟨wr.heap.size+1,0,none⟩ (.int .i64 p.rows)).setCell ⟨wr.heap.size+1,1,none⟩ (.int .i64 p.cols)).setCell ⟨wr.heap.size+1,2,none⟩ (.slice pa pn pk)).setCell ⟨wr.heap.size+1,3,none⟩ (.int .i64 r.rows)).setCell ⟨wr.heap.size+1,4,none⟩ (.int .i64 r.cols)).setCell ⟨wr.heap.size+1,5,none⟩ (.slice qa qn qk)) (wr.heap.size) (.int .i64 y.rows) (.int .i64 y.cols) (.slice ja jn jk))∧(Cells6 (((((((((wz.setCell ⟨wr.heap.size,0,none⟩ (.int .i64 y.rows)).setCell ⟨wr.heap.size,1,none⟩ (.int .i64 y.cols)).setCell ⟨wr.heap.size,2,none⟩ (.slice ja jn jk)).setCell ⟨wr.heap.size+1,0,none⟩ (.int .i64 p.rows)).setCell ⟨wr.heap.size+1,1,none⟩ (.int .i64 p.cols)).setCell ⟨wr.heap.size+1,2,none⟩ (.slice pa pn pk)).setCell ⟨wr.heap.size+1,3,none⟩ (.int .i64 r.rows)).setCell ⟨wr.heap.size+1,4,none⟩ (.int .i64 r.cols)).setCell ⟨wr.heap.size+1,5,none⟩ (.slice qa qn qk)) (wr.heap.size+1) (.int .i64 p.rows) (.int .i64 p.cols) (.slice pa pn pk) (.int .i64 r.rows) (.int .i64 r.cols) (.slice qa qn qk))):=h_ ⟨(c__ (box_set6 (set_three ZB0.out _ _ _) ((Nat.succ_ne_self _).symm) _ _ _ _ _ _)),(cells6_of (set_six (box_set3 ZB1.out (Nat.succ_ne_self _) _ _ _) _ _ _ _ _ _))⟩;have HQ1:=h_ (Nat.le_refl wr.heap.size);have HQ2:=h_ (Nat.le_succ wr.heap.size);have HQ3:=h_ HB2.out.size;have HQ4:=h_ (Nat.le_succ_of_le HB2.out.size);clear h hb2 hc2 hf hf1 hf2 hm hs1 hs2)
      |(go_at_call 50;guard_target=Calls _ _ _ (World.drew (World.alloc (World.alloc wr (Obj.cells #[_,_,_,_,_,_] _)) (Obj.cells #[_,_,_] _))) _;refine HT21z.out.mono ?_;intro e wz h;obtain ⟨ja,jn,jk,pa,pn,pk,qa,qn,qk,rfl,hm,hs1,hs2,hb2,hf,hf1,hf2⟩:=id h;have hc2:=b_ (r_ (Below.refl _ ((wr.alloc (.cells #[.int .i64 0,.int .i64 0,.slice none 0 0,.int .i64 0,.int .i64 0,.slice none 0 0] 65)).alloc (.cells #[.int .i64 0,.int .i64 0,.slice none 0 0] 25)))) hb2;have HB2:=h_ (show Below wr.heap.size wr wz from (b_ (o_ wr (.cells #[.int .i64 0,.int .i64 0,.slice none 0 0,.int .i64 0,.int .i64 0,.slice none 0 0] 65)) (b_ (o_ (wr.alloc (.cells #[.int .i64 0,.int .i64 0,.slice none 0 0,.int .i64 0,.int .i64 0,.slice none 0 0] 65)) (.cells #[.int .i64 0,.int .i64 0,.slice none 0 0] 25)) hc2)));have ZB0:=h_ ((Box.new wr [.int .i64 0,.int .i64 0,.slice none 0 0,.int .i64 0,.int .i64 0,.slice none 0 0] 65 (B:=wr.heap.size) rfl).u_ (b_ (o_ (wr.alloc (.cells #[.int .i64 0,.int .i64 0,.slice none 0 0,.int .i64 0,.int .i64 0,.slice none 0 0] 65)) (.cells #[.int .i64 0,.int .i64 0,.slice none 0 0] 25)) hc2));have ZL0:=h_ (Box.new wr [.int .i64 0,.int .i64 0,.slice none 0 0,.int .i64 0,.int .i64 0,.slice none 0 0] 65 (B:=wr.heap.size) rfl).lt;have ZF0:=h_ ((Free.new wr #[.int .i64 0,.int .i64 0,.slice none 0 0,.int .i64 0,.int .i64 0,.slice none 0 0] 65 (B:=wr.heap.size) rfl).u_ (b_ (o_ (wr.alloc (.cells #[.int .i64 0,.int .i64 0,.slice none 0 0,.int .i64 0,.int .i64 0,.slice none 0 0] 65)) (.cells #[.int .i64 0,.int .i64 0,.slice none 0 0] 25)) hc2) ZL0.out);obtain ⟨z00,z01,z02,z03,z04,z05⟩:=ZB0.out.c6;obtain ⟨f00,f01,f02,f03,f04,f05⟩:=ZF0.out.f6;have lt0:=ZB0.out.lt;have ne0:¬wr.heap.size=wz.heap.size:=Nat.ne_of_lt lt0;have en0:¬wz.heap.size=wr.heap.size:=(Nat.ne_of_lt lt0).symm;have ZB1:=h_ ((Box.new (wr.alloc (.cells #[.int .i64 0,.int .i64 0,.slice none 0 0,.int .i64 0,.int .i64 0,.slice none 0 0] 65)) [.int .i64 0,.int .i64 0,.slice none 0 0] 25 (B:=wr.heap.size+1) (World.size_alloc _ _)).u_ hc2);have ZL1:=h_ (Box.new (wr.alloc (.cells #[.int .i64 0,.int .i64 0,.slice none 0 0,.int .i64 0,.int .i64 0,.slice none 0 0] 65)) [.int .i64 0,.int .i64 0,.slice none 0 0] 25 (B:=wr.heap.size+1) (World.size_alloc _ _)).lt;have ZF1:=h_ ((Free.new (wr.alloc (.cells #[.int .i64 0,.int .i64 0,.slice none 0 0,.int .i64 0,.int .i64 0,.slice none 0 0] 65)) #[.int .i64 0,.int .i64 0,.slice none 0 0] 25 (B:=wr.heap.size+1) (World.size_alloc _ _)).u_ hc2 ZL1.out);obtain ⟨z10,z11,z12⟩:=ZB1.out.c3;obtain ⟨f10,f11,f12⟩:=ZF1.out.f3;have lt1:=ZB1.out.lt;have ne1:¬wr.heap.size+1=wz.heap.size:=Nat.ne_of_lt lt1;have en1:¬wz.heap.size=wr.heap.size+1:=(Nat.ne_of_lt lt1).symm;have sz00:=s_ z00 (B:=wr.heap.size+1) ((Nat.succ_ne_self _).symm) (.int .i64 y.rows) (.int .i64 y.cols) (.slice ja jn jk);have sz01:=s_ z01 (B:=wr.heap.size+1) ((Nat.succ_ne_self _).symm) (.int .i64 y.rows) (.int .i64 y.cols) (.slice ja jn jk);have sz02:=s_ z02 (B:=wr.heap.size+1) ((Nat.succ_ne_self _).symm) (.int .i64 y.rows) (.int .i64 y.cols) (.slice ja jn jk);have sz03:=s_ z03 (B:=wr.heap.size+1) ((Nat.succ_ne_self _).symm) (.int .i64 y.rows) (.int .i64 y.cols) (.slice ja jn jk);have sz04:=s_ z04 (B:=wr.heap.size+1) ((Nat.succ_ne_self _).symm) (.int .i64 y.rows) (.int .i64 y.cols) (.slice ja jn jk);have sz05:=s_ z05 (B:=wr.heap.size+1) ((Nat.succ_ne_self _).symm) (.int .i64 y.rows) (.int .i64 y.cols) (.slice ja jn jk);have ne9:¬wr.heap.size=wr.heap.size+1:=(Nat.succ_ne_self _).symm;have ne8:¬wr.heap.size+1=wr.heap.size:=Nat.succ_ne_self _;have HN0:=h_ (show M_ wz (.agg #[.int .i64 y.rows,.int .i64 y.cols,.slice ja jn jk]) y from hm);have HF0:=h_ (show F_ (wr.heap.size+2) (.agg #[.int .i64 y.rows,.int .i64 y.cols,.slice ja jn jk]) from f_ hf (szd2 _ _ _));have HG0:=h_ (f_ HF0.out (show wr.heap.size≤wr.heap.size+2 by omega));have HN1:=h_ (show I_ wz (.slice pa pn pk) p.cells from hs1);have HF1:=h_ (show F_ (wr.heap.size+2) (.agg #[.int .i64 p.rows,.int .i64 p.cols,.slice pa pn pk]) from f_ hf1 (szd2 _ _ _));have HG1:=h_ (f_ HF1.out (show wr.heap.size≤wr.heap.size+2 by omega));have HN2:=h_ (show I_ wz (.slice qa qn qk) r.cells from hs2);have HF2:=h_ (show F_ (wr.heap.size+2) (.agg #[.int .i64 r.rows,.int .i64 r.cols,.slice qa qn qk]) from f_ hf2 (szd2 _ _ _));have HG2:=h_ (f_ HF2.out (show wr.heap.size≤wr.heap.size+2 by omega));have HE0:Hid ((Cells3 (((((((((wz.setCell ⟨wr.heap.size+1,0,none⟩ (.int .i64 y.rows)).setCell ⟨wr.heap.size+1,1,none⟩ (.int .i64 y.cols)).setCell ⟨wr.heap.size+1,2,none⟩ (.slice ja jn jk)).setCell ⟨wr.heap.size,0,none⟩ (.int .i64 p.rows)).setCell ⟨wr.heap.size,1,none⟩ (.int .i64 p.cols)).setCell ⟨wr.heap.size,2,none⟩ (.slice pa pn pk)).setCell ⟨wr.heap.size,3,none⟩ (.int .i64 r.rows)).setCell ⟨wr.heap.size,4,none⟩ (.int .i64 r.cols)).setCell ⟨wr.heap.size,5,none⟩ (.slice qa qn qk)) (wr.heap.size+1) (.int .i64 y.rows) (.int .i64 y.cols) (.slice ja jn jk))∧(Cells6 (((((((((wz.setCell ⟨wr.heap.size+1,0,none⟩ (.int .i64 y.rows)).setCell ⟨wr.heap.size+1,1,none⟩ (.int .i64 y.cols)).setCell ⟨wr.heap.size+1,2,none⟩ (.slice ja jn jk)).setCell ⟨wr.heap.size,0,none⟩ (.int .i64 p.rows)).setCell ⟨wr.heap.size,1,none⟩ (.int .i64 p.cols)).setCell ⟨wr.heap.size,2,none⟩ (.slice pa pn pk)).setCell ⟨wr.heap.size,3,none⟩ (.int .i64 r.rows)).setCell ⟨wr.heap.size,4,none⟩ (.int .i64 r.cols)).setCell ⟨wr.heap.size,5,none⟩ (.slice qa qn qk)) (wr.heap.size) (.int .i64 p.rows) (.int .i64 p.cols) (.slice pa pn pk) (.int .i64 r.rows) (.int .i64 r.cols) (.slice qa qn qk))):=h_ ⟨(c__ (box_set6 (set_three ZB1.out _ _ _) (Nat.succ_ne_self _) _ _ _ _ _ _)),(cells6_of (set_six (box_set3 ZB0.out ((Nat.succ_ne_self _).symm) _ _ _) _ _ _ _ _ _))⟩;have HE1:Hid ((Cells3 (((((((((wz.setCell ⟨wr.heap.size+1,0,none⟩ (.int .i64 y.rows)).setCell ⟨wr.heap.size+1,1,none⟩ (.int .i64 y.cols)).setCell ⟨wr.heap.size+1,2,none⟩ (.slice ja jn jk)).setCell ⟨wr.heap.size,0,none⟩ (.int .i64 p.rows)).setCell ⟨wr.heap.size,1,none⟩ (.int .i64 p.cols)).setCell ⟨wr.heap.size,2,none⟩ (.slice pa pn pk)).setCell ⟨wr.heap.size,3,none⟩ (.int .i64 r.rows)).setCell ⟨wr.heap.size,4,none⟩ (.int .i64 r.cols)).setCell ⟨wr.heap.size,5,none⟩ (.slice qa qn qk)) (wr.heap.size+1) (.int .i64 y.rows) (.int .i64 y.cols) (.slice ja jn jk))∧(Cells6 (((((((((wz.setCell ⟨wr.heap.size+1,0,none⟩ (.int .i64 y.rows)).setCell ⟨wr.heap.size+1,1,none⟩ (.int .i64 y.cols)).setCell ⟨wr.heap.size+1,2,none⟩ (.slice ja jn jk)).setCell ⟨wr.heap.size,0,none⟩ (.int .i64 p.rows)).setCell ⟨wr.heap.size,1,none⟩ (.int .i64 p.cols)).setCell ⟨wr.heap.size,2,none⟩ (.slice pa pn pk)).setCell ⟨wr.heap.size,3,none⟩ (.int .i64 r.rows)).setCell ⟨wr.heap.size,4,none⟩ (.int .i64 r.cols)).setCell ⟨wr.heap.size,5,none⟩ (.slice qa qn qk)) (wr.heap.size) (.int .i64 p.rows) (.int .i64 p.cols) (.slice pa pn pk) (.int .i64 r.rows) (.int .i64 r.cols) (.slice qa qn qk))):=h_ ⟨(c__ (box_set6 (set_three ZB1.out _ _ _) (Nat.succ_ne_self _) _ _ _ _ _ _)),(cells6_of (set_six (box_set3 ZB0.out ((Nat.succ_ne_self _).symm) _ _ _) _ _ _ _ _ _))⟩;have HQ1:=h_ (Nat.le_refl wr.heap.size);have HQ2:=h_ (Nat.le_succ wr.heap.size);have HQ3:=h_ HB2.out.size;have HQ4:=h_ (Nat.le_succ_of_le HB2.out.size);clear h hb2 hc2 hf hf1 hf2 hm hs1 hs2)
      |(go_at_call 50;guard_target=Calls _ _ _ (World.drew (World.alloc wr (Obj.cells #[_,_,_] _))) _;refine HT1z.out.mono ?_;intro e wz h;obtain ⟨ja,jn,jk,pa,pn,pk,qa,qn,qk,rfl,hm,hs1,hs2,hb2,hf,hf1,hf2⟩:=id h;have hc2:=b_ (r_ (Below.refl _ (wr.alloc (.cells #[.int .i64 0,.int .i64 0,.slice none 0 0] 25)))) hb2;have HB2:=h_ (show Below wr.heap.size wr wz from (b_ (o_ wr (.cells #[.int .i64 0,.int .i64 0,.slice none 0 0] 25)) hc2));have ZB0:=h_ ((Box.new wr [.int .i64 0,.int .i64 0,.slice none 0 0] 25 (B:=wr.heap.size) rfl).u_ hc2);have ZL0:=h_ (Box.new wr [.int .i64 0,.int .i64 0,.slice none 0 0] 25 (B:=wr.heap.size) rfl).lt;have ZF0:=h_ ((Free.new wr #[.int .i64 0,.int .i64 0,.slice none 0 0] 25 (B:=wr.heap.size) rfl).u_ hc2 ZL0.out);obtain ⟨z00,z01,z02⟩:=ZB0.out.c3;obtain ⟨f00,f01,f02⟩:=ZF0.out.f3;have lt0:=ZB0.out.lt;have ne0:¬wr.heap.size=wz.heap.size:=Nat.ne_of_lt lt0;have en0:¬wz.heap.size=wr.heap.size:=(Nat.ne_of_lt lt0).symm;have yz0:=fun o=>p_ z00 o;have yf0:=fun o=>(World.frozen?_alloc_old wz o ⟨wr.heap.size,0,none⟩ ne0).trans f00;have yz1:=fun o=>p_ z01 o;have yf1:=fun o=>(World.frozen?_alloc_old wz o ⟨wr.heap.size,1,none⟩ ne0).trans f01;have yz2:=fun o=>p_ z02 o;have yf2:=fun o=>(World.frozen?_alloc_old wz o ⟨wr.heap.size,2,none⟩ ne0).trans f02;have HN0:=h_ (show M_ wz (.agg #[.int .i64 y.rows,.int .i64 y.cols,.slice ja jn jk]) y from hm);have HF0:=h_ (show F_ (wr.heap.size+1) (.agg #[.int .i64 y.rows,.int .i64 y.cols,.slice ja jn jk]) from f_ hf (szd1 _ _));have HG0:=h_ (f_ HF0.out (show wr.heap.size≤wr.heap.size+1 by omega));have HN1:=h_ (show I_ wz (.slice pa pn pk) p.cells from hs1);have HF1:=h_ (show F_ (wr.heap.size+1) (.agg #[.int .i64 p.rows,.int .i64 p.cols,.slice pa pn pk]) from f_ hf1 (szd1 _ _));have HG1:=h_ (f_ HF1.out (show wr.heap.size≤wr.heap.size+1 by omega));have HN2:=h_ (show I_ wz (.slice qa qn qk) r.cells from hs2);have HF2:=h_ (show F_ (wr.heap.size+1) (.agg #[.int .i64 r.rows,.int .i64 r.cols,.slice qa qn qk]) from f_ hf2 (szd1 _ _));have HG2:=h_ (f_ HF2.out (show wr.heap.size≤wr.heap.size+1 by omega));have HE0:Hid ((Cells3 ((((wz.setCell ⟨wr.heap.size,0,none⟩ (.int .i64 y.rows)).setCell ⟨wr.heap.size,1,none⟩ (.int .i64 y.cols)).setCell ⟨wr.heap.size,2,none⟩ (.slice ja jn jk)).alloc (.cells #[.int .i64 p.rows,.int .i64 p.cols,.slice pa pn pk,.int .i64 r.rows,.int .i64 r.cols,.slice qa qn qk] 65)) (wr.heap.size) (.int .i64 y.rows) (.int .i64 y.cols) (.slice ja jn jk))∧(Cells6 ((((wz.setCell ⟨wr.heap.size,0,none⟩ (.int .i64 y.rows)).setCell ⟨wr.heap.size,1,none⟩ (.int .i64 y.cols)).setCell ⟨wr.heap.size,2,none⟩ (.slice ja jn jk)).alloc (.cells #[.int .i64 p.rows,.int .i64 p.cols,.slice pa pn pk,.int .i64 r.rows,.int .i64 r.cols,.slice qa qn qk] 65)) (wz.heap.size) (.int .i64 p.rows) (.int .i64 p.cols) (.slice pa pn pk) (.int .i64 r.rows) (.int .i64 r.cols) (.slice qa qn qk))):=h_ ⟨(c__ ((set_three ZB0.out _ _ _).u_ (o_ _ _))),(cells6_of (Box.new (((wz.setCell ⟨wr.heap.size,0,none⟩ (.int .i64 y.rows)).setCell ⟨wr.heap.size,1,none⟩ (.int .i64 y.cols)).setCell ⟨wr.heap.size,2,none⟩ (.slice ja jn jk)) [.int .i64 p.rows,.int .i64 p.cols,.slice pa pn pk,.int .i64 r.rows,.int .i64 r.cols,.slice qa qn qk] 65 (size_set3 _ _ _ _ _)))⟩;have HE1:Hid ((Cells3 ((((wz.setCell ⟨wr.heap.size,0,none⟩ (.int .i64 y.rows)).setCell ⟨wr.heap.size,1,none⟩ (.int .i64 y.cols)).setCell ⟨wr.heap.size,2,none⟩ (.slice ja jn jk)).alloc (.cells #[.int .i64 p.rows,.int .i64 p.cols,.slice pa pn pk,.int .i64 r.rows,.int .i64 r.cols,.slice qa qn qk] 65)) (wr.heap.size) (.int .i64 y.rows) (.int .i64 y.cols) (.slice ja jn jk))∧(Cells6 ((((wz.setCell ⟨wr.heap.size,0,none⟩ (.int .i64 y.rows)).setCell ⟨wr.heap.size,1,none⟩ (.int .i64 y.cols)).setCell ⟨wr.heap.size,2,none⟩ (.slice ja jn jk)).alloc (.cells #[.int .i64 p.rows,.int .i64 p.cols,.slice pa pn pk,.int .i64 r.rows,.int .i64 r.cols,.slice qa qn qk] 65)) (wz.heap.size) (.int .i64 p.rows) (.int .i64 p.cols) (.slice pa pn pk) (.int .i64 r.rows) (.int .i64 r.cols) (.slice qa qn qk))):=h_ ⟨(c__ ((set_three ZB0.out _ _ _).u_ (o_ _ _))),(cells6_of (Box.new (((wz.setCell ⟨wr.heap.size,0,none⟩ (.int .i64 y.rows)).setCell ⟨wr.heap.size,1,none⟩ (.int .i64 y.cols)).setCell ⟨wr.heap.size,2,none⟩ (.slice ja jn jk)) [.int .i64 p.rows,.int .i64 p.cols,.slice pa pn pk,.int .i64 r.rows,.int .i64 r.cols,.slice qa qn qk] 65 (size_set3 _ _ _ _ _)))⟩;have HQ1:=h_ (Nat.le_refl wr.heap.size);have HQ2:=h_ (Nat.le_succ wr.heap.size);have HQ3:=h_ HB2.out.size;have HQ4:=h_ (Nat.le_succ_of_le HB2.out.size);clear h hb2 hc2 hf hf1 hf2 hm hs1 hs2)
      |(go_at_call 50;guard_target=Calls _ _ _ (World.drew (World.alloc wr (Obj.cells #[_,_,_,_,_,_] _))) _;refine HT2z.out.mono ?_;intro e wz h;obtain ⟨ja,jn,jk,pa,pn,pk,qa,qn,qk,rfl,hm,hs1,hs2,hb2,hf,hf1,hf2⟩:=id h;have hc2:=b_ (r_ (Below.refl _ (wr.alloc (.cells #[.int .i64 0,.int .i64 0,.slice none 0 0,.int .i64 0,.int .i64 0,.slice none 0 0] 65)))) hb2;have HB2:=h_ (show Below wr.heap.size wr wz from (b_ (o_ wr (.cells #[.int .i64 0,.int .i64 0,.slice none 0 0,.int .i64 0,.int .i64 0,.slice none 0 0] 65)) hc2));have ZB0:=h_ ((Box.new wr [.int .i64 0,.int .i64 0,.slice none 0 0,.int .i64 0,.int .i64 0,.slice none 0 0] 65 (B:=wr.heap.size) rfl).u_ hc2);have ZL0:=h_ (Box.new wr [.int .i64 0,.int .i64 0,.slice none 0 0,.int .i64 0,.int .i64 0,.slice none 0 0] 65 (B:=wr.heap.size) rfl).lt;have ZF0:=h_ ((Free.new wr #[.int .i64 0,.int .i64 0,.slice none 0 0,.int .i64 0,.int .i64 0,.slice none 0 0] 65 (B:=wr.heap.size) rfl).u_ hc2 ZL0.out);obtain ⟨z00,z01,z02,z03,z04,z05⟩:=ZB0.out.c6;obtain ⟨f00,f01,f02,f03,f04,f05⟩:=ZF0.out.f6;have lt0:=ZB0.out.lt;have ne0:¬wr.heap.size=wz.heap.size:=Nat.ne_of_lt lt0;have en0:¬wz.heap.size=wr.heap.size:=(Nat.ne_of_lt lt0).symm;have yz0:=fun o=>p_ z00 o;have yf0:=fun o=>(World.frozen?_alloc_old wz o ⟨wr.heap.size,0,none⟩ ne0).trans f00;have yz1:=fun o=>p_ z01 o;have yf1:=fun o=>(World.frozen?_alloc_old wz o ⟨wr.heap.size,1,none⟩ ne0).trans f01;have yz2:=fun o=>p_ z02 o;have yf2:=fun o=>(World.frozen?_alloc_old wz o ⟨wr.heap.size,2,none⟩ ne0).trans f02;have yz3:=fun o=>p_ z03 o;have yf3:=fun o=>(World.frozen?_alloc_old wz o ⟨wr.heap.size,3,none⟩ ne0).trans f03;have yz4:=fun o=>p_ z04 o;have yf4:=fun o=>(World.frozen?_alloc_old wz o ⟨wr.heap.size,4,none⟩ ne0).trans f04;have yz5:=fun o=>p_ z05 o;have yf5:=fun o=>(World.frozen?_alloc_old wz o ⟨wr.heap.size,5,none⟩ ne0).trans f05;have HN0:=h_ (show M_ wz (.agg #[.int .i64 y.rows,.int .i64 y.cols,.slice ja jn jk]) y from hm);have HF0:=h_ (show F_ (wr.heap.size+1) (.agg #[.int .i64 y.rows,.int .i64 y.cols,.slice ja jn jk]) from f_ hf (szd1 _ _));have HG0:=h_ (f_ HF0.out (show wr.heap.size≤wr.heap.size+1 by omega));have HN1:=h_ (show I_ wz (.slice pa pn pk) p.cells from hs1);have HF1:=h_ (show F_ (wr.heap.size+1) (.agg #[.int .i64 p.rows,.int .i64 p.cols,.slice pa pn pk]) from f_ hf1 (szd1 _ _));have HG1:=h_ (f_ HF1.out (show wr.heap.size≤wr.heap.size+1 by omega));have HN2:=h_ (show I_ wz (.slice qa qn qk) r.cells from hs2);have HF2:=h_ (show F_ (wr.heap.size+1) (.agg #[.int .i64 r.rows,.int .i64 r.cols,.slice qa qn qk]) from f_ hf2 (szd1 _ _));have HG2:=h_ (f_ HF2.out (show wr.heap.size≤wr.heap.size+1 by omega));have HE0:Hid ((Cells3 (((((((wz.setCell ⟨wr.heap.size,0,none⟩ (.int .i64 p.rows)).setCell ⟨wr.heap.size,1,none⟩ (.int .i64 p.cols)).setCell ⟨wr.heap.size,2,none⟩ (.slice pa pn pk)).setCell ⟨wr.heap.size,3,none⟩ (.int .i64 r.rows)).setCell ⟨wr.heap.size,4,none⟩ (.int .i64 r.cols)).setCell ⟨wr.heap.size,5,none⟩ (.slice qa qn qk)).alloc (.cells #[.int .i64 y.rows,.int .i64 y.cols,.slice ja jn jk] 25)) (wz.heap.size) (.int .i64 y.rows) (.int .i64 y.cols) (.slice ja jn jk))∧(Cells6 (((((((wz.setCell ⟨wr.heap.size,0,none⟩ (.int .i64 p.rows)).setCell ⟨wr.heap.size,1,none⟩ (.int .i64 p.cols)).setCell ⟨wr.heap.size,2,none⟩ (.slice pa pn pk)).setCell ⟨wr.heap.size,3,none⟩ (.int .i64 r.rows)).setCell ⟨wr.heap.size,4,none⟩ (.int .i64 r.cols)).setCell ⟨wr.heap.size,5,none⟩ (.slice qa qn qk)).alloc (.cells #[.int .i64 y.rows,.int .i64 y.cols,.slice ja jn jk] 25)) (wr.heap.size) (.int .i64 p.rows) (.int .i64 p.cols) (.slice pa pn pk) (.int .i64 r.rows) (.int .i64 r.cols) (.slice qa qn qk))):=h_ ⟨(c__ (Box.new ((((((wz.setCell ⟨wr.heap.size,0,none⟩ (.int .i64 p.rows)).setCell ⟨wr.heap.size,1,none⟩ (.int .i64 p.cols)).setCell ⟨wr.heap.size,2,none⟩ (.slice pa pn pk)).setCell ⟨wr.heap.size,3,none⟩ (.int .i64 r.rows)).setCell ⟨wr.heap.size,4,none⟩ (.int .i64 r.cols)).setCell ⟨wr.heap.size,5,none⟩ (.slice qa qn qk)) [.int .i64 y.rows,.int .i64 y.cols,.slice ja jn jk] 25 (size_set6 _ _ _ _ _ _ _ _))),(cells6_of ((set_six ZB0.out _ _ _ _ _ _).u_ (o_ _ _)))⟩;have HE1:Hid ((Cells3 (((((((wz.setCell ⟨wr.heap.size,0,none⟩ (.int .i64 p.rows)).setCell ⟨wr.heap.size,1,none⟩ (.int .i64 p.cols)).setCell ⟨wr.heap.size,2,none⟩ (.slice pa pn pk)).setCell ⟨wr.heap.size,3,none⟩ (.int .i64 r.rows)).setCell ⟨wr.heap.size,4,none⟩ (.int .i64 r.cols)).setCell ⟨wr.heap.size,5,none⟩ (.slice qa qn qk)).alloc (.cells #[.int .i64 y.rows,.int .i64 y.cols,.slice ja jn jk] 25)) (wz.heap.size) (.int .i64 y.rows) (.int .i64 y.cols) (.slice ja jn jk))∧(Cells6 (((((((wz.setCell ⟨wr.heap.size,0,none⟩ (.int .i64 p.rows)).setCell ⟨wr.heap.size,1,none⟩ (.int .i64 p.cols)).setCell ⟨wr.heap.size,2,none⟩ (.slice pa pn pk)).setCell ⟨wr.heap.size,3,none⟩ (.int .i64 r.rows)).setCell ⟨wr.heap.size,4,none⟩ (.int .i64 r.cols)).setCell ⟨wr.heap.size,5,none⟩ (.slice qa qn qk)).alloc (.cells #[.int .i64 y.rows,.int .i64 y.cols,.slice ja jn jk] 25)) (wr.heap.size) (.int .i64 p.rows) (.int .i64 p.cols) (.slice pa pn pk) (.int .i64 r.rows) (.int .i64 r.cols) (.slice qa qn qk))):=h_ ⟨(c__ (Box.new ((((((wz.setCell ⟨wr.heap.size,0,none⟩ (.int .i64 p.rows)).setCell ⟨wr.heap.size,1,none⟩ (.int .i64 p.cols)).setCell ⟨wr.heap.size,2,none⟩ (.slice pa pn pk)).setCell ⟨wr.heap.size,3,none⟩ (.int .i64 r.rows)).setCell ⟨wr.heap.size,4,none⟩ (.int .i64 r.cols)).setCell ⟨wr.heap.size,5,none⟩ (.slice qa qn qk)) [.int .i64 y.rows,.int .i64 y.cols,.slice ja jn jk] 25 (size_set6 _ _ _ _ _ _ _ _))),(cells6_of ((set_six ZB0.out _ _ _ _ _ _).u_ (o_ _ _)))⟩;have HQ1:=h_ (Nat.le_refl wr.heap.size);have HQ2:=h_ (Nat.le_succ wr.heap.size);have HQ3:=h_ HB2.out.size;have HQ4:=h_ (Nat.le_succ_of_le HB2.out.size);clear h hb2 hc2 hf hf1 hf2 hm hs1 hs2)
      |(go_at_call 50;guard_target=Calls _ _ _ (World.drew wr) _;refine HTz.out.mono ?_;intro e wz h;obtain ⟨ja,jn,jk,pa,pn,pk,qa,qn,qk,rfl,hm,hs1,hs2,hb2,hf,hf1,hf2⟩:=id h;have hc2:=b_ (r_ (Below.refl _ wr)) hb2;have HB2:=h_ (show Below wr.heap.size wr wz from hc2);have HN0:=h_ (show M_ wz (.agg #[.int .i64 y.rows,.int .i64 y.cols,.slice ja jn jk]) y from hm);have HF0:=h_ (show F_ (wr.heap.size) (.agg #[.int .i64 y.rows,.int .i64 y.cols,.slice ja jn jk]) from f_ hf (Nat.le_refl _));have HG0:=h_ (f_ HF0.out (show wr.heap.size≤wr.heap.size by omega));have HN1:=h_ (show I_ wz (.slice pa pn pk) p.cells from hs1);have HF1:=h_ (show F_ (wr.heap.size) (.agg #[.int .i64 p.rows,.int .i64 p.cols,.slice pa pn pk]) from f_ hf1 (Nat.le_refl _));have HG1:=h_ (f_ HF1.out (show wr.heap.size≤wr.heap.size by omega));have HN2:=h_ (show I_ wz (.slice qa qn qk) r.cells from hs2);have HF2:=h_ (show F_ (wr.heap.size) (.agg #[.int .i64 r.rows,.int .i64 r.cols,.slice qa qn qk]) from f_ hf2 (Nat.le_refl _));have HG2:=h_ (f_ HF2.out (show wr.heap.size≤wr.heap.size by omega));have HE0:Hid ((Cells3 ((wz.alloc (.cells #[.int .i64 y.rows,.int .i64 y.cols,.slice ja jn jk] 25)).alloc (.cells #[.int .i64 p.rows,.int .i64 p.cols,.slice pa pn pk,.int .i64 r.rows,.int .i64 r.cols,.slice qa qn qk] 65)) (wz.heap.size) (.int .i64 y.rows) (.int .i64 y.cols) (.slice ja jn jk))∧(Cells6 ((wz.alloc (.cells #[.int .i64 y.rows,.int .i64 y.cols,.slice ja jn jk] 25)).alloc (.cells #[.int .i64 p.rows,.int .i64 p.cols,.slice pa pn pk,.int .i64 r.rows,.int .i64 r.cols,.slice qa qn qk] 65)) (wz.heap.size+1) (.int .i64 p.rows) (.int .i64 p.cols) (.slice pa pn pk) (.int .i64 r.rows) (.int .i64 r.cols) (.slice qa qn qk))):=h_ ⟨(c__ ((Box.new wz [.int .i64 y.rows,.int .i64 y.cols,.slice ja jn jk] 25 rfl).u_ (o_ _ _))),(cells6_of (Box.new (wz.alloc (.cells #[.int .i64 y.rows,.int .i64 y.cols,.slice ja jn jk] 25)) [.int .i64 p.rows,.int .i64 p.cols,.slice pa pn pk,.int .i64 r.rows,.int .i64 r.cols,.slice qa qn qk] 65 (World.size_alloc _ _)))⟩;have HE1:Hid ((Cells3 ((wz.alloc (.cells #[.int .i64 p.rows,.int .i64 p.cols,.slice pa pn pk,.int .i64 r.rows,.int .i64 r.cols,.slice qa qn qk] 65)).alloc (.cells #[.int .i64 y.rows,.int .i64 y.cols,.slice ja jn jk] 25)) (wz.heap.size+1) (.int .i64 y.rows) (.int .i64 y.cols) (.slice ja jn jk))∧(Cells6 ((wz.alloc (.cells #[.int .i64 p.rows,.int .i64 p.cols,.slice pa pn pk,.int .i64 r.rows,.int .i64 r.cols,.slice qa qn qk] 65)).alloc (.cells #[.int .i64 y.rows,.int .i64 y.cols,.slice ja jn jk] 25)) (wz.heap.size) (.int .i64 p.rows) (.int .i64 p.cols) (.slice pa pn pk) (.int .i64 r.rows) (.int .i64 r.cols) (.slice qa qn qk))):=h_ ⟨(c__ (Box.new (wz.alloc (.cells #[.int .i64 p.rows,.int .i64 p.cols,.slice pa pn pk,.int .i64 r.rows,.int .i64 r.cols,.slice qa qn qk] 65)) [.int .i64 y.rows,.int .i64 y.cols,.slice ja jn jk] 25 (World.size_alloc _ _))),(cells6_of ((Box.new wz [.int .i64 p.rows,.int .i64 p.cols,.slice pa pn pk,.int .i64 r.rows,.int .i64 r.cols,.slice qa qn qk] 65 rfl).u_ (o_ _ _)))⟩;have HQ1:=h_ (Nat.le_refl wr.heap.size);have HQ2:=h_ (Nat.le_succ wr.heap.size);have HQ3:=h_ HB2.out.size;have HQ4:=h_ (Nat.le_succ_of_le HB2.out.size);clear h hb2 hc2 hf hf1 hf2 hm hs1 hs2))
    all_goals go_wp2
    all_goals go_meet
    all_goals
     obtain ⟨a0,b0⟩:=HE0.out
     obtain ⟨a1,b1⟩:=HE1.out
     refine ⟨_,_,ja,jn,jk,pa,pn,pk,qa,qn,qk,rfl,rfl,rfl,?_,?_,?_,?_,?_,?_,?_,HG0.out,HG1.out,HG2.out,?_⟩
     ·(refine HN0.out.above HF0.out ?_;repeat' (first|with_reducible exact Above.refl _ _|with_reducible refine abv_drew ?_|with_reducible refine abv_alloc ?_|with_reducible refine v_ ?_ (by omega)))
     ·(refine HN1.out.above HF1.out ?_;repeat' (first|with_reducible exact Above.refl _ _|with_reducible refine abv_drew ?_|with_reducible refine abv_alloc ?_|with_reducible refine v_ ?_ (by omega)))
     ·(refine HN2.out.above HF2.out ?_;repeat' (first|with_reducible exact Above.refl _ _|with_reducible refine abv_drew ?_|with_reducible refine abv_alloc ?_|with_reducible refine v_ ?_ (by omega)))
     ·first|with_reducible exact a0|with_reducible exact a1
     ·first|with_reducible exact b0|with_reducible exact b1
     ·(first|with_reducible exact HQ1.out|with_reducible exact HQ2.out|with_reducible exact HQ3.out|with_reducible exact HQ4.out)
     ·(first|with_reducible exact HQ1.out|with_reducible exact HQ2.out|with_reducible exact HQ3.out|with_reducible exact HQ4.out)
     ·repeat' (first|with_reducible exact Below.refl _ _|with_reducible exact HB2.out|with_reducible refine d_ ?_|with_reducible refine a_ ?_|with_reducible refine t_ ?_ ?_|exact Nat.le_refl _|exact Nat.le_succ _|exact HB2.out.size|exact Nat.le_succ_of_le HB2.out.size)
   case rest=>
    obtain ⟨B1,B2,ja,jn,jk,pa,pn,pk,qa,qn,qk,rfl,rfl,rfl,hmy,hsp,hsq,hc1,hc2,hn1,hn2,fhmy,fhsp,fhsq,hbc⟩:=hcut
    obtain ⟨wb,hwb⟩:=gM (wc)
    subst hwb
    have HB:=h_ (HBS.out.u_ hbc)
    have HVB:=h_ (HVR.out.u_ hbc)
    have HMM:=h_ (And.intro hmy (And.intro hsp (And.intro hsq (And.intro fhmy (And.intro fhsp fhsq)))))
    have HNN:=h_ (And.intro hn1 hn2)
    have HC1:=h_ hc1
    have HC2:=h_ hc2
    clear HT HSB HT12z HT21z HT1z HT2z HTz lm0 lm1 lm2 lm3 lm4 lm5 lm6 lm7 lm8 lm9 lm10 lm11 hmy hsp hsq fhmy fhsp fhsq hc1 hc2 hn1 hn2 hbc
    by_cases hE:E=0
    ·subst hE
     rw[e_ rfl]
     obtain ⟨hxi',hfi,hiN,hxn⟩:=HII.out
     subst hxn
     have hcl:cs.length=N*6:=by rw[HB.out.enc.1,flat_len6 gdS 6 (fun _=>rfl),HB.out.len]
     have hlt':∀b,A' b→b<wr.heap.size:=HBS.out.lt
     have hpt:P_ wb A' (.inr y.cells) (.slice ja jn jk):=by
      obtain ⟨s',e',hs'⟩:=HMM.out.1
      obtain rfl:s'=.slice ja jn jk:=by simp at e';exact e'.symm
      exact x_ hs' HMM.out.2.2.2.1 hlt'
     have hp1:P_ wb A' (.inr p.cells) (.slice pa pn pk):=x_ HMM.out.2.1 HMM.out.2.2.2.2.1 hlt'
     have hp2:P_ wb A' (.inr r.cells) (.slice qa qn qk):=x_ HMM.out.2.2.1 HMM.out.2.2.2.2.2 hlt'
     have HTU:=h_ ((HB.out.turn (i:=xi.toNat) (T':=y) (d:=(p,r)) hiN hpt hp1 hp2).u_ (r_ (Below.refl _ _)))
     unfold put6 put3 at HTU
     dsimp only at HTU
     obtain ⟨F,hF⟩:=gM ((((((((((wb.setCell ⟨w.heap.size,0,none⟩ (.int .i64 y.rows)).setCell ⟨w.heap.size,1,none⟩ (.int .i64 y.cols)).setCell ⟨w.heap.size,2,none⟩ (.slice ja jn jk)).setCell ⟨D,xi.toNat*6,none⟩ (.int .i64 p.rows)).setCell ⟨D,xi.toNat*6+1,none⟩ (.int .i64 p.cols)).setCell ⟨D,xi.toNat*6+2,none⟩ (.slice pa pn pk)).setCell ⟨D,xi.toNat*6+3,none⟩ (.int .i64 r.rows)).setCell ⟨D,xi.toNat*6+4,none⟩ (.int .i64 r.cols)).setCell ⟨D,xi.toNat*6+5,none⟩ (.slice qa qn qk)).drew)
     rw[←hF]at HTU
     obtain ⟨w3,hdel,hs3,hk3,_⟩:=HTU.out.sh.del (k:=xi.toNat) (keyK_in hfi (Nat.lt_succ_self _))
     rw[←hxi']at hdel
     have HF:=h_ hF
     have HS3:=h_ (show BgSt A' w w3 S M D w.heap.size N ms (kJ e N f xi.toNat) (max q (keyK e N f t).length) y (.slice ja jn jk) (gs.set xi.toNat (p,r)) _ by have h:=HTU.out.map hk3 hs3;rw[kJ_less hfi hiN]at h;exact h)
     have HK3:=h_ hk3
     have sF:F.cell? ⟨S,0,none⟩=some (.map (some M)):=HTU.out.sh.st.cell (j:=0) rfl
     have HVF:=h_ (hold_on (hold_on (hold_on HVB.out (kept_put3 wb HB.out.aB (.int .i64 y.rows) (.int .i64 y.cols) (.slice ja jn jk)) (fun _ e=>e)) (kept_put6 _ HB.out.aD (xi.toNat*6) (.int .i64 p.rows) (.int .i64 p.cols) (.slice pa pn pk) (.int .i64 r.rows) (.int .i64 r.cols) (.slice qa qn qk)) (fun _ e=>e)) (Kept.of (X:=fun _=>False) (r_ (Below.refl _ _))) (fun _ e=>e.elim))
     unfold put6 put3 at HVF
     rw[←hF]at HVF
     have HVD:=h_ (hold_on HVF.out hk3 (fun b e=>by rw[e];exact HB.out.sh.aM))
     have u0:wb.cell? ⟨w.heap.size,0,none⟩=some (.int .i64 T.rows):=HB.out.cur.cell (j:=0) rfl
     have u1:wb.cell? ⟨w.heap.size,1,none⟩=some (.int .i64 T.cols):=HB.out.cur.cell (j:=1) rfl
     have u2:wb.cell? ⟨w.heap.size,2,none⟩=some (.slice ua un uk):=HB.out.cur.cell (j:=2) rfl
     have v0:=HB.out.cur.frozen 0
     have v1:=HB.out.cur.frozen 1
     have v2:=HB.out.cur.frozen 2
     obtain ⟨x0,h0⟩:∃u,cs[xi.toNat*6]?=some u:=⟨cs[xi.toNat*6]'(by rw[hcl];omega),List.getElem?_eq_getElem _⟩
     have z0:=HB.out.dat.cell (j:=xi.toNat*6) (by simpa using h0)
     have g0:=HB.out.dat.frozen (xi.toNat*6)
     obtain ⟨x1,h1⟩:∃u,cs[xi.toNat*6+1]?=some u:=⟨cs[xi.toNat*6+1]'(by rw[hcl];omega),List.getElem?_eq_getElem _⟩
     have z1:=HB.out.dat.cell (j:=xi.toNat*6+1) (by simpa using h1)
     have g1:=HB.out.dat.frozen (xi.toNat*6+1)
     obtain ⟨x2,h2⟩:∃u,cs[xi.toNat*6+2]?=some u:=⟨cs[xi.toNat*6+2]'(by rw[hcl];omega),List.getElem?_eq_getElem _⟩
     have z2:=HB.out.dat.cell (j:=xi.toNat*6+2) (by simpa using h2)
     have g2:=HB.out.dat.frozen (xi.toNat*6+2)
     obtain ⟨x3,h3⟩:∃u,cs[xi.toNat*6+3]?=some u:=⟨cs[xi.toNat*6+3]'(by rw[hcl];omega),List.getElem?_eq_getElem _⟩
     have z3:=HB.out.dat.cell (j:=xi.toNat*6+3) (by simpa using h3)
     have g3:=HB.out.dat.frozen (xi.toNat*6+3)
     obtain ⟨x4,h4⟩:∃u,cs[xi.toNat*6+4]?=some u:=⟨cs[xi.toNat*6+4]'(by rw[hcl];omega),List.getElem?_eq_getElem _⟩
     have z4:=HB.out.dat.cell (j:=xi.toNat*6+4) (by simpa using h4)
     have g4:=HB.out.dat.frozen (xi.toNat*6+4)
     obtain ⟨x5,h5⟩:∃u,cs[xi.toNat*6+5]?=some u:=⟨cs[xi.toNat*6+5]'(by rw[hcl];omega),List.getElem?_eq_getElem _⟩
     have z5:=HB.out.dat.cell (j:=xi.toNat*6+5) (by simpa using h5)
     have g5:=HB.out.dat.frozen (xi.toNat*6+5)
     obtain ⟨a0,a1,a2⟩:=HC1.out
     obtain ⟨d0,d1,d2,d3,d4,d5⟩:=HC2.out
     have nB1:¬B1=w.heap.size:=by have:=HNN.out.1;have:=HBS.out.cur.lt;omega
     have nB2:¬B2=w.heap.size:=by have:=HNN.out.2;have:=HBS.out.cur.lt;omega
     have nD1:¬B1=D:=by have:=HNN.out.1;have:=HBS.out.dat.lt;omega
     have nD2:¬B2=D:=by have:=HNN.out.2;have:=HBS.out.dat.lt;omega
     have nDB:¬D=w.heap.size:=fun h=>HBS.out.cur.apart HBS.out.dat (by decide) h.symm
     have nBD:¬w.heap.size=D:=fun h=>nDB h.symm
     clear hcl hlt' hpt hp1 hp2 h0 h1 h2 h3 h4 h5 hF hs3 hk3 hxi' hfi hiN
     go_wp2_with fail
     go_region
     rw[←HF.out]
     go_wp2
     go_roundw
     case rel=>exact ⟨xi.toNat,xi - 1,y,ja,jn,jk,_,_,HII.out.2.1,by have:=HFJ.out.2;omega,by rw[←HII.out.1],rfl,HS3.out,HRS.out trivial,HVD.out⟩
     case measure=>simp[intOf];omega
    ·have hne:E≠0:=hE
     have HE:=h_ (And.intro hne (HRE.out hne))
     rw[n_ hne]
     have r0:wb.cell? ⟨w.heap.size+1,0,none⟩=some (.int .i64 0):=HB.out.res.cell (j:=0) rfl
     have r1:wb.cell? ⟨w.heap.size+1,1,none⟩=some (.int .i64 0):=HB.out.res.cell (j:=1) rfl
     have r2:wb.cell? ⟨w.heap.size+1,2,none⟩=some (.slice none 0 0):=HB.out.res.cell (j:=2) rfl
     have q0:=HB.out.res.frozen 0
     have q1:=HB.out.res.frozen 1
     have q2:=HB.out.res.frozen 2
     clear hE hne
     go_wp2
     have tt:=set_three HB.out.res.box (.int .i64 0) (.int .i64 0) (.slice none 0 0)
     obtain ⟨t0,t1,t2⟩:=tt.c3
     refine bodyPost_ret (v:=.tuple #[.agg #[.int .i64 0,.int .i64 0,.slice none 0 0],.iface 31 (.int .i64 E)]) (by simp[results,Tryz.results33,go_sem,t0,t1,t2]) rfl ⟨?_,.inr ⟨E,HE.out.1,HE.out.2,rfl⟩⟩
     have h:=HB.out.kp.trans (kept_put3 (X:=fun b=>b=w.heap.size+1) wb rfl (.int .i64 0) (.int .i64 0) (.slice none 0 0)) (fun _ _ e=>.inr (.inr (.inr (.inr e))))
     unfold put3 at h
     exact h.mono HBX.out
  ·obtain rfl:j=f:=by have:=HX.out.1;omega
   rw[kJ_end]at hst
   have HBS:=h_ hst
   have HRL1:=h_ hrl
   have r0:wr.cell? ⟨w.heap.size+1,0,none⟩=some (.int .i64 0):=hst.res.cell (j:=0) rfl
   have r1:wr.cell? ⟨w.heap.size+1,1,none⟩=some (.int .i64 0):=hst.res.cell (j:=1) rfl
   have r2:wr.cell? ⟨w.heap.size+1,2,none⟩=some (.slice none 0 0):=hst.res.cell (j:=2) rfl
   have q0:=hst.res.frozen 0
   have q1:=hst.res.frozen 1
   have q2:=hst.res.frozen 2
   have u0:wr.cell? ⟨w.heap.size,0,none⟩=some (.int .i64 T.rows):=hst.cur.cell (j:=0) rfl
   have u1:wr.cell? ⟨w.heap.size,1,none⟩=some (.int .i64 T.cols):=hst.cur.cell (j:=1) rfl
   have u2:wr.cell? ⟨w.heap.size,2,none⟩=some (.slice ua un uk):=hst.cur.cell (j:=2) rfl
   clear hfj hjt hxi hst hrl hvl
   go_wp2
   have tt:=set_three HBS.out.res.box (.int .i64 T.rows) (.int .i64 T.cols) (.slice ua un uk)
   obtain ⟨t0,t1,t2⟩:=tt.c3
   have hk:=kept_put3 (X:=fun b=>b=w.heap.size+1) wr rfl (.int .i64 T.rows) (.int .i64 T.cols) (.slice ua un uk)
   unfold put3 at hk
   have hx:∀b,b=w.heap.size+1→A' b:=fun b e=>by rw[e];exact HBS.out.aR
   have hnM:=HBS.out.neM
   refine bodyPost_ret (v:=.tuple #[(.agg #[.int .i64 T.rows,.int .i64 T.cols,.slice ua un uk]),.nilIface]) (by simp[results,Tryz.results33,go_sem,t0,t1,t2]) rfl ⟨((HBS.out.kp.trans hk (fun b _ e=>.inr (.inr (.inr (.inr e))))).mono HBX.out),.inl ⟨T,gs,cs,_,rfl,HRL1.out,⟨_,rfl,(HBS.out.prt.kept hk hx).mono (fun b _ e=>HAA.out.2 b e)⟩,?_,HBS.out.dat.keep hk (fun e=>HBS.out.res.apart HBS.out.dat (by decide) e.symm),(HBS.out.enc.kept hk hx).map (fun _ _ hp=>hp.mono (fun b _ e=>HAA.out.2 b e)),HBS.out.len⟩⟩
   exact (HBS.out.sh.kept hk hx (fun e=>HBS.out.res.apart HBS.out.sh.st (by decide) e.symm) (fun e=>hnM.2.2 e.symm)).more (fun b _ e=>HAA.out.2 b e) HAD.out.1 HAD.out.2.1
  end Go.Proofs.YtpniemnfdleiiajGreatDoor
