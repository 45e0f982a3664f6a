/- What NetBack of the document's answer comes to: what goes back through a net, and its Grads. -/
import Derived.Test.YtniloklglpchfaeGreatDoorPkReg
import Derived.Test.YtniloklglpchfaeGreatDoorPkRLBackL
import Derived.Test.YtniloklglpchfaeGreatDoorPkRNet
namespace Go.Proofs.YtniloklglpchfaeGreatDoor
open Go.RowKit
theorem nb_none(w u:World)(some':Prop)(E:Int)(hb:Below w.heap.size w u):NBEnd w some' noMx [] E (.returned (.tuple #[.agg #[.int .i64 0,.int .i64 0,.slice none 0 0],.slice none 0 0,.int .i64 E])) u:=⟨_,_,rfl,⟨I_.nil _,.inl rfl⟩,Owns.nil _ _ _ _ _,hb⟩
theorem RefBack.all{w:World}{m a b:Mx}{e:Ending}{w':World}(h:RefBack w m a b e w'):∃p n q p1 n1 q1 p2 n2 q2,e=.returned (.tuple #[.agg #[.int .i64 m.rows,.int .i64 m.cols,.slice p n q],.agg #[.int .i64 a.rows,.int .i64 a.cols,.slice p1 n1 q1,.int .i64 b.rows,.int .i64 b.cols,.slice p2 n2 q2]])/\M_ w' (.agg #[.int .i64 m.rows,.int .i64 m.cols,.slice p n q]) m/\I_ w' (.slice p1 n1 q1) a.cells/\I_ w' (.slice p2 n2 q2) b.cells/\Below w.heap.size w w'/\F_ w.heap.size (.agg #[.int .i64 m.rows,.int .i64 m.cols,.slice p n q])/\F_ w.heap.size (.agg #[.int .i64 a.rows,.int .i64 a.cols,.slice p1 n1 q1])/\F_ w.heap.size (.agg #[.int .i64 b.rows,.int .i64 b.cols,.slice p2 n2 q2]):=by
 obtain ⟨v',d,rfl,⟨s,rfl,hs⟩,⟨s1,s2,rfl,hs1,hs2⟩,hb,hf,hf2⟩:=h
 obtain ⟨p,n,q,rfl⟩:=hs.shape
 obtain ⟨p1,n1,q1,rfl⟩:=hs1.shape
 obtain ⟨p2,n2,q2,rfl⟩:=hs2.shape
 have h2:=hf2 _ _ _ _ _ _ _ _ _ _ rfl
 exact ⟨_,_,_,_,_,_,_,_,_,rfl,⟨_,rfl,hs⟩,hs1,hs2,hb,hf,h2.1,h2.2⟩
theorem own_or{n m N k:Nat}{p:Prop}{b:Nat}(h:(Value.slice (some ⟨N,0,none⟩) n m).ownBlock=some b\/(p/\b<k)):b=N\/b<k+2:=by
 rcases h with h|h
 ·exact .inl (by simpa [Value.ownBlock] using h.symm)
 ·exact .inr (by omega)
theorem cells6_below{u u':World}{B:Nat}{x y z x' y' z':Value}(h:Cells6 u B x y z x' y' z')(hb:Below u.heap.size u u'):Cells6 u' B x y z x' y' z':=⟨c_ hb h.1,c_ hb h.2.1,c_ hb h.2.2.1,c_ hb h.2.2.2.1,c_ hb h.2.2.2.2.1,c_ hb h.2.2.2.2.2⟩
theorem infoGd2:(Tryz.prog.info? 61).map (fun i=>(i.zero,i.size,i.bytes))=some (some (.agg #[.int .i64 0,.int .i64 0,.slice none 0 0,.int .i64 0,.int .i64 0,.slice none 0 0]),6,80):=by kernel_rfl
theorem enc_gd2{w:World}{G:Nat->Prop}{d:Mx×Mx}{s t:Value}(h:P_ w G (.inr d.1.cells) s)(h':P_ w G (.inr d.2.cells) t):Enc w G (gdS d) [.int .i64 d.1.rows,.int .i64 d.1.cols,s,.int .i64 d.2.rows,.int .i64 d.2.cols,t]:=.cons rfl (.cons rfl (.cons h (.cons rfl (.cons rfl (.cons h' (.nil _ _))))))
set_option maxHeartbeats 16000000 in
set_option maxRecDepth 100000 in
theorem rnetback_len:∀(N:Nat) (ls:List Ly) (ms:List Mx) (g:Mx) (v vm vg:Value) (w:World),ls.length=N->Y_ w v ls->IsMxs w vm ms->M_ w vg g->
  Calls Tryz.prog 59 #[v,vm,vg] w (NBEnd w (ls≠[]) (nbX ls ms g) (nbD ls ms g) (nbE ls ms g)):=by
 intro N
 induction N with
 |zero=>
  intro ls ms g v vm vg w hN hv hvm hg
  obtain rfl:ls=[]:=List.eq_nil_of_length_eq_zero hN
  obtain ⟨a,cap,rfl,_,_⟩:=hv.shape
  obtain ⟨a',cap',rfl,hlc',hcm'⟩:=hvm.shape
  obtain ⟨sg,rfl,hsg⟩:=hg
  obtain ⟨ga,gn,gk,rfl⟩:=hsg.shape
  obtain ⟨N',hN'⟩:=gN (ms.length)
  have HF:=h_ (fun W (h:Below w.heap.size w W)=>fault_any (.agg #[.int .i64 g.rows,.int .i64 g.cols,.slice ga gn gk]) g W ⟨_,rfl,hsg.u_ h⟩)
  have HE:=h_ (show nbE [] ms g=if N'≠1 then 2 else q_ g by unfold nbE;rw[if_neg (by simp),hN'];rfl)
  have HXD:=h_ (show (nbX [] ms g=if nbE [] ms g=0 then g else noMx)/\nbD [] ms g=[] from ⟨rfl,by unfold nbD;split<;>rfl⟩)
  obtain ⟨X,hX⟩:=gN (nbX [] ms g)
  obtain ⟨D,hD⟩:=gN (nbD [] ms g)
  obtain ⟨E,hE⟩:=gN (nbE [] ms g)
  rw[hE]at HE HXD
  rw[hX,hD]at HXD
  obtain rfl:D=[]:=HXD.out.2
  obtain ⟨gr,er⟩:=gN (g.rows)
  obtain ⟨gc,ec⟩:=gN (g.cols)
  have HRC:=h_ (And.intro er ec)
  have HSG:=h_ hsg
  rw[er,ec]at HF
  rw[hN']at hlc' ⊢
  rw[hX,hD,hE,er,ec]
  show Calls Tryz.prog 59 #[.slice a 0 cap,.slice a' N' cap',.agg #[.int .i64 gr,.int .i64 gc,.slice ga gn gk]] w _
  unfold maxLen at hcm'
  clear hX hD hE hv hvm hsg er ec hN hN'
  obtain ⟨V,hV⟩:=gM ((w.alloc (.cells #[.int .i64 gr,.int .i64 gc,.slice ga gn gk] 28)).alloc (.cells #[.int .i64 0,.int .i64 0,.slice none 0 0] 28))
  have HV:=h_ hV
  have HWV:Hid (Below w.heap.size w V):=by rw[hV];exact h_ (b_ (o_ _ _) (o_ _ _))
  have HBG:Hid (Box V (w.heap.size) [.int .i64 gr,.int .i64 gc,.slice ga gn gk]):=by rw[hV];exact h_ ((Box.new w [.int .i64 gr,.int .i64 gc,.slice ga gn gk] 28 rfl).u_ (o_ _ _))
  have HBR:Hid (Box V (w.heap.size+1) [.int .i64 0,.int .i64 0,.slice none 0 0]):=by rw[hV];exact h_ (Box.new _ [.int .i64 0,.int .i64 0,.slice none 0 0] 28 (by simp))
  have HFR:Hid (Free V (w.heap.size+1)):=by rw[hV];exact h_ (Free.new _ _ 28 (by simp))
  clear hV
  by_cases hm:N'=1
  ·subst hm
   obtain ⟨hg0,hg1,hg2⟩:=HBG.out.c3
   rw[HV.out]at hg0 hg1 hg2
   go_enter Tryz.func59,Tryz.ntmps59
   go_wp2_with fail
   rw[<-HV.out]
   refine (HF.out _ HWV.out).mono ?_
   rintro e w1 ⟨rfl,hb1⟩
   have HD1:=h_ hb1
   have HB1:=h_ (b_ HWV.out hb1)
   clear hb1 hg0 hg1 hg2 HF
   by_cases hf:q_ g=0
   ·rw[hf]
    obtain rfl:E=0:=by rw[HE.out,if_neg (by simp),hf]
    obtain rfl:X=g:=by rw[HXD.out.1,if_pos rfl]
    clear hf
    have q0:=(HBR.out.u_ HD1.out) 0 _ rfl
    have f0:=(HFR.out.u_ HD1.out HBR.out.lt) 0
    have q1:=(HBR.out.u_ HD1.out) 1 _ rfl
    have f1:=(HFR.out.u_ HD1.out HBR.out.lt) 1
    have q2:=(HBR.out.u_ HD1.out) 2 _ rfl
    have f2:=(HFR.out.u_ HD1.out HBR.out.lt) 2
    obtain ⟨g0,g1,g2⟩:=(HBG.out.u_ HD1.out).c3
    have HTS:=h_ (three_set (HBR.out.u_ HD1.out) (.int .i64 gr) (.int .i64 gc) (.slice ga gn gk))
    have HBL:=h_ (show Below w.heap.size w (((w1.setCell ⟨w.heap.size+1,0,none⟩ (.int .i64 gr)).setCell ⟨w.heap.size+1,1,none⟩ (.int .i64 gc)).setCell ⟨w.heap.size+1,2,none⟩ (.slice ga gn gk)) from S_ HB1.out (by omega) _ _ _)
    go_wp2
    obtain ⟨r0,r1,r2⟩:=HTS.out.c3
    exact bodyPost_ret (v:=.tuple #[.agg #[.int .i64 gr,.int .i64 gc,.slice ga gn gk],.slice none 0 0,.int .i64 0]) (by simp[results,Tryz.results59,go_sem,r0,r1,r2]) rfl ⟨_,_,by rw[HRC.out.1,HRC.out.2],⟨HSG.out.u_ HBL.out,.inr (fun b _ h=>by rcases h with h|h;(simp[Value.ownBlock]at h);exact h.1 rfl)⟩,Owns.nil _ _ _ _ _,HBL.out⟩
   ·have hE0:q_ g=E:=by rw[HE.out,if_neg (by simp)]
    have hj1:(E !=0)=true:=by rw[<-hE0];simp[hf]
    obtain rfl:X=noMx:=by rw[HXD.out.1,if_neg (by rw[<-hE0];exact hf)]
    rw[hE0]
    clear hf hE0
    have q0:=(HBR.out.u_ HD1.out) 0 _ rfl
    have f0:=(HFR.out.u_ HD1.out HBR.out.lt) 0
    have q1:=(HBR.out.u_ HD1.out) 1 _ rfl
    have f1:=(HFR.out.u_ HD1.out HBR.out.lt) 1
    have q2:=(HBR.out.u_ HD1.out) 2 _ rfl
    have f2:=(HFR.out.u_ HD1.out HBR.out.lt) 2
    go_wp2
    exact bodyPost_ret (v:=.tuple #[.agg #[.int .i64 0,.int .i64 0,.slice none 0 0],.slice none 0 0,.int .i64 E]) (by simp[results,Tryz.results59,go_sem,q0,q1,q2]) rfl (nb_none _ _ _ _ (by first|exact HB1.out|exact S_ HB1.out (by omega) _ _ _))
  ·obtain rfl:E=2:=by rw[HE.out,if_pos hm]
   obtain rfl:X=noMx:=by rw[HXD.out.1,if_neg (by decide)]
   have hm':¬(N':Int)=1:=by omega
   have q0:=(HBR.out.u_ (Below.refl _ V)) 0 _ rfl
   have f0:=(HFR.out.u_ (Below.refl _ V) HBR.out.lt) 0
   have q1:=(HBR.out.u_ (Below.refl _ V)) 1 _ rfl
   have f1:=(HFR.out.u_ (Below.refl _ V) HBR.out.lt) 1
   have q2:=(HBR.out.u_ (Below.refl _ V)) 2 _ rfl
   have f2:=(HFR.out.u_ (Below.refl _ V) HBR.out.lt) 2
   rw[HV.out]at q0 q1 q2 f0 f1 f2
   go_enter Tryz.func59,Tryz.ntmps59
   go_wp2
   rw[<-HV.out]at q0 q1 q2 ⊢
   exact bodyPost_ret (v:=.tuple #[.agg #[.int .i64 0,.int .i64 0,.slice none 0 0],.slice none 0 0,.int .i64 2]) (by simp[results,Tryz.results59,go_sem,q0,q1,q2]) rfl (nb_none _ _ _ _ (by first|exact HWV.out|exact S_ HWV.out (by omega) _ _ _))
 |succ k ih=>
  intro ls ms g v vm vg w hN hv hvm hg
  have IH:=h_ ih
  clear ih
  obtain ⟨a,cap,rfl,hlc,hcm⟩:=hv.shape
  obtain ⟨a',cap',rfl,hlc',hcm'⟩:=hvm.shape
  obtain ⟨sg,rfl,hsg⟩:=hg
  obtain ⟨ga,gn,gk,rfl⟩:=hsg.shape
  obtain ⟨N,eN⟩:=gM (k+1)
  obtain ⟨N',hN'⟩:=gN (ms.length)
  have hN2:ls.length=N:=by omega
  obtain ⟨X,hX⟩:=gN (nbX ls ms g)
  obtain ⟨D,hD⟩:=gN (nbD ls ms g)
  obtain ⟨E,hE⟩:=gN (nbE ls ms g)
  have HX:=h_ (And.intro hX (And.intro hD hE))
  obtain ⟨gr,er⟩:=gN (g.rows)
  obtain ⟨gc,ec⟩:=gN (g.cols)
  have HRC:=h_ (And.intro er ec)
  have HSG:=h_ hsg
  have H0:=h_ hv
  have H1:=h_ hvm
  have HN:=h_ (And.intro hN (And.intro eN hN'))
  rw[hN2]at hlc H0 ⊢
  rw[hN']at hlc' H1 ⊢
  rw[hX,hD,hE,er,ec]
  unfold maxLen at hcm hcm'
  clear hX hD hE hv hvm hsg er ec hN hN' hN2 eN
  obtain ⟨V,hV⟩:=gM ((w.alloc (.cells #[.int .i64 gr,.int .i64 gc,.slice ga gn gk] 28)).alloc (.cells #[.int .i64 0,.int .i64 0,.slice none 0 0] 28))
  have HV:=h_ hV
  have HWV:Hid (Below w.heap.size w V):=by rw[hV];exact h_ (b_ (o_ _ _) (o_ _ _))
  have HBG:Hid (Box V (w.heap.size) [.int .i64 gr,.int .i64 gc,.slice ga gn gk]):=by rw[hV];exact h_ ((Box.new w [.int .i64 gr,.int .i64 gc,.slice ga gn gk] 28 rfl).u_ (o_ _ _))
  have HBR:Hid (Box V (w.heap.size+1) [.int .i64 0,.int .i64 0,.slice none 0 0]):=by rw[hV];exact h_ (Box.new _ [.int .i64 0,.int .i64 0,.slice none 0 0] 28 (by simp))
  have HFR:Hid (Free V (w.heap.size+1)):=by rw[hV];exact h_ (Free.new _ _ 28 (by simp))
  clear hV
  by_cases h12:12<N
  ·obtain rfl:E=3:=by rw[<-HX.out.2.2];unfold nbE;rw[if_pos (by rw[HN.out.1,<-HN.out.2.1];exact h12)]
   obtain ⟨eX,eD⟩:=nbX_no (ls:=ls) (ms:=ms) (g:=g) (by rw[HX.out.2.2];decide)
   rw[HX.out.1]at eX
   rw[HX.out.2.1]at eD
   subst eX eD
   have h12':(12:Int)<(N:Int):=by omega
   have q0:=(HBR.out.u_ (Below.refl _ V)) 0 _ rfl
   have f0:=(HFR.out.u_ (Below.refl _ V) HBR.out.lt) 0
   have q1:=(HBR.out.u_ (Below.refl _ V)) 1 _ rfl
   have f1:=(HFR.out.u_ (Below.refl _ V) HBR.out.lt) 1
   have q2:=(HBR.out.u_ (Below.refl _ V)) 2 _ rfl
   have f2:=(HFR.out.u_ (Below.refl _ V) HBR.out.lt) 2
   rw[HV.out]at q0 q1 q2 f0 f1 f2
   go_enter Tryz.func59,Tryz.ntmps59
   go_wp2
   rw[<-HV.out]at q0 q1 q2 ⊢
   exact bodyPost_ret (v:=.tuple #[.agg #[.int .i64 0,.int .i64 0,.slice none 0 0],.slice none 0 0,.int .i64 3]) (by simp[results,Tryz.results59,go_sem,q0,q1,q2]) rfl (nb_none _ _ _ _ (by first|exact HWV.out|exact S_ HWV.out (by omega) _ _ _))
  ·have h12':¬(12:Int)<(N:Int):=by omega
   by_cases hm:N'=N+1
   ·subst hm
    have hm':(((N+1:Nat):Int))=(N:Int)+1:=by omega
    have hkN:k<N:=by have:=HN.out.2.1;omega
    obtain ⟨l,hl⟩:∃l,ls[k]?=some l:=⟨ls[k]'(by have:=HN.out.1;omega),List.getElem?_eq_getElem _⟩
    obtain ⟨x,hx⟩:∃x,ms[k]?=some x:=⟨ms[k]'(by have:=HN.out.2.2;omega),List.getElem?_eq_getElem _⟩
    have HST:=h_ (nbE_step (ls:=ls) (ms:=ms) (g:=g) HN.out.1 (by rw[HN.out.1,<-HN.out.2.1];exact h12) (by rw[HN.out.2.2,HN.out.1,<-HN.out.2.1]) hl hx)
    have HXT:=h_ (fun h=>And.intro (nbX_step (ls:=ls) (ms:=ms) (g:=g) HN.out.1 hl hx h) (nbD_step (ls:=ls) (ms:=ms) (g:=g) HN.out.1 hl hx h))
    obtain ⟨b,off,cp,sa,sn,sk,ta,tn,tk,ev,k0,k1,k2,k3,k4,k5,k6,hly⟩:=H0.out.at hl
    injection ev with ev1 ev2 ev3
    clear ev2 ev3
    subst ev1
    obtain ⟨b',off',cp',xa,xn,xk,ev,y0,y1,y2,hxi⟩:=H1.out.at hx
    injection ev with ev1 ev2 ev3
    clear ev2 ev3
    subst ev1
    obtain ⟨xi,exi⟩:∃xi:Int,(N:Int) - 1=xi:=⟨_,rfl⟩
    have hxn:xi.toNat=k:=by have:=HN.out.2.1;omega
    have HXI:=h_ (show xi=(k:Int) by have:=HN.out.2.1;omega)
    rw[<-hxn]at k0 k1 k2 k3 k4 k5 k6 y0 y1 y2
    have HK:=h_ (fun W (h:Below w.heap.size w W)=>(And.intro (c_ h k0) (And.intro (c_ h k1) (And.intro (c_ h k2) (And.intro (c_ h k3) (And.intro (c_ h k4) (And.intro (c_ h k5) (And.intro (c_ h k6) (And.intro (c_ h y0) (And.intro (c_ h y1) (c_ h y2)))))))))))
    have HLY:=h_ hly
    have HXX:=h_ hxi
    have hxi0:0<=xi:=by omega
    have hxi1:xi<=12:=by omega
    have hxiN:xi<(N:Int):=by omega
    have hxiM:xi<(N:Int)+1:=by omega
    have hxiL:xi<=(N:Int):=by omega
    obtain ⟨E1,hE1⟩:=gN (backE l x g)
    obtain ⟨y,hy⟩:=gN (backX l x g)
    obtain ⟨p,hp⟩:=gN (gradW l x g)
    obtain ⟨q,hq⟩:=gN (gradB l x g)
    have HEE:=h_ (And.intro hE1 (And.intro hy (And.intro hp hq)))
    rw[HX.out.2.2,hE1,hy]at HST
    rw[HX.out.2.2,HX.out.1,HX.out.2.1,hy,hp,hq]at HXT
    clear k0 k1 k2 k3 k4 k5 k6 y0 y1 y2 hly hxi hl hx hxn hE1 hy hp hq
    have HC:=h_ (rbackfault_any (.agg #[.int .i64 l.k,.int .i64 l.w.rows,.int .i64 l.w.cols,.slice sa sn sk,.int .i64 l.b.rows,.int .i64 l.b.cols,.slice ta tn tk]) (.agg #[.int .i64 x.rows,.int .i64 x.cols,.slice xa xn xk]) (.agg #[.int .i64 gr,.int .i64 gc,.slice ga gn gk]) l x g V.drew (HLY.out.u_ (r_ HWV.out)) ⟨_,rfl,HXX.out.u_ (r_ HWV.out)⟩ ⟨_,by rw[HRC.out.1,HRC.out.2],HSG.out.u_ (r_ HWV.out)⟩)
    rw[HEE.out.1]at HC
    go_enter Tryz.func59,Tryz.ntmps59
    go_wp2
    try rw[exi]
    rw[<-HV.out]
    clear exi
    obtain ⟨k0,k1,k2,k3,k4,k5,k6,y0,y1,y2⟩:=HK.out V HWV.out
    obtain ⟨g0,g1,g2⟩:=HBG.out.c3
    refine region_tail 9 (by kernel_rfl) (by kernel_rfl) ?_
    simp only[List.take_succ_cons,List.take_zero,List.drop_succ_cons,List.drop_zero]
    repeat still_step
    refine wpStill_nil ?_
    go_wp2_with fail
    refine HC.out.mono ?_
    rintro e w1 ⟨rfl,hb1⟩
    have HD1:=h_ (b_ (r_ (Below.refl V.heap.size V)) hb1)
    have HB1:=h_ (b_ HWV.out HD1.out)
    clear hb1 HC k0 k1 k2 k3 k4 k5 k6 y0 y1 y2 g0 g1 g2
    by_cases h1:E1=0
    ·subst h1
     have HT:=h_ (fun W (h:Below w1.heap.size w1 W)=>rback_any (.agg #[.int .i64 l.k,.int .i64 l.w.rows,.int .i64 l.w.cols,.slice sa sn sk,.int .i64 l.b.rows,.int .i64 l.b.cols,.slice ta tn tk]) (.agg #[.int .i64 x.rows,.int .i64 x.cols,.slice xa xn xk]) (.agg #[.int .i64 gr,.int .i64 gc,.slice ga gn gk]) l x g W (HLY.out.u_ (b_ HB1.out h)) ⟨_,rfl,HXX.out.u_ (b_ HB1.out h)⟩ ⟨_,by rw[HRC.out.1,HRC.out.2],HSG.out.u_ (b_ HB1.out h)⟩ HEE.out.1)
     rw[HEE.out.2.1,HEE.out.2.2.1,HEE.out.2.2.2]at HT
     have HSB:Hid (∀W',Below w1.heap.size w1 W'->(fun W'=>W'.cell? ⟨b,off+xi.toNat*7,none⟩=some (.int .i64 l.k)/\W'.cell? ⟨b,off+xi.toNat*7+1,none⟩=some (.int .i64 l.w.rows)/\W'.cell? ⟨b,off+xi.toNat*7+2,none⟩=some (.int .i64 l.w.cols)/\W'.cell? ⟨b,off+xi.toNat*7+3,none⟩=some (.slice sa sn sk)/\W'.cell? ⟨b,off+xi.toNat*7+4,none⟩=some (.int .i64 l.b.rows)/\W'.cell? ⟨b,off+xi.toNat*7+5,none⟩=some (.int .i64 l.b.cols)/\W'.cell? ⟨b,off+xi.toNat*7+6,none⟩=some (.slice ta tn tk)/\W'.cell? ⟨b',off'+xi.toNat*3,none⟩=some (.int .i64 x.rows)/\W'.cell? ⟨b',off'+xi.toNat*3+1,none⟩=some (.int .i64 x.cols)/\W'.cell? ⟨b',off'+xi.toNat*3+2,none⟩=some (.slice xa xn xk)/\W'.cell? ⟨w.heap.size,0,none⟩=some (.int .i64 gr)/\W'.cell? ⟨w.heap.size,1,none⟩=some (.int .i64 gc)/\W'.cell? ⟨w.heap.size,2,none⟩=some (.slice ga gn gk)) W'):=h_ (fun W' h=>by
      obtain ⟨k0,k1,k2,k3,k4,k5,k6,y0,y1,y2⟩:=HK.out W' (b_ HB1.out h)
      have hd:=b_ HD1.out h
      exact ⟨k0,k1,k2,k3,k4,k5,k6,y0,y1,y2,(HBG.out.u_ hd) 0 _ rfl,(HBG.out.u_ hd) 1 _ rfl,(HBG.out.u_ hd) 2 _ rfl⟩)
     have HT12z:=h_ (HT.out ((w1.alloc (.cells #[.int .i64 0,.int .i64 0,.slice none 0 0] 28)).alloc (.cells #[.int .i64 0,.int .i64 0,.slice none 0 0,.int .i64 0,.int .i64 0,.slice none 0 0] 61)).drew (d_ (a_ (a_ (Below.refl w1.heap.size w1)))))
     have HT21z:=h_ (HT.out ((w1.alloc (.cells #[.int .i64 0,.int .i64 0,.slice none 0 0,.int .i64 0,.int .i64 0,.slice none 0 0] 61)).alloc (.cells #[.int .i64 0,.int .i64 0,.slice none 0 0] 28)).drew (d_ (a_ (a_ (Below.refl w1.heap.size w1)))))
     have HT1z:=h_ (HT.out (w1.alloc (.cells #[.int .i64 0,.int .i64 0,.slice none 0 0] 28)).drew (d_ (a_ (Below.refl w1.heap.size w1))))
     have HT2z:=h_ (HT.out (w1.alloc (.cells #[.int .i64 0,.int .i64 0,.slice none 0 0,.int .i64 0,.int .i64 0,.slice none 0 0] 61)).drew (d_ (a_ (Below.refl w1.heap.size w1))))
     have HTz:=h_ (HT.out w1.drew (d_ (Below.refl w1.heap.size w1)))
     obtain ⟨lm0,lm1,lm2,lm3,lm4,lm5,lm6,lm7,lm8,lm9,lm10,lm11,lm12⟩:=HSB.out w1 (Below.refl _ _)
     go_wp2
     go_cut [12,13] from 54 to 66 (fun a1 a2 wx=>∃(B1 B2:Nat) (ja:Option Addr) (jn jk:Nat) (pa:Option Addr) (pn pk:Nat) (qa:Option Addr) (qn qk:Nat),a1=.pointer (some ⟨B1,0,none⟩)/\a2=.pointer (some ⟨B2,0,none⟩)/\M_ wx (.agg #[.int .i64 y.rows,.int .i64 y.cols,.slice ja jn jk]) y/\I_ wx (.slice pa pn pk) p.cells/\I_ wx (.slice qa qn qk) q.cells/\Cells3 wx B1 (.int .i64 y.rows) (.int .i64 y.cols) (.slice ja jn jk)/\Cells6 wx B2 (.int .i64 p.rows) (.int .i64 p.cols) (.slice pa pn pk) (.int .i64 q.rows) (.int .i64 q.cols) (.slice qa qn qk)/\w1.heap.size<=B1/\w1.heap.size<=B2/\F_ w1.heap.size (.agg #[.int .i64 y.rows,.int .i64 y.cols,.slice ja jn jk])/\F_ w1.heap.size (.agg #[.int .i64 p.rows,.int .i64 p.cols,.slice pa pn pk])/\F_ w1.heap.size (.agg #[.int .i64 q.rows,.int .i64 q.cols,.slice qa qn qk])/\Below w1.heap.size w1 wx)
     case first=>
      go_region_held3 (fun W'=>W'.cell? ⟨b,off+xi.toNat*7,none⟩=some (.int .i64 l.k)/\W'.cell? ⟨b,off+xi.toNat*7+1,none⟩=some (.int .i64 l.w.rows)/\W'.cell? ⟨b,off+xi.toNat*7+2,none⟩=some (.int .i64 l.w.cols)/\W'.cell? ⟨b,off+xi.toNat*7+3,none⟩=some (.slice sa sn sk)/\W'.cell? ⟨b,off+xi.toNat*7+4,none⟩=some (.int .i64 l.b.rows)/\W'.cell? ⟨b,off+xi.toNat*7+5,none⟩=some (.int .i64 l.b.cols)/\W'.cell? ⟨b,off+xi.toNat*7+6,none⟩=some (.slice ta tn tk)/\W'.cell? ⟨b',off'+xi.toNat*3,none⟩=some (.int .i64 x.rows)/\W'.cell? ⟨b',off'+xi.toNat*3+1,none⟩=some (.int .i64 x.cols)/\W'.cell? ⟨b',off'+xi.toNat*3+2,none⟩=some (.slice xa xn xk)/\W'.cell? ⟨w.heap.size,0,none⟩=some (.int .i64 gr)/\W'.cell? ⟨w.heap.size,1,none⟩=some (.int .i64 gc)/\W'.cell? ⟨w.heap.size,2,none⟩=some (.slice ga gn gk)) ((refine HSB.out _ ?_;repeat' (first|with_reducible exact Below.refl _ _|with_reducible exact HB2.out|with_reducible refine d_ ?_|with_reducible refine a_ ?_|with_reducible refine t_ ?_ ?_|exact Nat.le_refl _|exact Nat.le_succ _|exact HB2.out.size|exact Nat.le_succ_of_le HB2.out.size)))
       (first
        |(go_at_call 93;guard_target=Calls _ _ _ (World.drew (World.alloc (World.alloc w1 (Obj.cells #[_,_,_] _)) (Obj.cells #[_,_,_,_,_,_] _))) _;refine HT12z.out.mono ?_;intro e wz h;obtain ⟨ja,jn,jk,pa,pn,pk,qa,qn,qk,rfl,hm,hs1,hs2,hb2,hf,hf1,hf2⟩:=h.all;have hc2:=b_ (r_ (Below.refl _ ((w1.alloc (.cells #[.int .i64 0,.int .i64 0,.slice none 0 0] 28)).alloc (.cells #[.int .i64 0,.int .i64 0,.slice none 0 0,.int .i64 0,.int .i64 0,.slice none 0 0] 61)))) hb2;have HB2:=h_ (show Below w1.heap.size w1 wz from (b_ (o_ w1 (.cells #[.int .i64 0,.int .i64 0,.slice none 0 0] 28)) (b_ (o_ (w1.alloc (.cells #[.int .i64 0,.int .i64 0,.slice none 0 0] 28)) (.cells #[.int .i64 0,.int .i64 0,.slice none 0 0,.int .i64 0,.int .i64 0,.slice none 0 0] 61)) hc2)));have ZB0:=h_ ((Box.new w1 [.int .i64 0,.int .i64 0,.slice none 0 0] 28 (B:=w1.heap.size) rfl).u_ (b_ (o_ (w1.alloc (.cells #[.int .i64 0,.int .i64 0,.slice none 0 0] 28)) (.cells #[.int .i64 0,.int .i64 0,.slice none 0 0,.int .i64 0,.int .i64 0,.slice none 0 0] 61)) hc2));have ZL0:=h_ (Box.new w1 [.int .i64 0,.int .i64 0,.slice none 0 0] 28 (B:=w1.heap.size) rfl).lt;have ZF0:=h_ ((Free.new w1 #[.int .i64 0,.int .i64 0,.slice none 0 0] 28 (B:=w1.heap.size) rfl).u_ (b_ (o_ (w1.alloc (.cells #[.int .i64 0,.int .i64 0,.slice none 0 0] 28)) (.cells #[.int .i64 0,.int .i64 0,.slice none 0 0,.int .i64 0,.int .i64 0,.slice none 0 0] 61)) hc2) ZL0.out);obtain ⟨z00,z01,z02⟩:=ZB0.out.c3;obtain ⟨f00,f01,f02⟩:=ZF0.out.f3;have lt0:=ZB0.out.lt;have ne0:¬w1.heap.size=wz.heap.size:=Nat.ne_of_lt lt0;have en0:¬wz.heap.size=w1.heap.size:=(Nat.ne_of_lt lt0).symm;have ZB1:=h_ ((Box.new (w1.alloc (.cells #[.int .i64 0,.int .i64 0,.slice none 0 0] 28)) [.int .i64 0,.int .i64 0,.slice none 0 0,.int .i64 0,.int .i64 0,.slice none 0 0] 61 (B:=w1.heap.size+1) (World.size_alloc _ _)).u_ hc2);have ZL1:=h_ (Box.new (w1.alloc (.cells #[.int .i64 0,.int .i64 0,.slice none 0 0] 28)) [.int .i64 0,.int .i64 0,.slice none 0 0,.int .i64 0,.int .i64 0,.slice none 0 0] 61 (B:=w1.heap.size+1) (World.size_alloc _ _)).lt;have ZF1:=h_ ((Free.new (w1.alloc (.cells #[.int .i64 0,.int .i64 0,.slice none 0 0] 28)) #[.int .i64 0,.int .i64 0,.slice none 0 0,.int .i64 0,.int .i64 0,.slice none 0 0] 61 (B:=w1.heap.size+1) (World.size_alloc _ _)).u_ hc2 ZL1.out);obtain ⟨z10,z11,z12,z13,z14,z15⟩:=ZB1.out.c6;obtain ⟨f10,f11,f12,f13,f14,f15⟩:=ZF1.out.f6;have lt1:=ZB1.out.lt;have ne1:¬w1.heap.size+1=wz.heap.size:=Nat.ne_of_lt lt1;have en1:¬wz.heap.size=w1.heap.size+1:=(Nat.ne_of_lt lt1).symm;have sz10:=s_ z10 (B:=w1.heap.size) (Nat.succ_ne_self _) (.int .i64 y.rows) (.int .i64 y.cols) (.slice ja jn jk);have sz11:=s_ z11 (B:=w1.heap.size) (Nat.succ_ne_self _) (.int .i64 y.rows) (.int .i64 y.cols) (.slice ja jn jk);have sz12:=s_ z12 (B:=w1.heap.size) (Nat.succ_ne_self _) (.int .i64 y.rows) (.int .i64 y.cols) (.slice ja jn jk);have sz13:=s_ z13 (B:=w1.heap.size) (Nat.succ_ne_self _) (.int .i64 y.rows) (.int .i64 y.cols) (.slice ja jn jk);have sz14:=s_ z14 (B:=w1.heap.size) (Nat.succ_ne_self _) (.int .i64 y.rows) (.int .i64 y.cols) (.slice ja jn jk);have sz15:=s_ z15 (B:=w1.heap.size) (Nat.succ_ne_self _) (.int .i64 y.rows) (.int .i64 y.cols) (.slice ja jn jk);have ne9:¬w1.heap.size=w1.heap.size+1:=(Nat.succ_ne_self _).symm;have ne8:¬w1.heap.size+1=w1.heap.size:=Nat.succ_ne_self _;have HN0:=h_ (show M_ wz (.agg #[.int .i64 y.rows,.int .i64 y.cols,.slice ja jn jk]) y from hm);have HF0:=h_ (show F_ (w1.heap.size+2) (.agg #[.int .i64 y.rows,.int .i64 y.cols,.slice ja jn jk]) from f_ hf (szd2 _ _ _));have HG0:=h_ (f_ HF0.out (show w1.heap.size<=w1.heap.size+2 by omega));have HN1:=h_ (show I_ wz (.slice pa pn pk) p.cells from hs1);have HF1:=h_ (show F_ (w1.heap.size+2) (.agg #[.int .i64 p.rows,.int .i64 p.cols,.slice pa pn pk]) from f_ hf1 (szd2 _ _ _));have HG1:=h_ (f_ HF1.out (show w1.heap.size<=w1.heap.size+2 by omega));have HN2:=h_ (show I_ wz (.slice qa qn qk) q.cells from hs2);have HF2:=h_ (show F_ (w1.heap.size+2) (.agg #[.int .i64 q.rows,.int .i64 q.cols,.slice qa qn qk]) from f_ hf2 (szd2 _ _ _));have HG2:=h_ (f_ HF2.out (show w1.heap.size<=w1.heap.size+2 by omega));have HE0:Hid ((Cells3 (((((((((wz.setCell ⟨w1.heap.size,0,none⟩ (.int .i64 y.rows)).setCell ⟨w1.heap.size,1,none⟩ (.int .i64 y.cols)).setCell ⟨w1.heap.size,2,none⟩ (.slice ja jn jk)).setCell ⟨w1.heap.size+1,0,none⟩ (.int .i64 p.rows)).setCell ⟨w1.heap.size+1,1,none⟩ (.int .i64 p.cols)).setCell ⟨w1.heap.size+1,2,none⟩ (.slice pa pn pk)).setCell ⟨w1.heap.size+1,3,none⟩ (.int .i64 q.rows)).setCell ⟨w1.heap.size+1,4,none⟩ (.int .i64 q.cols)).setCell ⟨w1.heap.size+1,5,none⟩ (.slice qa qn qk)) (w1.heap.size) (.int .i64 y.rows) (.int .i64 y.cols) (.slice ja jn jk))/\(Cells6 (((((((((wz.setCell ⟨w1.heap.size,0,none⟩ (.int .i64 y.rows)).setCell ⟨w1.heap.size,1,none⟩ (.int .i64 y.cols)).setCell ⟨w1.heap.size,2,none⟩ (.slice ja jn jk)).setCell ⟨w1.heap.size+1,0,none⟩ (.int .i64 p.rows)).setCell ⟨w1.heap.size+1,1,none⟩ (.int .i64 p.cols)).setCell ⟨w1.heap.size+1,2,none⟩ (.slice pa pn pk)).setCell ⟨w1.heap.size+1,3,none⟩ (.int .i64 q.rows)).setCell ⟨w1.heap.size+1,4,none⟩ (.int .i64 q.cols)).setCell ⟨w1.heap.size+1,5,none⟩ (.slice qa qn qk)) (w1.heap.size+1) (.int .i64 p.rows) (.int .i64 p.cols) (.slice pa pn pk) (.int .i64 q.rows) (.int .i64 q.cols) (.slice qa qn qk))):=h_ ⟨(c__ (box_set6 (set_three ZB0.out _ _ _) ((Nat.succ_ne_self _).symm) _ _ _ _ _ _)),(cells6_of (set_six (box_set3 ZB1.out (Nat.succ_ne_self _) _ _ _) _ _ _ _ _ _))⟩;have HE1:Hid ((Cells3 (((((((((wz.setCell ⟨w1.heap.size,0,none⟩ (.int .i64 y.rows)).setCell ⟨w1.heap.size,1,none⟩ (.int .i64 y.cols)).setCell ⟨w1.heap.size,2,none⟩ (.slice ja jn jk)).setCell ⟨w1.heap.size+1,0,none⟩ (.int .i64 p.rows)).setCell ⟨w1.heap.size+1,1,none⟩ (.int .i64 p.cols)).setCell ⟨w1.heap.size+1,2,none⟩ (.slice pa pn pk)).setCell ⟨w1.heap.size+1,3,none⟩ (.int .i64 q.rows)).setCell ⟨w1.heap.size+1,4,none⟩ (.int .i64 q.cols)).setCell ⟨w1.heap.size+1,5,none⟩ (.slice qa qn qk)) (w1.heap.size) (.int .i64 y.rows) (.int .i64 y.cols) (.slice ja jn jk))/\(Cells6 (((((((((wz.setCell ⟨w1.heap.size,0,none⟩ (.int .i64 y.rows)).setCell ⟨w1.heap.size,1,none⟩ (.int .i64 y.cols)).setCell ⟨w1.heap.size,2,none⟩ (.slice ja jn jk)).setCell ⟨w1.heap.size+1,0,none⟩ (.int .i64 p.rows)).setCell ⟨w1.heap.size+1,1,none⟩ (.int .i64 p.cols)).setCell ⟨w1.heap.size+1,2,none⟩ (.slice pa pn pk)).setCell ⟨w1.heap.size+1,3,none⟩ (.int .i64 q.rows)).setCell ⟨w1.heap.size+1,4,none⟩ (.int .i64 q.cols)).setCell ⟨w1.heap.size+1,5,none⟩ (.slice qa qn qk)) (w1.heap.size+1) (.int .i64 p.rows) (.int .i64 p.cols) (.slice pa pn pk) (.int .i64 q.rows) (.int .i64 q.cols) (.slice qa qn qk))):=h_ ⟨(c__ (box_set6 (set_three ZB0.out _ _ _) ((Nat.succ_ne_self _).symm) _ _ _ _ _ _)),(cells6_of (set_six (box_set3 ZB1.out (Nat.succ_ne_self _) _ _ _) _ _ _ _ _ _))⟩;have HQ1:=h_ (Nat.le_refl w1.heap.size);have HQ2:=h_ (Nat.le_succ w1.heap.size);have HQ3:=h_ HB2.out.size;have HQ4:=h_ (Nat.le_succ_of_le HB2.out.size);clear h hb2 hc2 hf hf1 hf2 hm hs1 hs2)
        |(go_at_call 93;guard_target=Calls _ _ _ (World.drew (World.alloc (World.alloc w1 (Obj.cells #[_,_,_,_,_,_] _)) (Obj.cells #[_,_,_] _))) _;refine HT21z.out.mono ?_;intro e wz h;obtain ⟨ja,jn,jk,pa,pn,pk,qa,qn,qk,rfl,hm,hs1,hs2,hb2,hf,hf1,hf2⟩:=h.all;have hc2:=b_ (r_ (Below.refl _ ((w1.alloc (.cells #[.int .i64 0,.int .i64 0,.slice none 0 0,.int .i64 0,.int .i64 0,.slice none 0 0] 61)).alloc (.cells #[.int .i64 0,.int .i64 0,.slice none 0 0] 28)))) hb2;have HB2:=h_ (show Below w1.heap.size w1 wz from (b_ (o_ w1 (.cells #[.int .i64 0,.int .i64 0,.slice none 0 0,.int .i64 0,.int .i64 0,.slice none 0 0] 61)) (b_ (o_ (w1.alloc (.cells #[.int .i64 0,.int .i64 0,.slice none 0 0,.int .i64 0,.int .i64 0,.slice none 0 0] 61)) (.cells #[.int .i64 0,.int .i64 0,.slice none 0 0] 28)) hc2)));have ZB0:=h_ ((Box.new w1 [.int .i64 0,.int .i64 0,.slice none 0 0,.int .i64 0,.int .i64 0,.slice none 0 0] 61 (B:=w1.heap.size) rfl).u_ (b_ (o_ (w1.alloc (.cells #[.int .i64 0,.int .i64 0,.slice none 0 0,.int .i64 0,.int .i64 0,.slice none 0 0] 61)) (.cells #[.int .i64 0,.int .i64 0,.slice none 0 0] 28)) hc2));have ZL0:=h_ (Box.new w1 [.int .i64 0,.int .i64 0,.slice none 0 0,.int .i64 0,.int .i64 0,.slice none 0 0] 61 (B:=w1.heap.size) rfl).lt;have ZF0:=h_ ((Free.new w1 #[.int .i64 0,.int .i64 0,.slice none 0 0,.int .i64 0,.int .i64 0,.slice none 0 0] 61 (B:=w1.heap.size) rfl).u_ (b_ (o_ (w1.alloc (.cells #[.int .i64 0,.int .i64 0,.slice none 0 0,.int .i64 0,.int .i64 0,.slice none 0 0] 61)) (.cells #[.int .i64 0,.int .i64 0,.slice none 0 0] 28)) hc2) ZL0.out);obtain ⟨z00,z01,z02,z03,z04,z05⟩:=ZB0.out.c6;obtain ⟨f00,f01,f02,f03,f04,f05⟩:=ZF0.out.f6;have lt0:=ZB0.out.lt;have ne0:¬w1.heap.size=wz.heap.size:=Nat.ne_of_lt lt0;have en0:¬wz.heap.size=w1.heap.size:=(Nat.ne_of_lt lt0).symm;have ZB1:=h_ ((Box.new (w1.alloc (.cells #[.int .i64 0,.int .i64 0,.slice none 0 0,.int .i64 0,.int .i64 0,.slice none 0 0] 61)) [.int .i64 0,.int .i64 0,.slice none 0 0] 28 (B:=w1.heap.size+1) (World.size_alloc _ _)).u_ hc2);have ZL1:=h_ (Box.new (w1.alloc (.cells #[.int .i64 0,.int .i64 0,.slice none 0 0,.int .i64 0,.int .i64 0,.slice none 0 0] 61)) [.int .i64 0,.int .i64 0,.slice none 0 0] 28 (B:=w1.heap.size+1) (World.size_alloc _ _)).lt;have ZF1:=h_ ((Free.new (w1.alloc (.cells #[.int .i64 0,.int .i64 0,.slice none 0 0,.int .i64 0,.int .i64 0,.slice none 0 0] 61)) #[.int .i64 0,.int .i64 0,.slice none 0 0] 28 (B:=w1.heap.size+1) (World.size_alloc _ _)).u_ hc2 ZL1.out);obtain ⟨z10,z11,z12⟩:=ZB1.out.c3;obtain ⟨f10,f11,f12⟩:=ZF1.out.f3;have lt1:=ZB1.out.lt;have ne1:¬w1.heap.size+1=wz.heap.size:=Nat.ne_of_lt lt1;have en1:¬wz.heap.size=w1.heap.size+1:=(Nat.ne_of_lt lt1).symm;have sz00:=s_ z00 (B:=w1.heap.size+1) ((Nat.succ_ne_self _).symm) (.int .i64 y.rows) (.int .i64 y.cols) (.slice ja jn jk);have sz01:=s_ z01 (B:=w1.heap.size+1) ((Nat.succ_ne_self _).symm) (.int .i64 y.rows) (.int .i64 y.cols) (.slice ja jn jk);have sz02:=s_ z02 (B:=w1.heap.size+1) ((Nat.succ_ne_self _).symm) (.int .i64 y.rows) (.int .i64 y.cols) (.slice ja jn jk);have sz03:=s_ z03 (B:=w1.heap.size+1) ((Nat.succ_ne_self _).symm) (.int .i64 y.rows) (.int .i64 y.cols) (.slice ja jn jk);have sz04:=s_ z04 (B:=w1.heap.size+1) ((Nat.succ_ne_self _).symm) (.int .i64 y.rows) (.int .i64 y.cols) (.slice ja jn jk);have sz05:=s_ z05 (B:=w1.heap.size+1) ((Nat.succ_ne_self _).symm) (.int .i64 y.rows) (.int .i64 y.cols) (.slice ja jn jk);have ne9:¬w1.heap.size=w1.heap.size+1:=(Nat.succ_ne_self _).symm;have ne8:¬w1.heap.size+1=w1.heap.size:=Nat.succ_ne_self _;have HN0:=h_ (show M_ wz (.agg #[.int .i64 y.rows,.int .i64 y.cols,.slice ja jn jk]) y from hm);have HF0:=h_ (show F_ (w1.heap.size+2) (.agg #[.int .i64 y.rows,.int .i64 y.cols,.slice ja jn jk]) from f_ hf (szd2 _ _ _));have HG0:=h_ (f_ HF0.out (show w1.heap.size<=w1.heap.size+2 by omega));have HN1:=h_ (show I_ wz (.slice pa pn pk) p.cells from hs1);have HF1:=h_ (show F_ (w1.heap.size+2) (.agg #[.int .i64 p.rows,.int .i64 p.cols,.slice pa pn pk]) from f_ hf1 (szd2 _ _ _));have HG1:=h_ (f_ HF1.out (show w1.heap.size<=w1.heap.size+2 by omega));have HN2:=h_ (show I_ wz (.slice qa qn qk) q.cells from hs2);have HF2:=h_ (show F_ (w1.heap.size+2) (.agg #[.int .i64 q.rows,.int .i64 q.cols,.slice qa qn qk]) from f_ hf2 (szd2 _ _ _));have HG2:=h_ (f_ HF2.out (show w1.heap.size<=w1.heap.size+2 by omega));have HE0:Hid ((Cells3 (((((((((wz.setCell ⟨w1.heap.size+1,0,none⟩ (.int .i64 y.rows)).setCell ⟨w1.heap.size+1,1,none⟩ (.int .i64 y.cols)).setCell ⟨w1.heap.size+1,2,none⟩ (.slice ja jn jk)).setCell ⟨w1.heap.size,0,none⟩ (.int .i64 p.rows)).setCell ⟨w1.heap.size,1,none⟩ (.int .i64 p.cols)).setCell ⟨w1.heap.size,2,none⟩ (.slice pa pn pk)).setCell ⟨w1.heap.size,3,none⟩ (.int .i64 q.rows)).setCell ⟨w1.heap.size,4,none⟩ (.int .i64 q.cols)).setCell ⟨w1.heap.size,5,none⟩ (.slice qa qn qk)) (w1.heap.size+1) (.int .i64 y.rows) (.int .i64 y.cols) (.slice ja jn jk))/\(Cells6 (((((((((wz.setCell ⟨w1.heap.size+1,0,none⟩ (.int .i64 y.rows)).setCell ⟨w1.heap.size+1,1,none⟩ (.int .i64 y.cols)).setCell ⟨w1.heap.size+1,2,none⟩ (.slice ja jn jk)).setCell ⟨w1.heap.size,0,none⟩ (.int .i64 p.rows)).setCell ⟨w1.heap.size,1,none⟩ (.int .i64 p.cols)).setCell ⟨w1.heap.size,2,none⟩ (.slice pa pn pk)).setCell ⟨w1.heap.size,3,none⟩ (.int .i64 q.rows)).setCell ⟨w1.heap.size,4,none⟩ (.int .i64 q.cols)).setCell ⟨w1.heap.size,5,none⟩ (.slice qa qn qk)) (w1.heap.size) (.int .i64 p.rows) (.int .i64 p.cols) (.slice pa pn pk) (.int .i64 q.rows) (.int .i64 q.cols) (.slice qa qn qk))):=h_ ⟨(c__ (box_set6 (set_three ZB1.out _ _ _) (Nat.succ_ne_self _) _ _ _ _ _ _)),(cells6_of (set_six (box_set3 ZB0.out ((Nat.succ_ne_self _).symm) _ _ _) _ _ _ _ _ _))⟩;have HE1:Hid ((Cells3 (((((((((wz.setCell ⟨w1.heap.size+1,0,none⟩ (.int .i64 y.rows)).setCell ⟨w1.heap.size+1,1,none⟩ (.int .i64 y.cols)).setCell ⟨w1.heap.size+1,2,none⟩ (.slice ja jn jk)).setCell ⟨w1.heap.size,0,none⟩ (.int .i64 p.rows)).setCell ⟨w1.heap.size,1,none⟩ (.int .i64 p.cols)).setCell ⟨w1.heap.size,2,none⟩ (.slice pa pn pk)).setCell ⟨w1.heap.size,3,none⟩ (.int .i64 q.rows)).setCell ⟨w1.heap.size,4,none⟩ (.int .i64 q.cols)).setCell ⟨w1.heap.size,5,none⟩ (.slice qa qn qk)) (w1.heap.size+1) (.int .i64 y.rows) (.int .i64 y.cols) (.slice ja jn jk))/\(Cells6 (((((((((wz.setCell ⟨w1.heap.size+1,0,none⟩ (.int .i64 y.rows)).setCell ⟨w1.heap.size+1,1,none⟩ (.int .i64 y.cols)).setCell ⟨w1.heap.size+1,2,none⟩ (.slice ja jn jk)).setCell ⟨w1.heap.size,0,none⟩ (.int .i64 p.rows)).setCell ⟨w1.heap.size,1,none⟩ (.int .i64 p.cols)).setCell ⟨w1.heap.size,2,none⟩ (.slice pa pn pk)).setCell ⟨w1.heap.size,3,none⟩ (.int .i64 q.rows)).setCell ⟨w1.heap.size,4,none⟩ (.int .i64 q.cols)).setCell ⟨w1.heap.size,5,none⟩ (.slice qa qn qk)) (w1.heap.size) (.int .i64 p.rows) (.int .i64 p.cols) (.slice pa pn pk) (.int .i64 q.rows) (.int .i64 q.cols) (.slice qa qn qk))):=h_ ⟨(c__ (box_set6 (set_three ZB1.out _ _ _) (Nat.succ_ne_self _) _ _ _ _ _ _)),(cells6_of (set_six (box_set3 ZB0.out ((Nat.succ_ne_self _).symm) _ _ _) _ _ _ _ _ _))⟩;have HQ1:=h_ (Nat.le_refl w1.heap.size);have HQ2:=h_ (Nat.le_succ w1.heap.size);have HQ3:=h_ HB2.out.size;have HQ4:=h_ (Nat.le_succ_of_le HB2.out.size);clear h hb2 hc2 hf hf1 hf2 hm hs1 hs2)
        |(go_at_call 93;guard_target=Calls _ _ _ (World.drew (World.alloc w1 (Obj.cells #[_,_,_] _))) _;refine HT1z.out.mono ?_;intro e wz h;obtain ⟨ja,jn,jk,pa,pn,pk,qa,qn,qk,rfl,hm,hs1,hs2,hb2,hf,hf1,hf2⟩:=h.all;have hc2:=b_ (r_ (Below.refl _ (w1.alloc (.cells #[.int .i64 0,.int .i64 0,.slice none 0 0] 28)))) hb2;have HB2:=h_ (show Below w1.heap.size w1 wz from (b_ (o_ w1 (.cells #[.int .i64 0,.int .i64 0,.slice none 0 0] 28)) hc2));have ZB0:=h_ ((Box.new w1 [.int .i64 0,.int .i64 0,.slice none 0 0] 28 (B:=w1.heap.size) rfl).u_ hc2);have ZL0:=h_ (Box.new w1 [.int .i64 0,.int .i64 0,.slice none 0 0] 28 (B:=w1.heap.size) rfl).lt;have ZF0:=h_ ((Free.new w1 #[.int .i64 0,.int .i64 0,.slice none 0 0] 28 (B:=w1.heap.size) rfl).u_ hc2 ZL0.out);obtain ⟨z00,z01,z02⟩:=ZB0.out.c3;obtain ⟨f00,f01,f02⟩:=ZF0.out.f3;have lt0:=ZB0.out.lt;have ne0:¬w1.heap.size=wz.heap.size:=Nat.ne_of_lt lt0;have en0:¬wz.heap.size=w1.heap.size:=(Nat.ne_of_lt lt0).symm;have yz0:=fun o=>p_ z00 o;have yf0:=fun o=>(World.frozen?_alloc_old wz o ⟨w1.heap.size,0,none⟩ ne0).trans f00;have yz1:=fun o=>p_ z01 o;have yf1:=fun o=>(World.frozen?_alloc_old wz o ⟨w1.heap.size,1,none⟩ ne0).trans f01;have yz2:=fun o=>p_ z02 o;have yf2:=fun o=>(World.frozen?_alloc_old wz o ⟨w1.heap.size,2,none⟩ ne0).trans f02;have HN0:=h_ (show M_ wz (.agg #[.int .i64 y.rows,.int .i64 y.cols,.slice ja jn jk]) y from hm);have HF0:=h_ (show F_ (w1.heap.size+1) (.agg #[.int .i64 y.rows,.int .i64 y.cols,.slice ja jn jk]) from f_ hf (szd1 _ _));have HG0:=h_ (f_ HF0.out (show w1.heap.size<=w1.heap.size+1 by omega));have HN1:=h_ (show I_ wz (.slice pa pn pk) p.cells from hs1);have HF1:=h_ (show F_ (w1.heap.size+1) (.agg #[.int .i64 p.rows,.int .i64 p.cols,.slice pa pn pk]) from f_ hf1 (szd1 _ _));have HG1:=h_ (f_ HF1.out (show w1.heap.size<=w1.heap.size+1 by omega));have HN2:=h_ (show I_ wz (.slice qa qn qk) q.cells from hs2);have HF2:=h_ (show F_ (w1.heap.size+1) (.agg #[.int .i64 q.rows,.int .i64 q.cols,.slice qa qn qk]) from f_ hf2 (szd1 _ _));have HG2:=h_ (f_ HF2.out (show w1.heap.size<=w1.heap.size+1 by omega));have HE0:Hid ((Cells3 ((((wz.setCell ⟨w1.heap.size,0,none⟩ (.int .i64 y.rows)).setCell ⟨w1.heap.size,1,none⟩ (.int .i64 y.cols)).setCell ⟨w1.heap.size,2,none⟩ (.slice ja jn jk)).alloc (.cells #[.int .i64 p.rows,.int .i64 p.cols,.slice pa pn pk,.int .i64 q.rows,.int .i64 q.cols,.slice qa qn qk] 61)) (w1.heap.size) (.int .i64 y.rows) (.int .i64 y.cols) (.slice ja jn jk))/\(Cells6 ((((wz.setCell ⟨w1.heap.size,0,none⟩ (.int .i64 y.rows)).setCell ⟨w1.heap.size,1,none⟩ (.int .i64 y.cols)).setCell ⟨w1.heap.size,2,none⟩ (.slice ja jn jk)).alloc (.cells #[.int .i64 p.rows,.int .i64 p.cols,.slice pa pn pk,.int .i64 q.rows,.int .i64 q.cols,.slice qa qn qk] 61)) (wz.heap.size) (.int .i64 p.rows) (.int .i64 p.cols) (.slice pa pn pk) (.int .i64 q.rows) (.int .i64 q.cols) (.slice qa qn qk))):=h_ ⟨(c__ ((set_three ZB0.out _ _ _).u_ (o_ _ _))),(cells6_of (Box.new (((wz.setCell ⟨w1.heap.size,0,none⟩ (.int .i64 y.rows)).setCell ⟨w1.heap.size,1,none⟩ (.int .i64 y.cols)).setCell ⟨w1.heap.size,2,none⟩ (.slice ja jn jk)) [.int .i64 p.rows,.int .i64 p.cols,.slice pa pn pk,.int .i64 q.rows,.int .i64 q.cols,.slice qa qn qk] 61 (size_set3 _ _ _ _ _)))⟩;have HE1:Hid ((Cells3 ((((wz.setCell ⟨w1.heap.size,0,none⟩ (.int .i64 y.rows)).setCell ⟨w1.heap.size,1,none⟩ (.int .i64 y.cols)).setCell ⟨w1.heap.size,2,none⟩ (.slice ja jn jk)).alloc (.cells #[.int .i64 p.rows,.int .i64 p.cols,.slice pa pn pk,.int .i64 q.rows,.int .i64 q.cols,.slice qa qn qk] 61)) (w1.heap.size) (.int .i64 y.rows) (.int .i64 y.cols) (.slice ja jn jk))/\(Cells6 ((((wz.setCell ⟨w1.heap.size,0,none⟩ (.int .i64 y.rows)).setCell ⟨w1.heap.size,1,none⟩ (.int .i64 y.cols)).setCell ⟨w1.heap.size,2,none⟩ (.slice ja jn jk)).alloc (.cells #[.int .i64 p.rows,.int .i64 p.cols,.slice pa pn pk,.int .i64 q.rows,.int .i64 q.cols,.slice qa qn qk] 61)) (wz.heap.size) (.int .i64 p.rows) (.int .i64 p.cols) (.slice pa pn pk) (.int .i64 q.rows) (.int .i64 q.cols) (.slice qa qn qk))):=h_ ⟨(c__ ((set_three ZB0.out _ _ _).u_ (o_ _ _))),(cells6_of (Box.new (((wz.setCell ⟨w1.heap.size,0,none⟩ (.int .i64 y.rows)).setCell ⟨w1.heap.size,1,none⟩ (.int .i64 y.cols)).setCell ⟨w1.heap.size,2,none⟩ (.slice ja jn jk)) [.int .i64 p.rows,.int .i64 p.cols,.slice pa pn pk,.int .i64 q.rows,.int .i64 q.cols,.slice qa qn qk] 61 (size_set3 _ _ _ _ _)))⟩;have HQ1:=h_ (Nat.le_refl w1.heap.size);have HQ2:=h_ (Nat.le_succ w1.heap.size);have HQ3:=h_ HB2.out.size;have HQ4:=h_ (Nat.le_succ_of_le HB2.out.size);clear h hb2 hc2 hf hf1 hf2 hm hs1 hs2)
        |(go_at_call 93;guard_target=Calls _ _ _ (World.drew (World.alloc w1 (Obj.cells #[_,_,_,_,_,_] _))) _;refine HT2z.out.mono ?_;intro e wz h;obtain ⟨ja,jn,jk,pa,pn,pk,qa,qn,qk,rfl,hm,hs1,hs2,hb2,hf,hf1,hf2⟩:=h.all;have hc2:=b_ (r_ (Below.refl _ (w1.alloc (.cells #[.int .i64 0,.int .i64 0,.slice none 0 0,.int .i64 0,.int .i64 0,.slice none 0 0] 61)))) hb2;have HB2:=h_ (show Below w1.heap.size w1 wz from (b_ (o_ w1 (.cells #[.int .i64 0,.int .i64 0,.slice none 0 0,.int .i64 0,.int .i64 0,.slice none 0 0] 61)) hc2));have ZB0:=h_ ((Box.new w1 [.int .i64 0,.int .i64 0,.slice none 0 0,.int .i64 0,.int .i64 0,.slice none 0 0] 61 (B:=w1.heap.size) rfl).u_ hc2);have ZL0:=h_ (Box.new w1 [.int .i64 0,.int .i64 0,.slice none 0 0,.int .i64 0,.int .i64 0,.slice none 0 0] 61 (B:=w1.heap.size) rfl).lt;have ZF0:=h_ ((Free.new w1 #[.int .i64 0,.int .i64 0,.slice none 0 0,.int .i64 0,.int .i64 0,.slice none 0 0] 61 (B:=w1.heap.size) rfl).u_ hc2 ZL0.out);obtain ⟨z00,z01,z02,z03,z04,z05⟩:=ZB0.out.c6;obtain ⟨f00,f01,f02,f03,f04,f05⟩:=ZF0.out.f6;have lt0:=ZB0.out.lt;have ne0:¬w1.heap.size=wz.heap.size:=Nat.ne_of_lt lt0;have en0:¬wz.heap.size=w1.heap.size:=(Nat.ne_of_lt lt0).symm;have yz0:=fun o=>p_ z00 o;have yf0:=fun o=>(World.frozen?_alloc_old wz o ⟨w1.heap.size,0,none⟩ ne0).trans f00;have yz1:=fun o=>p_ z01 o;have yf1:=fun o=>(World.frozen?_alloc_old wz o ⟨w1.heap.size,1,none⟩ ne0).trans f01;have yz2:=fun o=>p_ z02 o;have yf2:=fun o=>(World.frozen?_alloc_old wz o ⟨w1.heap.size,2,none⟩ ne0).trans f02;have yz3:=fun o=>p_ z03 o;have yf3:=fun o=>(World.frozen?_alloc_old wz o ⟨w1.heap.size,3,none⟩ ne0).trans f03;have yz4:=fun o=>p_ z04 o;have yf4:=fun o=>(World.frozen?_alloc_old wz o ⟨w1.heap.size,4,none⟩ ne0).trans f04;have yz5:=fun o=>p_ z05 o;have yf5:=fun o=>(World.frozen?_alloc_old wz o ⟨w1.heap.size,5,none⟩ ne0).trans f05;have HN0:=h_ (show M_ wz (.agg #[.int .i64 y.rows,.int .i64 y.cols,.slice ja jn jk]) y from hm);have HF0:=h_ (show F_ (w1.heap.size+1) (.agg #[.int .i64 y.rows,.int .i64 y.cols,.slice ja jn jk]) from f_ hf (szd1 _ _));have HG0:=h_ (f_ HF0.out (show w1.heap.size<=w1.heap.size+1 by omega));have HN1:=h_ (show I_ wz (.slice pa pn pk) p.cells from hs1);have HF1:=h_ (show F_ (w1.heap.size+1) (.agg #[.int .i64 p.rows,.int .i64 p.cols,.slice pa pn pk]) from f_ hf1 (szd1 _ _));have HG1:=h_ (f_ HF1.out (show w1.heap.size<=w1.heap.size+1 by omega));have HN2:=h_ (show I_ wz (.slice qa qn qk) q.cells from hs2);have HF2:=h_ (show F_ (w1.heap.size+1) (.agg #[.int .i64 q.rows,.int .i64 q.cols,.slice qa qn qk]) from f_ hf2 (szd1 _ _));have HG2:=h_ (f_ HF2.out (show w1.heap.size<=w1.heap.size+1 by omega));have HE0:Hid ((Cells3 (((((((wz.setCell ⟨w1.heap.size,0,none⟩ (.int .i64 p.rows)).setCell ⟨w1.heap.size,1,none⟩ (.int .i64 p.cols)).setCell ⟨w1.heap.size,2,none⟩ (.slice pa pn pk)).setCell ⟨w1.heap.size,3,none⟩ (.int .i64 q.rows)).setCell ⟨w1.heap.size,4,none⟩ (.int .i64 q.cols)).setCell ⟨w1.heap.size,5,none⟩ (.slice qa qn qk)).alloc (.cells #[.int .i64 y.rows,.int .i64 y.cols,.slice ja jn jk] 28)) (wz.heap.size) (.int .i64 y.rows) (.int .i64 y.cols) (.slice ja jn jk))/\(Cells6 (((((((wz.setCell ⟨w1.heap.size,0,none⟩ (.int .i64 p.rows)).setCell ⟨w1.heap.size,1,none⟩ (.int .i64 p.cols)).setCell ⟨w1.heap.size,2,none⟩ (.slice pa pn pk)).setCell ⟨w1.heap.size,3,none⟩ (.int .i64 q.rows)).setCell ⟨w1.heap.size,4,none⟩ (.int .i64 q.cols)).setCell ⟨w1.heap.size,5,none⟩ (.slice qa qn qk)).alloc (.cells #[.int .i64 y.rows,.int .i64 y.cols,.slice ja jn jk] 28)) (w1.heap.size) (.int .i64 p.rows) (.int .i64 p.cols) (.slice pa pn pk) (.int .i64 q.rows) (.int .i64 q.cols) (.slice qa qn qk))):=h_ ⟨(c__ (Box.new ((((((wz.setCell ⟨w1.heap.size,0,none⟩ (.int .i64 p.rows)).setCell ⟨w1.heap.size,1,none⟩ (.int .i64 p.cols)).setCell ⟨w1.heap.size,2,none⟩ (.slice pa pn pk)).setCell ⟨w1.heap.size,3,none⟩ (.int .i64 q.rows)).setCell ⟨w1.heap.size,4,none⟩ (.int .i64 q.cols)).setCell ⟨w1.heap.size,5,none⟩ (.slice qa qn qk)) [.int .i64 y.rows,.int .i64 y.cols,.slice ja jn jk] 28 (size_set6 _ _ _ _ _ _ _ _))),(cells6_of ((set_six ZB0.out _ _ _ _ _ _).u_ (o_ _ _)))⟩;have HE1:Hid ((Cells3 (((((((wz.setCell ⟨w1.heap.size,0,none⟩ (.int .i64 p.rows)).setCell ⟨w1.heap.size,1,none⟩ (.int .i64 p.cols)).setCell ⟨w1.heap.size,2,none⟩ (.slice pa pn pk)).setCell ⟨w1.heap.size,3,none⟩ (.int .i64 q.rows)).setCell ⟨w1.heap.size,4,none⟩ (.int .i64 q.cols)).setCell ⟨w1.heap.size,5,none⟩ (.slice qa qn qk)).alloc (.cells #[.int .i64 y.rows,.int .i64 y.cols,.slice ja jn jk] 28)) (wz.heap.size) (.int .i64 y.rows) (.int .i64 y.cols) (.slice ja jn jk))/\(Cells6 (((((((wz.setCell ⟨w1.heap.size,0,none⟩ (.int .i64 p.rows)).setCell ⟨w1.heap.size,1,none⟩ (.int .i64 p.cols)).setCell ⟨w1.heap.size,2,none⟩ (.slice pa pn pk)).setCell ⟨w1.heap.size,3,none⟩ (.int .i64 q.rows)).setCell ⟨w1.heap.size,4,none⟩ (.int .i64 q.cols)).setCell ⟨w1.heap.size,5,none⟩ (.slice qa qn qk)).alloc (.cells #[.int .i64 y.rows,.int .i64 y.cols,.slice ja jn jk] 28)) (w1.heap.size) (.int .i64 p.rows) (.int .i64 p.cols) (.slice pa pn pk) (.int .i64 q.rows) (.int .i64 q.cols) (.slice qa qn qk))):=h_ ⟨(c__ (Box.new ((((((wz.setCell ⟨w1.heap.size,0,none⟩ (.int .i64 p.rows)).setCell ⟨w1.heap.size,1,none⟩ (.int .i64 p.cols)).setCell ⟨w1.heap.size,2,none⟩ (.slice pa pn pk)).setCell ⟨w1.heap.size,3,none⟩ (.int .i64 q.rows)).setCell ⟨w1.heap.size,4,none⟩ (.int .i64 q.cols)).setCell ⟨w1.heap.size,5,none⟩ (.slice qa qn qk)) [.int .i64 y.rows,.int .i64 y.cols,.slice ja jn jk] 28 (size_set6 _ _ _ _ _ _ _ _))),(cells6_of ((set_six ZB0.out _ _ _ _ _ _).u_ (o_ _ _)))⟩;have HQ1:=h_ (Nat.le_refl w1.heap.size);have HQ2:=h_ (Nat.le_succ w1.heap.size);have HQ3:=h_ HB2.out.size;have HQ4:=h_ (Nat.le_succ_of_le HB2.out.size);clear h hb2 hc2 hf hf1 hf2 hm hs1 hs2)
        |(go_at_call 93;guard_target=Calls _ _ _ (World.drew w1) _;refine HTz.out.mono ?_;intro e wz h;obtain ⟨ja,jn,jk,pa,pn,pk,qa,qn,qk,rfl,hm,hs1,hs2,hb2,hf,hf1,hf2⟩:=h.all;have hc2:=b_ (r_ (Below.refl _ w1)) hb2;have HB2:=h_ (show Below w1.heap.size w1 wz from hc2);have HN0:=h_ (show M_ wz (.agg #[.int .i64 y.rows,.int .i64 y.cols,.slice ja jn jk]) y from hm);have HF0:=h_ (show F_ (w1.heap.size) (.agg #[.int .i64 y.rows,.int .i64 y.cols,.slice ja jn jk]) from f_ hf (Nat.le_refl _));have HG0:=h_ (f_ HF0.out (show w1.heap.size<=w1.heap.size by omega));have HN1:=h_ (show I_ wz (.slice pa pn pk) p.cells from hs1);have HF1:=h_ (show F_ (w1.heap.size) (.agg #[.int .i64 p.rows,.int .i64 p.cols,.slice pa pn pk]) from f_ hf1 (Nat.le_refl _));have HG1:=h_ (f_ HF1.out (show w1.heap.size<=w1.heap.size by omega));have HN2:=h_ (show I_ wz (.slice qa qn qk) q.cells from hs2);have HF2:=h_ (show F_ (w1.heap.size) (.agg #[.int .i64 q.rows,.int .i64 q.cols,.slice qa qn qk]) from f_ hf2 (Nat.le_refl _));have HG2:=h_ (f_ HF2.out (show w1.heap.size<=w1.heap.size by omega));have HE0:Hid ((Cells3 ((wz.alloc (.cells #[.int .i64 y.rows,.int .i64 y.cols,.slice ja jn jk] 28)).alloc (.cells #[.int .i64 p.rows,.int .i64 p.cols,.slice pa pn pk,.int .i64 q.rows,.int .i64 q.cols,.slice qa qn qk] 61)) (wz.heap.size) (.int .i64 y.rows) (.int .i64 y.cols) (.slice ja jn jk))/\(Cells6 ((wz.alloc (.cells #[.int .i64 y.rows,.int .i64 y.cols,.slice ja jn jk] 28)).alloc (.cells #[.int .i64 p.rows,.int .i64 p.cols,.slice pa pn pk,.int .i64 q.rows,.int .i64 q.cols,.slice qa qn qk] 61)) (wz.heap.size+1) (.int .i64 p.rows) (.int .i64 p.cols) (.slice pa pn pk) (.int .i64 q.rows) (.int .i64 q.cols) (.slice qa qn qk))):=h_ ⟨(c__ ((Box.new wz [.int .i64 y.rows,.int .i64 y.cols,.slice ja jn jk] 28 rfl).u_ (o_ _ _))),(cells6_of (Box.new (wz.alloc (.cells #[.int .i64 y.rows,.int .i64 y.cols,.slice ja jn jk] 28)) [.int .i64 p.rows,.int .i64 p.cols,.slice pa pn pk,.int .i64 q.rows,.int .i64 q.cols,.slice qa qn qk] 61 (World.size_alloc _ _)))⟩;have HE1:Hid ((Cells3 ((wz.alloc (.cells #[.int .i64 p.rows,.int .i64 p.cols,.slice pa pn pk,.int .i64 q.rows,.int .i64 q.cols,.slice qa qn qk] 61)).alloc (.cells #[.int .i64 y.rows,.int .i64 y.cols,.slice ja jn jk] 28)) (wz.heap.size+1) (.int .i64 y.rows) (.int .i64 y.cols) (.slice ja jn jk))/\(Cells6 ((wz.alloc (.cells #[.int .i64 p.rows,.int .i64 p.cols,.slice pa pn pk,.int .i64 q.rows,.int .i64 q.cols,.slice qa qn qk] 61)).alloc (.cells #[.int .i64 y.rows,.int .i64 y.cols,.slice ja jn jk] 28)) (wz.heap.size) (.int .i64 p.rows) (.int .i64 p.cols) (.slice pa pn pk) (.int .i64 q.rows) (.int .i64 q.cols) (.slice qa qn qk))):=h_ ⟨(c__ (Box.new (wz.alloc (.cells #[.int .i64 p.rows,.int .i64 p.cols,.slice pa pn pk,.int .i64 q.rows,.int .i64 q.cols,.slice qa qn qk] 61)) [.int .i64 y.rows,.int .i64 y.cols,.slice ja jn jk] 28 (World.size_alloc _ _))),(cells6_of ((Box.new wz [.int .i64 p.rows,.int .i64 p.cols,.slice pa pn pk,.int .i64 q.rows,.int .i64 q.cols,.slice qa qn qk] 61 rfl).u_ (o_ _ _)))⟩;have HQ1:=h_ (Nat.le_refl w1.heap.size);have HQ2:=h_ (Nat.le_succ w1.heap.size);have HQ3:=h_ HB2.out.size;have HQ4:=h_ (Nat.le_succ_of_le HB2.out.size);clear h hb2 hc2 hf hf1 hf2 hm hs1 hs2))
      all_goals go_wp2
      all_goals go_meet
      all_goals
       obtain ⟨a0,b0⟩:=HE0.out
       obtain ⟨a1,b1⟩:=HE1.out
       refine ⟨_,_,ja,jn,jk,pa,pn,pk,qa,qn,qk,rfl,rfl,?_,?_,?_,?_,?_,?_,?_,HG0.out,HG1.out,HG2.out,?_⟩
       ·(refine HN0.out.above HF0.out ?_;repeat' (first|with_reducible exact Above.refl _ _|with_reducible refine abv_drew ?_|with_reducible refine abv_alloc ?_|with_reducible refine v_ ?_ (by omega)))
       ·(refine HN1.out.above HF1.out ?_;repeat' (first|with_reducible exact Above.refl _ _|with_reducible refine abv_drew ?_|with_reducible refine abv_alloc ?_|with_reducible refine v_ ?_ (by omega)))
       ·(refine HN2.out.above HF2.out ?_;repeat' (first|with_reducible exact Above.refl _ _|with_reducible refine abv_drew ?_|with_reducible refine abv_alloc ?_|with_reducible refine v_ ?_ (by omega)))
       ·first|with_reducible exact a0|with_reducible exact a1
       ·first|with_reducible exact b0|with_reducible exact b1
       ·(first|with_reducible exact HQ1.out|with_reducible exact HQ2.out|with_reducible exact HQ3.out|with_reducible exact HQ4.out)
       ·(first|with_reducible exact HQ1.out|with_reducible exact HQ2.out|with_reducible exact HQ3.out|with_reducible exact HQ4.out)
       ·repeat' (first|with_reducible exact Below.refl _ _|with_reducible exact HB2.out|with_reducible refine d_ ?_|with_reducible refine a_ ?_|with_reducible refine t_ ?_ ?_|exact Nat.le_refl _|exact Nat.le_succ _|exact HB2.out.size|exact Nat.le_succ_of_le HB2.out.size)
     case rest=>
      obtain ⟨B1,B2,ja,jn,jk,pa,pn,pk,qa,qn,qk,rfl,rfl,hmy,hsp,hsq,hc1,hc2,hn1,hn2,fhmy,fhsp,fhsq,hbc⟩:=hcut
      obtain ⟨wa,hwa⟩:=gM (wc)
      subst hwa
      have HDA:=h_ (b_ HD1.out hbc)
      have HBA:=h_ (b_ HWV.out HDA.out)
      have HSZ:=h_ (And.intro hbc.size (show w.heap.size+2<=w1.heap.size by have h1:=HD1.out.size;rw[HV.out,World.size_alloc,World.size_alloc]at h1;exact h1))
      have HMY:=h_ hmy
      have HPQ:=h_ (And.intro hsp hsq)
      have HFF:=h_ (And.intro fhmy (And.intro fhsp fhsq))
      have HC1:=h_ hc1
      have HC2:=h_ hc2
      have HNB:=h_ (And.intro hn1 hn2)
      have HLB:=h_ (And.intro (World.block_lt_of_cell? _ _ hc1.1) (World.block_lt_of_cell? _ _ hc2.1))
      clear HT HSB HT12z HT21z HT1z HT2z HTz lm0 lm1 lm2 lm3 lm4 lm5 lm6 lm7 lm8 lm9 lm10 lm11 lm12 hmy hsp hsq fhmy fhsp fhsq hc1 hc2 hn1 hn2 hbc
      have HEN:=h_ (show Enc wa (fun b=>0<=b/\b<w.heap.size+2) (gdS (p,q)) [.int .i64 p.rows,.int .i64 p.cols,.slice pa pn pk,.int .i64 q.rows,.int .i64 q.cols,.slice qa qn qk] from enc_gd2 (d:=(p,q)) (part_mid HPQ.out.1 (Below.refl _ _) HFF.out.2.1 (fun b hb=>.inl (by have:=HSZ.out.2;omega))) (part_mid HPQ.out.2 (Below.refl _ _) HFF.out.2.2 (fun b hb=>.inl (by have:=HSZ.out.2;omega))))
      by_cases hk:k=0
      ·have hx0:xi=0:=by have:=HXI.out;omega
       have hE0:0=E:=by have h:=HST.out;rw[if_neg (by simp),hk]at h;exact h.symm
       have hxd:=HXT.out hE0.symm
       rw[hk]at hxd
       obtain ⟨eX,eD⟩:=hxd
       replace eX:y=X:=eX.symm
       replace eD:[(p,q)]=D:=eD.symm
       subst eX eD hE0
       clear hk
       have q0:=(HBR.out.u_ HDA.out) 0 _ rfl
       have f0:=(HFR.out.u_ HDA.out HBR.out.lt) 0
       have q1:=(HBR.out.u_ HDA.out) 1 _ rfl
       have f1:=(HFR.out.u_ HDA.out HBR.out.lt) 1
       have q2:=(HBR.out.u_ HDA.out) 2 _ rfl
       have f2:=(HFR.out.u_ HDA.out HBR.out.lt) 2
       have hnr:¬w.heap.size+1=wa.heap.size:=by have:=(HBR.out.u_ HDA.out).lt;omega
       have qz0:=fun o=>p_ q0 o
       have qz1:=fun o=>p_ q1 o
       have qz2:=fun o=>p_ q2 o
       have fz0:=fun o=>(World.frozen?_alloc_old wa o ⟨w.heap.size+1,0,none⟩ hnr).trans f0
       have fz1:=fun o=>(World.frozen?_alloc_old wa o ⟨w.heap.size+1,1,none⟩ hnr).trans f1
       have fz2:=fun o=>(World.frozen?_alloc_old wa o ⟨w.heap.size+1,2,none⟩ hnr).trans f2
       obtain ⟨c0,c1,c2⟩:=HC1.out
       obtain ⟨d0,d1,d2,d3,d4,d5⟩:=HC2.out
       have HOW:=h_ (Owns.made (lo:=0) (base:=w.heap.size+2) (w:=wa) (e:=61) (size:=6) (n:=1) (cs:=[.int .i64 p.rows,.int .i64 p.cols,.slice pa pn pk,.int .i64 q.rows,.int .i64 q.cols,.slice qa qn qk]) (sp:=gdS (p,q)) (by have:=HSZ.out;omega) (by unfold maxLen;decide) rfl HEN.out)
       have HPY:=h_ (show P_ (wa.alloc (.cells #[.int .i64 p.rows,.int .i64 p.cols,.slice pa pn pk,.int .i64 q.rows,.int .i64 q.cols,.slice qa qn qk] 61)) (fun b=>b=wa.heap.size\/b<w.heap.size+2) (.inr y.cells) (.slice ja jn jk) from part_mid HMY.out.ints (o_ _ _) HFF.out.1 (fun b hb=>by have:=HSZ.out;omega))
       have cz0:=fun o=>p_ c0 o
       have cz1:=fun o=>p_ c1 o
       have cz2:=fun o=>p_ c2 o
       have ne2:¬B2=w.heap.size+1:=by have h1:=HNB.out.2;have h2:=HSZ.out.2;omega
       have kz0:=s_ d0 (B:=w.heap.size+1) ne2 (.int .i64 y.rows) (.int .i64 y.cols) (.slice ja jn jk)
       have kz1:=s_ d1 (B:=w.heap.size+1) ne2 (.int .i64 y.rows) (.int .i64 y.cols) (.slice ja jn jk)
       have kz2:=s_ d2 (B:=w.heap.size+1) ne2 (.int .i64 y.rows) (.int .i64 y.cols) (.slice ja jn jk)
       have kz3:=s_ d3 (B:=w.heap.size+1) ne2 (.int .i64 y.rows) (.int .i64 y.cols) (.slice ja jn jk)
       have kz4:=s_ d4 (B:=w.heap.size+1) ne2 (.int .i64 y.rows) (.int .i64 y.cols) (.slice ja jn jk)
       have kz5:=s_ d5 (B:=w.heap.size+1) ne2 (.int .i64 y.rows) (.int .i64 y.cols) (.slice ja jn jk)
       have HO1:=h_ (show Owns 0 (w.heap.size+2) ((((wa.alloc (.cells #[.int .i64 p.rows,.int .i64 p.cols,.slice pa pn pk,.int .i64 q.rows,.int .i64 q.cols,.slice qa qn qk] 61)).setCell ⟨w.heap.size+1,0,none⟩ (.int .i64 y.rows)).setCell ⟨w.heap.size+1,1,none⟩ (.int .i64 y.cols)).setCell ⟨w.heap.size+1,2,none⟩ (.slice ja jn jk)) 61 6 (.slice (some ⟨wa.heap.size,0,none⟩) 1 1) 1 (gdS (p,q)) from ((HOW.out.set (Nat.zero_le _) (Nat.lt_succ_self _) 0 _).set (Nat.zero_le _) (Nat.lt_succ_self _) 1 _).set (Nat.zero_le _) (Nat.lt_succ_self _) 2 _)
       have HP1:=h_ (show P_ ((((wa.alloc (.cells #[.int .i64 p.rows,.int .i64 p.cols,.slice pa pn pk,.int .i64 q.rows,.int .i64 q.cols,.slice qa qn qk] 61)).setCell ⟨w.heap.size+1,0,none⟩ (.int .i64 y.rows)).setCell ⟨w.heap.size+1,1,none⟩ (.int .i64 y.cols)).setCell ⟨w.heap.size+1,2,none⟩ (.slice ja jn jk)) (fun b=>b=wa.heap.size\/b<w.heap.size+2) (.inr y.cells) (.slice ja jn jk) from ((HPY.out.set (.inr (Nat.lt_succ_self _)) 0 _).set (.inr (Nat.lt_succ_self _)) 1 _).set (.inr (Nat.lt_succ_self _)) 2 _)
       have HE2:=h_ (show Enc (((wa.setCell ⟨w.heap.size+1,0,none⟩ (.int .i64 y.rows)).setCell ⟨w.heap.size+1,1,none⟩ (.int .i64 y.cols)).setCell ⟨w.heap.size+1,2,none⟩ (.slice ja jn jk)) (fun b=>0<=b/\b<w.heap.size+2) (gdS (p,q)) [.int .i64 p.rows,.int .i64 p.cols,.slice pa pn pk,.int .i64 q.rows,.int .i64 q.cols,.slice qa qn qk] from HEN.out.map (fun r u hr=>((hr.set (B:=w.heap.size+1) ⟨Nat.zero_le _,Nat.lt_succ_self _⟩ 0 _).set (B:=w.heap.size+1) ⟨Nat.zero_le _,Nat.lt_succ_self _⟩ 1 _).set (B:=w.heap.size+1) ⟨Nat.zero_le _,Nat.lt_succ_self _⟩ 2 _))
       have HO2:=Owns.made (lo:=0) (base:=w.heap.size+2) (w:=(((wa.setCell ⟨w.heap.size+1,0,none⟩ (.int .i64 y.rows)).setCell ⟨w.heap.size+1,1,none⟩ (.int .i64 y.cols)).setCell ⟨w.heap.size+1,2,none⟩ (.slice ja jn jk))) (e:=61) (size:=6) (n:=1) (cs:=[.int .i64 p.rows,.int .i64 p.cols,.slice pa pn pk,.int .i64 q.rows,.int .i64 q.cols,.slice qa qn qk]) (sp:=gdS (p,q)) (by have:=HSZ.out;simp;omega) (by unfold maxLen;decide) rfl HE2.out
       rw[size_set3]at HO2
       replace HO2:=h_ HO2
       have HPS:=h_ (show P_ wa (fun b=>b=wa.heap.size\/b<w.heap.size+2) (.inr y.cells) (.slice ja jn jk) from part_mid HMY.out.ints (Below.refl _ _) HFF.out.1 (fun b hb=>by have:=HSZ.out;omega))
       have HP2:=h_ ((((HPS.out.set (.inr (Nat.lt_succ_self _)) 0 (.int .i64 y.rows)).set (.inr (Nat.lt_succ_self _)) 1 (.int .i64 y.cols)).set (.inr (Nat.lt_succ_self _)) 2 (.slice ja jn jk)).u_ (o_ _ (.cells #[.int .i64 p.rows,.int .i64 p.cols,.slice pa pn pk,.int .i64 q.rows,.int .i64 q.cols,.slice qa qn qk] 61)))
       have HL1:=h_ (show Below w.heap.size w ((((wa.alloc (.cells #[.int .i64 p.rows,.int .i64 p.cols,.slice pa pn pk,.int .i64 q.rows,.int .i64 q.cols,.slice qa qn qk] 61)).setCell ⟨w.heap.size+1,0,none⟩ (.int .i64 y.rows)).setCell ⟨w.heap.size+1,1,none⟩ (.int .i64 y.cols)).setCell ⟨w.heap.size+1,2,none⟩ (.slice ja jn jk)) from S_ (b_ HBA.out (o_ _ _)) (Nat.le_succ _) _ _ _)
       have HL2:=h_ (show Below w.heap.size w ((((wa.setCell ⟨w.heap.size+1,0,none⟩ (.int .i64 y.rows)).setCell ⟨w.heap.size+1,1,none⟩ (.int .i64 y.cols)).setCell ⟨w.heap.size+1,2,none⟩ (.slice ja jn jk)).alloc (.cells #[.int .i64 p.rows,.int .i64 p.cols,.slice pa pn pk,.int .i64 q.rows,.int .i64 q.cols,.slice qa qn qk] 61)) from b_ (S_ HBA.out (Nat.le_succ _) _ _ _) (o_ _ _))
       have HR1:=h_ (show NBEnd w (ls≠[]) y [(p,q)] 0 (.returned (.tuple #[(.agg #[.int .i64 y.rows,.int .i64 y.cols,.slice ja jn jk]),.slice (some ⟨wa.heap.size,0,none⟩) 1 1,.int .i64 0])) _ from ⟨_,_,rfl,HP1.out.mono (fun b _ hb=>own_or hb),by simpa using HO1.out.weaken (by omega) (Nat.le_refl _),HL1.out⟩)
       have HR2:=h_ (show NBEnd w (ls≠[]) y [(p,q)] 0 (.returned (.tuple #[(.agg #[.int .i64 y.rows,.int .i64 y.cols,.slice ja jn jk]),.slice (some ⟨wa.heap.size,0,none⟩) 1 1,.int .i64 0])) _ from ⟨_,_,rfl,HP2.out.mono (fun b _ hb=>own_or hb),by simpa using HO2.out.weaken (by omega) (Nat.le_refl _),HL2.out⟩)
       clear HOW HPY HO1 HP1 HE2 HO2 HPS HP2 HL1 HL2
       have HTA:=three_set ((HBR.out.u_ HDA.out).u_ (o_ wa (.cells #[.int .i64 p.rows,.int .i64 p.cols,.slice pa pn pk,.int .i64 q.rows,.int .i64 q.cols,.slice qa qn qk] 61))) (.int .i64 y.rows) (.int .i64 y.cols) (.slice ja jn jk)
       have HTB:=(three_set (HBR.out.u_ HDA.out) (.int .i64 y.rows) (.int .i64 y.cols) (.slice ja jn jk)).u_ (o_ _ (.cells #[.int .i64 p.rows,.int .i64 p.cols,.slice pa pn pk,.int .i64 q.rows,.int .i64 q.cols,.slice qa qn qk] 61))
       have HRS:=h_ (And.intro (c__ HTA) (c__ HTB))
       clear HTA HTB
       go_wp2
       clear hxi0 hxi1 hxiN hxiM hxiL h12' hm' hkN hx0 hlc hlc'
       go_region
       all_goals go_wp2
       all_goals
        obtain ⟨⟨ra0,ra1,ra2⟩,⟨rb0,rb1,rb2⟩⟩:=HRS.out
        refine bodyPost_ret (v:=.tuple #[(.agg #[.int .i64 y.rows,.int .i64 y.cols,.slice ja jn jk]),.slice (some ⟨wa.heap.size,0,none⟩) 1 1,.int .i64 0]) (by first|(simp[results,Tryz.results59,go_sem,ra0,ra1,ra2];done)|(simp[results,Tryz.results59,go_sem,rb0,rb1,rb2];done)) rfl ?_
        first|with_reducible exact nb_drew HR1.out|with_reducible exact nb_drew HR2.out|with_reducible exact HR1.out|with_reducible exact HR2.out
      ·have hk0:0<k:=by omega
       have hx0:¬xi=0:=by have:=HXI.out;omega
       have hcp:xi<=(cap:Int):=by omega
       have hcq:xi+1<=(cap':Int):=by omega
       have hwr:=wrap_in (x:=xi+1) (by omega) (by omega)
       have hxp0:0<=xi+1:=by omega
       have HTN:=h_ (show ls.take k≠[] by intro e;have h1:=congrArg List.length e;rw[List.length_take,List.length_nil]at h1;have:=HN.out.1;omega)
       obtain ⟨hs1,hs2⟩:=nb_sub (ls:=ls) (ms:=ms) HN.out.1 hk0 (by rw[HN.out.1,<-HN.out.2.1];exact h12) (by rw[HN.out.2.2,HN.out.1,<-HN.out.2.1]) y
       have HT:=h_ (fun W (h:Below wa.heap.size wa W)=>(show Calls Tryz.prog 59 #[.slice (some ⟨b,off,none⟩) xi.toNat cap,.slice (some ⟨b',off',none⟩) (xi+1).toNat cap',(.agg #[.int .i64 y.rows,.int .i64 y.cols,.slice ja jn jk])] W (NBEnd W (ls.take k≠[]) (nbX (ls.take k) (ms.take (k+1)) y) (nbD (ls.take k) (ms.take (k+1)) y) (nbE (ls.take k) (ms.take (k+1)) y)) by
        rw[show xi.toNat=k by have:=HXI.out;omega,show (xi+1).toNat=k+1 by have:=HXI.out;omega]
        exact IH.out _ _ y _ _ _ W (by rw[List.length_take];have:=HN.out.1;omega) (Y_.take (by have:=HN.out;omega) (H0.out.u_ (b_ HBA.out h)) k (by have:=HN.out;omega)) (IsMxs.take HN.out.2.2 (H1.out.u_ (b_ HBA.out h)) (k+1) (by have:=HN.out;omega)) ⟨_,rfl,(HMY.out.u_ h).ints⟩))
       obtain ⟨E3,hE3⟩:=gN (nbE (ls.take k) (ms.take (k+1)) y)
       obtain ⟨X3,hX3⟩:=gN (nbX (ls.take k) (ms.take (k+1)) y)
       obtain ⟨D3,hD3⟩:=gN (nbD (ls.take k) (ms.take (k+1)) y)
       rw[hE3,hX3,hD3]at HT
       rw[hE3]at hs1
       rw[hE3,hX3,hD3]at hs2
       have HS3:=h_ (And.intro hs1 hs2)
       clear hE3 hX3 hD3 hs1 hs2
       have HSB:Hid (∀W',Below wa.heap.size wa W'->(fun W'=>W'.cell? ⟨B1,0,none⟩=some (.int .i64 y.rows)/\W'.cell? ⟨B1,1,none⟩=some (.int .i64 y.cols)/\W'.cell? ⟨B1,2,none⟩=some (.slice ja jn jk)) W'):=h_ (fun W' h=>⟨c_ h HC1.out.1,c_ h HC1.out.2.1,c_ h HC1.out.2.2⟩)
       have HT3:=h_ (HT.out (wa.alloc (.cells #[.int .i64 0,.int .i64 0,.slice none 0 0] 28)).drew (d_ (a_ (Below.refl wa.heap.size wa))))
       have HT0:=h_ (HT.out wa.drew (d_ (Below.refl wa.heap.size wa)))
       obtain ⟨c0,c1,c2⟩:=HC1.out
       go_wp2
       go_cut [14,15,11] from 72 to 84 (fun a1 a2 a3 wx=>∃(Bx:Nat) (na:Option Addr) (nn nk:Nat),a1=.pointer (some ⟨Bx,0,none⟩)/\a3=.int .i64 E3/\Cells3 wx Bx (.int .i64 X3.rows) (.int .i64 X3.cols) (.slice na nn nk)/\P_ wx (fun b=>a2.ownBlock=some b\/b<wa.heap.size) (.inr X3.cells) (.slice na nn nk)/\Owns 0 wa.heap.size wx 61 6 a2 D3.length (D3.flatMap gdS)/\wa.heap.size<=Bx/\a2.ownBlock≠some Bx/\Below wa.heap.size wa wx)
       case first=>
        go_region_held3 (fun W'=>W'.cell? ⟨B1,0,none⟩=some (.int .i64 y.rows)/\W'.cell? ⟨B1,1,none⟩=some (.int .i64 y.cols)/\W'.cell? ⟨B1,2,none⟩=some (.slice ja jn jk)) ((refine HSB.out _ ?_;repeat' (first|with_reducible exact Below.refl _ _|with_reducible exact HB2.out|with_reducible refine d_ ?_|with_reducible refine a_ ?_|with_reducible refine t_ ?_ ?_|exact Nat.le_refl _|exact Nat.le_succ _|exact HB2.out.size|exact Nat.le_succ_of_le HB2.out.size)))
         (first
          |(go_at_call 59;guard_target=Calls _ _ _ (World.drew (World.alloc wa (Obj.cells #[_,_,_] _))) _;refine HT3.out.mono ?_;rintro e wz ⟨sx,vd,rfl,hpx,how,hb2⟩;obtain ⟨na,nn,nk,rfl⟩:=hpx.1.shape;have hc2:=b_ (r_ (Below.refl _ (wa.alloc (.cells #[.int .i64 0,.int .i64 0,.slice none 0 0] 28)))) hb2;have HB2:=h_ (show Below wa.heap.size wa wz from b_ (o_ wa (.cells #[.int .i64 0,.int .i64 0,.slice none 0 0] 28)) hc2);have ZB3:=h_ ((Box.new wa [.int .i64 0,.int .i64 0,.slice none 0 0] 28 (B:=wa.heap.size) rfl).u_ hc2);have ZB3l:=h_ (Box.new wa [.int .i64 0,.int .i64 0,.slice none 0 0] 28 (B:=wa.heap.size) rfl).lt;have ZF3:=h_ ((Free.new wa #[.int .i64 0,.int .i64 0,.slice none 0 0] 28 (B:=wa.heap.size) rfl).u_ hc2 ZB3l.out);obtain ⟨z30,z31,z32⟩:=ZB3.out.c3;obtain ⟨f30,f31,f32⟩:=ZF3.out.f3;have hsd:wa.heap.size<(wa.alloc (.cells #[.int .i64 0,.int .i64 0,.slice none 0 0] 28)).drew.heap.size:=szd1 _ _;have HEa:Hid (Cells3 (((wz.setCell ⟨wa.heap.size,0,none⟩ (.int .i64 X3.rows)).setCell ⟨wa.heap.size,1,none⟩ (.int .i64 X3.cols)).setCell ⟨wa.heap.size,2,none⟩ (.slice na nn nk)) wa.heap.size (.int .i64 X3.rows) (.int .i64 X3.cols) (.slice na nn nk)):=h_ (c__ (set_three ZB3.out _ _ _));have HPa:Hid (P_ (((wz.setCell ⟨wa.heap.size,0,none⟩ (.int .i64 X3.rows)).setCell ⟨wa.heap.size,1,none⟩ (.int .i64 X3.cols)).setCell ⟨wa.heap.size,2,none⟩ (.slice na nn nk)) (fun b=>vd.ownBlock=some b\/b<wa.heap.size) (.inr X3.cells) (.slice na nn nk)):=h_ ((((hpx.set (B:=wa.heap.size) (.inr ⟨HTN.out,hsd⟩) 0 _).set (B:=wa.heap.size) (.inr ⟨HTN.out,hsd⟩) 1 _).set (B:=wa.heap.size) (.inr ⟨HTN.out,hsd⟩) 2 _).mono (fun b _ hb=>hb.imp id (fun h=>⟨HTN.out,Nat.lt_trans h hsd⟩)));have HOa:Hid (Owns 0 wa.heap.size (((wz.setCell ⟨wa.heap.size,0,none⟩ (.int .i64 X3.rows)).setCell ⟨wa.heap.size,1,none⟩ (.int .i64 X3.cols)).setCell ⟨wa.heap.size,2,none⟩ (.slice na nn nk)) 61 6 vd D3.length (D3.flatMap gdS)):=h_ ((((how.set (Nat.zero_le _) hsd 0 _).set (Nat.zero_le _) hsd 1 _).set (Nat.zero_le _) hsd 2 _).weaken (Nat.le_of_lt hsd) (Nat.le_refl _));have HNb:=h_ (Nat.le_refl wa.heap.size);have HNe:=h_ (show vd.ownBlock≠some wa.heap.size from fun e=>by have:=(how.lt _ e).1;omega);clear hc2 hb2 hpx how hsd)
          |(go_at_call 59;guard_target=Calls _ _ _ (World.drew wa) _;refine HT0.out.mono ?_;rintro e wz ⟨sx,vd,rfl,hpx,how,hb2⟩;obtain ⟨na,nn,nk,rfl⟩:=hpx.1.shape;have hc2:=b_ (r_ (Below.refl _ wa)) hb2;have HB2:=h_ (show Below wa.heap.size wa wz from hc2);have HEa:Hid (Cells3 (wz.alloc (.cells #[.int .i64 X3.rows,.int .i64 X3.cols,.slice na nn nk] 28)) wz.heap.size (.int .i64 X3.rows) (.int .i64 X3.cols) (.slice na nn nk)):=h_ (c__ (Box.new wz [.int .i64 X3.rows,.int .i64 X3.cols,.slice na nn nk] 28 rfl));have HPa:Hid (P_ (wz.alloc (.cells #[.int .i64 X3.rows,.int .i64 X3.cols,.slice na nn nk] 28)) (fun b=>vd.ownBlock=some b\/b<wa.heap.size) (.inr X3.cells) (.slice na nn nk)):=h_ ((hpx.mono (fun b _ hb=>hb.imp id (fun h=>⟨HTN.out,h⟩))).u_ (o_ _ _));have HOa:Hid (Owns 0 wa.heap.size (wz.alloc (.cells #[.int .i64 X3.rows,.int .i64 X3.cols,.slice na nn nk] 28)) 61 6 vd D3.length (D3.flatMap gdS)):=h_ (Owns.u_ how (o_ _ _));have HNb:=h_ HB2.out.size;have HNe:=h_ (show vd.ownBlock≠some wz.heap.size from fun e=>by have:=(how.lt _ e).2;omega);clear hc2 hb2 hpx how))
        all_goals go_wp2
        all_goals go_meet
        all_goals
         refine ⟨_,na,nn,nk,rfl,rfl,?_,?_,?_,HNb.out,HNe.out,?_⟩
         ·with_reducible exact HEa.out
         ·with_reducible exact HPa.out
         ·with_reducible exact HOa.out
         ·repeat' (first|with_reducible exact Below.refl _ _|with_reducible exact HB2.out|with_reducible refine d_ ?_|with_reducible refine a_ ?_|with_reducible refine t_ ?_ ?_|exact Nat.le_refl _|exact Nat.le_succ _|exact HB2.out.size|exact Nat.le_succ_of_le HB2.out.size)
       case rest=>
        obtain ⟨Bx,na,nn,nk,rfl,rfl,hcx,hpx,how,hnx,hne,hbc⟩:=hcut
        have HNE:=h_ hne
        have HWC:=h_ hbc
        have HDC:=h_ (b_ HDA.out hbc)
        have HBC:=h_ (b_ HBA.out hbc)
        have HCX:=h_ hcx
        have HPX:=h_ hpx
        have HOX:=h_ how
        have HNX:=h_ (And.intro hnx (And.intro (World.block_lt_of_cell? _ _ hcx.1) hbc.size))
        have HD2:=h_ (cells6_below HC2.out hbc)
        have HQI:=h_ (And.intro (HPQ.out.1.u_ hbc) (HPQ.out.2.u_ hbc))
        clear hcx hpx how hnx hne hbc HT HSB HT0 HT3 c0 c1 c2 hcp hcq hwr hxp0 hx0 hxi0 hxi1 hxiN hxiM hxiL
        by_cases h3:E3=0
        ·subst h3
         have hE0:0=E:=by have h:=HST.out;rw[if_neg (by simp),<-HS3.out.1]at h;exact h.symm
         obtain ⟨eX,eD⟩:=HXT.out hE0.symm
         obtain ⟨fX,fD⟩:=HS3.out.2 rfl
         rw[<-fX]at eX
         rw[<-fD]at eD
         replace eX:X3=X:=eX.symm
         replace eD:D3++[(p,q)]=D:=eD.symm
         subst eX eD hE0
         have fD0:=fD
         clear fX fD
         have hD12:D3.length<=12:=by rw[fD0];have h1:=bkD_len (ls.take k).reverse (ms.take k).reverse y;rw[List.length_reverse,List.length_take]at h1;have:=HN.out;omega
         clear fD0
         have HW2:=h_ (show w.heap.size+2<=wc.heap.size by have:=HSZ.out;have:=HNX.out;omega)
         have HOU:=h_ (show ∀b,u15.ownBlock=some b->w.heap.size+2<=b from fun b hb=>by have:=(HOX.out.lt b hb).1;have:=HSZ.out;omega)
         have HOw:=h_ (HOX.out.weaken (base':=w.heap.size+2) (by have:=HSZ.out;omega) (Nat.le_refl _))
         have HPw:=h_ (show P_ wc (fun b=>u15.ownBlock=some b\/b<w.heap.size+2) (.inr X3.cells) (.slice na nn nk) from HPX.out.mono (fun b _ hb=>hb.imp id (fun h=>by have:=HSZ.out;omega)))
         have hG:∀b,(u15.ownBlock=some b\/(0<=b/\b<w.heap.size+2))->b<w1.heap.size\/wa.heap.size<=b:=fun b hb=>by
          rcases hb with hb|hb
          ·exact .inr (HOX.out.lt b hb).1
          ·exact .inl (by have:=HSZ.out;omega)
         have HEw:=h_ (show Enc wc (fun b=>u15.ownBlock=some b\/(0<=b/\b<w.heap.size+2)) (gdS (p,q)) [.int .i64 p.rows,.int .i64 p.cols,.slice pa pn pk,.int .i64 q.rows,.int .i64 q.cols,.slice qa qn qk] from enc_gd2 (d:=(p,q)) (part_mid HPQ.out.1 HWC.out HFF.out.2.1 hG) (part_mid HPQ.out.2 HWC.out HFF.out.2.2 hG))
         clear hG
         have HNR:=h_ (show some (w.heap.size+1)≠u15.ownBlock from fun e=>by have:=HOU.out _ e.symm;omega)
         have HNO:=h_ (show ∀b,u15.ownBlock=some b->¬(fun b=>b=Bx\/b=B2) b from fun b hb h=>by
          rcases h with h|h
          ·exact HNE.out (h▸hb)
          ·have:=(HOX.out.lt b hb).1;have:=HLB.out.2;omega)
         have HNP:=h_ (show ¬(fun b=>b=Bx\/b=B2) (w.heap.size+1) from fun h=>by have:=HNX.out;have:=HSZ.out;have:=HNB.out;omega)
         have hA:=o_ wc (.cells #[.int .i64 p.rows,.int .i64 p.cols,.slice pa pn pk,.int .i64 q.rows,.int .i64 q.cols,.slice qa qn qk] 61)
         have HBw:=h_ (HBR.out.u_ HDC.out)
         have HFw:=h_ (HFR.out.u_ HDC.out HBR.out.lt)
         have HOa:Hid (Owns 0 (w.heap.size+2) ((wc.alloc (.cells #[.int .i64 p.rows,.int .i64 p.cols,.slice pa pn pk,.int .i64 q.rows,.int .i64 q.cols,.slice qa qn qk] 61)).drew) 61 6 u15 D3.length (D3.flatMap gdS)):=h_ (Owns.u_ (HOw.out.u_ hA) (r_ (Below.refl _ _)))
         have HPPa:Hid (P_ ((wc.alloc (.cells #[.int .i64 p.rows,.int .i64 p.cols,.slice pa pn pk,.int .i64 q.rows,.int .i64 q.cols,.slice qa qn qk] 61)).drew) (fun b=>u15.ownBlock=some b\/b<w.heap.size+2) (.inr X3.cells) (.slice na nn nk)):=h_ (P_.u_ (HPw.out.u_ hA) (r_ (Below.refl _ _)))
         have HENa:Hid (Enc ((wc.alloc (.cells #[.int .i64 p.rows,.int .i64 p.cols,.slice pa pn pk,.int .i64 q.rows,.int .i64 q.cols,.slice qa qn qk] 61)).drew) (fun b=>u15.ownBlock=some b\/(0<=b/\b<w.heap.size+2)) (gdS (p,q)) [.int .i64 p.rows,.int .i64 p.cols,.slice pa pn pk,.int .i64 q.rows,.int .i64 q.cols,.slice qa qn qk]):=h_ (Enc.map (HEw.out.map (fun r u hr=>hr.u_ hA)) (fun r u hr=>hr.u_ (r_ (Below.refl _ _))))
         have HNBa:Hid (Box ((wc.alloc (.cells #[.int .i64 p.rows,.int .i64 p.cols,.slice pa pn pk,.int .i64 q.rows,.int .i64 q.cols,.slice qa qn qk] 61)).drew) wc.heap.size [.int .i64 p.rows,.int .i64 p.cols,.slice pa pn pk,.int .i64 q.rows,.int .i64 q.cols,.slice qa qn qk]):=h_ (Box.u_ (Box.new wc [.int .i64 p.rows,.int .i64 p.cols,.slice pa pn pk,.int .i64 q.rows,.int .i64 q.cols,.slice qa qn qk] 61 rfl) (r_ (Below.refl _ _)))
         have HBWa:Hid (Below w.heap.size w ((wc.alloc (.cells #[.int .i64 p.rows,.int .i64 p.cols,.slice pa pn pk,.int .i64 q.rows,.int .i64 q.cols,.slice qa qn qk] 61)).drew)):=h_ (r_ (b_ HBC.out hA))
         have HKWa:Hid (Keep (fun b=>b=Bx\/b=B2) wc ((wc.alloc (.cells #[.int .i64 p.rows,.int .i64 p.cols,.slice pa pn pk,.int .i64 q.rows,.int .i64 q.cols,.slice qa qn qk] 61)).drew)):=h_ (keep_drew (keep_alloc (Keep.refl _ _)))
         have HBSa:Hid (w.heap.size+2<=((wc.alloc (.cells #[.int .i64 p.rows,.int .i64 p.cols,.slice pa pn pk,.int .i64 q.rows,.int .i64 q.cols,.slice qa qn qk] 61)).drew).heap.size):=h_ (by have:=HW2.out;simp;omega)
         have HRW:Hid (Box ((wc.alloc (.cells #[.int .i64 p.rows,.int .i64 p.cols,.slice pa pn pk,.int .i64 q.rows,.int .i64 q.cols,.slice qa qn qk] 61)).drew) (w.heap.size+1) [.int .i64 0,.int .i64 0,.slice none 0 0]):=h_ ((HBw.out.u_ hA).u_ (r_ (Below.refl _ _)))
         have HFW:Hid (Free ((wc.alloc (.cells #[.int .i64 p.rows,.int .i64 p.cols,.slice pa pn pk,.int .i64 q.rows,.int .i64 q.cols,.slice qa qn qk] 61)).drew) (w.heap.size+1)):=h_ ((HFw.out.u_ hA HBw.out.lt).u_ (r_ (Below.refl _ _)) (HBw.out.u_ hA).lt)
         have HRL:=h_ (show w.heap.size+1<((wc.alloc (.cells #[.int .i64 p.rows,.int .i64 p.cols,.slice pa pn pk,.int .i64 q.rows,.int .i64 q.cols,.slice qa qn qk] 61)).drew).heap.size by have:=HBSa.out;omega)
         have HSB:Hid (∀W',Keep (fun b=>b=Bx\/b=B2) wc W'->(fun W'=>W'.cell? ⟨Bx,0,none⟩=some (.int .i64 X3.rows)/\W'.cell? ⟨Bx,1,none⟩=some (.int .i64 X3.cols)/\W'.cell? ⟨Bx,2,none⟩=some (.slice na nn nk)/\W'.cell? ⟨B2,0,none⟩=some (.int .i64 p.rows)/\W'.cell? ⟨B2,1,none⟩=some (.int .i64 p.cols)/\W'.cell? ⟨B2,2,none⟩=some (.slice pa pn pk)/\W'.cell? ⟨B2,3,none⟩=some (.int .i64 q.rows)/\W'.cell? ⟨B2,4,none⟩=some (.int .i64 q.cols)/\W'.cell? ⟨B2,5,none⟩=some (.slice qa qn qk)) W'):=h_ (fun W' h=>by
          obtain ⟨c0,c1,c2⟩:=HCX.out
          obtain ⟨d0,d1,d2,d3,d4,d5⟩:=HD2.out
          exact ⟨h _ _ (.inl rfl) c0,h _ _ (.inl rfl) c1,h _ _ (.inl rfl) c2,h _ _ (.inr rfl) d0,h _ _ (.inr rfl) d1,h _ _ (.inr rfl) d2,h _ _ (.inr rfl) d3,h _ _ (.inr rfl) d4,h _ _ (.inr rfl) d5⟩)
         obtain ⟨c0,c1,c2,d0,d1,d2,d3,d4,d5⟩:=HSB.out wc (Keep.refl _ _)
         have HM1:=h_ (show D3.length+1<=maxLen by unfold maxLen;omega)
         have HM2:=h_ (show (D3.length+1)*80<=140737488355328 by omega)
         obtain ⟨e0,ei,hz0,hz1,hz2⟩:=info_parts infoGd2
         have HEI:=h_ (And.intro ei (And.intro hz0 (And.intro hz1 hz2)))
         have q0:=HBw.out 0 _ rfl
         have f0:=HFw.out 0
         have q1:=HBw.out 1 _ rfl
         have f1:=HFw.out 1
         have q2:=HBw.out 2 _ rfl
         have f2:=HFw.out 2
         have hnr:¬w.heap.size+1=wc.heap.size:=by have:=HW2.out;omega
         have qz0:=fun o=>p_ q0 o
         have fz0:=fun o=>(World.frozen?_alloc_old wc o ⟨w.heap.size+1,0,none⟩ hnr).trans f0
         have qz1:=fun o=>p_ q1 o
         have fz1:=fun o=>(World.frozen?_alloc_old wc o ⟨w.heap.size+1,1,none⟩ hnr).trans f1
         have qz2:=fun o=>p_ q2 o
         have fz2:=fun o=>(World.frozen?_alloc_old wc o ⟨w.heap.size+1,2,none⟩ hnr).trans f2
         clear ei hz0 hz1 hz2 hA hnr h12' hm' hkN hD12 hk0 hlc hlc' hk
         go_wp2
         go_region_held3 (fun W'=>W'.cell? ⟨Bx,0,none⟩=some (.int .i64 X3.rows)/\W'.cell? ⟨Bx,1,none⟩=some (.int .i64 X3.cols)/\W'.cell? ⟨Bx,2,none⟩=some (.slice na nn nk)/\W'.cell? ⟨B2,0,none⟩=some (.int .i64 p.rows)/\W'.cell? ⟨B2,1,none⟩=some (.int .i64 p.cols)/\W'.cell? ⟨B2,2,none⟩=some (.slice pa pn pk)/\W'.cell? ⟨B2,3,none⟩=some (.int .i64 q.rows)/\W'.cell? ⟨B2,4,none⟩=some (.int .i64 q.cols)/\W'.cell? ⟨B2,5,none⟩=some (.slice qa qn qk)) ((refine HSB.out _ ?_;repeat' (first|with_reducible exact Keep.refl _ _|with_reducible exact HSW.out|with_reducible refine keep_drew ?_|with_reducible refine keep_alloc ?_|with_reducible refine keep_set ?_ HNP.out)))
          (first
           |((try rw[if_pos (by rfl)]);refine wp_append_owns _ _ 23 rfl (w.heap.size+2) 61 e0 (.agg #[.int .i64 0,.int .i64 0,.slice none 0 0,.int .i64 0,.int .i64 0,.slice none 0 0]) 6 80 Tryz.underlying23 HEI.out.1 HEI.out.2.1 HEI.out.2.2.1 HEI.out.2.2.2 rfl (by decide) 0 _ _ _ rfl HOa.out ⟨wc.heap.size,0,none⟩ 1 1 [.int .i64 p.rows,.int .i64 p.cols,.slice pa pn pk,.int .i64 q.rows,.int .i64 q.cols,.slice qa qn qk] rfl rfl (fun q u hq=>by rw[addr_add];exact HNBa.out q u hq) (gdS (p,q)) HENa.out HM1.out HM2.out HBSa.out ?_;intro v' w' hown' hgrow hwh;have HG:=h_ (nb_grow HBWa.out hown' hgrow HOU.out (by simpa using hwh) HPPa.out HBSa.out);have HSW:=h_ (keep_grown HKWa.out hgrow HNO.out);have HRB:=h_ (show Box w' (w.heap.size+1) [.int .i64 0,.int .i64 0,.slice none 0 0] from fun j u hu=>hgrow.cell (HRW.out j u hu) HNR.out);have HRF:=h_ (show Free w' (w.heap.size+1) from fun j=>(World.frozen?_of_block (a:=⟨w.heap.size+1,j,none⟩) (hgrow.block _ HRL.out HNR.out)).trans (HFW.out j));have HTS:=h_ (show Box (((w'.setCell ⟨w.heap.size+1,0,none⟩ (.int .i64 X3.rows)).setCell ⟨w.heap.size+1,1,none⟩ (.int .i64 X3.cols)).setCell ⟨w.heap.size+1,2,none⟩ (.slice na nn nk)) (w.heap.size+1) [.int .i64 X3.rows,.int .i64 X3.cols,.slice na nn nk] from three_set HRB.out _ _ _);have HFIN:=h_ (nb_end (p:=ls≠[]) (nb_set (nb_set (nb_set HG.out 0 (.int .i64 X3.rows)) 1 (.int .i64 X3.cols)) 2 (.slice na nn nk)));have q0:=HRB.out 0 _ rfl;have q1:=HRB.out 1 _ rfl;have q2:=HRB.out 2 _ rfl;have f0:=HRF.out 0;have f1:=HRF.out 1;have f2:=HRF.out 2;clear hown' hgrow hwh))
         go_wp2
         obtain ⟨r0,r1,r2⟩:=HTS.out.c3
         refine bodyPost_ret (v:=.tuple #[.agg #[.int .i64 X3.rows,.int .i64 X3.cols,.slice na nn nk],v',.int .i64 0]) (by simp[results,Tryz.results59,go_sem,r0,r1,r2]) rfl ?_
         first|with_reducible exact HFIN.out|with_reducible exact nb_drew HFIN.out
        ·have hEE:E3=E:=by have h:=HST.out;rw[if_neg (by simp),<-HS3.out.1]at h;exact h.symm
         obtain ⟨eX,eD⟩:=nbX_no (ls:=ls) (ms:=ms) (g:=g) (by rw[HX.out.2.2,<-hEE];exact h3)
         rw[HX.out.1]at eX
         rw[HX.out.2.1]at eD
         have hj1:(E3 !=0)=true:=by simp[h3]
         subst eX eD hEE
         clear h3
         have q0:=(HBR.out.u_ HDC.out) 0 _ rfl
         have f0:=(HFR.out.u_ HDC.out HBR.out.lt) 0
         have q1:=(HBR.out.u_ HDC.out) 1 _ rfl
         have f1:=(HFR.out.u_ HDC.out HBR.out.lt) 1
         have q2:=(HBR.out.u_ HDC.out) 2 _ rfl
         have f2:=(HFR.out.u_ HDC.out HBR.out.lt) 2
         go_wp2
         exact bodyPost_ret (v:=.tuple #[.agg #[.int .i64 0,.int .i64 0,.slice none 0 0],.slice none 0 0,.int .i64 E3]) (by simp[results,Tryz.results59,go_sem,q0,q1,q2]) rfl (nb_none _ _ _ _ (by first|exact HBC.out|exact S_ HBC.out (by omega) _ _ _))
    ·have hEE:E1=E:=by have h:=HST.out;rw[if_pos h1]at h;exact h.symm
     obtain ⟨eX,eD⟩:=nbX_no (ls:=ls) (ms:=ms) (g:=g) (by rw[HX.out.2.2,<-hEE];exact h1)
     rw[HX.out.1]at eX
     rw[HX.out.2.1]at eD
     have hj1:(E1 !=0)=true:=by simp[h1]
     subst eX eD hEE
     clear h1
     have q0:=(HBR.out.u_ HD1.out) 0 _ rfl
     have f0:=(HFR.out.u_ HD1.out HBR.out.lt) 0
     have q1:=(HBR.out.u_ HD1.out) 1 _ rfl
     have f1:=(HFR.out.u_ HD1.out HBR.out.lt) 1
     have q2:=(HBR.out.u_ HD1.out) 2 _ rfl
     have f2:=(HFR.out.u_ HD1.out HBR.out.lt) 2
     go_wp2
     exact bodyPost_ret (v:=.tuple #[.agg #[.int .i64 0,.int .i64 0,.slice none 0 0],.slice none 0 0,.int .i64 E1]) (by simp[results,Tryz.results59,go_sem,q0,q1,q2]) rfl (nb_none _ _ _ _ (by first|exact HB1.out|exact S_ HB1.out (by omega) _ _ _))
   ·obtain rfl:E=2:=by rw[<-HX.out.2.2];unfold nbE;rw[if_neg (by rw[HN.out.1,<-HN.out.2.1];exact h12),if_pos (by rw[HN.out.1,<-HN.out.2.1,HN.out.2.2];exact hm)]
    obtain ⟨eX,eD⟩:=nbX_no (ls:=ls) (ms:=ms) (g:=g) (by rw[HX.out.2.2];decide)
    rw[HX.out.1]at eX
    rw[HX.out.2.1]at eD
    subst eX eD
    have hm':¬(N':Int)=(N:Int)+1:=by omega
    have q0:=(HBR.out.u_ (Below.refl _ V)) 0 _ rfl
    have f0:=(HFR.out.u_ (Below.refl _ V) HBR.out.lt) 0
    have q1:=(HBR.out.u_ (Below.refl _ V)) 1 _ rfl
    have f1:=(HFR.out.u_ (Below.refl _ V) HBR.out.lt) 1
    have q2:=(HBR.out.u_ (Below.refl _ V)) 2 _ rfl
    have f2:=(HFR.out.u_ (Below.refl _ V) HBR.out.lt) 2
    rw[HV.out]at q0 q1 q2 f0 f1 f2
    go_enter Tryz.func59,Tryz.ntmps59
    go_wp2
    rw[<-HV.out]at q0 q1 q2 ⊢
    exact bodyPost_ret (v:=.tuple #[.agg #[.int .i64 0,.int .i64 0,.slice none 0 0],.slice none 0 0,.int .i64 2]) (by simp[results,Tryz.results59,go_sem,q0,q1,q2]) rfl (nb_none _ _ _ _ (by first|exact HWV.out|exact S_ HWV.out (by omega) _ _ _))
theorem rnetback_any(v vm vg:Value)(ls:List Ly)(ms:List Mx)(g:Mx)(w:World)(hv:Y_ w v ls)(hm:IsMxs w vm ms)(hg:M_ w vg g):Calls Tryz.prog 59 #[v,vm,vg] w (NBEnd w (ls≠[]) (nbX ls ms g) (nbD ls ms g) (nbE ls ms g)):=rnetback_len _ ls ms g v vm vg w rfl hv hm hg
end Go.Proofs.YtniloklglpchfaeGreatDoor
