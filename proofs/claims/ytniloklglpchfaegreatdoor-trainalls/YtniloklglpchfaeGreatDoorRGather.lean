/- What GatherOf of the document's answer comes to: two lists of Grads, added one by one. Condition: not more than 1,759,218,604,390 of them. -/
import Derived.Test.YtniloklglpchfaeGreatDoorPkReg
import Derived.Test.YtniloklglpchfaeGreatDoorPkRLoss
import Derived.Test.YtniloklglpchfaeGreatDoorPkRNet
namespace Go.Proofs.YtniloklglpchfaeGreatDoor
open Go.RowKit
set_option maxHeartbeats 8000000 in
set_option maxRecDepth 100000 in
theorem rgather_any(v v':Value)(ps qs:List (Mx×Mx))(w:World)(hv:D_ w v ps)(hv':D_ w v' qs)(hle:ps.length<=1759218604390):
  Calls Tryz.prog 29 #[v,v'] w fun e w'=>∃u,e=.returned (.tuple #[u,.int .i64 (gaE ps qs)])/\D_ w' u (gaX ps qs)/\Below w.heap.size w w':=by
 obtain ⟨a,cap,rfl,_,_⟩:=hv.shape
 obtain ⟨a',cap',rfl,_,hcm⟩:=hv'.shape
 have H0:=h_ hv
 have H1:=h_ hv'
 obtain ⟨N,hN⟩:=gN (ps.length)
 obtain ⟨N',hN'⟩:=gN (qs.length)
 have HN:=h_ (And.intro hN hN')
 obtain ⟨X,hX⟩:=gN (gaX ps qs)
 obtain ⟨E,hE⟩:=gN (gaE ps qs)
 have HX:=h_ (And.intro hX hE)
 rw[hN]at hle
 rw[hX,hE]
 rw[hN]at H0 ⊢
 rw[hN']at H1 ⊢
 clear hX hE hv hv' hN hN' hcm
 by_cases hll:N=N'
 ·subst hll
  have HE0:=h_ (show gatE ps qs=E by have h:=HX.out.2;unfold gaE at h;rw[if_neg (by rw[HN.out.1,HN.out.2];simp)]at h;exact h)
  have HX0:=h_ (show (if E=0 then gatX ps qs else [])=X by have h:=HX.out.1;unfold gaX at h;rw[HX.out.2]at h;exact h)
  go_enter Tryz.func29,Tryz.ntmps29
  go_wp2
  go_loopw [6,7] (fun o a wr=>∃(i:Nat) (xi:Int) (pre:List (Mx×Mx)),i<=N/\xi=(i:Int)/\a=.int .i64 xi/\pre.length=i/\pre++gatX (ps.drop i) (qs.drop i)=gatX ps qs/\gatE (ps.drop i) (qs.drop i)=E/\Owns w.heap.size w.heap.size wr 61 6 o i (pre.flatMap gdS)/\Below w.heap.size w wr) (fun _ a _=>N - (intOf a).toNat)
  case atStart=>exact ⟨0,0,[],Nat.zero_le _,rfl,rfl,rfl,rfl,HE0.out,Owns.nil _ _ _ _ _,Below.refl _ _⟩
  case round=>
   obtain ⟨i,xi,pre,hi,hxi,rfl,hpl,hpr,he,how,hb⟩:=hrel
   have HXI:=h_ hxi
   have HPL:=h_ (And.intro hpl (And.intro hpr he))
   have HO:=h_ how
   have HB:=h_ hb
   have hxi0:0<=xi:=by omega
   have hxi1:xi<=1759218604390:=by omega
   clear hxi hpl hpr he how hb
   by_cases hlt:xi<(N:Int)
   ·have hin:i<N:=by have:=HXI.out;omega
    have hxn:xi.toNat=i:=by have:=HXI.out;omega
    obtain ⟨p,hp⟩:∃p,ps[i]?=some p:=⟨ps[i]'(by have:=HN.out.1;omega),List.getElem?_eq_getElem _⟩
    obtain ⟨q,hq⟩:∃q,qs[i]?=some q:=⟨qs[i]'(by have:=HN.out.2;omega),List.getElem?_eq_getElem _⟩
    obtain ⟨b,off,cp,sa,sn,sk,ta,tn,tk,ev,k0,k1,k2,k3,k4,k5,hs,ht⟩:=H0.out.at hp
    injection ev with ev1 ev2 ev3
    clear ev2 ev3
    subst ev1
    obtain ⟨b',off',cp',sa',sn',sk',ta',tn',tk',ev,y0,y1,y2,y3,y4,y5,hs',ht'⟩:=H1.out.at hq
    injection ev with ev1 ev2 ev3
    clear ev2 ev3
    subst ev1
    rw[<-hxn]at k0 k1 k2 k3 k4 k5 y0 y1 y2 y3 y4 y5
    have HK:=h_ (fun W (h:Below w.heap.size w W)=>(And.intro (c_ h k0) (And.intro (c_ h k1) (And.intro (c_ h k2) (And.intro (c_ h k3) (And.intro (c_ h k4) (And.intro (c_ h k5) (And.intro (c_ h y0) (And.intro (c_ h y1) (And.intro (c_ h y2) (And.intro (c_ h y3) (And.intro (c_ h y4) (c_ h y5)))))))))))))
    have HI:=h_ (And.intro (And.intro hs hs') (And.intro ht ht'))
    have HDP:=h_ (drop_at hp)
    have HDQ:=h_ (drop_at hq)
    obtain ⟨E1,hE1⟩:=gN (addE p.1 q.1)
    obtain ⟨E2,hE2⟩:=gN (addE p.2 q.2)
    obtain ⟨x1,hx1⟩:=gN (addX p.1 q.1)
    obtain ⟨x2,hx2⟩:=gN (addX p.2 q.2)
    have HEE:=h_ (And.intro hE1 hE2)
    have HXX:=h_ (And.intro hx1 hx2)
    obtain ⟨hpl,hpr,he⟩:=HPL.out
    rw[HDP.out,HDQ.out]at hpr he
    have HE2:=h_ (show (if gat1E p q≠0 then gat1E p q else gatE (ps.drop (i+1)) (qs.drop (i+1)))=E from he)
    have HP2:=h_ (show (pre++[(x1,x2)])++gatX (ps.drop (i+1)) (qs.drop (i+1))=gatX ps qs by rw[<-hpr];show _=pre++(gat1X p q::gatX (ps.drop (i+1)) (qs.drop (i+1)));unfold gat1X;rw[hx1,hx2];simp)
    have HPN:=h_ hpl
    clear k0 k1 k2 k3 k4 k5 y0 y1 y2 y3 y4 y5 hs ht hs' ht' hp hq hxn hE1 hE2 hx1 hx2 hpl hpr he HPL
    have HC:=h_ (rlossfault_any (.agg #[.int .i64 p.1.rows,.int .i64 p.1.cols,.slice sa sn sk]) (.agg #[.int .i64 q.1.rows,.int .i64 q.1.cols,.slice sa' sn' sk']) p.1 q.1 wr.drew ⟨_,rfl,HI.out.1.1.u_ (r_ HB.out)⟩ ⟨_,rfl,HI.out.1.2.u_ (r_ HB.out)⟩)
    rw[HEE.out.1]at HC
    obtain ⟨k0,k1,k2,k3,k4,k5,y0,y1,y2,y3,y4,y5⟩:=HK.out wr HB.out
    go_wp2
    refine region_tail 10 (by kernel_rfl) (by kernel_rfl) ?_
    simp only[List.take_succ_cons,List.take_zero,List.drop_succ_cons,List.drop_zero]
    repeat still_step
    refine wpStill_nil ?_
    go_wp2_with fail
    refine HC.out.mono ?_
    rintro e w1 ⟨rfl,hb1⟩
    have HB1:=h_ (b_ (r_ HB.out) hb1)
    have HD1:=h_ (b_ (r_ (Below.refl wr.heap.size wr)) hb1)
    clear hb1 HC k0 k1 k2 k3 k4 k5 y0 y1 y2 y3 y4 y5
    by_cases h1:E1=0
    ·subst h1
     have HC:=h_ (rlossfault_any (.agg #[.int .i64 p.2.rows,.int .i64 p.2.cols,.slice ta tn tk]) (.agg #[.int .i64 q.2.rows,.int .i64 q.2.cols,.slice ta' tn' tk']) p.2 q.2 w1.drew ⟨_,rfl,HI.out.2.1.u_ (r_ HB1.out)⟩ ⟨_,rfl,HI.out.2.2.u_ (r_ HB1.out)⟩)
     rw[HEE.out.2]at HC
     obtain ⟨k0,k1,k2,k3,k4,k5,y0,y1,y2,y3,y4,y5⟩:=HK.out w1 HB1.out
     go_wp2
     refine region_tail 10 (by kernel_rfl) (by kernel_rfl) ?_
     simp only[List.take_succ_cons,List.take_zero,List.drop_succ_cons,List.drop_zero]
     repeat still_step
     refine wpStill_nil ?_
     go_wp2_with fail
     refine HC.out.mono ?_
     rintro e w2 ⟨rfl,hb2⟩
     have HB2':=h_ (b_ (r_ HB1.out) hb2)
     have HD2:=h_ (b_ (r_ HD1.out) hb2)
     clear hb2 HC k0 k1 k2 k3 k4 k5 y0 y1 y2 y3 y4 y5
     by_cases h2:E2=0
     ·subst h2
      have HT:=h_ (fun W (h:Below w2.heap.size w2 W)=>ref_add W (va:=.agg #[.int .i64 p.1.rows,.int .i64 p.1.cols,.slice sa sn sk]) (vb:=.agg #[.int .i64 q.1.rows,.int .i64 q.1.cols,.slice sa' sn' sk']) (a:=p.1) (b:=q.1) ⟨_,rfl,HI.out.1.1.u_ (b_ HB2'.out h)⟩ ⟨_,rfl,HI.out.1.2.u_ (b_ HB2'.out h)⟩ HEE.out.1)
      rw[HXX.out.1]at HT
      have HSB:Hid (∀W',Below w2.heap.size w2 W'->(fun W'=>W'.cell? ⟨b,off+xi.toNat*6,none⟩=some (.int .i64 p.1.rows)/\W'.cell? ⟨b,off+xi.toNat*6+1,none⟩=some (.int .i64 p.1.cols)/\W'.cell? ⟨b,off+xi.toNat*6+2,none⟩=some (.slice sa sn sk)/\W'.cell? ⟨b',off'+xi.toNat*6,none⟩=some (.int .i64 q.1.rows)/\W'.cell? ⟨b',off'+xi.toNat*6+1,none⟩=some (.int .i64 q.1.cols)/\W'.cell? ⟨b',off'+xi.toNat*6+2,none⟩=some (.slice sa' sn' sk')) W'):=h_ (fun W' h=>by
       obtain ⟨k0,k1,k2,k3,k4,k5,y0,y1,y2,y3,y4,y5⟩:=HK.out W' (b_ HB2'.out h)
       exact ⟨k0,k1,k2,y0,y1,y2⟩)
      have HT3:=h_ (HT.out (w2.alloc (.cells #[.int .i64 0,.int .i64 0,.slice none 0 0] 28)).drew (d_ (a_ (Below.refl w2.heap.size w2))))
      have HT0:=h_ (HT.out w2.drew (d_ (Below.refl w2.heap.size w2)))
      obtain ⟨lm0,lm1,lm2,lm3,lm4,lm5⟩:=HSB.out w2 (Below.refl _ _)
      go_wp2
      go_cut [9] from 49 to 59 (fun a wx=>∃(Bk:Nat) (qa:Option Addr) (qn qk:Nat),a=.pointer (some ⟨Bk,0,none⟩)/\M_ wx (.agg #[.int .i64 x1.rows,.int .i64 x1.cols,.slice qa qn qk]) x1/\Cells3 wx Bk (.int .i64 x1.rows) (.int .i64 x1.cols) (.slice qa qn qk)/\w2.heap.size<=Bk/\F_ w2.heap.size (.agg #[.int .i64 x1.rows,.int .i64 x1.cols,.slice qa qn qk])/\Below w2.heap.size w2 wx)
      case first=>
       go_region_held3 (fun W'=>W'.cell? ⟨b,off+xi.toNat*6,none⟩=some (.int .i64 p.1.rows)/\W'.cell? ⟨b,off+xi.toNat*6+1,none⟩=some (.int .i64 p.1.cols)/\W'.cell? ⟨b,off+xi.toNat*6+2,none⟩=some (.slice sa sn sk)/\W'.cell? ⟨b',off'+xi.toNat*6,none⟩=some (.int .i64 q.1.rows)/\W'.cell? ⟨b',off'+xi.toNat*6+1,none⟩=some (.int .i64 q.1.cols)/\W'.cell? ⟨b',off'+xi.toNat*6+2,none⟩=some (.slice sa' sn' sk')) ((refine HSB.out _ ?_;repeat' (first|with_reducible exact Below.refl _ _|with_reducible exact HB2.out|with_reducible refine d_ ?_|with_reducible refine a_ ?_|with_reducible refine t_ ?_ ?_|exact Nat.le_refl _|exact Nat.le_succ _|exact HB2.out.size|exact Nat.le_succ_of_le HB2.out.size)))
        (first
         |(go_at_call 61;guard_target=Calls _ _ _ (World.drew (World.alloc w2 (Obj.cells #[_,_,_] _))) _;refine HT3.out.mono ?_;rintro e wz ⟨ga,gn,gk,rfl,hm,hb2,hf⟩;have hc2:=b_ (r_ (Below.refl _ (w2.alloc (.cells #[.int .i64 0,.int .i64 0,.slice none 0 0] 28)))) hb2;have HB2:=h_ (show Below w2.heap.size w2 wz from b_ (o_ w2 (.cells #[.int .i64 0,.int .i64 0,.slice none 0 0] 28)) hc2);have ZB3:=h_ ((Box.new w2 [.int .i64 0,.int .i64 0,.slice none 0 0] 28 (B:=w2.heap.size) rfl).u_ hc2);have ZB3l:=h_ (Box.new w2 [.int .i64 0,.int .i64 0,.slice none 0 0] 28 (B:=w2.heap.size) rfl).lt;have ZF3:=h_ ((Free.new w2 #[.int .i64 0,.int .i64 0,.slice none 0 0] 28 (B:=w2.heap.size) rfl).u_ hc2 ZB3l.out);obtain ⟨z30,z31,z32⟩:=ZB3.out.c3;obtain ⟨f30,f31,f32⟩:=ZF3.out.f3;have HEa:Hid (Cells3 (((wz.setCell ⟨w2.heap.size,0,none⟩ (.int .i64 x1.rows)).setCell ⟨w2.heap.size,1,none⟩ (.int .i64 x1.cols)).setCell ⟨w2.heap.size,2,none⟩ (.slice ga gn gk)) w2.heap.size (.int .i64 x1.rows) (.int .i64 x1.cols) (.slice ga gn gk)):=h_ (c__ (set_three ZB3.out _ _ _));have HF:=h_ (show F_ (w2.heap.size+1) (.agg #[.int .i64 x1.rows,.int .i64 x1.cols,.slice ga gn gk]) from f_ hf (szd1 _ _));have HG:=h_ (f_ HF.out (Nat.le_succ _));have HNb:=h_ (Nat.le_refl w2.heap.size);clear hc2;have HN:=h_ hm;clear hb2 hm hf)
         |(go_at_call 61;guard_target=Calls _ _ _ (World.drew w2) _;refine HT0.out.mono ?_;rintro e wz ⟨ga,gn,gk,rfl,hm,hb2,hf⟩;have hc2:=b_ (r_ (Below.refl _ w2)) hb2;have HB2:=h_ (show Below w2.heap.size w2 wz from hc2);have HEa:Hid (Cells3 (wz.alloc (.cells #[.int .i64 x1.rows,.int .i64 x1.cols,.slice ga gn gk] 28)) wz.heap.size (.int .i64 x1.rows) (.int .i64 x1.cols) (.slice ga gn gk)):=h_ (c__ (Box.new wz [.int .i64 x1.rows,.int .i64 x1.cols,.slice ga gn gk] 28 rfl));have HF:=h_ (show F_ w2.heap.size (.agg #[.int .i64 x1.rows,.int .i64 x1.cols,.slice ga gn gk]) from hf);have HG:=HF;have HNb:=h_ HB2.out.size;clear hc2;have HN:=h_ hm;clear hb2 hm hf))
       all_goals go_wp2
       all_goals go_meet
       all_goals
        refine ⟨_,ga,gn,gk,rfl,?_,?_,HNb.out,HG.out,?_⟩
        ·(refine HN.out.above HF.out ?_;repeat' (first|with_reducible exact Above.refl _ _|with_reducible refine abv_drew ?_|with_reducible refine abv_alloc ?_|with_reducible refine v_ ?_ (by omega)))
        ·with_reducible exact HEa.out
        ·repeat' (first|with_reducible exact Below.refl _ _|with_reducible exact HB2.out|with_reducible refine d_ ?_|with_reducible refine a_ ?_|with_reducible refine t_ ?_ ?_|exact Nat.le_refl _|exact Nat.le_succ _|exact HB2.out.size|exact Nat.le_succ_of_le HB2.out.size)
      case rest=>
       obtain ⟨B1,ga,gn,gk,rfl,hmx,⟨c0,c1,c2⟩,hBk,hfq,hbc⟩:=hcut
       obtain ⟨wa,hwa⟩:=gM (wc)
       subst hwa
       have HBA:=h_ (b_ HB2'.out hbc)
       have HDA:=h_ (b_ HD2.out hbc)
       have HSZ:=h_ hbc.size
       have HCA:=h_ (show Cells3 wa B1 _ _ _ from ⟨c0,c1,c2⟩)
       have HMA:=h_ hmx
       have HFA:=h_ hfq
       have HLA:=h_ (World.block_lt_of_cell? _ _ c0)
       clear hmx hBk hfq hbc HT HSB HT0 HT3 lm0 lm1 lm2 lm3 lm4 lm5 c0 c1 c2
       have HT:=h_ (fun W (h:Below wa.heap.size wa W)=>ref_add W (va:=.agg #[.int .i64 p.2.rows,.int .i64 p.2.cols,.slice ta tn tk]) (vb:=.agg #[.int .i64 q.2.rows,.int .i64 q.2.cols,.slice ta' tn' tk']) (a:=p.2) (b:=q.2) ⟨_,rfl,HI.out.2.1.u_ (b_ HBA.out h)⟩ ⟨_,rfl,HI.out.2.2.u_ (b_ HBA.out h)⟩ HEE.out.2)
       rw[HXX.out.2]at HT
       have HSB:Hid (∀W',Below wa.heap.size wa W'->(fun W'=>W'.cell? ⟨b,off+xi.toNat*6+3,none⟩=some (.int .i64 p.2.rows)/\W'.cell? ⟨b,off+xi.toNat*6+4,none⟩=some (.int .i64 p.2.cols)/\W'.cell? ⟨b,off+xi.toNat*6+5,none⟩=some (.slice ta tn tk)/\W'.cell? ⟨b',off'+xi.toNat*6+3,none⟩=some (.int .i64 q.2.rows)/\W'.cell? ⟨b',off'+xi.toNat*6+4,none⟩=some (.int .i64 q.2.cols)/\W'.cell? ⟨b',off'+xi.toNat*6+5,none⟩=some (.slice ta' tn' tk')) W'):=h_ (fun W' h=>by
        obtain ⟨k0,k1,k2,k3,k4,k5,y0,y1,y2,y3,y4,y5⟩:=HK.out W' (b_ HBA.out h)
        exact ⟨k3,k4,k5,y3,y4,y5⟩)
       have HT3:=h_ (HT.out (wa.alloc (.cells #[.int .i64 0,.int .i64 0,.slice none 0 0] 28)).drew (d_ (a_ (Below.refl wa.heap.size wa))))
       have HT0:=h_ (HT.out wa.drew (d_ (Below.refl wa.heap.size wa)))
       obtain ⟨lm0,lm1,lm2,lm3,lm4,lm5⟩:=HSB.out wa (Below.refl _ _)
       go_wp2
       go_cut [10] from 60 to 70 (fun a wx=>∃(Bk:Nat) (qa:Option Addr) (qn qk:Nat),a=.pointer (some ⟨Bk,0,none⟩)/\M_ wx (.agg #[.int .i64 x2.rows,.int .i64 x2.cols,.slice qa qn qk]) x2/\Cells3 wx Bk (.int .i64 x2.rows) (.int .i64 x2.cols) (.slice qa qn qk)/\wa.heap.size<=Bk/\F_ wa.heap.size (.agg #[.int .i64 x2.rows,.int .i64 x2.cols,.slice qa qn qk])/\Below wa.heap.size wa wx)
       case first=>
        go_region_held3 (fun W'=>W'.cell? ⟨b,off+xi.toNat*6+3,none⟩=some (.int .i64 p.2.rows)/\W'.cell? ⟨b,off+xi.toNat*6+4,none⟩=some (.int .i64 p.2.cols)/\W'.cell? ⟨b,off+xi.toNat*6+5,none⟩=some (.slice ta tn tk)/\W'.cell? ⟨b',off'+xi.toNat*6+3,none⟩=some (.int .i64 q.2.rows)/\W'.cell? ⟨b',off'+xi.toNat*6+4,none⟩=some (.int .i64 q.2.cols)/\W'.cell? ⟨b',off'+xi.toNat*6+5,none⟩=some (.slice ta' tn' tk')) ((refine HSB.out _ ?_;repeat' (first|with_reducible exact Below.refl _ _|with_reducible exact HB2.out|with_reducible refine d_ ?_|with_reducible refine a_ ?_|with_reducible refine t_ ?_ ?_|exact Nat.le_refl _|exact Nat.le_succ _|exact HB2.out.size|exact Nat.le_succ_of_le HB2.out.size)))
         (first
          |(go_at_call 61;guard_target=Calls _ _ _ (World.drew (World.alloc wa (Obj.cells #[_,_,_] _))) _;refine HT3.out.mono ?_;rintro e wz ⟨ja,jn,jk,rfl,hm,hb2,hf⟩;have hc2:=b_ (r_ (Below.refl _ (wa.alloc (.cells #[.int .i64 0,.int .i64 0,.slice none 0 0] 28)))) hb2;have HB2:=h_ (show Below wa.heap.size wa wz from b_ (o_ wa (.cells #[.int .i64 0,.int .i64 0,.slice none 0 0] 28)) hc2);have ZB3:=h_ ((Box.new wa [.int .i64 0,.int .i64 0,.slice none 0 0] 28 (B:=wa.heap.size) rfl).u_ hc2);have ZB3l:=h_ (Box.new wa [.int .i64 0,.int .i64 0,.slice none 0 0] 28 (B:=wa.heap.size) rfl).lt;have ZF3:=h_ ((Free.new wa #[.int .i64 0,.int .i64 0,.slice none 0 0] 28 (B:=wa.heap.size) rfl).u_ hc2 ZB3l.out);obtain ⟨z30,z31,z32⟩:=ZB3.out.c3;obtain ⟨f30,f31,f32⟩:=ZF3.out.f3;have HEa:Hid (Cells3 (((wz.setCell ⟨wa.heap.size,0,none⟩ (.int .i64 x2.rows)).setCell ⟨wa.heap.size,1,none⟩ (.int .i64 x2.cols)).setCell ⟨wa.heap.size,2,none⟩ (.slice ja jn jk)) wa.heap.size (.int .i64 x2.rows) (.int .i64 x2.cols) (.slice ja jn jk)):=h_ (c__ (set_three ZB3.out _ _ _));have HF:=h_ (show F_ (wa.heap.size+1) (.agg #[.int .i64 x2.rows,.int .i64 x2.cols,.slice ja jn jk]) from f_ hf (szd1 _ _));have HG:=h_ (f_ HF.out (Nat.le_succ _));have HNb:=h_ (Nat.le_refl wa.heap.size);clear hc2;have HN:=h_ hm;clear hb2 hm hf)
          |(go_at_call 61;guard_target=Calls _ _ _ (World.drew wa) _;refine HT0.out.mono ?_;rintro e wz ⟨ja,jn,jk,rfl,hm,hb2,hf⟩;have hc2:=b_ (r_ (Below.refl _ wa)) hb2;have HB2:=h_ (show Below wa.heap.size wa wz from hc2);have HEa:Hid (Cells3 (wz.alloc (.cells #[.int .i64 x2.rows,.int .i64 x2.cols,.slice ja jn jk] 28)) wz.heap.size (.int .i64 x2.rows) (.int .i64 x2.cols) (.slice ja jn jk)):=h_ (c__ (Box.new wz [.int .i64 x2.rows,.int .i64 x2.cols,.slice ja jn jk] 28 rfl));have HF:=h_ (show F_ wa.heap.size (.agg #[.int .i64 x2.rows,.int .i64 x2.cols,.slice ja jn jk]) from hf);have HG:=HF;have HNb:=h_ HB2.out.size;clear hc2;have HN:=h_ hm;clear hb2 hm hf))
        all_goals go_wp2
        all_goals go_meet
        all_goals
         refine ⟨_,ja,jn,jk,rfl,?_,?_,HNb.out,HG.out,?_⟩
         ·(refine HN.out.above HF.out ?_;repeat' (first|with_reducible exact Above.refl _ _|with_reducible refine abv_drew ?_|with_reducible refine abv_alloc ?_|with_reducible refine v_ ?_ (by omega)))
         ·with_reducible exact HEa.out
         ·repeat' (first|with_reducible exact Below.refl _ _|with_reducible exact HB2.out|with_reducible refine d_ ?_|with_reducible refine a_ ?_|with_reducible refine t_ ?_ ?_|exact Nat.le_refl _|exact Nat.le_succ _|exact HB2.out.size|exact Nat.le_succ_of_le HB2.out.size)
       case rest=>
        obtain ⟨B2,ja,jn,jk,rfl,hmx,⟨c0,c1,c2⟩,hBk,hfq,hbc⟩:=hcut
        have HBC:=h_ (b_ HBA.out hbc)
        have HDC:=h_ (b_ HDA.out hbc)
        have hGlt:∀b,(u6.ownBlock=some b\/(w.heap.size<=b/\b<w.heap.size))->b<w2.heap.size:=fun b hb=>by
         have h1:=HD2.out.size
         rcases hb with hb|hb
         ·have:=(HO.out.lt b hb).2;omega
         ·omega
        have hle2:w2.heap.size<=wa.heap.size:=HSZ.out
        have HPA:=h_ (x_ (G:=fun b=>u6.ownBlock=some b\/(w.heap.size<=b/\b<w.heap.size)) (HMA.out.u_ hbc).ints HFA.out hGlt)
        have HPC:=h_ (x_ (G:=fun b=>u6.ownBlock=some b\/(w.heap.size<=b/\b<w.heap.size)) hmx.ints hfq (fun b hb=>Nat.lt_of_lt_of_le (hGlt b hb) hle2))
        obtain ⟨z0,z1,z2⟩:=HCA.out
        have a0:=c_ hbc z0
        have a1:=c_ hbc z1
        have a2:=c_ hbc z2
        have HOC:=h_ (HO.out.u_ HDC.out)
        have HOA:=h_ (HOC.out.u_ (o_ wc (.cells #[.int .i64 x1.rows,.int .i64 x1.cols,.slice ga gn gk,.int .i64 x2.rows,.int .i64 x2.cols,.slice ja jn jk] 61)))
        have HEN:=h_ (enc_gd (d:=(x1,x2)) (HPA.out.u_ (o_ wc (.cells #[.int .i64 x1.rows,.int .i64 x1.cols,.slice ga gn gk,.int .i64 x2.rows,.int .i64 x2.cols,.slice ja jn jk] 61))) (HPC.out.u_ (o_ wc (.cells #[.int .i64 x1.rows,.int .i64 x1.cols,.slice ga gn gk,.int .i64 x2.rows,.int .i64 x2.cols,.slice ja jn jk] 61))))
        have HBS:=h_ (show w.heap.size<=(wc.alloc (.cells #[.int .i64 x1.rows,.int .i64 x1.cols,.slice ga gn gk,.int .i64 x2.rows,.int .i64 x2.cols,.slice ja jn jk] 61)).heap.size by have:=HBC.out.size;simp;omega)
        have HNB:=h_ (show Box (wc.alloc (.cells #[.int .i64 x1.rows,.int .i64 x1.cols,.slice ga gn gk,.int .i64 x2.rows,.int .i64 x2.cols,.slice ja jn jk] 61)) wc.heap.size [.int .i64 x1.rows,.int .i64 x1.cols,.slice ga gn gk,.int .i64 x2.rows,.int .i64 x2.cols,.slice ja jn jk] from Box.new _ _ _ rfl)
        obtain ⟨e0,ei,hz0,hz1,hz2⟩:=info_parts infoGd
        have HEI:=h_ (And.intro ei (And.intro hz0 (And.intro hz1 hz2)))
        clear ei hz0 hz1 hz2 hmx hBk hfq hbc hGlt hle2 z0 z1 z2 HT HSB HT0 HT3 lm0 lm1 lm2 lm3 lm4 lm5
        go_wp2_with (at_builtin;refine wpList_append_owns rfl _ _ 23 rfl w.heap.size 61 e0 (.agg #[.int .i64 0,.int .i64 0,.slice none 0 0,.int .i64 0,.int .i64 0,.slice none 0 0]) 6 80 Tryz.underlying23 HEI.out.1 HEI.out.2.1 HEI.out.2.2.1 HEI.out.2.2.2 rfl (by decide) w.heap.size _ _ _ rfl HOA.out ⟨wc.heap.size,0,none⟩ 1 1 [.int .i64 x1.rows,.int .i64 x1.cols,.slice ga gn gk,.int .i64 x2.rows,.int .i64 x2.cols,.slice ja jn jk] rfl rfl (fun q u hq=>by rw[addr_add];exact HNB.out q u hq) (gdS (x1,x2)) HEN.out ?c3 ?c4 HBS.out ?_)
        case c3=>unfold maxLen;omega
        case c4=>omega
        intro v' w' hown' hgrow hwh
        have hbl:Below w.heap.size w w':=(b_ HBC.out (o_ _ (.cells #[.int .i64 x1.rows,.int .i64 x1.cols,.slice ga gn gk,.int .i64 x2.rows,.int .i64 x2.cols,.slice ja jn jk] 61))).grown hgrow HBS.out (fun k hk=>(HO.out.lt k hk).1)
        rw[flat_snoc]at hown'
        have HR:=h_ (And.intro hown' hbl)
        have HE3:=h_ (show gatE (ps.drop (i+1)) (qs.drop (i+1))=E by have h:=HE2.out;rw[show gat1E p q=0 by unfold gat1E;rw[HEE.out.1,HEE.out.2];rfl,if_neg (by decide)]at h;exact h)
        clear hown' hgrow hwh hbl a0 a1 a2 c0 c1 c2
        go_wp2
        go_roundw
        case rel=>exact ⟨i+1,_,pre++[(x1,x2)],by omega,by have:=HXI.out;omega,rfl,by rw[List.length_append,HPN.out];rfl,HP2.out,HE3.out,HR.out.1,HR.out.2⟩
        case measure=>have:=HXI.out;simp[intOf];omega
     ·have hEE:E2=E:=by have h:=HE2.out;rw[show gat1E p q=E2 by unfold gat1E;rw[HEE.out.1,HEE.out.2];simp,if_pos h2]at h;exact h
      have hX:X=[]:=by rw[<-HX0.out,if_neg (by rw[<-hEE];exact h2)]
      have hj1:(E2 !=0)=true:=by simp[h2]
      subst hX hEE
      clear h2
      go_wp2
      exact bodyPost_ret (v:=.tuple #[.slice none 0 0,.int .i64 E2]) (by simp[results,Tryz.results29,go_sem]) rfl ⟨_,rfl,isGds_nil _,HB2'.out⟩
    ·have hEE:E1=E:=by have h:=HE2.out;rw[show gat1E p q=E1 by unfold gat1E;rw[HEE.out.1,if_pos h1],if_pos h1]at h;exact h
     have hX:X=[]:=by rw[<-HX0.out,if_neg (by rw[<-hEE];exact h1)]
     have hj0:(E1==0)=false:=by simp[h1]
     have hj1:(E1 !=0)=true:=by simp[h1]
     subst hX hEE
     clear h1
     go_wp2
     exact bodyPost_ret (v:=.tuple #[.slice none 0 0,.int .i64 E1]) (by simp[results,Tryz.results29,go_sem]) rfl ⟨_,rfl,isGds_nil _,HB1.out⟩
   ·have hin:i=N:=by have:=HXI.out;omega
    obtain ⟨hpl,hpr,he⟩:=HPL.out
    rw[show ps.drop i=[] from List.drop_eq_nil_of_le (by have:=HN.out.1;omega)]at hpr he
    replace hpr:pre=gatX ps qs:=by rw[<-hpr];show pre=pre++[];simp
    replace he:0=E:=he
    subst he
    have hX:pre=X:=by rw[hpr,<-HX0.out,if_pos rfl]
    subst hX
    have HM:=h_ (show D_ wr u6 pre by unfold D_;rw[hpl];exact HO.out.reads)
    clear hpr hin hpl
    go_wp2
    exact bodyPost_ret (v:=.tuple #[u6,.int .i64 0]) (by simp[results,Tryz.results29,go_sem]) rfl ⟨_,rfl,HM.out,HB.out⟩
 ·obtain rfl:E=2:=by rw[<-HX.out.2];unfold gaE;rw[if_pos (by rw[HN.out.1,HN.out.2];exact hll)]
  obtain rfl:X=[]:=by rw[<-HX.out.1];unfold gaX;rw[HX.out.2,if_neg (by decide)]
  have hl2:¬(N:Int)=(N':Int):=by omega
  clear hll
  go_enter Tryz.func29,Tryz.ntmps29
  go_wp2
  exact bodyPost_ret (v:=.tuple #[.slice none 0 0,.int .i64 2]) (by simp[results,Tryz.results29,go_sem]) rfl ⟨_,rfl,isGds_nil _,Below.refl _ _⟩
end Go.Proofs.YtniloklglpchfaeGreatDoor
