/- What zeros of the document's answer comes to: noughts of a net's shapes. -/
import Derived.Test.YtniloklglpchfaeGreatDoorPkRRows
import Derived.Test.YtniloklglpchfaeGreatDoorPkReg
import Derived.Test.YtniloklglpchfaeGreatDoorPkLBox
namespace Go.Proofs.YtniloklglpchfaeGreatDoor
open Go.RowKit
theorem ref_blank{m:Mx}(w:World)(hf:q_ m=0):Calls Tryz.prog 56 #[.int .i64 m.rows,.int .i64 m.cols] w (RefEnd w (zeroM m)):=by
 obtain ⟨R,C,g⟩:=o__ hf
 have hRC:=Nat.mul_le_mul g.hR g.hC
 refine (blank_any m.rows m.cols (R*C) w (by rw[g.r,g.c];simp) (by omega)).mono ?_
 rintro e w' ⟨k,rfl,hk,hr,hb⟩
 refine ⟨_,_,_,rfl,⟨_,rfl,?_⟩,hb,fresh_at hk _ _ _⟩
 show I_ _ _ (tab m.cells.length (fun _=>0))
 rw[g.l]
 exact hr.isTab (by unfold maxLen;omega)
set_option maxHeartbeats 16000000 in
set_option maxRecDepth 100000 in
theorem rzeros_any(v:Value)(ls:List Ly)(w:World)(hv:Y_ w v ls)(h12:ls.length<=12)(hg:∀l∈ls,q_ l.w=0/\q_ l.b=0):
  Calls Tryz.prog 27 #[v] w fun e w'=>∃u,e=.returned u/\D_ w' u (zeroD ls)/\Below w.heap.size w w':=by
 obtain ⟨a,cap,rfl,hlc,hcm⟩:=hv.shape
 have HV:=h_ hv
 have HGD:=h_ hg
 obtain ⟨N,hN⟩:=gN (ls.length)
 have HN:=h_ hN
 rw[hN]at HV h12 ⊢
 obtain ⟨e0,ei,hz0,hz1,hz2⟩:=info_parts infoGd
 have HEI:=h_ (And.intro ei (And.intro hz0 (And.intro hz1 hz2)))
 clear hv hg hN hlc hcm ei hz0 hz1 hz2
 go_enter Tryz.func27,Tryz.ntmps27
 go_wp2
 go_loopw [3,4] (fun u c wr=>∃(i:Nat) (xi:Int),i<=N/\xi=(i:Int)/\c=.int .i64 xi/\Owns w.heap.size w.heap.size wr 61 6 u i ((zeroD (ls.take i)).flatMap gdS)/\Below w.heap.size w wr) (fun _ c _=>N - (intOf c).toNat)
 case atStart=>exact ⟨0,0,Nat.zero_le _,rfl,rfl,Owns.nil _ _ _ _ _,Below.refl _ _⟩
 case round=>
  obtain ⟨i,xi,hi,hxi,rfl,how,hb⟩:=hrel
  have HXI:=h_ hxi
  have HO:=h_ how
  have HB:=h_ hb
  have hxi0:0<=xi:=by omega
  have hxi1:xi<=12:=by omega
  clear hxi how hb
  by_cases hlt:xi<(N:Int)
  ·have hin:i<N:=by have:=HXI.out;omega
   have hxn:xi.toNat=i:=by have:=HXI.out;omega
   obtain ⟨l,hl⟩:∃x,ls[i]?=some x:=⟨ls[i]'(by have:=HN.out;omega),List.getElem?_eq_getElem _⟩
   obtain ⟨b,off,cp,sa,sn,sk,ta,tn,tk,ev,k0,k1,k2,k3,k4,k5,k6,hly⟩:=HV.out.at hl
   injection ev with ev1 ev2 ev3
   clear ev2 ev3
   subst ev1
   rw[<-hxn]at k1 k2 k4 k5
   have HK:=h_ (fun W (h:Below w.heap.size w W)=>And.intro (c_ h k1) (And.intro (c_ h k2) (And.intro (c_ h k4) (c_ h k5))))
   have HGL:=h_ (HGD.out l (List.mem_of_getElem? hl))
   obtain ⟨x1,ex1⟩:=gN (zeroM l.w)
   obtain ⟨x2,ex2⟩:=gN (zeroM l.b)
   have HTK:=h_ (show zeroD (ls.take i)++[(x1,x2)]=zeroD (ls.take (i+1)) by rw[take_end hl,<-ex1,<-ex2];unfold zeroD;simp)
   have HT:=h_ (fun W (_:Below wr.heap.size wr W)=>ref_blank (m:=l.w) W HGL.out.1)
   rw[ex1]at HT
   have HTB:=h_ (fun W=>ref_blank (m:=l.b) W HGL.out.2)
   rw[ex2]at HTB
   have HSB:Hid (∀W',Below wr.heap.size wr W'->(fun W'=>W'.cell? ⟨b,off+xi.toNat*7+1,none⟩=some (.int .i64 l.w.rows)/\W'.cell? ⟨b,off+xi.toNat*7+2,none⟩=some (.int .i64 l.w.cols)) W'):=h_ (fun W' h=>have hx:=HK.out W' (b_ HB.out h);⟨hx.1,hx.2.1⟩)
   clear k0 k1 k2 k3 k4 k5 k6 hly hl hxn ex1 ex2
   have HT3:=h_ (HT.out (wr.alloc (.cells #[.int .i64 0,.int .i64 0,.slice none 0 0] 28)).drew (d_ (a_ (Below.refl wr.heap.size wr))))
   have HT0:=h_ (HT.out wr.drew (d_ (Below.refl wr.heap.size wr)))
   obtain ⟨lm0,lm1⟩:=HSB.out wr (Below.refl _ _)
   go_wp2
   go_cut [5] from 13 to 25 (fun a wx=>∃(Bk:Nat) (qa:Option Addr) (qn qk:Nat),a=.pointer (some ⟨Bk,0,none⟩)/\M_ wx (.agg #[.int .i64 x1.rows,.int .i64 x1.cols,.slice qa qn qk]) x1/\Cells3 wx Bk (.int .i64 x1.rows) (.int .i64 x1.cols) (.slice qa qn qk)/\wr.heap.size<=Bk/\F_ wr.heap.size (.agg #[.int .i64 x1.rows,.int .i64 x1.cols,.slice qa qn qk])/\Below wr.heap.size wr wx)
   case first=>
    go_region_held3 (fun W'=>W'.cell? ⟨b,off+xi.toNat*7+1,none⟩=some (.int .i64 l.w.rows)/\W'.cell? ⟨b,off+xi.toNat*7+2,none⟩=some (.int .i64 l.w.cols)) ((refine HSB.out _ ?_;repeat' (first|with_reducible exact Below.refl _ _|with_reducible exact HB2.out|with_reducible refine d_ ?_|with_reducible refine a_ ?_|with_reducible refine t_ ?_ ?_|exact Nat.le_refl _|exact Nat.le_succ _|exact HB2.out.size|exact Nat.le_succ_of_le HB2.out.size)))
     (first
      |(go_at_call 56;guard_target=Calls _ _ _ (World.drew (World.alloc wr (Obj.cells #[_,_,_] _))) _;refine HT3.out.mono ?_;rintro e wz ⟨ja,jn,jk,rfl,hm,hb2,hf⟩;have hc2:=b_ (r_ (Below.refl _ (wr.alloc (.cells #[.int .i64 0,.int .i64 0,.slice none 0 0] 28)))) hb2;have HB2:=h_ (show Below wr.heap.size wr wz from b_ (o_ wr (.cells #[.int .i64 0,.int .i64 0,.slice none 0 0] 28)) hc2);have ZB3:=h_ ((Box.new wr [.int .i64 0,.int .i64 0,.slice none 0 0] 28 (B:=wr.heap.size) rfl).u_ hc2);have ZB3l:=h_ (Box.new wr [.int .i64 0,.int .i64 0,.slice none 0 0] 28 (B:=wr.heap.size) rfl).lt;have ZF3:=h_ ((Free.new wr #[.int .i64 0,.int .i64 0,.slice none 0 0] 28 (B:=wr.heap.size) rfl).u_ hc2 ZB3l.out);obtain ⟨z30,z31,z32⟩:=ZB3.out.c3;obtain ⟨f30,f31,f32⟩:=ZF3.out.f3;have HEa:Hid (Cells3 (((wz.setCell ⟨wr.heap.size,0,none⟩ (.int .i64 x1.rows)).setCell ⟨wr.heap.size,1,none⟩ (.int .i64 x1.cols)).setCell ⟨wr.heap.size,2,none⟩ (.slice ja jn jk)) wr.heap.size (.int .i64 x1.rows) (.int .i64 x1.cols) (.slice ja jn jk)):=h_ (c__ (set_three ZB3.out _ _ _));have HF:=h_ (show F_ (wr.heap.size+1) (.agg #[.int .i64 x1.rows,.int .i64 x1.cols,.slice ja jn jk]) from f_ hf (szd1 _ _));have HG:=h_ (f_ HF.out (Nat.le_succ _));have HNb:=h_ (Nat.le_refl wr.heap.size);clear hc2;have HN:=h_ hm;clear hb2 hm hf)
      |(go_at_call 56;guard_target=Calls _ _ _ (World.drew wr) _;refine HT0.out.mono ?_;rintro e wz ⟨ja,jn,jk,rfl,hm,hb2,hf⟩;have hc2:=b_ (r_ (Below.refl _ wr)) hb2;have HB2:=h_ (show Below wr.heap.size wr wz from hc2);have HEa:Hid (Cells3 (wz.alloc (.cells #[.int .i64 x1.rows,.int .i64 x1.cols,.slice ja jn jk] 28)) wz.heap.size (.int .i64 x1.rows) (.int .i64 x1.cols) (.slice ja jn jk)):=h_ (c__ (Box.new wz [.int .i64 x1.rows,.int .i64 x1.cols,.slice ja jn jk] 28 rfl));have HF:=h_ (show F_ wr.heap.size (.agg #[.int .i64 x1.rows,.int .i64 x1.cols,.slice ja jn jk]) from hf);have HG:=HF;have HNb:=h_ HB2.out.size;clear hc2;have HN:=h_ hm;clear hb2 hm hf))
    all_goals go_wp2
    all_goals go_meet
    all_goals
     refine ⟨_,ja,jn,jk,rfl,?_,?_,HNb.out,HG.out,?_⟩
     ·(refine HN.out.above HF.out ?_;repeat' (first|with_reducible exact Above.refl _ _|with_reducible refine abv_drew ?_|with_reducible refine abv_alloc ?_|with_reducible refine v_ ?_ (by omega)))
     ·with_reducible exact HEa.out
     ·repeat' (first|with_reducible exact Below.refl _ _|with_reducible exact HB2.out|with_reducible refine d_ ?_|with_reducible refine a_ ?_|with_reducible refine t_ ?_ ?_|exact Nat.le_refl _|exact Nat.le_succ _|exact HB2.out.size|exact Nat.le_succ_of_le HB2.out.size)
   case rest=>
    obtain ⟨B1,ja,jn,jk,rfl,hmx,⟨c0,c1,c2⟩,hBk,hfq,hbc⟩:=hcut
    obtain ⟨wa,hwa⟩:=gM (wc)
    subst hwa
    have HDA:=h_ hbc
    have HBA:=h_ (b_ HB.out hbc)
    have HM1:=h_ hmx.ints
    have HF1:=h_ hfq
    have HC1:=h_ (show Cells3 wa B1 (.int .i64 x1.rows) (.int .i64 x1.cols) (.slice ja jn jk) from ⟨c0,c1,c2⟩)
    clear hmx hBk hfq hbc c0 c1 c2 HT HSB HT0 HT3 lm0 lm1
    have HT:=h_ (fun W (_:Below wa.heap.size wa W)=>HTB.out W)
    have HSB:Hid (∀W',Below wa.heap.size wa W'->(fun W'=>W'.cell? ⟨b,off+xi.toNat*7+4,none⟩=some (.int .i64 l.b.rows)/\W'.cell? ⟨b,off+xi.toNat*7+5,none⟩=some (.int .i64 l.b.cols)) W'):=h_ (fun W' h=>have hx:=HK.out W' (b_ HBA.out h);⟨hx.2.2.1,hx.2.2.2⟩)
    have HT3:=h_ (HT.out (wa.alloc (.cells #[.int .i64 0,.int .i64 0,.slice none 0 0] 28)).drew (d_ (a_ (Below.refl wa.heap.size wa))))
    have HT0:=h_ (HT.out wa.drew (d_ (Below.refl wa.heap.size wa)))
    obtain ⟨lm0,lm1⟩:=HSB.out wa (Below.refl _ _)
    go_wp2
    go_cut [6] from 26 to 38 (fun a wx=>∃(Bk:Nat) (qa:Option Addr) (qn qk:Nat),a=.pointer (some ⟨Bk,0,none⟩)/\M_ wx (.agg #[.int .i64 x2.rows,.int .i64 x2.cols,.slice qa qn qk]) x2/\Cells3 wx Bk (.int .i64 x2.rows) (.int .i64 x2.cols) (.slice qa qn qk)/\wa.heap.size<=Bk/\F_ wa.heap.size (.agg #[.int .i64 x2.rows,.int .i64 x2.cols,.slice qa qn qk])/\Below wa.heap.size wa wx)
    case first=>
     go_region_held3 (fun W'=>W'.cell? ⟨b,off+xi.toNat*7+4,none⟩=some (.int .i64 l.b.rows)/\W'.cell? ⟨b,off+xi.toNat*7+5,none⟩=some (.int .i64 l.b.cols)) ((refine HSB.out _ ?_;repeat' (first|with_reducible exact Below.refl _ _|with_reducible exact HB2.out|with_reducible refine d_ ?_|with_reducible refine a_ ?_|with_reducible refine t_ ?_ ?_|exact Nat.le_refl _|exact Nat.le_succ _|exact HB2.out.size|exact Nat.le_succ_of_le HB2.out.size)))
      (first
       |(go_at_call 56;guard_target=Calls _ _ _ (World.drew (World.alloc wa (Obj.cells #[_,_,_] _))) _;refine HT3.out.mono ?_;rintro e wz ⟨ga,gn,gk,rfl,hm,hb2,hf⟩;have hc2:=b_ (r_ (Below.refl _ (wa.alloc (.cells #[.int .i64 0,.int .i64 0,.slice none 0 0] 28)))) hb2;have HB2:=h_ (show Below wa.heap.size wa wz from b_ (o_ wa (.cells #[.int .i64 0,.int .i64 0,.slice none 0 0] 28)) hc2);have ZB3:=h_ ((Box.new wa [.int .i64 0,.int .i64 0,.slice none 0 0] 28 (B:=wa.heap.size) rfl).u_ hc2);have ZB3l:=h_ (Box.new wa [.int .i64 0,.int .i64 0,.slice none 0 0] 28 (B:=wa.heap.size) rfl).lt;have ZF3:=h_ ((Free.new wa #[.int .i64 0,.int .i64 0,.slice none 0 0] 28 (B:=wa.heap.size) rfl).u_ hc2 ZB3l.out);obtain ⟨z30,z31,z32⟩:=ZB3.out.c3;obtain ⟨f30,f31,f32⟩:=ZF3.out.f3;have HEa:Hid (Cells3 (((wz.setCell ⟨wa.heap.size,0,none⟩ (.int .i64 x2.rows)).setCell ⟨wa.heap.size,1,none⟩ (.int .i64 x2.cols)).setCell ⟨wa.heap.size,2,none⟩ (.slice ga gn gk)) wa.heap.size (.int .i64 x2.rows) (.int .i64 x2.cols) (.slice ga gn gk)):=h_ (c__ (set_three ZB3.out _ _ _));have HF:=h_ (show F_ (wa.heap.size+1) (.agg #[.int .i64 x2.rows,.int .i64 x2.cols,.slice ga gn gk]) from f_ hf (szd1 _ _));have HG:=h_ (f_ HF.out (Nat.le_succ _));have HNb:=h_ (Nat.le_refl wa.heap.size);clear hc2;have HN:=h_ hm;clear hb2 hm hf)
       |(go_at_call 56;guard_target=Calls _ _ _ (World.drew wa) _;refine HT0.out.mono ?_;rintro e wz ⟨ga,gn,gk,rfl,hm,hb2,hf⟩;have hc2:=b_ (r_ (Below.refl _ wa)) hb2;have HB2:=h_ (show Below wa.heap.size wa wz from hc2);have HEa:Hid (Cells3 (wz.alloc (.cells #[.int .i64 x2.rows,.int .i64 x2.cols,.slice ga gn gk] 28)) wz.heap.size (.int .i64 x2.rows) (.int .i64 x2.cols) (.slice ga gn gk)):=h_ (c__ (Box.new wz [.int .i64 x2.rows,.int .i64 x2.cols,.slice ga gn gk] 28 rfl));have HF:=h_ (show F_ wa.heap.size (.agg #[.int .i64 x2.rows,.int .i64 x2.cols,.slice ga gn gk]) from hf);have HG:=HF;have HNb:=h_ HB2.out.size;clear hc2;have HN:=h_ hm;clear hb2 hm hf))
     all_goals go_wp2
     all_goals go_meet
     all_goals
      refine ⟨_,ga,gn,gk,rfl,?_,?_,HNb.out,HG.out,?_⟩
      ·(refine HN.out.above HF.out ?_;repeat' (first|with_reducible exact Above.refl _ _|with_reducible refine abv_drew ?_|with_reducible refine abv_alloc ?_|with_reducible refine v_ ?_ (by omega)))
      ·with_reducible exact HEa.out
      ·repeat' (first|with_reducible exact Below.refl _ _|with_reducible exact HB2.out|with_reducible refine d_ ?_|with_reducible refine a_ ?_|with_reducible refine t_ ?_ ?_|exact Nat.le_refl _|exact Nat.le_succ _|exact HB2.out.size|exact Nat.le_succ_of_le HB2.out.size)
    case rest=>
     obtain ⟨B2,ga,gn,gk,rfl,hmx,⟨c0,c1,c2⟩,hBk,hfq,hbc⟩:=hcut
     obtain ⟨wb,hwb⟩:=gM (wc)
     subst hwb
     have HDB:=h_ hbc
     have HDR:=h_ (b_ HDA.out hbc)
     have HBB:=h_ (b_ HBA.out hbc)
     have HM2:=h_ hmx.ints
     have HF2:=h_ hfq
     have HLT:=h_ (show ∀x,(fun b=>u3.ownBlock=some b\/(w.heap.size<=b/\b<w.heap.size)) x->x<wr.heap.size from fun x hx=>by
      rcases hx with hx|hx
      ·exact (HO.out.lt x hx).2
      ·omega)
     have HLA:=h_ (show ∀x,(fun b=>u3.ownBlock=some b\/(w.heap.size<=b/\b<w.heap.size)) x->x<wa.heap.size from fun x hx=>Nat.lt_of_lt_of_le (HLT.out x hx) HDA.out.size)
     have HOA:=h_ (HO.out.u_ (a_ (o:=(.cells #[.int .i64 x1.rows,.int .i64 x1.cols,.slice ja jn jk,.int .i64 x2.rows,.int .i64 x2.cols,.slice ga gn gk] 61)) HDR.out))
     have HEN:=h_ (show Enc (wb.alloc (.cells #[.int .i64 x1.rows,.int .i64 x1.cols,.slice ja jn jk,.int .i64 x2.rows,.int .i64 x2.cols,.slice ga gn gk] 61)) (fun b=>u3.ownBlock=some b\/(w.heap.size<=b/\b<w.heap.size)) (gdS (x1,x2)) [.int .i64 x1.rows,.int .i64 x1.cols,.slice ja jn jk,.int .i64 x2.rows,.int .i64 x2.cols,.slice ga gn gk] from enc_gd (d:=(x1,x2)) (((x_ HM1.out HF1.out HLT.out).u_ HDB.out).u_ (o_ _ _)) ((x_ HM2.out HF2.out HLA.out).u_ (o_ _ _)))
     have HNB:=h_ (show Box (wb.alloc (.cells #[.int .i64 x1.rows,.int .i64 x1.cols,.slice ja jn jk,.int .i64 x2.rows,.int .i64 x2.cols,.slice ga gn gk] 61)) wb.heap.size [.int .i64 x1.rows,.int .i64 x1.cols,.slice ja jn jk,.int .i64 x2.rows,.int .i64 x2.cols,.slice ga gn gk] from Box.new _ _ _ rfl)
     have HBS:=h_ (show w.heap.size<=(wb.alloc (.cells #[.int .i64 x1.rows,.int .i64 x1.cols,.slice ja jn jk,.int .i64 x2.rows,.int .i64 x2.cols,.slice ga gn gk] 61)).heap.size from Nat.le_trans HBB.out.size (o_ wb (.cells #[.int .i64 x1.rows,.int .i64 x1.cols,.slice ja jn jk,.int .i64 x2.rows,.int .i64 x2.cols,.slice ga gn gk] 61)).size)
     obtain ⟨p0,p1,p2⟩:=HC1.out
     replace p0:=c_ HDB.out p0
     replace p1:=c_ HDB.out p1
     replace p2:=c_ HDB.out p2
     clear hmx hBk hfq hbc HT HSB HT0 HT3 lm0 lm1
     go_wp2_with (at_builtin;refine wpList_append_owns rfl _ _ 23 rfl w.heap.size 61 e0 (.agg #[.int .i64 0,.int .i64 0,.slice none 0 0,.int .i64 0,.int .i64 0,.slice none 0 0]) 6 80 Tryz.underlying23 HEI.out.1 HEI.out.2.1 HEI.out.2.2.1 HEI.out.2.2.2 rfl (by decide) w.heap.size _ _ _ rfl HOA.out ⟨wb.heap.size,0,none⟩ 1 1 [.int .i64 x1.rows,.int .i64 x1.cols,.slice ja jn jk,.int .i64 x2.rows,.int .i64 x2.cols,.slice ga gn gk] rfl rfl (fun q u hq=>by rw[addr_add];exact HNB.out q u hq) (gdS (x1,x2)) HEN.out ?d3 ?d4 HBS.out ?_)
     case d3=>unfold maxLen;omega
     case d4=>omega
     intro v9 w9 hown hgrow hwh
     have HB9:=h_ (show Below w.heap.size w w9 from (a_ (o:=(.cells #[.int .i64 x1.rows,.int .i64 x1.cols,.slice ja jn jk,.int .i64 x2.rows,.int .i64 x2.cols,.slice ga gn gk] 61)) HBB.out).grown hgrow HBS.out (fun k hk=>(HO.out.lt k hk).1))
     rw[flat_snoc,HTK.out]at hown
     have HOW:=h_ hown
     clear hown hgrow hwh p0 p1 p2 c0 c1 c2
     go_wp2
     go_roundw
     case rel=>exact ⟨i+1,_,by omega,by have:=HXI.out;omega,rfl,HOW.out,HB9.out⟩
     case measure=>have:=HXI.out;simp[intOf];omega
  ·have hin:i=N:=by have:=HXI.out;omega
   have HM:=h_ (show D_ wr u3 (zeroD ls) by
    have h:=HO.out.reads
    rw[hin,<-HN.out,List.take_length]at h
    show Reads _ _ (zeroD ls).length _
    rw[show (zeroD ls).length=ls.length by unfold zeroD;simp];exact h)
   clear hin
   go_wp2
   go_ret
   exact ⟨_,rfl,HM.out,HB.out⟩
end Go.Proofs.YtniloklglpchfaeGreatDoor
