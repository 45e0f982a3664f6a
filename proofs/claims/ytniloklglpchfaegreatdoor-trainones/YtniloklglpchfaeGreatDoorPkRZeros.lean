/- What zeros of the document's answer comes to: noughts of a net's shapes. -/
import Derived.Test.YtniloklglpchfaeGreatDoorPkRSums
import Derived.Test.YtniloklglpchfaeGreatDoorPkReg
import Derived.Test.YtniloklglpchfaeGreatDoorPkLBox
import Derived.Test.YtniloklglpchfaeGreatDoorPkNetLaw
import Derived.Test.YtniloklglpchfaeGreatDoorPkRNet
import Derived.Test.YtniloklglpchfaeGreatDoorPkRLoss
import Derived.Test.YtniloklglpchfaeGreatDoorRGather
import Derived.Test.YtniloklglpchfaeGreatDoorRStepO
namespace Go.Proofs.YtniloklglpchfaeGreatDoor
open Go.RowKit
theorem ref_blank{m:Mx}(w:World)(hf:q_ m=0):Calls Tryz.prog 56 #[.int .i64 m.rows,.int .i64 m.cols] w (RefEnd w (zeroM m)):=by
 obtain ⟨R,C,g⟩:=o__ hf
 have hRC:=Nat.mul_le_mul g.hR g.hC
 refine (blank_any m.rows m.cols (R*C) w (by rw[g.r,g.c];simp) (by omega)).mono ?_
 rintro e w' ⟨k,rfl,hk,hr,hb⟩
 refine ⟨_,_,_,rfl,⟨_,rfl,?_⟩,hb,fresh_at hk _ _ _⟩
 show I_ _ _ (tab m.cells.length (fun _=>0))
 rw[g.l]
 exact hr.isTab (by unfold maxLen;omega)
set_option maxHeartbeats 16000000 in
set_option maxRecDepth 100000 in
theorem rzeros_any(v:Value)(ls:List Ly)(w:World)(hv:Y_ w v ls)(h12:ls.length≤12)(hg:∀l∈ls,q_ l.w=0∧q_ l.b=0):
  Calls Tryz.prog 27 #[v] w fun e w'=>∃u,e=.returned u∧D_ w' u (zeroD ls)∧Below w.heap.size w w':=by
 obtain ⟨a,cap,rfl,hlc,hcm⟩:=hv.shape
 have HV:=h_ hv
 have HGD:=h_ hg
 obtain ⟨N,hN⟩:=gN (ls.length)
 have HN:=h_ hN
 rw[hN]at HV h12 ⊢
 obtain ⟨e0,ei,hz0,hz1,hz2⟩:=info_parts infoGd
 have HEI:=h_ (And.intro ei (And.intro hz0 (And.intro hz1 hz2)))
 clear hv hg hN hlc hcm ei hz0 hz1 hz2
 go_enter Tryz.func27,Tryz.ntmps27
 go_wp2
 go_loopw [3,4] (fun u c wr=>∃(i:Nat) (xi:Int),i≤N∧xi=(i:Int)∧c=.int .i64 xi∧Owns w.heap.size w.heap.size wr 61 6 u i ((zeroD (ls.take i)).flatMap gdS)∧Below w.heap.size w wr) (fun _ c _=>N - (intOf c).toNat)
 case atStart=>exact ⟨0,0,Nat.zero_le _,rfl,rfl,Owns.nil _ _ _ _ _,Below.refl _ _⟩
 case round=>
  obtain ⟨i,xi,hi,hxi,rfl,how,hb⟩:=hrel
  have HXI:=h_ hxi
  have HO:=h_ how
  have HB:=h_ hb
  have hxi0:0≤xi:=by omega
  have hxi1:xi≤12:=by omega
  clear hxi how hb
  by_cases hlt:xi<(N:Int)
  ·have hin:i<N:=by have:=HXI.out;omega
   have hxn:xi.toNat=i:=by have:=HXI.out;omega
   obtain ⟨l,hl⟩:∃x,ls[i]?=some x:=⟨ls[i]'(by have:=HN.out;omega),List.getElem?_eq_getElem _⟩
   obtain ⟨b,off,cp,sa,sn,sk,ta,tn,tk,ev,k0,k1,k2,k3,k4,k5,k6,hly⟩:=HV.out.at hl
   injection ev with ev1 ev2 ev3
   clear ev2 ev3
   subst ev1
   rw[←hxn]at k1 k2 k4 k5
   have HK:=h_ (fun W (h:Below w.heap.size w W)=>And.intro (c_ h k1) (And.intro (c_ h k2) (And.intro (c_ h k4) (c_ h k5))))
   have HGL:=h_ (HGD.out l (List.mem_of_getElem? hl))
   obtain ⟨x1,ex1⟩:=gN (zeroM l.w)
   obtain ⟨x2,ex2⟩:=gN (zeroM l.b)
   have HTK:=h_ (show zeroD (ls.take i)++[(x1,x2)]=zeroD (ls.take (i+1)) by rw[take_end hl,←ex1,←ex2];unfold zeroD;simp)
   have HT:=h_ (fun W (_:Below wr.heap.size wr W)=>ref_blank (m:=l.w) W HGL.out.1)
   rw[ex1]at HT
   have HTB:=h_ (fun W=>ref_blank (m:=l.b) W HGL.out.2)
   rw[ex2]at HTB
   have HSB:Hid (∀W',Below wr.heap.size wr W'→(fun W'=>W'.cell? ⟨b,off+xi.toNat*7+1,none⟩=some (.int .i64 l.w.rows)∧W'.cell? ⟨b,off+xi.toNat*7+2,none⟩=some (.int .i64 l.w.cols)) W'):=h_ (fun W' h=>have hx:=HK.out W' (b_ HB.out h);⟨hx.1,hx.2.1⟩)
   clear k0 k1 k2 k3 k4 k5 k6 hly hl hxn ex1 ex2
   have HT3:=h_ (HT.out (wr.alloc (.cells #[.int .i64 0,.int .i64 0,.slice none 0 0] 28)).drew (d_ (a_ (Below.refl wr.heap.size wr))))
   have HT0:=h_ (HT.out wr.drew (d_ (Below.refl wr.heap.size wr)))
   obtain ⟨lm0,lm1⟩:=HSB.out wr (Below.refl _ _)
   go_wp2
   go_cut [5] from 13 to 25 (fun a wx=>∃(Bk:Nat) (qa:Option Addr) (qn qk:Nat),a=.pointer (some ⟨Bk,0,none⟩)∧M_ wx (.agg #[.int .i64 x1.rows,.int .i64 x1.cols,.slice qa qn qk]) x1∧Cells3 wx Bk (.int .i64 x1.rows) (.int .i64 x1.cols) (.slice qa qn qk)∧wr.heap.size≤Bk∧F_ wr.heap.size (.agg #[.int .i64 x1.rows,.int .i64 x1.cols,.slice qa qn qk])∧Below wr.heap.size wr wx)
   case first=>
    go_region_held3 (fun W'=>W'.cell? ⟨b,off+xi.toNat*7+1,none⟩=some (.int .i64 l.w.rows)∧W'.cell? ⟨b,off+xi.toNat*7+2,none⟩=some (.int .i64 l.w.cols)) ((refine HSB.out _ ?_;repeat' (first|with_reducible exact Below.refl _ _|with_reducible exact HB2.out|with_reducible refine d_ ?_|with_reducible refine a_ ?_|with_reducible refine t_ ?_ ?_|exact Nat.le_refl _|exact Nat.le_succ _|exact HB2.out.size|exact Nat.le_succ_of_le HB2.out.size)))
     (first
      |(go_at_call 56;guard_target=Calls _ _ _ (World.drew (World.alloc wr (Obj.cells #[_,_,_] _))) _;refine HT3.out.mono ?_;rintro e wz ⟨ja,jn,jk,rfl,hm,hb2,hf⟩;have hc2:=b_ (r_ (Below.refl _ (wr.alloc (.cells #[.int .i64 0,.int .i64 0,.slice none 0 0] 28)))) hb2;have HB2:=h_ (show Below wr.heap.size wr wz from b_ (o_ wr (.cells #[.int .i64 0,.int .i64 0,.slice none 0 0] 28)) hc2);have ZB3:=h_ ((Box.new wr [.int .i64 0,.int .i64 0,.slice none 0 0] 28 (B:=wr.heap.size) rfl).u_ hc2);have ZB3l:=h_ (Box.new wr [.int .i64 0,.int .i64 0,.slice none 0 0] 28 (B:=wr.heap.size) rfl).lt;have ZF3:=h_ ((Free.new wr #[.int .i64 0,.int .i64 0,.slice none 0 0] 28 (B:=wr.heap.size) rfl).u_ hc2 ZB3l.out);obtain ⟨z30,z31,z32⟩:=ZB3.out.c3;obtain ⟨f30,f31,f32⟩:=ZF3.out.f3;have HEa:Hid (Cells3 (((wz.setCell ⟨wr.heap.size,0,none⟩ (.int .i64 x1.rows)).setCell ⟨wr.heap.size,1,none⟩ (.int .i64 x1.cols)).setCell ⟨wr.heap.size,2,none⟩ (.slice ja jn jk)) wr.heap.size (.int .i64 x1.rows) (.int .i64 x1.cols) (.slice ja jn jk)):=h_ (c__ (set_three ZB3.out _ _ _));have HF:=h_ (show F_ (wr.heap.size+1) (.agg #[.int .i64 x1.rows,.int .i64 x1.cols,.slice ja jn jk]) from f_ hf (szd1 _ _));have HG:=h_ (f_ HF.out (Nat.le_succ _));have HNb:=h_ (Nat.le_refl wr.heap.size);clear hc2;have HN:=h_ hm;clear hb2 hm hf)
      |(go_at_call 56;guard_target=Calls _ _ _ (World.drew wr) _;refine HT0.out.mono ?_;rintro e wz ⟨ja,jn,jk,rfl,hm,hb2,hf⟩;have hc2:=b_ (r_ (Below.refl _ wr)) hb2;have HB2:=h_ (show Below wr.heap.size wr wz from hc2);have HEa:Hid (Cells3 (wz.alloc (.cells #[.int .i64 x1.rows,.int .i64 x1.cols,.slice ja jn jk] 28)) wz.heap.size (.int .i64 x1.rows) (.int .i64 x1.cols) (.slice ja jn jk)):=h_ (c__ (Box.new wz [.int .i64 x1.rows,.int .i64 x1.cols,.slice ja jn jk] 28 rfl));have HF:=h_ (show F_ wr.heap.size (.agg #[.int .i64 x1.rows,.int .i64 x1.cols,.slice ja jn jk]) from hf);have HG:=HF;have HNb:=h_ HB2.out.size;clear hc2;have HN:=h_ hm;clear hb2 hm hf))
    all_goals go_wp2
    all_goals go_meet
    all_goals
     refine ⟨_,ja,jn,jk,rfl,?_,?_,HNb.out,HG.out,?_⟩
     ·(refine HN.out.above HF.out ?_;repeat' (first|with_reducible exact Above.refl _ _|with_reducible refine abv_drew ?_|with_reducible refine abv_alloc ?_|with_reducible refine v_ ?_ (by omega)))
     ·with_reducible exact HEa.out
     ·repeat' (first|with_reducible exact Below.refl _ _|with_reducible exact HB2.out|with_reducible refine d_ ?_|with_reducible refine a_ ?_|with_reducible refine t_ ?_ ?_|exact Nat.le_refl _|exact Nat.le_succ _|exact HB2.out.size|exact Nat.le_succ_of_le HB2.out.size)
   case rest=>
    obtain ⟨B1,ja,jn,jk,rfl,hmx,⟨c0,c1,c2⟩,hBk,hfq,hbc⟩:=hcut
    obtain ⟨wa,hwa⟩:=gM (wc)
    subst hwa
    have HDA:=h_ hbc
    have HBA:=h_ (b_ HB.out hbc)
    have HM1:=h_ hmx.ints
    have HF1:=h_ hfq
    have HC1:=h_ (show Cells3 wa B1 (.int .i64 x1.rows) (.int .i64 x1.cols) (.slice ja jn jk) from ⟨c0,c1,c2⟩)
    clear hmx hBk hfq hbc c0 c1 c2 HT HSB HT0 HT3 lm0 lm1
    have HT:=h_ (fun W (_:Below wa.heap.size wa W)=>HTB.out W)
    have HSB:Hid (∀W',Below wa.heap.size wa W'→(fun W'=>W'.cell? ⟨b,off+xi.toNat*7+4,none⟩=some (.int .i64 l.b.rows)∧W'.cell? ⟨b,off+xi.toNat*7+5,none⟩=some (.int .i64 l.b.cols)) W'):=h_ (fun W' h=>have hx:=HK.out W' (b_ HBA.out h);⟨hx.2.2.1,hx.2.2.2⟩)
    have HT3:=h_ (HT.out (wa.alloc (.cells #[.int .i64 0,.int .i64 0,.slice none 0 0] 28)).drew (d_ (a_ (Below.refl wa.heap.size wa))))
    have HT0:=h_ (HT.out wa.drew (d_ (Below.refl wa.heap.size wa)))
    obtain ⟨lm0,lm1⟩:=HSB.out wa (Below.refl _ _)
    go_wp2
    go_cut [6] from 26 to 38 (fun a wx=>∃(Bk:Nat) (qa:Option Addr) (qn qk:Nat),a=.pointer (some ⟨Bk,0,none⟩)∧M_ wx (.agg #[.int .i64 x2.rows,.int .i64 x2.cols,.slice qa qn qk]) x2∧Cells3 wx Bk (.int .i64 x2.rows) (.int .i64 x2.cols) (.slice qa qn qk)∧wa.heap.size≤Bk∧F_ wa.heap.size (.agg #[.int .i64 x2.rows,.int .i64 x2.cols,.slice qa qn qk])∧Below wa.heap.size wa wx)
    case first=>
     go_region_held3 (fun W'=>W'.cell? ⟨b,off+xi.toNat*7+4,none⟩=some (.int .i64 l.b.rows)∧W'.cell? ⟨b,off+xi.toNat*7+5,none⟩=some (.int .i64 l.b.cols)) ((refine HSB.out _ ?_;repeat' (first|with_reducible exact Below.refl _ _|with_reducible exact HB2.out|with_reducible refine d_ ?_|with_reducible refine a_ ?_|with_reducible refine t_ ?_ ?_|exact Nat.le_refl _|exact Nat.le_succ _|exact HB2.out.size|exact Nat.le_succ_of_le HB2.out.size)))
      (first
       |(go_at_call 56;guard_target=Calls _ _ _ (World.drew (World.alloc wa (Obj.cells #[_,_,_] _))) _;refine HT3.out.mono ?_;rintro e wz ⟨ga,gn,gk,rfl,hm,hb2,hf⟩;have hc2:=b_ (r_ (Below.refl _ (wa.alloc (.cells #[.int .i64 0,.int .i64 0,.slice none 0 0] 28)))) hb2;have HB2:=h_ (show Below wa.heap.size wa wz from b_ (o_ wa (.cells #[.int .i64 0,.int .i64 0,.slice none 0 0] 28)) hc2);have ZB3:=h_ ((Box.new wa [.int .i64 0,.int .i64 0,.slice none 0 0] 28 (B:=wa.heap.size) rfl).u_ hc2);have ZB3l:=h_ (Box.new wa [.int .i64 0,.int .i64 0,.slice none 0 0] 28 (B:=wa.heap.size) rfl).lt;have ZF3:=h_ ((Free.new wa #[.int .i64 0,.int .i64 0,.slice none 0 0] 28 (B:=wa.heap.size) rfl).u_ hc2 ZB3l.out);obtain ⟨z30,z31,z32⟩:=ZB3.out.c3;obtain ⟨f30,f31,f32⟩:=ZF3.out.f3;have HEa:Hid (Cells3 (((wz.setCell ⟨wa.heap.size,0,none⟩ (.int .i64 x2.rows)).setCell ⟨wa.heap.size,1,none⟩ (.int .i64 x2.cols)).setCell ⟨wa.heap.size,2,none⟩ (.slice ga gn gk)) wa.heap.size (.int .i64 x2.rows) (.int .i64 x2.cols) (.slice ga gn gk)):=h_ (c__ (set_three ZB3.out _ _ _));have HF:=h_ (show F_ (wa.heap.size+1) (.agg #[.int .i64 x2.rows,.int .i64 x2.cols,.slice ga gn gk]) from f_ hf (szd1 _ _));have HG:=h_ (f_ HF.out (Nat.le_succ _));have HNb:=h_ (Nat.le_refl wa.heap.size);clear hc2;have HN:=h_ hm;clear hb2 hm hf)
       |(go_at_call 56;guard_target=Calls _ _ _ (World.drew wa) _;refine HT0.out.mono ?_;rintro e wz ⟨ga,gn,gk,rfl,hm,hb2,hf⟩;have hc2:=b_ (r_ (Below.refl _ wa)) hb2;have HB2:=h_ (show Below wa.heap.size wa wz from hc2);have HEa:Hid (Cells3 (wz.alloc (.cells #[.int .i64 x2.rows,.int .i64 x2.cols,.slice ga gn gk] 28)) wz.heap.size (.int .i64 x2.rows) (.int .i64 x2.cols) (.slice ga gn gk)):=h_ (c__ (Box.new wz [.int .i64 x2.rows,.int .i64 x2.cols,.slice ga gn gk] 28 rfl));have HF:=h_ (show F_ wa.heap.size (.agg #[.int .i64 x2.rows,.int .i64 x2.cols,.slice ga gn gk]) from hf);have HG:=HF;have HNb:=h_ HB2.out.size;clear hc2;have HN:=h_ hm;clear hb2 hm hf))
     all_goals go_wp2
     all_goals go_meet
     all_goals
      refine ⟨_,ga,gn,gk,rfl,?_,?_,HNb.out,HG.out,?_⟩
      ·(refine HN.out.above HF.out ?_;repeat' (first|with_reducible exact Above.refl _ _|with_reducible refine abv_drew ?_|with_reducible refine abv_alloc ?_|with_reducible refine v_ ?_ (by omega)))
      ·with_reducible exact HEa.out
      ·repeat' (first|with_reducible exact Below.refl _ _|with_reducible exact HB2.out|with_reducible refine d_ ?_|with_reducible refine a_ ?_|with_reducible refine t_ ?_ ?_|exact Nat.le_refl _|exact Nat.le_succ _|exact HB2.out.size|exact Nat.le_succ_of_le HB2.out.size)
    case rest=>
     obtain ⟨B2,ga,gn,gk,rfl,hmx,⟨c0,c1,c2⟩,hBk,hfq,hbc⟩:=hcut
     obtain ⟨wb,hwb⟩:=gM (wc)
     subst hwb
     have HDB:=h_ hbc
     have HDR:=h_ (b_ HDA.out hbc)
     have HBB:=h_ (b_ HBA.out hbc)
     have HM2:=h_ hmx.ints
     have HF2:=h_ hfq
     have HLT:=h_ (show ∀x,(fun b=>u3.ownBlock=some b∨(w.heap.size≤b∧b<w.heap.size)) x→x<wr.heap.size from fun x hx=>by
      rcases hx with hx|hx
      ·exact (HO.out.lt x hx).2
      ·omega)
     have HLA:=h_ (show ∀x,(fun b=>u3.ownBlock=some b∨(w.heap.size≤b∧b<w.heap.size)) x→x<wa.heap.size from fun x hx=>Nat.lt_of_lt_of_le (HLT.out x hx) HDA.out.size)
     have HOA:=h_ (HO.out.u_ (a_ (o:=(.cells #[.int .i64 x1.rows,.int .i64 x1.cols,.slice ja jn jk,.int .i64 x2.rows,.int .i64 x2.cols,.slice ga gn gk] 61)) HDR.out))
     have HEN:=h_ (show Enc (wb.alloc (.cells #[.int .i64 x1.rows,.int .i64 x1.cols,.slice ja jn jk,.int .i64 x2.rows,.int .i64 x2.cols,.slice ga gn gk] 61)) (fun b=>u3.ownBlock=some b∨(w.heap.size≤b∧b<w.heap.size)) (gdS (x1,x2)) [.int .i64 x1.rows,.int .i64 x1.cols,.slice ja jn jk,.int .i64 x2.rows,.int .i64 x2.cols,.slice ga gn gk] from enc_gd (d:=(x1,x2)) (((x_ HM1.out HF1.out HLT.out).u_ HDB.out).u_ (o_ _ _)) ((x_ HM2.out HF2.out HLA.out).u_ (o_ _ _)))
     have HNB:=h_ (show Box (wb.alloc (.cells #[.int .i64 x1.rows,.int .i64 x1.cols,.slice ja jn jk,.int .i64 x2.rows,.int .i64 x2.cols,.slice ga gn gk] 61)) wb.heap.size [.int .i64 x1.rows,.int .i64 x1.cols,.slice ja jn jk,.int .i64 x2.rows,.int .i64 x2.cols,.slice ga gn gk] from Box.new _ _ _ rfl)
     have HBS:=h_ (show w.heap.size≤(wb.alloc (.cells #[.int .i64 x1.rows,.int .i64 x1.cols,.slice ja jn jk,.int .i64 x2.rows,.int .i64 x2.cols,.slice ga gn gk] 61)).heap.size from Nat.le_trans HBB.out.size (o_ wb (.cells #[.int .i64 x1.rows,.int .i64 x1.cols,.slice ja jn jk,.int .i64 x2.rows,.int .i64 x2.cols,.slice ga gn gk] 61)).size)
     obtain ⟨p0,p1,p2⟩:=HC1.out
     replace p0:=c_ HDB.out p0
     replace p1:=c_ HDB.out p1
     replace p2:=c_ HDB.out p2
     clear hmx hBk hfq hbc HT HSB HT0 HT3 lm0 lm1
     go_wp2_with (at_builtin;refine wpList_append_owns rfl _ _ 23 rfl w.heap.size 61 e0 (.agg #[.int .i64 0,.int .i64 0,.slice none 0 0,.int .i64 0,.int .i64 0,.slice none 0 0]) 6 80 Tryz.underlying23 HEI.out.1 HEI.out.2.1 HEI.out.2.2.1 HEI.out.2.2.2 rfl (by decide) w.heap.size _ _ _ rfl HOA.out ⟨wb.heap.size,0,none⟩ 1 1 [.int .i64 x1.rows,.int .i64 x1.cols,.slice ja jn jk,.int .i64 x2.rows,.int .i64 x2.cols,.slice ga gn gk] rfl rfl (fun q u hq=>by rw[addr_add];exact HNB.out q u hq) (gdS (x1,x2)) HEN.out ?d3 ?d4 HBS.out ?_)
     case d3=>unfold maxLen;omega
     case d4=>omega
     intro v9 w9 hown hgrow hwh
     have HB9:=h_ (show Below w.heap.size w w9 from (a_ (o:=(.cells #[.int .i64 x1.rows,.int .i64 x1.cols,.slice ja jn jk,.int .i64 x2.rows,.int .i64 x2.cols,.slice ga gn gk] 61)) HBB.out).grown hgrow HBS.out (fun k hk=>(HO.out.lt k hk).1))
     rw[flat_snoc,HTK.out]at hown
     have HOW:=h_ hown
     clear hown hgrow hwh p0 p1 p2 c0 c1 c2
     go_wp2
     go_roundw
     case rel=>exact ⟨i+1,_,by omega,by have:=HXI.out;omega,rfl,HOW.out,HB9.out⟩
     case measure=>have:=HXI.out;simp[intOf];omega
  ·have hin:i=N:=by have:=HXI.out;omega
   have HM:=h_ (show D_ wr u3 (zeroD ls) by
    have h:=HO.out.reads
    rw[hin,←HN.out,List.take_length]at h
    show Reads _ _ (zeroD ls).length _
    rw[show (zeroD ls).length=ls.length by unfold zeroD;simp];exact h)
   clear hin
   go_wp2
   go_ret
   exact ⟨_,rfl,HM.out,HB.out⟩
set_option maxHeartbeats 16000000 in
set_option maxRecDepth 100000 in
theorem roneof_owns(v v1:Value)(ls:List Ly)(ps:List (Mx×Mx))(n:Int)(b:Mx×Mx)(parts le ke:Int)(sa:Option Addr)(sn sk:Nat)(ta:Option Addr)(tn tk:Nat)(w:World)(hv:Y_ w v ls)(hp:D_ w v1 ps)(hs:I_ w (.slice sa sn sk) b.1.cells)(ht:I_ w (.slice ta tn tk) b.2.cells):
  Calls Tryz.prog 10 #[.agg #[v,v1,.int .i64 n],.agg #[.int .i64 b.1.rows,.int .i64 b.1.cols,.slice sa sn sk,.int .i64 b.2.rows,.int .i64 b.2.cols,.slice ta tn tk],.int .i64 parts,.agg #[.int .i64 le,.int .i64 ke]] w fun e w'=>Below w.heap.size w w'∧
   ((oneE ls ps n b parts le ke=0∧∃u t,e=.returned (.tuple #[.agg #[u,t,.int .i64 (n+1)],.int .i64 (sumAt ls (splX b parts)),.int .i64 0])∧Owns 0 w.heap.size w' 58 7 u (oneN ls ps b parts le ke).length ((oneN ls ps b parts le ke).flatMap lyS)∧Owns 0 w.heap.size w' 61 6 t (oneV ls ps b parts ke).length ((oneV ls ps b parts ke).flatMap gdS))∨
   (oneE ls ps n b parts le ke≠0∧e=.returned (.tuple #[.agg #[.slice none 0 0,.slice none 0 0,.int .i64 0],.int .i64 0,.int .i64 (oneE ls ps n b parts le ke)]))):=by
 obtain ⟨a,cap,rfl,hlc,hcm⟩:=hv.shape
 obtain ⟨a1,cap1,rfl,hlc1,hcm1⟩:=hp.shape
 have HV:=h_ hv
 have HP:=h_ hp
 obtain ⟨N,hN⟩:=gN (ls.length)
 obtain ⟨N1,hN1⟩:=gN (ps.length)
 have HN:=h_ (And.intro hN hN1)
 rw[hN]at hv HV ⊢
 rw[hN1]at hp HP ⊢
 obtain ⟨V,hV⟩:=gM ((((w.alloc (.cells #[.slice a N cap,.slice a1 N1 cap1,.int .i64 n] 25)).alloc (.cells #[.int .i64 b.1.rows,.int .i64 b.1.cols,.slice sa sn sk,.int .i64 b.2.rows,.int .i64 b.2.cols,.slice ta tn tk] 30)).alloc (.cells #[.int .i64 le,.int .i64 ke] 32)).alloc (.cells #[.slice none 0 0,.slice none 0 0,.int .i64 0] 25))
 have HVV:=h_ hV
 have HWV:Hid (Below w.heap.size w V):=by rw[hV];exact h_ (a_ (a_ (a_ (o_ _ _))))
 have HVS:Hid (V.heap.size=w.heap.size+4):=by rw[hV];exact h_ (by simp)
 have HX0:Hid (Box V w.heap.size [.slice a N cap,.slice a1 N1 cap1,.int .i64 n]):=by rw[hV];exact h_ ((Box.new w [.slice a N cap,.slice a1 N1 cap1,.int .i64 n] 25 rfl).u_ (a_ (a_ (o_ _ _))))
 have HX1:Hid (Box V (w.heap.size+1) [.int .i64 b.1.rows,.int .i64 b.1.cols,.slice sa sn sk,.int .i64 b.2.rows,.int .i64 b.2.cols,.slice ta tn tk]):=by rw[hV];exact h_ ((Box.new _ [.int .i64 b.1.rows,.int .i64 b.1.cols,.slice sa sn sk,.int .i64 b.2.rows,.int .i64 b.2.cols,.slice ta tn tk] 30 (by simp)).u_ (a_ (o_ _ _)))
 have HX2:Hid (Box V (w.heap.size+1+1) [.int .i64 le,.int .i64 ke]):=by rw[hV];exact h_ ((Box.new _ [.int .i64 le,.int .i64 ke] 32 (by simp)).u_ (o_ _ _))
 have HX3:Hid (Box V (w.heap.size+1+1+1) [.slice none 0 0,.slice none 0 0,.int .i64 0]):=by rw[hV];exact h_ (Box.new _ [.slice none 0 0,.slice none 0 0,.int .i64 0] 25 (by simp))
 have HF3:Hid (Free V (w.heap.size+1+1+1)):=by rw[hV];exact h_ (Free.new _ _ _ (by simp))
 have HC:=h_ (ronefault_any (.slice a N cap) (.slice a1 N1 cap1) ls ps n b parts le ke sa sn sk ta tn tk V (hv.u_ HWV.out) (hp.u_ HWV.out) (hs.u_ HWV.out) (ht.u_ HWV.out))
 obtain ⟨E,hE⟩:=gN (oneE ls ps n b parts le ke)
 have HE:=h_ hE
 have HOL:=h_ (show (if E=0 then splX b parts else [])=oneL ls ps n b parts le ke by rw[←hE];rfl)
 rw[hE]at HC ⊢
 obtain ⟨d0,d1,d2⟩:=HX0.out.c3
 obtain ⟨g0,g1,g2,g3,g4,g5⟩:=HX1.out.c6
 obtain ⟨r0,r1⟩:=HX2.out.c2
 rw[HVV.out]at d0 d1 d2 g0 g1 g2 g3 g4 g5 r0 r1
 clear hV hv hp hs ht hlc hcm hlc1 hcm1 hN hN1 hE
 go_enter Tryz.func10,Tryz.ntmps10
 go_wp2_with fail
 rw[←HVV.out]
 refine HC.out.mono ?_
 rintro e w1 ⟨u,rfl,hu,hb1⟩
 have HB1:=h_ hb1
 have HW1:=h_ (b_ HWV.out hb1)
 have HU:=h_ hu
 clear hb1 hu HC d0 d1 d2 g0 g1 g2 g3 g4 g5 r0 r1
 by_cases k1:E=0
 ·subst k1
  obtain ⟨q1,q2,q3,q4⟩:=one_parts HE.out
  obtain ⟨s1,s2,s3,s4,s5⟩:=state_good q1
  have HST:=h_ (And.intro s1 (And.intro s2 s5))
  have HQ4:=h_ q4
  have HOU:=h_ (show D_ w1 u (splX b parts) by have h:=HU.out;rw[←HOL.out,if_pos rfl]at h;exact h)
  obtain ⟨ua,ucap,rfl,_,hucm⟩:=HOU.out.shape
  obtain ⟨K,hK⟩:=gN ((splX b parts).length)
  have HK:=h_ hK
  rw[hK]at HOU ⊢
  have hKm:K≤12:=by
   have h:=hK
   unfold splX at h
   rw[if_pos q3,List.length_map,List.length_range]at h
   unfold splE at q3
   by_cases z1:batE b=0
   ·rw[if_neg (by simp[z1])]at q3
    unfold szE at q3
    by_cases z2:b.1.rows<1∨24<b.1.rows∨parts<1∨12<parts
    ·rw[if_pos z2]at q3;cases q3
    ·omega
   ·rw[if_pos z1]at q3;exact absurd q3 z1
  have HZF:=h_ (zero_fits ls (stt_good s2 s5))
  have HZ:=h_ (rzeros_any (.slice a N cap) ls w1 (HV.out.u_ HW1.out) s1 (stt_good s2 s5))
  have d0:=(HX0.out.u_ HB1.out) 0 _ rfl
  have hn0:0≤n:=s3
  have hn1:n≤1000000000:=s4
  clear q1 q2 q3 q4 s1 s2 s3 s4 s5 hK hucm HU
  go_wp2_with fail
  refine HZ.out.mono ?_
  rintro e w2 ⟨z,rfl,hz,hb2⟩
  have HB2:=h_ (b_ HB1.out hb2)
  have HW2:=h_ (b_ HW1.out hb2)
  have HZI:=h_ hz
  replace HOU:=h_ (HOU.out.u_ hb2)
  clear hz hb2 HZ d0
  go_wp2
  go_loopw [13,14,15] (fun y s c wr=>∃(i:Nat) (xi:Int),i≤K∧xi=(i:Int)∧c=.int .i64 xi∧s=.int .i64 (sumAt ls ((splX b parts).take i))∧D_ wr y (byAt ls ((splX b parts).take i))∧Below w2.heap.size w2 wr) (fun _ _ c _=>K - (intOf c).toNat)
  case atStart=>exact ⟨0,0,Nat.zero_le _,rfl,rfl,rfl,HZI.out,Below.refl _ _⟩
  case round=>
   obtain ⟨i,xi,hi,hxi,rfl,rfl,hy,hb⟩:=hrel
   have HXI:=h_ hxi
   have HY:=h_ hy
   have HBP:=h_ hb
   have hxi0:0≤xi:=by omega
   have hxi1:xi≤12:=by omega
   obtain ⟨sm,esm⟩:=gN (sumAt ls ((splX b parts).take i))
   have HSM:=h_ esm
   rw[esm]
   clear hxi hy hb esm
   by_cases hlt:xi<(K:Int)
   ·have hin:i<K:=by have:=HXI.out;omega
    have hxn:xi.toNat=i:=by have:=HXI.out;omega
    obtain ⟨d,hd⟩:∃x,(splX b parts)[i]?=some x:=⟨(splX b parts)[i]'(by have:=HK.out;omega),List.getElem?_eq_getElem _⟩
    obtain ⟨ub,uo,uc,xa,xn,xk,ya,yn,yk,ev,c0,c1,c2,c3,c4,c5,hdw,hdb⟩:=HOU.out.at hd
    obtain rfl:=(Value.slice.inj ev).1
    obtain ⟨p1,⟨R,C,p2,p3⟩,p4⟩:=HQ4.out d (List.mem_of_getElem? hd)
    rw[←hxn]at c0 c1 c2 c3 c4 c5
    have HTK:=h_ (take_end hd)
    have HDF:=h_ (prt_fits p4)
    have HCD:=h_ (And.intro c0 (And.intro c1 (And.intro c2 (And.intro c3 (And.intro c4 c5)))))
    have HT:=h_ (rpart_any (.slice a N cap) ls d R C xa xn xk ya yn yk wr.drew (HV.out.u_ (d_ (b_ HW2.out HBP.out))) (hdw.u_ (d_ HBP.out)) (hdb.u_ (d_ HBP.out)) p1 p2 p3)
    have HSB:Hid (∀W',Below wr.heap.size wr W'→(fun W'=>W'.cell? ⟨w.heap.size,0,none⟩=some (.slice a N cap)∧W'.cell? ⟨ub,uo+xi.toNat*6,none⟩=some (.int .i64 d.1.rows)∧W'.cell? ⟨ub,uo+xi.toNat*6+1,none⟩=some (.int .i64 d.1.cols)∧W'.cell? ⟨ub,uo+xi.toNat*6+2,none⟩=some (.slice xa xn xk)∧W'.cell? ⟨ub,uo+xi.toNat*6+3,none⟩=some (.int .i64 d.2.rows)∧W'.cell? ⟨ub,uo+xi.toNat*6+4,none⟩=some (.int .i64 d.2.cols)∧W'.cell? ⟨ub,uo+xi.toNat*6+5,none⟩=some (.slice ya yn yk)) W'):=h_ (fun W' h=>have hx:=b_ HBP.out h;⟨(HX0.out.u_ (b_ HB2.out hx)) 0 _ rfl,c_ hx HCD.out.1,c_ hx HCD.out.2.1,c_ hx HCD.out.2.2.1,c_ hx HCD.out.2.2.2.1,c_ hx HCD.out.2.2.2.2.1,c_ hx HCD.out.2.2.2.2.2⟩)
    obtain ⟨px,epx⟩:=gN (prtX ls d)
    rw[epx]at HT
    have HPX:=h_ epx
    have HBF:=h_ (by_fits HZF.out ((splX b parts).take i) (fun e he=>prt_fits (HQ4.out e (List.mem_of_mem_take he)).2.2))
    have HGL:=h_ (show (byAt ls ((splX b parts).take i)).length≤1759218604390 by rw[HBF.out.len];have:=HST.out.1;omega)
    have HGE:=h_ (ga_fits HBF.out HDF.out).1
    have HBN:=h_ (show byAt ls ((splX b parts).take (i+1))=gaX (byAt ls ((splX b parts).take i)) (prtD ls d) by rw[HTK.out,byAt_snoc])
    have HSN:=h_ (show sumAt ls ((splX b parts).take (i+1))=ad sm px by rw[HTK.out,sumAt_snoc,HSM.out,HPX.out])
    clear ev c0 c1 c2 c3 c4 c5 hdw hdb p1 p2 p3 p4 hd hxn epx
    obtain ⟨lm0,lm1,lm2,lm3,lm4,lm5,lm6⟩:=HSB.out wr (Below.refl _ _)
    go_wp2
    go_region_held3 (fun W'=>W'.cell? ⟨w.heap.size,0,none⟩=some (.slice a N cap)∧W'.cell? ⟨ub,uo+xi.toNat*6,none⟩=some (.int .i64 d.1.rows)∧W'.cell? ⟨ub,uo+xi.toNat*6+1,none⟩=some (.int .i64 d.1.cols)∧W'.cell? ⟨ub,uo+xi.toNat*6+2,none⟩=some (.slice xa xn xk)∧W'.cell? ⟨ub,uo+xi.toNat*6+3,none⟩=some (.int .i64 d.2.rows)∧W'.cell? ⟨ub,uo+xi.toNat*6+4,none⟩=some (.int .i64 d.2.cols)∧W'.cell? ⟨ub,uo+xi.toNat*6+5,none⟩=some (.slice ya yn yk)) ((refine HSB.out _ ?_;repeat' (first|with_reducible exact Below.refl _ _|with_reducible exact HBQ.out|with_reducible refine d_ ?_|with_reducible refine a_ ?_)))
     (first
      |(go_at_call 28;refine HT.out.mono ?_;rintro e w3 ⟨dv,rfl,hdv,hb3⟩;obtain ⟨da,dk,rfl,_,_⟩:=hdv.shape;have HDV:=h_ hdv;have HBQ:=h_ (show Below wr.heap.size wr w3 from b_ (d_ (Below.refl _ _)) hb3);clear hdv hb3))
    have HGA:=h_ (rgather_any _ _ (byAt ls ((splX b parts).take i)) (prtD ls d) w3 (HY.out.u_ HBQ.out) HDV.out HGL.out)
    rw[HGE.out,←HBN.out]at HGA
    clear lm0 lm1 lm2 lm3 lm4 lm5 lm6
    go_wp2_with fail
    refine HGA.out.mono ?_
    rintro e w4 ⟨y4,rfl,hy4,hb4⟩
    have HY4:=h_ hy4
    have HB4:=h_ (b_ HBP.out (b_ HBQ.out hb4))
    clear hy4 hb4 HGA
    go_wp2_with fail
    refine (radd_any sm px w4).mono ?_
    rintro e w5 ⟨rfl,rfl⟩
    go_wp2
    go_roundw
    case rel=>exact ⟨i+1,_,by omega,by have:=HXI.out;omega,rfl,by rw[HSN.out],HY4.out,HB4.out⟩
    case measure=>have:=HXI.out;simp[intOf];omega
   ·have hin:i=K:=by have:=HXI.out;omega
    have htk:(splX b parts).take i=splX b parts:=by rw[hin,←HK.out,List.take_length]
    rw[htk]at HSM
    replace HY:=h_ (show D_ wr u13 (byAt ls (splX b parts)) by rw[←htk];exact HY.out)
    have HBF:=h_ (by_fits HZF.out (splX b parts) (fun e he=>prt_fits (HQ4.out e he).2.2))
    have HWR:=h_ (b_ HW2.out HBP.out)
    have HDR:=h_ (b_ HB2.out HBP.out)
    have HSO:=h_ (rstepof_any (.slice a N cap) (.slice a1 N1 cap1) u13 ls ps (byAt ls (splX b parts)) le ke wr (HV.out.u_ HWR.out) (HP.out.u_ HWR.out) HY.out HST.out.1 HST.out.2.1 HBF.out.len (stp_of HST.out.2.1 HST.out.2.2 HBF.out))
    obtain ⟨d0,d1⟩:=(HX0.out.u_ HDR.out).c2
    obtain ⟨r0,r1⟩:=(HX2.out.u_ HDR.out).c2
    clear hin htk
    go_wp2_with fail
    refine HSO.out.mono ?_
    rintro e w3 ⟨u',t',rfl,ho1,ho2,hb3⟩
    obtain ⟨ua',uk',rfl,_,_⟩:=(show Y_ w3 u' _ from ho1.reads).shape
    obtain ⟨va',vk',rfl,_,_⟩:=(show D_ w3 t' _ from ho2.reads).shape
    obtain ⟨un',eun⟩:=gN ((stpL le ke ls ps (byAt ls (splX b parts))).length)
    obtain ⟨vn',evn⟩:=gN ((stpG ke ls ps (byAt ls (splX b parts))).length)
    rw[eun]at ho1 ⊢
    rw[evn]at ho2 ⊢
    have HEU:=h_ (And.intro eun evn)
    have HD3:=h_ (b_ HDR.out hb3)
    have HW3:=h_ (b_ HWR.out hb3)
    have hlt3:=(HX3.out.u_ HDR.out).lt
    have HOU1:=h_ (show Owns 0 wr.heap.size (((w3.setCell ⟨w.heap.size+1+1+1,0,none⟩ (.slice ua' un' uk')).setCell ⟨w.heap.size+1+1+1,1,none⟩ (.slice va' vn' vk')).setCell ⟨w.heap.size+1+1+1,2,none⟩ (.int .i64 (n+1))) 58 7 (.slice ua' un' uk') un' ((stpL le ke ls ps (byAt ls (splX b parts))).flatMap lyS) from ((ho1.set (Nat.zero_le _) hlt3 0 _).set (Nat.zero_le _) hlt3 1 _).set (Nat.zero_le _) hlt3 2 _)
    have HOU2:=h_ (show Owns 0 wr.heap.size (((w3.setCell ⟨w.heap.size+1+1+1,0,none⟩ (.slice ua' un' uk')).setCell ⟨w.heap.size+1+1+1,1,none⟩ (.slice va' vn' vk')).setCell ⟨w.heap.size+1+1+1,2,none⟩ (.int .i64 (n+1))) 61 6 (.slice va' vn' vk') vn' ((stpG ke ls ps (byAt ls (splX b parts))).flatMap gdS) from ((ho2.set (Nat.zero_le _) hlt3 0 _).set (Nat.zero_le _) hlt3 1 _).set (Nat.zero_le _) hlt3 2 _)
    have HIL:=h_ (show Owns 0 w.heap.size (((w3.setCell ⟨w.heap.size+1+1+1,0,none⟩ (.slice ua' un' uk')).setCell ⟨w.heap.size+1+1+1,1,none⟩ (.slice va' vn' vk')).setCell ⟨w.heap.size+1+1+1,2,none⟩ (.int .i64 (n+1))) 58 7 (.slice ua' un' uk') (oneN ls ps b parts le ke).length ((oneN ls ps b parts le ke).flatMap lyS) by
     show Owns 0 w.heap.size (((w3.setCell ⟨w.heap.size+1+1+1,0,none⟩ (.slice ua' un' uk')).setCell ⟨w.heap.size+1+1+1,1,none⟩ (.slice va' vn' vk')).setCell ⟨w.heap.size+1+1+1,2,none⟩ (.int .i64 (n+1))) 58 7 (.slice ua' un' uk') (stpL le ke ls ps (byAt ls (splX b parts))).length _
     rw[HEU.out.1];exact Owns.weaken HOU1.out HWR.out.size (Nat.le_refl _))
    have HIG:=h_ (show Owns 0 w.heap.size (((w3.setCell ⟨w.heap.size+1+1+1,0,none⟩ (.slice ua' un' uk')).setCell ⟨w.heap.size+1+1+1,1,none⟩ (.slice va' vn' vk')).setCell ⟨w.heap.size+1+1+1,2,none⟩ (.int .i64 (n+1))) 61 6 (.slice va' vn' vk') (oneV ls ps b parts ke).length ((oneV ls ps b parts ke).flatMap gdS) by
     show Owns 0 w.heap.size (((w3.setCell ⟨w.heap.size+1+1+1,0,none⟩ (.slice ua' un' uk')).setCell ⟨w.heap.size+1+1+1,1,none⟩ (.slice va' vn' vk')).setCell ⟨w.heap.size+1+1+1,2,none⟩ (.int .i64 (n+1))) 61 6 (.slice va' vn' vk') (stpG ke ls ps (byAt ls (splX b parts))).length _
     rw[HEU.out.2];exact Owns.weaken HOU2.out HWR.out.size (Nat.le_refl _))
    have HBE:=h_ (show Below w.heap.size w (((w3.setCell ⟨w.heap.size+1+1+1,0,none⟩ (.slice ua' un' uk')).setCell ⟨w.heap.size+1+1+1,1,none⟩ (.slice va' vn' vk')).setCell ⟨w.heap.size+1+1+1,2,none⟩ (.int .i64 (n+1))) from S_ HW3.out (by omega) _ _ _)
    obtain ⟨t0,t1,t2⟩:=(HX3.out.u_ HD3.out).c3
    obtain ⟨f0,f1,f2⟩:=(HF3.out.u_ HD3.out HX3.out.lt).f3
    have e2:=(HX0.out.u_ HD3.out) 2 _ rfl
    clear ho1 ho2 hb3 eun evn hlt3 HSO d0 d1 r0 r1
    go_wp2
    exact bodyPost_ret (v:=.tuple #[.agg #[.slice ua' un' uk',.slice va' vn' vk',.int .i64 (n+1)],.int .i64 sm,.int .i64 0]) (by simp[results,Tryz.results10,go_sem,t0,t1,t2]) rfl ⟨HBE.out,_,_,by rw[HSM.out],HIL.out,HIG.out⟩
 ·have HKE:=h_ k1
  have n1:(E !=0)=true:=by simpa using k1
  obtain ⟨ua,ucap,rfl,_,_⟩:=(show D_ w1 u _ from HU.out).shape
  obtain ⟨t0,t1,t2⟩:=(HX3.out.u_ HB1.out).c3
  obtain ⟨f0,f1,f2⟩:=(HF3.out.u_ HB1.out HX3.out.lt).f3
  have HBE:=h_ (show Below w.heap.size w (((w1.setCell ⟨w.heap.size+1+1+1,0,none⟩ (.slice none 0 0)).setCell ⟨w.heap.size+1+1+1,1,none⟩ (.slice none 0 0)).setCell ⟨w.heap.size+1+1+1,2,none⟩ (.int .i64 0)) from S_ HW1.out (by omega) _ _ _)
  clear k1
  go_wp2
  exact bodyPost_ret (v:=.tuple #[.agg #[.slice none 0 0,.slice none 0 0,.int .i64 0],.int .i64 0,.int .i64 E]) (by simp[results,Tryz.results10,go_sem,t0,t1,t2]) rfl ⟨HBE.out,.inr ⟨HKE.out,rfl⟩⟩
end Go.Proofs.YtniloklglpchfaeGreatDoor
