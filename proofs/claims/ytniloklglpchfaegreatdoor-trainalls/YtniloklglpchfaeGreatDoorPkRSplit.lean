/- What SplitOf of the document's answer comes to: a batch in parts. -/
import Derived.Test.YtniloklglpchfaeGreatDoorPkRStepE
import Derived.Test.YtniloklglpchfaeGreatDoorPkRRows
import Derived.Test.YtniloklglpchfaeGreatDoorPkReg
import Derived.Test.YtniloklglpchfaeGreatDoorPkTrC3
import Derived.Test.YtniloklglpchfaeGreatDoorRLFault
namespace Go.Proofs.YtniloklglpchfaeGreatDoor
open Go.RowKit

set_option maxHeartbeats 16000000 in
set_option maxRecDepth 100000 in
theorem rsplit_any(b:Mx×Mx)(parts:Int)(sa:Option Addr)(sn sk:Nat)(ta:Option Addr)(tn tk:Nat)(w:World)(hs:I_ w (.slice sa sn sk) b.1.cells)(ht:I_ w (.slice ta tn tk) b.2.cells):
  Calls Tryz.prog 54 #[.agg #[.int .i64 b.1.rows,.int .i64 b.1.cols,.slice sa sn sk,.int .i64 b.2.rows,.int .i64 b.2.cols,.slice ta tn tk],.int .i64 parts] w fun e w'=>∃u,e=.returned (.tuple #[u,.int .i64 (splE b parts)])/\IsBts w' u (splX b parts)/\Below w.heap.size w w':=by
 obtain ⟨V,hV⟩:=gM (w.alloc (.cells #[.int .i64 b.1.rows,.int .i64 b.1.cols,.slice sa sn sk,.int .i64 b.2.rows,.int .i64 b.2.cols,.slice ta tn tk] 30))
 have HV:=h_ hV
 have HWV:Hid (Below w.heap.size w V):=by rw[hV];exact h_ (o_ _ _)
 have HBX:Hid (Box V w.heap.size [.int .i64 b.1.rows,.int .i64 b.1.cols,.slice sa sn sk,.int .i64 b.2.rows,.int .i64 b.2.cols,.slice ta tn tk]):=by rw[hV];exact h_ (Box.new w _ 30 rfl)
 obtain ⟨E,hE⟩:=gN (splE b parts)
 obtain ⟨X,hX⟩:=gN (splX b parts)
 have HE:=h_ (show (if batE b≠0 then batE b else szE b.1.rows parts)=E by rw[<-hE];rfl)
 have HX:=h_ (show (if E=0 then (List.range parts.toNat).map (partX b parts.toNat b.1.rows.toNat) else [])=X by rw[<-hX,<-hE];rfl)
 rw[hE,hX]
 have HI:=h_ (And.intro hs ht)
 have HF:=h_ (rbatfault_any b sa sn sk ta tn tk V (hs.u_ HWV.out) (ht.u_ HWV.out))
 obtain ⟨g1,hg1⟩:=gN (batE b)
 rw[hg1]at HF HE
 have HG1:=h_ hg1
 obtain ⟨d0,d1,d2,d3,d4,d5⟩:=HBX.out.c6
 rw[HV.out]at d0 d1 d2 d3 d4 d5
 clear hV hE hX hs ht hg1
 go_enter Tryz.func54,Tryz.ntmps54
 go_wp2_with fail
 rw[<-HV.out]
 refine HF.out.mono ?_
 rintro e w1 ⟨rfl,hb1⟩
 have HB1:=h_ hb1
 have HW1:=h_ (b_ HWV.out hb1)
 clear hb1 d0 d1 d2 d3 d4 d5 HF
 by_cases c1:g1=0
 ·subst c1
  have HE2:=h_ (show szE b.1.rows parts=E by rw[<-HE.out,if_neg (by simp)])
  have HZ:=h_ (rsizes_any b.1.rows parts w1)
  rw[HE2.out]at HZ
  have d0:=(HBX.out.u_ HB1.out) 0 _ rfl
  go_wp2_with fail
  refine HZ.out.mono ?_
  rintro e W2 ⟨z,rfl,hz,hb2,_⟩
  have HZI:=h_ hz
  have HB2:=h_ (b_ HB1.out hb2)
  have HW2:=h_ (b_ HW1.out hb2)
  clear hz hb2 d0 HZ
  by_cases c2:E=0
  ·subst c2
   obtain ⟨h1,h2,h3,h4⟩:=bat_good HG1.out
   have hsz:¬(b.1.rows<1\/24<b.1.rows\/parts<1\/12<parts)/\¬b.1.rows<parts:=by
    have h:=HE2.out
    unfold szE at h
    by_cases a1:b.1.rows<1\/24<b.1.rows\/parts<1\/12<parts
    ·rw[if_pos a1]at h;cases h
    ·rw[if_neg a1]at h
     by_cases a2:b.1.rows<parts
     ·rw[if_pos a2]at h;cases h
     ·exact ⟨a1,a2⟩
   obtain ⟨P,hP⟩:∃P:Nat,parts=(P:Int):=⟨parts.toNat,by omega⟩
   obtain ⟨Q,hQ⟩:∃Q:Nat,b.1.rows=(Q:Int):=⟨b.1.rows.toNat,by omega⟩
   have HXE:Hid (X=(List.range P).map (partX b P Q)):=h_ (by rw[<-HX.out,if_pos rfl,hP,hQ];simp)
   have HPQ:=h_ (show parts=(P:Int)/\b.1.rows=(Q:Int)/\b.2.rows=(Q:Int)/\0<P/\P<=12/\Q<=24 from ⟨hP,hQ,by omega,by omega,by omega,by omega⟩)
   have HFF:=h_ (And.intro h1 h2)
   have HZX:Hid (szX b.1.rows parts=tab P (fun j=>cnt P j Q)):=h_ (by unfold szX;rw[if_pos HE2.out,hP,hQ];simp)
   obtain ⟨za,zn,zk,rfl⟩:=HZI.out.shape
   have hzn:zn=P:=by
    obtain ⟨_,_,e1,_⟩:=HZI.out
    have e2:=(Value.slice.inj e1).2.1
    rw[HZX.out,tab_len]at e2;exact e2
   subst hzn
   obtain ⟨e0,ei,hz0,hz1,hz2⟩:=info_parts infoBt
   have HEI:=h_ (And.intro ei (And.intro hz0 (And.intro hz1 hz2)))
   have hpl:parts<=12:=by have:=HPQ.out;omega
   clear h1 h2 h3 h4 hsz hP hQ ei hz0 hz1 hz2
   go_wp2
   go_loopw [8,9,10] (fun u f c wr=>∃(i:Nat) (xi xf:Int),i<=zn/\xi=(i:Int)/\c=.int .i64 xi/\f=.int .i64 xf/\xf=begAt zn Q i/\Owns W2.heap.size W2.heap.size wr 30 6 u i (((List.range i).map (partX b zn Q)).flatMap gdS)/\Below W2.heap.size W2 wr) (fun _ _ c _=>zn - (intOf c).toNat)
   case atStart=>exact ⟨0,0,0,Nat.zero_le _,rfl,rfl,rfl,rfl,Owns.nil _ _ _ _ _,Below.refl _ _⟩
   case round=>
    obtain ⟨i,xi,xf,hi,hxi,rfl,rfl,hxf,how,hb⟩:=hrel
    have HXI:=h_ hxi
    have HXF:=h_ hxf
    have HO:=h_ how
    have HB:=h_ hb
    have hxi0:0<=xi:=by omega
    have hxi1:xi<=12:=by have:=HPQ.out;omega
    have hf0:0<=xf:=by have:=begAt_nonneg zn Q i;omega
    have hf1:xf<=24:=by have:=begAt_le zn i Q;have:=HPQ.out;omega
    clear hxi hxf how hb
    by_cases hlt:xi<parts
    ·have hin:i<zn:=by have:=HXI.out;have:=HPQ.out.1;omega
     have hlz:xi<(zn:Int):=by have:=HPQ.out.1;omega
     have hxn:xi.toNat=i:=by have:=HXI.out;omega
     obtain ⟨si,hsi⟩:=gN (cnt zn i Q)
     have hs0:0<=si:=by have:=cnt_nonneg zn i Q;omega
     have hs1:si<=24:=by have:=cnt_le zn i Q;have:=HPQ.out;omega
     have hnx:begAt zn Q (i+1)=xf+si:=by show begAt zn Q i+cnt zn i Q=_;rw[hsi,<-HXF.out]
     have hle:xf+si<=(Q:Int):=by rw[<-hnx];exact begAt_le zn (i+1) Q
     have HNX:=h_ hnx
     have hwr:IntKind.i64.wrap (xf+si)=xf+si:=by rw[IntKind.wrap_i64];omega
     obtain ⟨zo',zcap,hz1,_,_,h4z⟩:=HZI.out
     have hzi:(szX b.1.rows parts)[i]?=some si:=by rw[HZX.out,tab_at hin,hsi]
     obtain ⟨zb,zo,rz,hclz⟩:=h4z.resolve_left (fun e=>by rw[e]at hzi;simp at hzi)
     replace hz1:=(Value.slice.inj hz1).1
     rw[rz]at hz1
     subst hz1
     have HCZ:=h_ (show W2.cell? ⟨zb,zo+xi.toNat,none⟩=some (.int .i64 si) by rw[hxn];exact hclz _ _ hzi)
     have rE1:rowsE b.1 xf (xf+si)=0:=by unfold rowsE;rw[if_neg (by simp[HFF.out.1]),if_neg (by have:=HPQ.out.2.1;omega)]
     have rE2:rowsE b.2 xf (xf+si)=0:=by unfold rowsE;rw[if_neg (by simp[HFF.out.2]),if_neg (by have:=HPQ.out.2.2.1;omega)]
     obtain ⟨x1,ex1⟩:=gN (rowsX b.1 xf (xf+si))
     obtain ⟨x2,ex2⟩:=gN (rowsX b.2 xf (xf+si))
     have HPX:=h_ (show partX b zn Q i=(x1,x2) by unfold partX;rw[hnx,<-HXF.out,ex1,ex2])
     have HT:=h_ (fun W (h:Below wr.heap.size wr W)=>ref_rows xf (xf+si) W (va:=(.agg #[.int .i64 b.1.rows,.int .i64 b.1.cols,.slice sa sn sk])) (a:=b.1) ⟨_,rfl,HI.out.1.u_ (b_ HW2.out (b_ HB.out h))⟩ rE1 HFF.out.1 hf0 (by omega) (by have:=HPQ.out.2.1;omega))
     rw[ex1]at HT
     have HTB:=h_ (fun W (h:Below W2.heap.size W2 W)=>ref_rows xf (xf+si) W (va:=(.agg #[.int .i64 b.2.rows,.int .i64 b.2.cols,.slice ta tn tk])) (a:=b.2) ⟨_,rfl,HI.out.2.u_ (b_ HW2.out h)⟩ rE2 HFF.out.2 hf0 (by omega) (by have:=HPQ.out.2.2.1;omega))
     rw[ex2]at HTB
     have HSB:Hid (∀W',Below wr.heap.size wr W'->(fun W'=>W'.cell? ⟨w.heap.size,0,none⟩=some (.int .i64 b.1.rows)/\W'.cell? ⟨w.heap.size,1,none⟩=some (.int .i64 b.1.cols)/\W'.cell? ⟨w.heap.size,2,none⟩=some (.slice sa sn sk)/\W'.cell? ⟨zb,zo+xi.toNat,none⟩=some (.int .i64 si)) W'):=h_ (fun W' h=>have hx:=HBX.out.u_ (b_ HB2.out (b_ HB.out h));⟨hx 0 _ rfl,hx 1 _ rfl,hx 2 _ rfl,c_ (b_ HB.out h) HCZ.out⟩)
     clear hclz h4z rz hzi rE1 rE2 ex1 ex2 hsi hnx hxn
     have HT3:=h_ (HT.out (wr.alloc (.cells #[.int .i64 0,.int .i64 0,.slice none 0 0] 28)).drew (d_ (a_ (Below.refl wr.heap.size wr))))
     have HT0:=h_ (HT.out wr.drew (d_ (Below.refl wr.heap.size wr)))
     obtain ⟨lm0,lm1,lm2,lm3⟩:=HSB.out wr (Below.refl _ _)
     go_wp2
     go_cut [11] from 34 to 43 (fun a wx=>∃(Bk:Nat) (qa:Option Addr) (qn qk:Nat),a=.pointer (some ⟨Bk,0,none⟩)/\M_ wx (.agg #[.int .i64 x1.rows,.int .i64 x1.cols,.slice qa qn qk]) x1/\Cells3 wx Bk (.int .i64 x1.rows) (.int .i64 x1.cols) (.slice qa qn qk)/\wr.heap.size<=Bk/\F_ wr.heap.size (.agg #[.int .i64 x1.rows,.int .i64 x1.cols,.slice qa qn qk])/\Below wr.heap.size wr wx)
     case first=>
      go_region_held3 (fun W'=>W'.cell? ⟨w.heap.size,0,none⟩=some (.int .i64 b.1.rows)/\W'.cell? ⟨w.heap.size,1,none⟩=some (.int .i64 b.1.cols)/\W'.cell? ⟨w.heap.size,2,none⟩=some (.slice sa sn sk)/\W'.cell? ⟨zb,zo+xi.toNat,none⟩=some (.int .i64 si)) ((refine HSB.out _ ?_;repeat' (first|with_reducible exact Below.refl _ _|with_reducible exact HB2.out|with_reducible refine d_ ?_|with_reducible refine a_ ?_|with_reducible refine t_ ?_ ?_|exact Nat.le_refl _|exact Nat.le_succ _|exact HB2.out.size|exact Nat.le_succ_of_le HB2.out.size)))
       (first
        |(go_at_call 86;guard_target=Calls _ _ _ (World.drew (World.alloc wr (Obj.cells #[_,_,_] _))) _;refine HT3.out.mono ?_;rintro e wz ⟨ja,jn,jk,rfl,hm,hb2,hf⟩;have hc2:=b_ (r_ (Below.refl _ (wr.alloc (.cells #[.int .i64 0,.int .i64 0,.slice none 0 0] 28)))) hb2;have HB2:=h_ (show Below wr.heap.size wr wz from b_ (o_ wr (.cells #[.int .i64 0,.int .i64 0,.slice none 0 0] 28)) hc2);have ZB3:=h_ ((Box.new wr [.int .i64 0,.int .i64 0,.slice none 0 0] 28 (B:=wr.heap.size) rfl).u_ hc2);have ZB3l:=h_ (Box.new wr [.int .i64 0,.int .i64 0,.slice none 0 0] 28 (B:=wr.heap.size) rfl).lt;have ZF3:=h_ ((Free.new wr #[.int .i64 0,.int .i64 0,.slice none 0 0] 28 (B:=wr.heap.size) rfl).u_ hc2 ZB3l.out);obtain ⟨z30,z31,z32⟩:=ZB3.out.c3;obtain ⟨f30,f31,f32⟩:=ZF3.out.f3;have HEa:Hid (Cells3 (((wz.setCell ⟨wr.heap.size,0,none⟩ (.int .i64 x1.rows)).setCell ⟨wr.heap.size,1,none⟩ (.int .i64 x1.cols)).setCell ⟨wr.heap.size,2,none⟩ (.slice ja jn jk)) wr.heap.size (.int .i64 x1.rows) (.int .i64 x1.cols) (.slice ja jn jk)):=h_ (c__ (set_three ZB3.out _ _ _));have HF:=h_ (show F_ (wr.heap.size+1) (.agg #[.int .i64 x1.rows,.int .i64 x1.cols,.slice ja jn jk]) from f_ hf (szd1 _ _));have HG:=h_ (f_ HF.out (Nat.le_succ _));have HNb:=h_ (Nat.le_refl wr.heap.size);clear hc2;have HN:=h_ hm;clear hb2 hm hf)
        |(go_at_call 86;guard_target=Calls _ _ _ (World.drew wr) _;refine HT0.out.mono ?_;rintro e wz ⟨ja,jn,jk,rfl,hm,hb2,hf⟩;have hc2:=b_ (r_ (Below.refl _ wr)) hb2;have HB2:=h_ (show Below wr.heap.size wr wz from hc2);have HEa:Hid (Cells3 (wz.alloc (.cells #[.int .i64 x1.rows,.int .i64 x1.cols,.slice ja jn jk] 28)) wz.heap.size (.int .i64 x1.rows) (.int .i64 x1.cols) (.slice ja jn jk)):=h_ (c__ (Box.new wz [.int .i64 x1.rows,.int .i64 x1.cols,.slice ja jn jk] 28 rfl));have HF:=h_ (show F_ wr.heap.size (.agg #[.int .i64 x1.rows,.int .i64 x1.cols,.slice ja jn jk]) from hf);have HG:=HF;have HNb:=h_ HB2.out.size;clear hc2;have HN:=h_ hm;clear hb2 hm hf))
      all_goals go_wp2
      all_goals go_meet
      all_goals
       refine ⟨_,ja,jn,jk,rfl,?_,?_,HNb.out,HG.out,?_⟩
       ·(refine HN.out.above HF.out ?_;repeat' (first|with_reducible exact Above.refl _ _|with_reducible refine abv_drew ?_|with_reducible refine abv_alloc ?_|with_reducible refine v_ ?_ (by omega)))
       ·with_reducible exact HEa.out
       ·repeat' (first|with_reducible exact Below.refl _ _|with_reducible exact HB2.out|with_reducible refine d_ ?_|with_reducible refine a_ ?_|with_reducible refine t_ ?_ ?_|exact Nat.le_refl _|exact Nat.le_succ _|exact HB2.out.size|exact Nat.le_succ_of_le HB2.out.size)
     case rest=>
      obtain ⟨B1,ja,jn,jk,rfl,hmx,⟨c0,c1,c2⟩,hBk,hfq,hbc⟩:=hcut
      obtain ⟨wa,hwa⟩:=gM (wc)
      subst hwa
      have HDA:=h_ hbc
      have HBA:=h_ (b_ HB.out hbc)
      have HM1:=h_ hmx.ints
      have HF1:=h_ hfq
      have HC1:=h_ (show Cells3 wa B1 (.int .i64 x1.rows) (.int .i64 x1.cols) (.slice ja jn jk) from ⟨c0,c1,c2⟩)
      clear hmx hBk hfq hbc c0 c1 c2 HT HSB HT0 HT3 lm0 lm1 lm2 lm3
      have HT:=h_ (fun W (h:Below wa.heap.size wa W)=>HTB.out W (b_ HBA.out h))
      have HSB:Hid (∀W',Below wa.heap.size wa W'->(fun W'=>W'.cell? ⟨w.heap.size,3,none⟩=some (.int .i64 b.2.rows)/\W'.cell? ⟨w.heap.size,4,none⟩=some (.int .i64 b.2.cols)/\W'.cell? ⟨w.heap.size,5,none⟩=some (.slice ta tn tk)/\W'.cell? ⟨zb,zo+xi.toNat,none⟩=some (.int .i64 si)) W'):=h_ (fun W' h=>have hx:=HBX.out.u_ (b_ HB2.out (b_ HBA.out h));⟨hx 3 _ rfl,hx 4 _ rfl,hx 5 _ rfl,c_ (b_ HBA.out h) HCZ.out⟩)
      have HT3:=h_ (HT.out (wa.alloc (.cells #[.int .i64 0,.int .i64 0,.slice none 0 0] 28)).drew (d_ (a_ (Below.refl wa.heap.size wa))))
      have HT0:=h_ (HT.out wa.drew (d_ (Below.refl wa.heap.size wa)))
      obtain ⟨lm0,lm1,lm2,lm3⟩:=HSB.out wa (Below.refl _ _)
      go_wp2
      go_cut [12] from 44 to 53 (fun a wx=>∃(Bk:Nat) (qa:Option Addr) (qn qk:Nat),a=.pointer (some ⟨Bk,0,none⟩)/\M_ wx (.agg #[.int .i64 x2.rows,.int .i64 x2.cols,.slice qa qn qk]) x2/\Cells3 wx Bk (.int .i64 x2.rows) (.int .i64 x2.cols) (.slice qa qn qk)/\wa.heap.size<=Bk/\F_ wa.heap.size (.agg #[.int .i64 x2.rows,.int .i64 x2.cols,.slice qa qn qk])/\Below wa.heap.size wa wx)
      case first=>
       go_region_held3 (fun W'=>W'.cell? ⟨w.heap.size,3,none⟩=some (.int .i64 b.2.rows)/\W'.cell? ⟨w.heap.size,4,none⟩=some (.int .i64 b.2.cols)/\W'.cell? ⟨w.heap.size,5,none⟩=some (.slice ta tn tk)/\W'.cell? ⟨zb,zo+xi.toNat,none⟩=some (.int .i64 si)) ((refine HSB.out _ ?_;repeat' (first|with_reducible exact Below.refl _ _|with_reducible exact HB2.out|with_reducible refine d_ ?_|with_reducible refine a_ ?_|with_reducible refine t_ ?_ ?_|exact Nat.le_refl _|exact Nat.le_succ _|exact HB2.out.size|exact Nat.le_succ_of_le HB2.out.size)))
        (first
         |(go_at_call 86;guard_target=Calls _ _ _ (World.drew (World.alloc wa (Obj.cells #[_,_,_] _))) _;refine HT3.out.mono ?_;rintro e wz ⟨ga,gn,gk,rfl,hm,hb2,hf⟩;have hc2:=b_ (r_ (Below.refl _ (wa.alloc (.cells #[.int .i64 0,.int .i64 0,.slice none 0 0] 28)))) hb2;have HB2:=h_ (show Below wa.heap.size wa wz from b_ (o_ wa (.cells #[.int .i64 0,.int .i64 0,.slice none 0 0] 28)) hc2);have ZB3:=h_ ((Box.new wa [.int .i64 0,.int .i64 0,.slice none 0 0] 28 (B:=wa.heap.size) rfl).u_ hc2);have ZB3l:=h_ (Box.new wa [.int .i64 0,.int .i64 0,.slice none 0 0] 28 (B:=wa.heap.size) rfl).lt;have ZF3:=h_ ((Free.new wa #[.int .i64 0,.int .i64 0,.slice none 0 0] 28 (B:=wa.heap.size) rfl).u_ hc2 ZB3l.out);obtain ⟨z30,z31,z32⟩:=ZB3.out.c3;obtain ⟨f30,f31,f32⟩:=ZF3.out.f3;have HEa:Hid (Cells3 (((wz.setCell ⟨wa.heap.size,0,none⟩ (.int .i64 x2.rows)).setCell ⟨wa.heap.size,1,none⟩ (.int .i64 x2.cols)).setCell ⟨wa.heap.size,2,none⟩ (.slice ga gn gk)) wa.heap.size (.int .i64 x2.rows) (.int .i64 x2.cols) (.slice ga gn gk)):=h_ (c__ (set_three ZB3.out _ _ _));have HF:=h_ (show F_ (wa.heap.size+1) (.agg #[.int .i64 x2.rows,.int .i64 x2.cols,.slice ga gn gk]) from f_ hf (szd1 _ _));have HG:=h_ (f_ HF.out (Nat.le_succ _));have HNb:=h_ (Nat.le_refl wa.heap.size);clear hc2;have HN:=h_ hm;clear hb2 hm hf)
         |(go_at_call 86;guard_target=Calls _ _ _ (World.drew wa) _;refine HT0.out.mono ?_;rintro e wz ⟨ga,gn,gk,rfl,hm,hb2,hf⟩;have hc2:=b_ (r_ (Below.refl _ wa)) hb2;have HB2:=h_ (show Below wa.heap.size wa wz from hc2);have HEa:Hid (Cells3 (wz.alloc (.cells #[.int .i64 x2.rows,.int .i64 x2.cols,.slice ga gn gk] 28)) wz.heap.size (.int .i64 x2.rows) (.int .i64 x2.cols) (.slice ga gn gk)):=h_ (c__ (Box.new wz [.int .i64 x2.rows,.int .i64 x2.cols,.slice ga gn gk] 28 rfl));have HF:=h_ (show F_ wa.heap.size (.agg #[.int .i64 x2.rows,.int .i64 x2.cols,.slice ga gn gk]) from hf);have HG:=HF;have HNb:=h_ HB2.out.size;clear hc2;have HN:=h_ hm;clear hb2 hm hf))
       all_goals go_wp2
       all_goals go_meet
       all_goals
        refine ⟨_,ga,gn,gk,rfl,?_,?_,HNb.out,HG.out,?_⟩
        ·(refine HN.out.above HF.out ?_;repeat' (first|with_reducible exact Above.refl _ _|with_reducible refine abv_drew ?_|with_reducible refine abv_alloc ?_|with_reducible refine v_ ?_ (by omega)))
        ·with_reducible exact HEa.out
        ·repeat' (first|with_reducible exact Below.refl _ _|with_reducible exact HB2.out|with_reducible refine d_ ?_|with_reducible refine a_ ?_|with_reducible refine t_ ?_ ?_|exact Nat.le_refl _|exact Nat.le_succ _|exact HB2.out.size|exact Nat.le_succ_of_le HB2.out.size)
      case rest=>
       obtain ⟨B2,ga,gn,gk,rfl,hmx,⟨c0,c1,c2⟩,hBk,hfq,hbc⟩:=hcut
       obtain ⟨wb,hwb⟩:=gM (wc)
       subst hwb
       have HDB:=h_ hbc
       have HDR:=h_ (b_ HDA.out hbc)
       have HBB:=h_ (b_ HBA.out hbc)
       have HM2:=h_ hmx.ints
       have HF2:=h_ hfq
       have HGL:=h_ (show ∀x,(fun b=>u8.ownBlock=some b\/(W2.heap.size<=b/\b<W2.heap.size)) x->x<wr.heap.size from fun x hx=>by
        rcases hx with hx|hx
        ·exact (HO.out.lt x hx).2
        ·omega)
       have HGA:=h_ (show ∀x,(fun b=>u8.ownBlock=some b\/(W2.heap.size<=b/\b<W2.heap.size)) x->x<wa.heap.size from fun x hx=>Nat.lt_of_lt_of_le (HGL.out x hx) HDA.out.size)
       have HOA:=h_ (HO.out.u_ (a_ (o:=(.cells #[.int .i64 x1.rows,.int .i64 x1.cols,.slice ja jn jk,.int .i64 x2.rows,.int .i64 x2.cols,.slice ga gn gk] 30)) HDR.out))
       have HEN:=h_ (show Enc (wb.alloc (.cells #[.int .i64 x1.rows,.int .i64 x1.cols,.slice ja jn jk,.int .i64 x2.rows,.int .i64 x2.cols,.slice ga gn gk] 30)) (fun b=>u8.ownBlock=some b\/(W2.heap.size<=b/\b<W2.heap.size)) (gdS (x1,x2)) [.int .i64 x1.rows,.int .i64 x1.cols,.slice ja jn jk,.int .i64 x2.rows,.int .i64 x2.cols,.slice ga gn gk] from enc_gd (d:=(x1,x2)) (((x_ HM1.out HF1.out HGL.out).u_ HDB.out).u_ (o_ _ _)) ((x_ HM2.out HF2.out HGA.out).u_ (o_ _ _)))
       have HNB:=h_ (show Box (wb.alloc (.cells #[.int .i64 x1.rows,.int .i64 x1.cols,.slice ja jn jk,.int .i64 x2.rows,.int .i64 x2.cols,.slice ga gn gk] 30)) wb.heap.size [.int .i64 x1.rows,.int .i64 x1.cols,.slice ja jn jk,.int .i64 x2.rows,.int .i64 x2.cols,.slice ga gn gk] from Box.new _ _ _ rfl)
       have HBS:=h_ (show W2.heap.size<=(wb.alloc (.cells #[.int .i64 x1.rows,.int .i64 x1.cols,.slice ja jn jk,.int .i64 x2.rows,.int .i64 x2.cols,.slice ga gn gk] 30)).heap.size from Nat.le_trans HBB.out.size (o_ wb (.cells #[.int .i64 x1.rows,.int .i64 x1.cols,.slice ja jn jk,.int .i64 x2.rows,.int .i64 x2.cols,.slice ga gn gk] 30)).size)
       obtain ⟨p0,p1,p2⟩:=HC1.out
       replace p0:=c_ HDB.out p0
       replace p1:=c_ HDB.out p1
       replace p2:=c_ HDB.out p2
       clear hmx hBk hfq hbc HT HSB HT0 HT3 lm0 lm1 lm2 lm3
       go_wp2_with (at_builtin;refine wpList_append_owns rfl _ _ 47 rfl W2.heap.size 30 e0 (.agg #[.int .i64 0,.int .i64 0,.slice none 0 0,.int .i64 0,.int .i64 0,.slice none 0 0]) 6 80 Tryz.underlying47 HEI.out.1 HEI.out.2.1 HEI.out.2.2.1 HEI.out.2.2.2 rfl (by decide) W2.heap.size _ _ _ rfl HOA.out ⟨wb.heap.size,0,none⟩ 1 1 [.int .i64 x1.rows,.int .i64 x1.cols,.slice ja jn jk,.int .i64 x2.rows,.int .i64 x2.cols,.slice ga gn gk] rfl rfl (fun q u hq=>by rw[addr_add];exact HNB.out q u hq) (gdS (x1,x2)) HEN.out ?d3 ?d4 HBS.out ?_)
       case d3=>unfold maxLen;have:=HPQ.out;omega
       case d4=>have:=HPQ.out;omega
       intro v9 w9 hown hgrow hwh
       have HB9:=h_ (show Below W2.heap.size W2 w9 from (a_ (o:=(.cells #[.int .i64 x1.rows,.int .i64 x1.cols,.slice ja jn jk,.int .i64 x2.rows,.int .i64 x2.cols,.slice ga gn gk] 30)) HBB.out).grown hgrow HBS.out (fun k hk=>(HO.out.lt k hk).1))
       rw[flat_snoc,<-HPX.out,range_map_snoc]at hown
       have HOW:=h_ hown
       have m0:=c_ HB9.out HCZ.out
       clear hown hgrow hwh p0 p1 p2 c0 c1 c2
       go_wp2
       go_roundw
       case rel=>exact ⟨i+1,_,_,by omega,by have:=HXI.out;omega,rfl,rfl,HNX.out.symm,HOW.out,HB9.out⟩
       case measure=>have:=HXI.out;have:=HPQ.out.1;simp[intOf];omega
    ·have hin:i=zn:=by have:=HXI.out;have:=HPQ.out.1;omega
     have HM:=h_ (show IsBts wr u8 X by
      rw[HXE.out]
      show Reads _ _ ((List.range zn).map (partX b zn Q)).length _
      rw[List.length_map,List.length_range]
      have h:=HO.out.reads
      rw[hin]at h;exact h)
     clear hin
     go_wp2
     exact bodyPost_ret (v:=.tuple #[u8,.int .i64 0]) (by simp[results,Tryz.results54,go_sem]) rfl ⟨_,rfl,HM.out,b_ HW2.out HB.out⟩
  ·obtain rfl:X=[]:=by rw[<-HX.out,if_neg c2]
   have n2:(E !=0)=true:=by simpa using c2
   clear c2
   obtain ⟨za,zn,zk,rfl⟩:=HZI.out.shape
   go_wp2
   exact bodyPost_ret (v:=.tuple #[.slice none 0 0,.int .i64 E]) (by simp[results,Tryz.results54,go_sem]) rfl ⟨_,rfl,isBts_nil _,HW2.out⟩
 ·obtain rfl:g1=E:=by rw[<-HE.out,if_pos c1]
  obtain rfl:X=[]:=by rw[<-HX.out,if_neg c1]
  have n1:(g1 !=0)=true:=by simpa using c1
  clear c1
  go_wp2
  exact bodyPost_ret (v:=.tuple #[.slice none 0 0,.int .i64 g1]) (by simp[results,Tryz.results54,go_sem]) rfl ⟨_,rfl,isBts_nil _,HW1.out⟩
def wideR (l:Ly) (n:Int):Int:=if takesL l n=true then g_ l n else -1
theorem wideR_1{l:Ly}{n:Int}(hk:l.k=1)(h:n=l.w.rows):l.w.cols=wideR l n:=by unfold wideR takesL g_;rw[if_pos hk,if_pos (decide_eq_true h),if_pos hk]
theorem wideR_1n{l:Ly}{n:Int}(hk:l.k=1)(h:¬n=l.w.rows):-1=wideR l n:=by unfold wideR takesL;rw[if_pos hk,if_neg (by rw[decide_eq_false h];decide)]
theorem wideR_4{l:Ly}{n:Int}(hk:l.k=4)(h:n=l.b.cols):n=wideR l n:=by
 have h1:¬l.k=1:=by omega
 unfold wideR takesL g_;rw[if_neg h1,if_pos hk,if_pos (decide_eq_true h),if_neg h1]
theorem wideR_4n{l:Ly}{n:Int}(hk:l.k=4)(h:¬n=l.b.cols):-1=wideR l n:=by
 have h1:¬l.k=1:=by omega
 unfold wideR takesL;rw[if_neg h1,if_pos hk,if_neg (by rw[decide_eq_false h];decide)]
theorem wideR_o{l:Ly}{n:Int}(h1:¬l.k=1)(h4:¬l.k=4):n=wideR l n:=by unfold wideR takesL g_;rw[if_neg h1,if_neg h4,if_pos rfl,if_neg h1]
set_option maxHeartbeats 800000 in
theorem rwide_any(v:Value)(l:Ly)(n:Int)(w:World)(hv:IsLy w v l):Calls Tryz.prog 87 #[v,.int .i64 n] w fun e w'=>e=.returned (.int .i64 (wideR l n))/\Below w.heap.size w w':=by
 obtain ⟨s,t,rfl,hs,ht⟩:=hv
 obtain ⟨xa,xn,xk,rfl⟩:=hs.shape
 obtain ⟨ya,yn,yk,rfl⟩:=ht.shape
 obtain ⟨k,e0⟩:=gN (l.k)
 obtain ⟨wr,e1⟩:=gN (l.w.rows)
 obtain ⟨wc,e2⟩:=gN (l.w.cols)
 obtain ⟨br,e3⟩:=gN (l.b.rows)
 obtain ⟨bc,e4⟩:=gN (l.b.cols)
 rw[e0,e1,e2,e3,e4]
 clear hs ht
 by_cases h1:k=1
 ·by_cases hn:n=wr
  ·have HE:=h_ (show wc=wideR l n by rw[<-e2];exact wideR_1 (by omega) (by omega))
   have t1:(k==1)=true:=by simp[h1]
   have t2:(n !=wr)=false:=by simp[hn]
   clear h1 hn e0 e1 e2 e3 e4
   go_enter Tryz.func87,Tryz.ntmps87
   go_wp2
   go_ret
   exact ⟨i_ HE.out,o_ _ _⟩
  ·have HE:=h_ (wideR_1n (l:=l) (n:=n) (by omega) (by omega))
   have t1:(k==1)=true:=by simp[h1]
   have t2:(n !=wr)=true:=by simp[hn]
   clear h1 hn e0 e1 e2 e3 e4
   go_enter Tryz.func87,Tryz.ntmps87
   go_wp2
   go_ret
   exact ⟨i_ HE.out,o_ _ _⟩
 ·have t1:(k==1)=false:=by simp[h1]
  by_cases h4:k=4
  ·have t4:(k==4)=true:=by simp[h4]
   by_cases hn:n=bc
   ·have HE:=h_ (wideR_4 (l:=l) (n:=n) (by omega) (by omega))
    have t2:(n !=bc)=false:=by simp[hn]
    clear h1 h4 hn e0 e1 e2 e3 e4
    go_enter Tryz.func87,Tryz.ntmps87
    go_wp2
    go_ret
    exact ⟨i_ HE.out,o_ _ _⟩
   ·have HE:=h_ (wideR_4n (l:=l) (n:=n) (by omega) (by omega))
    have t2:(n !=bc)=true:=by simp[hn]
    clear h1 h4 hn e0 e1 e2 e3 e4
    go_enter Tryz.func87,Tryz.ntmps87
    go_wp2
    go_ret
    exact ⟨i_ HE.out,o_ _ _⟩
  ·have t4:(k==4)=false:=by simp[h4]
   have HE:=h_ (wideR_o (l:=l) (n:=n) (by omega) (by omega))
   clear h1 h4 e0 e1 e2 e3 e4
   go_enter Tryz.func87,Tryz.ntmps87
   go_wp2
   go_ret
   exact ⟨i_ HE.out,o_ _ _⟩
theorem wideR_yes{l:Ly}{n:Int}(h:takesL l n=true):wideR l n=g_ l n:=by unfold wideR;rw[if_pos h]
theorem wideR_no{l:Ly}{n:Int}(h:takesL l n=false):wideR l n=-1:=by unfold wideR;rw[if_neg (by simp[h])]
theorem gives_0{l:Ly}{x:Mx}(hl:l_ l=0)(hx:q_ x=0):0<=g_ l x.cols:=by
 obtain ⟨_,_,fw,_,_⟩:=lgood_of hl
 obtain ⟨_,Cw,gw⟩:=o__ fw
 obtain ⟨_,Cx,gx⟩:=o__ hx
 have:=gw.c
 have:=gx.c
 unfold g_;split<;>omega
set_option maxHeartbeats 1600000 in
theorem rgofault_any(v vx:Value)(l:Ly)(x:Mx)(w:World)(hv:IsLy w v l)(hx:M_ w vx x):Calls Tryz.prog 88 #[v,vx] w fun e w'=>e=.returned (.int .i64 (goE l x))/\Below w.heap.size w w':=by
 obtain ⟨s,t,rfl,hs,ht⟩:=hv
 obtain ⟨xa,xn,xk,rfl⟩:=hs.shape
 obtain ⟨ya,yn,yk,rfl⟩:=ht.shape
 obtain ⟨k,e0⟩:=gN (l.k)
 obtain ⟨wr,e1⟩:=gN (l.w.rows)
 obtain ⟨wc,e2⟩:=gN (l.w.cols)
 obtain ⟨br,e3⟩:=gN (l.b.rows)
 obtain ⟨bc,e4⟩:=gN (l.b.cols)
 obtain ⟨sx,rfl,hsx⟩:=hx
 obtain ⟨za,zn,zk,rfl⟩:=hsx.shape
 obtain ⟨r,e5⟩:=gN (x.rows)
 obtain ⟨c,e6⟩:=gN (x.cols)
 have HLF:=h_ (fun W (h:Below w.heap.size w W)=>rlfault_any _ l W ⟨_,_,rfl,hs.u_ h,ht.u_ h⟩)
 have HXF:=h_ (fun W (h:Below w.heap.size w W)=>fault_any _ x W ⟨_,rfl,hsx.u_ h⟩)
 have HWD:=h_ (fun W (h:Below w.heap.size w W)=>rwide_any _ l x.cols W ⟨_,_,rfl,hs.u_ h,ht.u_ h⟩)
 rw[e0,e1,e2,e3,e4]at HLF HWD
 rw[e5,e6]at HXF
 have HEC:=h_ e6
 rw[e6]at HWD
 rw[e0,e1,e2,e3,e4,e5,e6]
 obtain ⟨V,hV⟩:=gM ((w.alloc (.cells #[.int .i64 k,.int .i64 wr,.int .i64 wc,.slice xa xn xk,.int .i64 br,.int .i64 bc,.slice ya yn yk] 58)).alloc (.cells #[.int .i64 r,.int .i64 c,.slice za zn zk] 28))
 have HV:=h_ hV
 have HBW:Hid (Below w.heap.size w V):=by rw[hV];exact h_ (b_ (o_ _ _) (o_ _ _))
 have HBL:Hid (Box V w.heap.size [.int .i64 k,.int .i64 wr,.int .i64 wc,.slice xa xn xk,.int .i64 br,.int .i64 bc,.slice ya yn yk]):=by rw[hV];exact h_ ((Box.new w [.int .i64 k,.int .i64 wr,.int .i64 wc,.slice xa xn xk,.int .i64 br,.int .i64 bc,.slice ya yn yk] 58 rfl).u_ (o_ _ _))
 have HBX:Hid (Box V (w.heap.size+1) [.int .i64 r,.int .i64 c,.slice za zn zk]):=by rw[hV];exact h_ (Box.new _ [.int .i64 r,.int .i64 c,.slice za zn zk] 28 (by simp))
 clear hs ht hsx e0 e1 e2 e3 e4 e5 e6 hV
 go_enter Tryz.func88,Tryz.ntmps88
 go_wp2_with fail
 rw[<-HV.out]
 refine (HLF.out _ HBW.out).mono ?_
 rintro e w1 ⟨rfl,hb1⟩
 have HB1:=h_ hb1
 clear hb1
 by_cases hl:l_ l=0
 ·rw[hl]
  have HL:=h_ hl
  clear hl
  obtain ⟨d0,d1,d2⟩:=(HBX.out.u_ HB1.out).c3
  go_wp2_with fail
  refine (HXF.out _ (b_ HBW.out HB1.out)).mono ?_
  rintro e w2 ⟨rfl,hb2⟩
  have HB2:=h_ (b_ HB1.out hb2)
  clear hb2 d0 d1 d2
  by_cases hx:q_ x=0
  ·rw[hx]
   have HX:=h_ hx
   clear hx
   obtain ⟨d0,d1,d2,d3,d4,d5,d6⟩:=(HBL.out.u_ HB2.out).c7
   obtain ⟨y0,y1,y2⟩:=(HBX.out.u_ HB2.out).c3
   go_wp2_with fail
   refine (HWD.out _ (b_ HBW.out HB2.out)).mono ?_
   rintro e w3 ⟨rfl,hb3⟩
   have HB3:=h_ (b_ HB2.out hb3)
   clear hb3 d0 d1 d2 d3 d4 d5 d6 y0 y1 y2
   cases htk:takesL l c with
   |true=>
    have hn:=gives_0 HL.out HX.out
    rw[HEC.out]at hn
    rw[wideR_yes htk]
    obtain ⟨n,hn'⟩:=gN (g_ l c)
    rw[hn']at hn ⊢
    have HE:=h_ (show 0=goE l x from (goE_of HL.out HX.out (by rw[HEC.out];exact htk)).symm)
    clear htk hn'
    go_wp2
    go_ret
    exact ⟨i_ HE.out,b_ HBW.out HB3.out⟩
   |false=>
    rw[wideR_no htk]
    have HE:=h_ (show 2=goE l x by unfold goE;rw[if_neg (by simp[HL.out]),if_neg (by simp[HX.out]),if_pos (by rw[HEC.out];exact htk)])
    clear htk
    go_wp2
    go_ret
    exact ⟨i_ HE.out,b_ HBW.out HB3.out⟩
  ·obtain ⟨j,hj⟩:=gN (q_ x)
   have hj0:(j==0)=false:=by rw[<-hj];simp[hx]
   have hj1:(j !=0)=true:=by rw[<-hj];simp[hx]
   have HE:=h_ (show j=goE l x by rw[goE_x HL.out hx,hj])
   rw[hj]
   clear hx hj
   go_wp2
   go_ret
   exact ⟨i_ HE.out,b_ HBW.out HB2.out⟩
 ·obtain ⟨j,hj⟩:=gN (l_ l)
  have hj0:(j==0)=false:=by rw[<-hj];simp[hl]
  have hj1:(j !=0)=true:=by rw[<-hj];simp[hl]
  have HE:=h_ (show j=goE l x by rw[goE_l hl,hj])
  rw[hj]
  clear hl hj
  go_wp2
  go_ret
  exact ⟨i_ HE.out,b_ HBW.out HB1.out⟩
set_option maxHeartbeats 4000000 in
theorem rbackfault_any(v vx vg:Value)(l:Ly)(x g:Mx)(w:World)(hv:IsLy w v l)(hx:M_ w vx x)(hg:M_ w vg g):Calls Tryz.prog 92 #[v,vx,vg] w fun e w'=>e=.returned (.int .i64 (backE l x g))/\Below w.heap.size w w':=by
 obtain ⟨s,t,rfl,hs,ht⟩:=hv
 obtain ⟨xa,xn,xk,rfl⟩:=hs.shape
 obtain ⟨ya,yn,yk,rfl⟩:=ht.shape
 obtain ⟨k,e0⟩:=gN (l.k)
 obtain ⟨wr,e1⟩:=gN (l.w.rows)
 obtain ⟨wc,e2⟩:=gN (l.w.cols)
 obtain ⟨br,e3⟩:=gN (l.b.rows)
 obtain ⟨bc,e4⟩:=gN (l.b.cols)
 obtain ⟨sx,rfl,hsx⟩:=hx
 obtain ⟨za,zn,zk,rfl⟩:=hsx.shape
 obtain ⟨r,e5⟩:=gN (x.rows)
 obtain ⟨c,e6⟩:=gN (x.cols)
 obtain ⟨sg,rfl,hsg⟩:=hg
 obtain ⟨ga,gn,gk,rfl⟩:=hsg.shape
 obtain ⟨r',e7⟩:=gN (g.rows)
 obtain ⟨c',e8⟩:=gN (g.cols)
 have HLF:=h_ (fun W (h:Below w.heap.size w W)=>rgofault_any _ _ l x W ⟨_,_,rfl,hs.u_ h,ht.u_ h⟩ ⟨_,rfl,hsx.u_ h⟩)
 have HXF:=h_ (fun W (h:Below w.heap.size w W)=>fault_any _ g W ⟨_,rfl,hsg.u_ h⟩)
 have HWD:=h_ (fun W (h:Below w.heap.size w W)=>rwide_any _ l x.cols W ⟨_,_,rfl,hs.u_ h,ht.u_ h⟩)
 rw[e0,e1,e2,e3,e4,e5,e6]at HLF
 rw[e0,e1,e2,e3,e4,e6]at HWD
 rw[e7,e8]at HXF
 have HEC:=h_ (And.intro e0 (And.intro e5 (And.intro e6 (And.intro e7 e8))))
 rw[e0,e1,e2,e3,e4,e5,e6,e7,e8]
 obtain ⟨V,hV⟩:=gM (((w.alloc (.cells #[.int .i64 k,.int .i64 wr,.int .i64 wc,.slice xa xn xk,.int .i64 br,.int .i64 bc,.slice ya yn yk] 58)).alloc (.cells #[.int .i64 r,.int .i64 c,.slice za zn zk] 28)).alloc (.cells #[.int .i64 r',.int .i64 c',.slice ga gn gk] 28))
 have HV:=h_ hV
 have HBW:Hid (Below w.heap.size w V):=by rw[hV];exact h_ (b_ (b_ (o_ _ _) (o_ _ _)) (o_ _ _))
 have HBL:Hid (Box V w.heap.size [.int .i64 k,.int .i64 wr,.int .i64 wc,.slice xa xn xk,.int .i64 br,.int .i64 bc,.slice ya yn yk]):=by rw[hV];exact h_ (((Box.new w [.int .i64 k,.int .i64 wr,.int .i64 wc,.slice xa xn xk,.int .i64 br,.int .i64 bc,.slice ya yn yk] 58 rfl).u_ (o_ _ _)).u_ (o_ _ _))
 have HBX:Hid (Box V (w.heap.size+1) [.int .i64 r,.int .i64 c,.slice za zn zk]):=by rw[hV];exact h_ ((Box.new _ [.int .i64 r,.int .i64 c,.slice za zn zk] 28 (by simp)).u_ (o_ _ _))
 have HBG:Hid (Box V (w.heap.size+1+1) [.int .i64 r',.int .i64 c',.slice ga gn gk]):=by rw[hV];exact h_ (Box.new _ [.int .i64 r',.int .i64 c',.slice ga gn gk] 28 (by simp))
 clear hs ht hsx hsg e0 e1 e2 e3 e4 e5 e6 e7 e8 hV
 go_enter Tryz.func92,Tryz.ntmps92
 go_wp2_with fail
 rw[<-HV.out]
 refine (HLF.out _ HBW.out).mono ?_
 rintro e w1 ⟨rfl,hb1⟩
 have HB1:=h_ hb1
 clear hb1
 by_cases hl:goE l x=0
 ·rw[hl]
  have HL:=h_ hl
  clear hl
  obtain ⟨d0,d1,d2⟩:=(HBG.out.u_ HB1.out).c3
  go_wp2_with fail
  refine (HXF.out _ (b_ HBW.out HB1.out)).mono ?_
  rintro e w2 ⟨rfl,hb2⟩
  have HB2:=h_ (b_ HB1.out hb2)
  clear hb2 d0 d1 d2
  by_cases hx:q_ g=0
  ·rw[hx]
   have HX:=h_ hx
   clear hx
   obtain ⟨d0,d1,d2,d3,d4,d5,d6⟩:=(HBL.out.u_ HB2.out).c7
   obtain ⟨y0,y1,y2⟩:=(HBX.out.u_ HB2.out).c3
   go_wp2_with fail
   refine (HWD.out _ (b_ HBW.out HB2.out)).mono ?_
   rintro e w3 ⟨rfl,hb3⟩
   have HB3:=h_ (b_ HB2.out hb3)
   clear hb3 d0 d1 d2 d3 d4 d5 d6 y0 y1 y2
   have htk:=(goE_zero HL.out).2.2
   rw[HEC.out.2.2.1]at htk
   rw[wideR_yes htk]
   obtain ⟨n,hn⟩:=gN (g_ l c)
   have HN:=h_ (show g_ l x.cols=n by rw[HEC.out.2.2.1];exact hn)
   rw[hn]
   clear htk hn
   obtain ⟨d0,d1,d2,d3,d4,d5,d6⟩:=(HBL.out.u_ HB3.out).c7
   obtain ⟨y0,y1,y2⟩:=(HBX.out.u_ HB3.out).c3
   obtain ⟨z0,z1,z2⟩:=(HBG.out.u_ HB3.out).c3
   by_cases h1:r'=r
   ·have t1:(r' !=r)=false:=by simp[h1]
    by_cases h2:c'=n
    ·have t2:(c' !=n)=false:=by simp[h2]
     have HSH:=h_ (show g.rows=x.rows/\g.cols=g_ l x.cols by rw[HN.out];obtain ⟨_,a2,_,a4,a5⟩:=HEC.out;rw[a2,a4,a5];exact ⟨h1,h2⟩)
     clear h1 h2
     by_cases hk:k=1
     ·have t3:(k==1)=true:=by simp[hk]
      by_cases hr:12<r
      ·have HE:=h_ (backE_f HL.out HX.out HSH.out ⟨by rw[HEC.out.1];exact hk,by rw[HEC.out.2.1];exact hr⟩).symm
       clear hk
       go_wp2
       go_ret
       exact ⟨i_ HE.out,b_ HBW.out HB3.out⟩
      ·have HE:=h_ (backE_of HL.out HX.out HSH.out.1 HSH.out.2 (fun h=>hr (by rw[<-HEC.out.2.1];exact h.2))).symm
       clear hk
       go_wp2
       go_ret
       exact ⟨i_ HE.out,b_ HBW.out HB3.out⟩
     ·have t3:(k==1)=false:=by simp[hk]
      have HE:=h_ (backE_of HL.out HX.out HSH.out.1 HSH.out.2 (fun h=>hk (by rw[<-HEC.out.1];exact h.1))).symm
      clear hk
      go_wp2
      go_ret
      exact ⟨i_ HE.out,b_ HBW.out HB3.out⟩
    ·have t2:(c' !=n)=true:=by simp[h2]
     have HE:=h_ (backE_s HL.out HX.out (g:=g) (fun h=>h2 (by obtain ⟨_,a2,_,a4,a5⟩:=HEC.out;rw[<-HN.out,<-a5];exact h.2))).symm
     clear h1 h2
     go_wp2
     go_ret
     exact ⟨i_ HE.out,b_ HBW.out HB3.out⟩
   ·have t1:(r' !=r)=true:=by simp[h1]
    have HE:=h_ (backE_s HL.out HX.out (g:=g) (fun h=>h1 (by obtain ⟨_,a2,_,a4,a5⟩:=HEC.out;rw[<-a2,<-a4];exact h.1))).symm
    clear h1
    go_wp2
    go_ret
    exact ⟨i_ HE.out,b_ HBW.out HB3.out⟩
  ·obtain ⟨j,hj⟩:=gN (q_ g)
   have hj0:(j==0)=false:=by rw[<-hj];simp[hx]
   have hj1:(j !=0)=true:=by rw[<-hj];simp[hx]
   have HE:=h_ (show j=backE l x g by rw[backE_g HL.out hx,hj])
   rw[hj]
   clear hx hj
   go_wp2
   go_ret
   exact ⟨i_ HE.out,b_ HBW.out HB2.out⟩
 ·obtain ⟨j,hj⟩:=gN (goE l x)
  have hj0:(j==0)=false:=by rw[<-hj];simp[hl]
  have hj1:(j !=0)=true:=by rw[<-hj];simp[hl]
  have HE:=h_ (show j=backE l x g by rw[backE_go hl,hj])
  rw[hj]
  clear hl hj
  go_wp2
  go_ret
  exact ⟨i_ HE.out,b_ HBW.out HB1.out⟩
end Go.Proofs.YtniloklglpchfaeGreatDoor
