/- The walk of the law AgainBacks: Back and Most of package again answer what the document's answer does. Condition: the library's variable errors.errorType is as its text lays it. -/
import Derived.Test.YtpniemnfdleiiajGreatDoorPkLsLaw
import Derived.Test.YtpniemnfdleiiajGreatDoorPkAs
import Derived.Test.YtpniemnfdleiiajGreatDoorPkRNet
import Derived.Test.YtpniemnfdleiiajGreatDoorRLoss
import Derived.Test.YtpniemnfdleiiajGreatDoorRNetBack
import Derived.Test.YtpniemnfdleiiajGreatDoorSameL
namespace Go.Proofs.YtpniemnfdleiiajGreatDoor
open Go.RowKit
theorem ag_nb{ls:List Ly}{x y:Mx}(h2:ngE ls x=0)(h3:addE (endX ls x) y=0):nbE ls (ngX ls x) (offX (endX ls x) y)=agB ls x y:=by
 have hn:ngX ls x=x::runT ls x:=by unfold ngX;rw[if_pos h2]
 have h5:=((ngE_iff ls x).1 h2).1
 rw[hn]
 unfold nbE
 rw[if_neg h5,if_neg (by simp[runT_len])]
 by_cases hl:ls=[]
 ·rw[if_pos hl,off_good h3];subst hl;rfl
 ·rw[if_neg hl];rfl
set_option maxHeartbeats 40000000 in
set_option maxRecDepth 100000 in
theorem agbacks_walk(v:Value)(ls:List Ly)(vx:Value)(x:Mx)(vy:Value)(y:Mx)(e a:Int)(w:World)(hv:Y_ w v ls)(hx:M_ w vx x)(hy:M_ w vy y)(hH:Handle w):
  Calls Tryz.prog 3 #[v,vx,vy,.int .i64 e,.int .i64 a] w fun r w'=>r=.returned (.bool true)∧Below w.heap.size w w':=by
 obtain ⟨va,vk,rfl,_,_⟩:=hv.shape
 obtain ⟨sx,rfl,hsx⟩:=hx
 obtain ⟨xa,xn,xk,rfl⟩:=hsx.shape
 obtain ⟨sy,rfl,hsy⟩:=hy
 obtain ⟨ya,yn,yk,rfl⟩:=hsy.shape
 obtain ⟨N,hN⟩:=gN (ls.length)
 rw[hN]at hv ⊢
 obtain ⟨V,hV⟩:=gM ((w.alloc (.cells #[.int .i64 x.rows,.int .i64 x.cols,.slice xa xn xk] 25)).alloc (.cells #[.int .i64 y.rows,.int .i64 y.cols,.slice ya yn yk] 25))
 have HV:=h_ hV
 have HWV:Hid (Below w.heap.size w V):=by rw[hV];exact h_ (a_ (o_ _ _))
 have HBX:Hid (Blk V w.heap.size #[.int .i64 x.rows,.int .i64 x.cols,.slice xa xn xk] 25):=by rw[hV];exact h_ ((Blk.new w _ _ rfl).alloc _)
 have HBY:Hid (Blk V (w.heap.size+1) #[.int .i64 y.rows,.int .i64 y.cols,.slice ya yn yk] 25):=by rw[hV];exact h_ (Blk.new _ _ _ (by simp))
 have HL:=h_ (hv.u_ HWV.out)
 have HSX:=h_ (hsx.u_ HWV.out)
 have HSY:=h_ (hsy.u_ HWV.out)
 have HH:=h_ (hH.u_ HWV.out)
 have HNL:=h_ hN
 have HAG:=h_ (again_any (.slice va N vk) (.agg #[.int .i64 x.rows,.int .i64 x.cols,.slice xa xn xk]) (.agg #[.int .i64 y.rows,.int .i64 y.cols,.slice ya yn yk]) ls x y e V HL.out ⟨_,rfl,HSX.out⟩ ⟨_,rfl,HSY.out⟩)
 obtain ⟨E,hE⟩:=gN (agE ls x y e)
 obtain ⟨O,hO⟩:=gN (agO ls x y e)
 obtain ⟨Mo,hMo⟩:=gN (agM ls x y e)
 obtain ⟨D,hD⟩:=gN (agD ls x y e)
 have h0x:E≠0→O=0∧Mo=0∧D=[]:=fun h=>by rw[←hO,←hMo,←hD];exact ag_no hE h
 have HNO:=h_ h0x
 have HEQ:=h_ (And.intro hE (And.intro hO (And.intro hMo hD)))
 rw[hE,hO,hMo,hD]at HAG
 obtain ⟨xr,hxr⟩:=gN (x.rows)
 obtain ⟨xc,hxc⟩:=gN (x.cols)
 obtain ⟨yr,hyr⟩:=gN (y.rows)
 obtain ⟨yc,hyc⟩:=gN (y.cols)
 have HXY:=h_ (And.intro (And.intro hxr hxc) (And.intro hyr hyc))
 rw[hxr,hxc,hyr,hyc]at HAG HV ⊢
 rw[hxr,hxc]at HBX
 rw[hyr,hyc]at HBY
 have HSB:Hid (∀W',Below V.heap.size V W'→(fun W'=>W'.cell? ⟨w.heap.size,0,none⟩=some (.int .i64 xr)∧W'.cell? ⟨w.heap.size,1,none⟩=some (.int .i64 xc)∧W'.cell? ⟨w.heap.size,2,none⟩=some (.slice xa xn xk)∧W'.cell? ⟨w.heap.size+1,0,none⟩=some (.int .i64 yr)∧W'.cell? ⟨w.heap.size+1,1,none⟩=some (.int .i64 yc)∧W'.cell? ⟨w.heap.size+1,2,none⟩=some (.slice ya yn yk)) W'):=h_ (fun W' h=>⟨(HBX.out.u_ h).cell (j:=0) rfl,(HBX.out.u_ h).cell (j:=1) rfl,(HBX.out.u_ h).cell (j:=2) rfl,(HBY.out.u_ h).cell (j:=0) rfl,(HBY.out.u_ h).cell (j:=1) rfl,(HBY.out.u_ h).cell (j:=2) rfl⟩)
 clear hv hsx hsy hH hV hN hxr hxc hyr hyc hE hO hMo hD h0x
 obtain ⟨lm0,lm1,lm2,lm3,lm4,lm5⟩:=HSB.out V (Below.refl _ _)
 rw[HV.out]at lm0 lm1 lm2 lm3 lm4 lm5
 go_enter Tryz.func3,Tryz.ntmps3
 go_wp2_with fail
 rw[←HV.out]
 refine HAG.out.mono ?_
 rintro r V1 ⟨vd,rfl,hgd,hb1⟩
 have HB1:=h_ hb1
 have HGD:=h_ hgd
 obtain ⟨da,dk,hde,_,_⟩:=hgd.shape
 obtain ⟨dn,hdn⟩:=gN (D.length)
 rw[hdn]at hde
 subst hde
 clear hb1 hgd hdn lm0 lm1 lm2 lm3 lm4 lm5 HAG
 by_cases hev:evB e=true
 ·obtain ⟨h1,h12⟩:=ev_in hev
  have HEV:=h_ hev
  clear hev
  obtain ⟨E2,hE2⟩:=gN (ngE ls x)
  have HRG:=h_ (rnetgo_any (.slice va N vk) (.agg #[.int .i64 x.rows,.int .i64 x.cols,.slice xa xn xk]) ls x V1 (HL.out.u_ HB1.out) ⟨_,rfl,HSX.out.u_ HB1.out⟩)
  rw[hE2,HXY.out.1.1,HXY.out.1.2]at HRG
  have HE2:=h_ hE2
  clear hE2
  obtain ⟨lm0,lm1,lm2,lm3,lm4,lm5⟩:=HSB.out V1 HB1.out
  go_wp2_with fail
  refine HRG.out.mono ?_
  rintro r V2 ⟨vl,rfl,hms,hb2⟩
  have HB2:=h_ (b_ HB1.out hb2)
  have HGD2:=h_ (HGD.out.u_ hb2)
  obtain ⟨la,lk,rfl,_,_⟩:=hms.shape
  obtain ⟨Lg,hLg⟩:=gN ((ngX ls x).length)
  have HMS:=h_ hms
  rw[hLg]at HMS ⊢
  have HLG:=h_ hLg
  clear HRG hms hb2 hLg lm0 lm1 lm2 lm3 lm4 lm5
  go_upto_if 51 with fail
  obtain ⟨E3,hE3⟩:=gN ((if E2=0 then addE (endX ls x) y else E2))
  have HE3:=h_ hE3
  clear hE3
  go_cut [15] from 51 to 58 (fun ev wx=>ev=.int .i64 E3∧Below V2.heap.size V2 wx)
  case first=>
   by_cases hz:E2=0
   ·subst hz
    have HEA:=h_ (show addE (endX ls x) y=E3 by rw[←HE3.out,if_pos rfl])
    have hng:ngE ls x=0:=HE2.out
    have hlen:(ngX ls x).length=N+1:=by unfold ngX;rw[if_pos hng,List.length_cons,runT_len,HNL.out]
    have hat:(ngX ls x)[N]?=some (endX ls x):=by unfold ngX;rw[if_pos hng,←HNL.out];exact endX_at ls x
    have hN12:N≤12:=by have:=((ngE_iff ls x).1 hng).1;rw[HNL.out]at this;omega
    have hLN:Lg=N+1:=HLG.out.symm.trans hlen
    obtain ⟨lb,lo,lk',ua,un,uk,ev,k0,k1,k2,hum⟩:=HMS.out.at hat
    injection ev with ev1 ev2 ev3
    clear ev2 ev3
    subst ev1
    have HUM:=h_ hum
    obtain ⟨m,hm⟩:=gN (endX ls x)
    rw[hm]at k0 k1 HUM
    obtain ⟨mr,hmr⟩:=gN (m.rows)
    obtain ⟨mc,hmc⟩:=gN (m.cols)
    rw[hmr]at k0
    rw[hmc]at k1
    have hNi:(N:Int)≤12:=by omega
    have hNd:(N:Int)<(Lg:Int):=by omega
    have HLF:=h_ (fun W (h:Below V2.heap.size V2 W)=>rlossfault_any (.agg #[.int .i64 m.rows,.int .i64 m.cols,.slice ua un uk]) (.agg #[.int .i64 y.rows,.int .i64 y.cols,.slice ya yn yk]) m y W ⟨_,rfl,HUM.out.u_ h⟩ ⟨_,rfl,(HSY.out.u_ HB2.out).u_ h⟩)
    rw[←hm,HEA.out,hm,hmr,hmc,HXY.out.2.1,HXY.out.2.2]at HLF
    have HSB2:Hid (∀W',Below V2.heap.size V2 W'→(fun W'=>W'.cell? ⟨lb,lo+N*3,none⟩=some (.int .i64 mr)∧W'.cell? ⟨lb,lo+N*3+1,none⟩=some (.int .i64 mc)∧W'.cell? ⟨lb,lo+N*3+2,none⟩=some (.slice ua un uk)∧W'.cell? ⟨w.heap.size+1,0,none⟩=some (.int .i64 yr)∧W'.cell? ⟨w.heap.size+1,1,none⟩=some (.int .i64 yc)∧W'.cell? ⟨w.heap.size+1,2,none⟩=some (.slice ya yn yk)) W'):=h_ (fun W' h=>by
     obtain ⟨_,_,_,q3,q4,q5⟩:=HSB.out W' (b_ HB2.out h)
     exact ⟨c_ h k0,c_ h k1,c_ h k2,q3,q4,q5⟩)
    clear hng hlen hat hum hm hmr hmc hN12 hLN
    go_wp2_with fail
    obtain ⟨lm0,lm1,lm2,lm3,lm4,lm5⟩:=HSB2.out V2 (Below.refl _ _)
    go_region_held3 (fun W'=>W'.cell? ⟨lb,lo+N*3,none⟩=some (.int .i64 mr)∧W'.cell? ⟨lb,lo+N*3+1,none⟩=some (.int .i64 mc)∧W'.cell? ⟨lb,lo+N*3+2,none⟩=some (.slice ua un uk)∧W'.cell? ⟨w.heap.size+1,0,none⟩=some (.int .i64 yr)∧W'.cell? ⟨w.heap.size+1,1,none⟩=some (.int .i64 yc)∧W'.cell? ⟨w.heap.size+1,2,none⟩=some (.slice ya yn yk))
     ((refine HSB2.out _ ?_;repeat' (first|with_reducible exact Below.refl _ _|with_reducible refine d_ ?_|with_reducible refine b_ ?_ hbz)))
     ((go_at_call 6;refine (HLF.out _ (by repeat' (first|with_reducible exact Below.refl _ _|with_reducible refine d_ ?_))).mono ?_;rintro e wz ⟨rfl,hbz⟩))
    all_goals go_wp2
    all_goals go_meet
    all_goals
     refine ⟨rfl,?_⟩
     repeat' (first|with_reducible exact Below.refl _ _|with_reducible refine d_ ?_|with_reducible refine b_ ?_ hbz)
   ·have n1:(E2==0)=false:=by simpa using hz
    have HEA:=h_ (show E2=E3 by rw[←HE3.out,if_neg hz])
    clear hz
    go_wp2
    go_meet
    exact ⟨by rw[HEA.out],Below.refl _ _⟩
  case rest=>
   obtain ⟨rfl,hbc⟩:=hcut
   obtain ⟨V3,hV3⟩:=gM (wc)
   subst hV3
   have HB3:=h_ (b_ HB2.out hbc)
   have HGD3:=h_ (HGD2.out.u_ hbc)
   have HMS3:=h_ (HMS.out.u_ hbc)
   have HEE:=h_ (show (if E3=0 then agB ls x y else E3)=E by
    rw[←HEQ.out.1]
    unfold agE
    rw[if_neg (show ¬evB e=false by rw[HEV.out];decide)]
    by_cases hz:E2=0
    ·have h3:addE (endX ls x) y=E3:=by rw[←HE3.out,if_pos hz]
     rw[if_neg (show ¬ngE ls x≠0 by rw[HE2.out,hz];simp),h3]
     by_cases hz3:E3=0
     ·rw[if_pos hz3,if_neg (by simp[hz3])]
     ·rw[if_neg hz3,if_pos hz3]
    ·have h3:E2=E3:=by rw[←HE3.out,if_neg hz]
     rw[if_pos (show ngE ls x≠0 by rw[HE2.out];exact hz),HE2.out,←h3,if_neg hz])
   have HE30:=h_ (show E3=0→E2=0∧addE (endX ls x) y=0 from fun h=>by
    have h3:=HE3.out
    by_cases hz:E2=0
    ·rw[if_pos hz]at h3;exact ⟨hz,h3.trans h⟩
    ·rw[if_neg hz]at h3;exact absurd (h3.trans h) hz)
   clear hbc
   go_upto_if 60 with fail
   go_cut [15,17,18,20,21] from 60 to 79 (fun ev wv kv _ _ wx=>ev=.int .i64 E∧(E=0→D_ wx wv D∧kv=.int .i64 O)∧Below V3.heap.size V3 wx)
   case first=>
    by_cases hz:E3=0
    ·obtain ⟨hz2,hae⟩:=HE30.out hz
     subst hz
     have HEB:=h_ (show agB ls x y=E by have h:=HEE.out;rw[if_pos rfl]at h;exact h)
     subst hz2
     have hng:ngE ls x=0:=HE2.out
     have hlen:(ngX ls x).length=N+1:=by unfold ngX;rw[if_pos hng,List.length_cons,runT_len,HNL.out]
     have hat:(ngX ls x)[N]?=some (endX ls x):=by unfold ngX;rw[if_pos hng,←HNL.out];exact endX_at ls x
     have hN12:N≤12:=by have:=((ngE_iff ls x).1 hng).1;rw[HNL.out]at this;omega
     have hLN:Lg=N+1:=HLG.out.symm.trans hlen
     obtain ⟨lb,lo,lk',ua,un,uk,ev,k0,k1,k2,hum⟩:=HMS3.out.at hat
     injection ev with ev1 ev2 ev3
     clear ev2 ev3
     subst ev1
     have HUM:=h_ hum
     obtain ⟨m,hm⟩:=gN (endX ls x)
     rw[hm]at k0 k1 HUM
     obtain ⟨mr,hmr⟩:=gN (m.rows)
     obtain ⟨mc,hmc⟩:=gN (m.cols)
     rw[hmr]at k0
     rw[hmc]at k1
     have hNi:(N:Int)≤12:=by omega
     have hNd:(N:Int)<(Lg:Int):=by omega
     have HSB6:Hid (∀W',Below V3.heap.size V3 W'→(fun W'=>W'.cell? ⟨lb,lo+N*3,none⟩=some (.int .i64 mr)∧W'.cell? ⟨lb,lo+N*3+1,none⟩=some (.int .i64 mc)∧W'.cell? ⟨lb,lo+N*3+2,none⟩=some (.slice ua un uk)∧W'.cell? ⟨w.heap.size+1,0,none⟩=some (.int .i64 yr)∧W'.cell? ⟨w.heap.size+1,1,none⟩=some (.int .i64 yc)∧W'.cell? ⟨w.heap.size+1,2,none⟩=some (.slice ya yn yk)) W'):=h_ (fun W' h=>by
      obtain ⟨_,_,_,q3,q4,q5⟩:=HSB.out W' (b_ HB3.out h)
      exact ⟨c_ h k0,c_ h k1,c_ h k2,q3,q4,q5⟩)
     obtain ⟨R,C,ga,gb⟩:=addE_good (hm▸hae)
     obtain ⟨z,hzz⟩:=gN (offX m y)
     obtain ⟨L,hL⟩:=gN (lossX m y)
     have HT6:=h_ (fun W (h:Below V3.heap.size V3 W)=>((rloss_any (.agg #[.int .i64 m.rows,.int .i64 m.cols,.slice ua un uk]) (.agg #[.int .i64 y.rows,.int .i64 y.cols,.slice ya yn yk]) m y R C W ga gb ⟨_,rfl,HUM.out.u_ h⟩ ⟨_,rfl,(HSY.out.u_ HB3.out).u_ h⟩).mono (R':=fun e wz=>∃ja jn jk,e=.returned (.tuple #[.int .i64 L,.agg #[.int .i64 z.rows,.int .i64 z.cols,.slice ja jn jk]])∧M_ wz (.agg #[.int .i64 z.rows,.int .i64 z.cols,.slice ja jn jk]) z∧Below W.heap.size W wz∧F_ W.heap.size (.agg #[.int .i64 z.rows,.int .i64 z.cols,.slice ja jn jk])) (by
      rw[hzz,hL]
      rintro e wz ⟨v',rfl,⟨s',rfl,hs'⟩,hb,hf⟩
      obtain ⟨ja,jn,jk,rfl⟩:=hs'.shape
      exact ⟨ja,jn,jk,rfl,⟨_,rfl,hs'⟩,hb,hf⟩)))
     rw[hmr,hmc,HXY.out.2.1,HXY.out.2.2]at HT6
     have HNB:=h_ (show nbE ls (ngX ls x) z=E∧(E=0→nbD ls (ngX ls x) z=D∧L=O) from ⟨by rw[←hzz,←hm,ag_nb hng hae];exact HEB.out,fun h=>by
      have h1:=ag_net (HEQ.out.1.trans h)
      rw[hm,hzz,HEQ.out.2.2.2]at h1
      refine ⟨h1.2,?_⟩
      rw[←HEQ.out.2.1,←hL,←hm]
      unfold agO
      rw[if_pos (HEQ.out.1.trans h)]⟩)
     clear hng hlen hat hum hm hmr hmc hN12 hLN ga gb hzz hL hae
     go_wp2_with fail
     have HT3:=h_ (HT6.out (V3.alloc (.cells #[.int .i64 0,.int .i64 0,.slice none 0 0] 25)).drew (d_ (a_ (Below.refl V3.heap.size V3))))
     have HT0:=h_ (HT6.out V3.drew (d_ (Below.refl V3.heap.size V3)))
     obtain ⟨lm0,lm1,lm2,lm3,lm4,lm5⟩:=HSB6.out V3 (Below.refl _ _)
     go_wp2
     go_cut [20,21] from 61 to 70 (fun ov a wx=>∃(Bk:Nat) (qa:Option Addr) (qn qk:Nat),a=.pointer (some ⟨Bk,0,none⟩)∧ov=.int .i64 L∧M_ wx (.agg #[.int .i64 z.rows,.int .i64 z.cols,.slice qa qn qk]) z∧Cells3 wx Bk (.int .i64 z.rows) (.int .i64 z.cols) (.slice qa qn qk)∧V3.heap.size≤Bk∧F_ V3.heap.size (.agg #[.int .i64 z.rows,.int .i64 z.cols,.slice qa qn qk])∧Below V3.heap.size V3 wx)
     case first=>
      go_region_held3 (fun W'=>W'.cell? ⟨lb,lo+N*3,none⟩=some (.int .i64 mr)∧W'.cell? ⟨lb,lo+N*3+1,none⟩=some (.int .i64 mc)∧W'.cell? ⟨lb,lo+N*3+2,none⟩=some (.slice ua un uk)∧W'.cell? ⟨w.heap.size+1,0,none⟩=some (.int .i64 yr)∧W'.cell? ⟨w.heap.size+1,1,none⟩=some (.int .i64 yc)∧W'.cell? ⟨w.heap.size+1,2,none⟩=some (.slice ya yn yk)) ((refine HSB6.out _ ?_;repeat' (first|with_reducible exact Below.refl _ _|with_reducible exact HB2.out|with_reducible refine d_ ?_|with_reducible refine a_ ?_|with_reducible refine t_ ?_ ?_|exact Nat.le_refl _|exact Nat.le_succ _|exact HB2.out.size|exact Nat.le_succ_of_le HB2.out.size)))
       (first
        |(go_at_call 7;guard_target=Calls _ _ _ (World.drew (World.alloc V3 (Obj.cells #[_,_,_] _))) _;refine HT3.out.mono ?_;rintro e wz ⟨ja,jn,jk,rfl,hm,hb2,hf⟩;have hc2:=b_ (r_ (Below.refl _ (V3.alloc (.cells #[.int .i64 0,.int .i64 0,.slice none 0 0] 25)))) hb2;have HB2:=h_ (show Below V3.heap.size V3 wz from b_ (o_ V3 (.cells #[.int .i64 0,.int .i64 0,.slice none 0 0] 25)) hc2);have ZB3:=h_ ((Box.new V3 [.int .i64 0,.int .i64 0,.slice none 0 0] 25 (B:=V3.heap.size) rfl).u_ hc2);have ZB3l:=h_ (Box.new V3 [.int .i64 0,.int .i64 0,.slice none 0 0] 25 (B:=V3.heap.size) rfl).lt;have ZF3:=h_ ((Free.new V3 #[.int .i64 0,.int .i64 0,.slice none 0 0] 25 (B:=V3.heap.size) rfl).u_ hc2 ZB3l.out);obtain ⟨z30,z31,z32⟩:=ZB3.out.c3;obtain ⟨f30,f31,f32⟩:=ZF3.out.f3;have HEa:Hid (Cells3 (((wz.setCell ⟨V3.heap.size,0,none⟩ (.int .i64 z.rows)).setCell ⟨V3.heap.size,1,none⟩ (.int .i64 z.cols)).setCell ⟨V3.heap.size,2,none⟩ (.slice ja jn jk)) V3.heap.size (.int .i64 z.rows) (.int .i64 z.cols) (.slice ja jn jk)):=h_ (c__ (set_three ZB3.out _ _ _));have HF:=h_ (show F_ (V3.heap.size+1) (.agg #[.int .i64 z.rows,.int .i64 z.cols,.slice ja jn jk]) from f_ hf (szd1 _ _));have HG:=h_ (f_ HF.out (Nat.le_succ _));have HNb:=h_ (Nat.le_refl V3.heap.size);clear hc2;have HN:=h_ hm;clear hb2 hm hf)
        |(go_at_call 7;guard_target=Calls _ _ _ (World.drew V3) _;refine HT0.out.mono ?_;rintro e wz ⟨ja,jn,jk,rfl,hm,hb2,hf⟩;have hc2:=b_ (r_ (Below.refl _ V3)) hb2;have HB2:=h_ (show Below V3.heap.size V3 wz from hc2);have HEa:Hid (Cells3 (wz.alloc (.cells #[.int .i64 z.rows,.int .i64 z.cols,.slice ja jn jk] 25)) wz.heap.size (.int .i64 z.rows) (.int .i64 z.cols) (.slice ja jn jk)):=h_ (c__ (Box.new wz [.int .i64 z.rows,.int .i64 z.cols,.slice ja jn jk] 25 rfl));have HF:=h_ (show F_ V3.heap.size (.agg #[.int .i64 z.rows,.int .i64 z.cols,.slice ja jn jk]) from hf);have HG:=HF;have HNb:=h_ HB2.out.size;clear hc2;have HN:=h_ hm;clear hb2 hm hf))
      all_goals go_wp2
      all_goals go_meet
      all_goals
       refine ⟨_,ja,jn,jk,rfl,rfl,?_,?_,HNb.out,HG.out,?_⟩
       ·(refine HN.out.above HF.out ?_;repeat' (first|with_reducible exact Above.refl _ _|with_reducible refine abv_drew ?_|with_reducible refine abv_alloc ?_|with_reducible refine v_ ?_ (by omega)))
       ·with_reducible exact HEa.out
       ·repeat' (first|with_reducible exact Below.refl _ _|with_reducible exact HB2.out|with_reducible refine d_ ?_|with_reducible refine a_ ?_|with_reducible refine t_ ?_ ?_|exact Nat.le_refl _|exact Nat.le_succ _|exact HB2.out.size|exact Nat.le_succ_of_le HB2.out.size)
     case rest=>
      obtain ⟨Bk,ja,jn,jk,rfl,rfl,hmx,⟨c0,c1,c2⟩,hBk,hfq,hbc⟩:=hcut
      have HRN:=h_ (rnetback_any (.slice va N vk) (.slice (some ⟨lb,lo,none⟩) Lg lk) (.agg #[.int .i64 z.rows,.int .i64 z.cols,.slice ja jn jk]) ls (ngX ls x) z wc (HL.out.u_ (b_ HB3.out hbc)) (HMS3.out.u_ hbc) hmx)
      rw[HNB.out.1]at HRN
      have HBC:=h_ hbc
      clear HT6 HSB6 HT0 HT3 lm0 lm1 lm2 lm3 lm4 lm5 hmx hBk hfq hbc
      go_wp2_with fail
      refine HRN.out.mono ?_
      rintro r V7 ⟨sx,vd,rfl,_,hown,hb7⟩
      have hgd:D_ V7 vd (nbD ls (ngX ls x) z):=hown.reads
      have HF:=h_ (show (E=0→D_ V7 vd D∧L=O) from fun h=>by have h1:=HNB.out.2 h;rw[h1.1]at hgd;exact ⟨hgd,h1.2⟩)
      have HB7:=h_ (b_ HBC.out hb7)
      clear HRN hown hb7 hgd c0 c1 c2
      go_wp2
      go_meet
      exact ⟨rfl,fun h=>⟨(HF.out h).1,by rw[(HF.out h).2]⟩,HB7.out⟩
    ·have n1:(E3==0)=false:=by simpa using hz
     have HEA:=h_ (show E3=E∧E≠0 by have h:=HEE.out;rw[if_neg hz]at h;exact ⟨h,h▸hz⟩)
     clear hz
     go_wp2
     go_meet
     exact ⟨by rw[HEA.out.1],fun h=>absurd h HEA.out.2,Below.refl _ _⟩
   case rest=>
    obtain ⟨rfl,hgk,hbc⟩:=hcut
    obtain ⟨V4,hV4⟩:=gM (wc)
    subst hV4
    have HB4:=h_ (b_ HB3.out hbc)
    have HGK:=h_ hgk
    have HGD4:=h_ (HGD3.out.u_ hbc)
    clear hgk hbc
    go_upto_if 81 with fail
    go_cut [17,18,19] from 81 to 85 (fun wv kv mv wx=>D_ wx wv D∧kv=.int .i64 O∧mv=.int .i64 Mo∧wx=V4)
    case first=>
     by_cases hz:E=0
     ·subst hz
      obtain ⟨hgd,rfl⟩:=HGK.out rfl
      have hN12:N≤12:=by have h:=(ag_ok HEQ.out.1).2.1;have h1:=((ngE_iff ls x).1 h).1;rw[HNL.out]at h1;omega
      have hMo:(mostN e.toNat N:Int)=Mo:=by rw[←HEQ.out.2.2.1];unfold agM;rw[if_pos HEQ.out.1,HNL.out]
      have HRM:=h_ (rmost_any e.toNat N V4 (by omega) (by omega) hN12)
      rw[Int.toNat_of_nonneg (show 0≤e by omega),hMo]at HRM
      have HGE:=h_ hgd
      clear hgd hN12 hMo
      go_wp2_with fail
      refine HRM.out.mono ?_
      rintro r w' ⟨rfl,rfl⟩
      clear HRM
      go_wp2
      go_meet
      exact ⟨HGE.out,rfl,rfl,rfl⟩
     ·have n1:(E==0)=false:=by simpa using hz
      obtain ⟨rfl,rfl,rfl⟩:=HNO.out hz
      clear hz
      go_wp2
      go_meet
      exact ⟨(Owns.nil 0 0 V4 0 6).reads,rfl,rfl,rfl⟩
    case rest=>
     obtain ⟨hgw,rfl,rfl,rfl⟩:=hcut
     obtain ⟨V5,hV5⟩:=gM (wc)
     subst hV5
     have HGW:=h_ hgw
     clear hgw
     have HEC:=h_ (error_same (k:=E) (n:=E) rfl V5 (HH.out.u_ HB4.out))
     go_wp2_with fail
     refine HEC.out.mono ?_
     rintro r V6 ⟨rfl,hb6⟩
     have HGC:=h_ (gds_same (.slice da dn dk) u17 D V6 (HGD4.out.u_ hb6) (HGW.out.u_ hb6))
     have HB6:=h_ (b_ HB4.out hb6)
     clear HEC hb6
     go_wp2_with fail
     refine HGC.out.mono ?_
     rintro r V8 ⟨rfl,hb8⟩
     have HB8:=h_ (b_ HB6.out hb8)
     clear HGC hb8
     have HMA:=h_ (agmost_any a e V8)
     by_cases ha:a<0∨12<a
     ·have hmE:mostE a e=1:=by unfold mostE;rw[if_pos (by rcases ha with h|h;exact .inl h;exact .inr (.inl h))]
      have hmX:mostX a e=0:=by unfold mostX;rw[hmE];rfl
      rw[hmE,hmX]at HMA
      clear hmE hmX
      have HE1:=h_ (error_same (k:=1) (n:=1) rfl V8 (HH.out.u_ HB8.out))
      rcases ha with ha|ha
      ·go_wp2_with fail
       refine HMA.out.mono ?_
       rintro r w' ⟨rfl,rfl⟩
       clear HMA
       go_wp2_with fail
       refine HE1.out.mono ?_
       rintro r V9 ⟨rfl,hb9⟩
       have HB9:=h_ (b_ HB8.out hb9)
       clear HE1 hb9
       go_wp2
       go_ret
       exact ⟨rfl,b_ HWV.out HB9.out⟩
      ·have ha0:¬a<0:=by omega
       go_wp2_with fail
       refine HMA.out.mono ?_
       rintro r w' ⟨rfl,rfl⟩
       clear HMA
       go_wp2_with fail
       refine HE1.out.mono ?_
       rintro r V9 ⟨rfl,hb9⟩
       have HB9:=h_ (b_ HB8.out hb9)
       clear HE1 hb9
       go_wp2
       go_ret
       exact ⟨rfl,b_ HWV.out HB9.out⟩
     ·have ha0:0≤a:=by omega
      have ha1:a≤12:=by omega
      have hmE:mostE a e=0:=by unfold mostE;rw[if_neg];rintro (h|h|h);omega;omega;rw[HEV.out]at h;cases h
      have hmX:mostX a e=(mostN e.toNat a.toNat:Int):=by unfold mostX;rw[if_pos hmE]
      rw[hmE,hmX,e_ rfl]at HMA
      have HRM:=h_ (rmost_any e.toNat a.toNat V8 (by omega) (by omega) (by omega))
      rw[Int.toNat_of_nonneg (show 0≤e by omega),Int.toNat_of_nonneg ha0]at HRM
      obtain ⟨Q,hQ⟩:=gN (mostN e.toNat a.toNat)
      rw[hQ]at HMA HRM
      clear ha hmE hmX hQ
      go_wp2_with fail
      refine HMA.out.mono ?_
      rintro r w' ⟨rfl,rfl⟩
      clear HMA
      go_wp2_with fail
      refine HRM.out.mono ?_
      rintro r w' ⟨rfl,rfl⟩
      clear HRM
      go_wp2
      go_ret
      exact ⟨rfl,b_ HWV.out HB8.out⟩
 ·have hev':evB e=false:=by simpa using hev
  obtain rfl:E=1:=by rw[←HEQ.out.1];unfold agE;rw[if_pos hev']
  obtain ⟨rfl,rfl,rfl⟩:=HNO.out (by decide)
  have hE1:mostE a e=1:=by unfold mostE;rw[if_pos (.inr (.inr hev'))]
  have hX1:mostX a e=0:=by unfold mostX;rw[hE1];rfl
  have hne:e<1∨12<e:=by
   rcases Int.lt_or_le e 1 with h|h
   ·exact .inl h
   ·rcases Int.lt_or_le 12 e with h'|h'
    ·exact .inr h'
    ·exact absurd (ev_of h h') hev
  have HMA:=h_ (fun W=>agmost_any a e W)
  rw[hE1,hX1]at HMA
  have HEC:=h_ (error_same (k:=1) (n:=1) rfl V1 (HH.out.u_ HB1.out))
  have HGC:=h_ (fun W (h:Below V1.heap.size V1 W)=>gds_same (.slice da dn dk) (.slice none 0 0) [] W (HGD.out.u_ h) (Owns.nil 0 0 W 0 6).reads)
  have HE1:=h_ (fun W (h:Below V.heap.size V W)=>error_same (k:=1) (n:=1) rfl W (HH.out.u_ h))
  clear hE1 hX1 hev hev'
  rcases hne with hne|hne
  ·go_wp2_with fail
   refine HEC.out.mono ?_
   rintro r V6 ⟨rfl,hb6⟩
   have HB6:=h_ hb6
   clear HEC hb6
   go_wp2_with fail
   refine (HGC.out V6 HB6.out).mono ?_
   rintro r V8 ⟨rfl,hb8⟩
   have HB8:=h_ (b_ HB1.out (b_ HB6.out hb8))
   clear HGC hb8
   go_wp2_with fail
   refine (HMA.out V8).mono ?_
   rintro r w' ⟨rfl,rfl⟩
   obtain ⟨V9,hV9⟩:=gM (w')
   subst hV9
   clear HMA
   go_wp2_with (go_at_call 10;refine (HE1.out _ HB8.out).mono ?_;rintro r V10 ⟨rfl,hb10⟩;have HB10:=h_ (b_ HB8.out hb10);clear hb10)
   all_goals
    go_wp2
    go_ret
    exact ⟨rfl,b_ HWV.out HB10.out⟩
  ·have hne0:¬e<1:=by omega
   go_wp2_with fail
   refine HEC.out.mono ?_
   rintro r V6 ⟨rfl,hb6⟩
   have HB6:=h_ hb6
   clear HEC hb6
   go_wp2_with fail
   refine (HGC.out V6 HB6.out).mono ?_
   rintro r V8 ⟨rfl,hb8⟩
   have HB8:=h_ (b_ HB1.out (b_ HB6.out hb8))
   clear HGC hb8
   go_wp2_with fail
   refine (HMA.out V8).mono ?_
   rintro r w' ⟨rfl,rfl⟩
   obtain ⟨V9,hV9⟩:=gM (w')
   subst hV9
   clear HMA
   go_wp2_with (go_at_call 10;refine (HE1.out _ HB8.out).mono ?_;rintro r V10 ⟨rfl,hb10⟩;have HB10:=h_ (b_ HB8.out hb10);clear hb10)
   all_goals
    go_wp2
    go_ret
    exact ⟨rfl,b_ HWV.out HB10.out⟩
end Go.Proofs.YtpniemnfdleiiajGreatDoor
