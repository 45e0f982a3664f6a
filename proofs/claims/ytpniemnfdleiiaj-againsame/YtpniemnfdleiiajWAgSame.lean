/- The walk of the law AgainSame: whatever is kept, what goes back is the same, and no more is kept than all. -/
import Derived.Test.YtpniemnfdleiiajPkLsLaw
namespace Go.Proofs.Ytpniemnfdleiiaj
open Go.RowKit
theorem most42:mostX 4 2=4∧mostE 4 2=0:=by decide+kernel
set_option maxHeartbeats 16000000 in
set_option maxRecDepth 100000 in
theorem agsame_walk(v:Value)(ls:List Ly)(vx:Value)(x:Mx)(vy:Value)(y:Mx)(a b:Int)(w:World)(hv:Y_ w v ls)(hx:M_ w vx x)(hy:M_ w vy y)(ha:(Lit.int .i64 a).wf=true)(hb:(Lit.int .i64 b).wf=true):
  Calls Try.prog 3 #[v,vx,vy,.int .i64 a,.int .i64 b] w fun e w'=>e=.returned (.bool true)∧Below w.heap.size w w':=by
 obtain ⟨va,vk,rfl,_,_⟩:=hv.shape
 obtain ⟨sx,rfl,hsx⟩:=hx
 obtain ⟨xa,xn,xk,rfl⟩:=hsx.shape
 obtain ⟨sy,rfl,hsy⟩:=hy
 obtain ⟨ya,yn,yk,rfl⟩:=hsy.shape
 have hab:-9223372036854775808≤a∧a≤9223372036854775807:=bounds_i64 ha
 have hbb:-9223372036854775808≤b∧b≤9223372036854775807:=bounds_i64 hb
 obtain ⟨N,hN⟩:=gN (ls.length)
 rw[hN]at hv ⊢
 obtain ⟨V,hV⟩:=gM ((w.alloc (.cells #[.int .i64 x.rows,.int .i64 x.cols,.slice xa xn xk] 25)).alloc (.cells #[.int .i64 y.rows,.int .i64 y.cols,.slice ya yn yk] 25))
 have HV:=h_ hV
 have HWV:Hid (Below w.heap.size w V):=by rw[hV];exact h_ (a_ (o_ _ _))
 have HBX:Hid (Blk V w.heap.size #[.int .i64 x.rows,.int .i64 x.cols,.slice xa xn xk] 25):=by rw[hV];exact h_ ((Blk.new w _ _ rfl).alloc _)
 have HBY:Hid (Blk V (w.heap.size+1) #[.int .i64 y.rows,.int .i64 y.cols,.slice ya yn yk] 25):=by rw[hV];exact h_ (Blk.new _ _ _ (by simp))
 have HM:=h_ (agmost_any 4 2 V)
 rw[most42.1,most42.2,e_ rfl]at HM
 have HPA:=h_ (fun W=>pick_any a 12 W hab.1 hab.2 (by decide) (by decide))
 have HPB:=h_ (fun W=>pick_any b 12 W hbb.1 hbb.2 (by decide) (by decide))
 have HL:=h_ (hv.u_ HWV.out)
 have HSX:=h_ (hsx.u_ HWV.out)
 have HSY:=h_ (hsy.u_ HWV.out)
 have HNL:=h_ hN
 have HAG:=h_ (fun W (h:Below V.heap.size V W) (k:Int)=>again_any (.slice va N vk) (.agg #[.int .i64 x.rows,.int .i64 x.cols,.slice xa xn xk]) (.agg #[.int .i64 y.rows,.int .i64 y.cols,.slice ya yn yk]) ls x y k W (HL.out.u_ h) ⟨_,rfl,HSX.out.u_ h⟩ ⟨_,rfl,HSY.out.u_ h⟩)
 obtain ⟨xr,hxr⟩:=gN (x.rows)
 obtain ⟨xc,hxc⟩:=gN (x.cols)
 obtain ⟨yr,hyr⟩:=gN (y.rows)
 obtain ⟨yc,hyc⟩:=gN (y.cols)
 have HXY:=h_ (And.intro (And.intro hxr hxc) (And.intro hyr hyc))
 rw[hxr,hxc,hyr,hyc]at HAG HV ⊢
 rw[hxr,hxc]at HBX
 rw[hyr,hyc]at HBY
 have HSB:Hid (∀W',Below V.heap.size V W'→(fun W'=>W'.cell? ⟨w.heap.size,0,none⟩=some (.int .i64 xr)∧W'.cell? ⟨w.heap.size,1,none⟩=some (.int .i64 xc)∧W'.cell? ⟨w.heap.size,2,none⟩=some (.slice xa xn xk)∧W'.cell? ⟨w.heap.size+1,0,none⟩=some (.int .i64 yr)∧W'.cell? ⟨w.heap.size+1,1,none⟩=some (.int .i64 yc)∧W'.cell? ⟨w.heap.size+1,2,none⟩=some (.slice ya yn yk)) W'):=h_ (fun W' h=>⟨(HBX.out.u_ h).cell (j:=0) rfl,(HBX.out.u_ h).cell (j:=1) rfl,(HBX.out.u_ h).cell (j:=2) rfl,(HBY.out.u_ h).cell (j:=0) rfl,(HBY.out.u_ h).cell (j:=1) rfl,(HBY.out.u_ h).cell (j:=2) rfl⟩)
 clear hv hsx hsy hV hN hxr hxc hyr hyc ha hb hab hbb
 go_enter Try.func3,Try.ntmps3
 go_wp2_with (go_at_call 4;rw[←HV.out];refine HM.out.mono ?_;rintro r w' ⟨rfl,rfl⟩)
 obtain ⟨V,hVV⟩:=gM (w')
 subst hVV
 go_cut [12,13,14,15] from 35 to 46 (fun ev dv ov mv wx=>∃k:Nat,k<12∧ev=errV (agE ls x y (1+(k:Int)))∧D_ wx dv (agD ls x y (1+(k:Int)))∧ov=.int .i64 (agO ls x y (1+(k:Int)))∧mv=.int .i64 (agM ls x y (1+(k:Int)))∧Below V.heap.size V wx)
 case first=>
  obtain ⟨lm0,lm1,lm2,lm3,lm4,lm5⟩:=HSB.out V (Below.refl _ _)
  go_region_held3 (fun W'=>W'.cell? ⟨w.heap.size,0,none⟩=some (.int .i64 xr)∧W'.cell? ⟨w.heap.size,1,none⟩=some (.int .i64 xc)∧W'.cell? ⟨w.heap.size,2,none⟩=some (.slice xa xn xk)∧W'.cell? ⟨w.heap.size+1,0,none⟩=some (.int .i64 yr)∧W'.cell? ⟨w.heap.size+1,1,none⟩=some (.int .i64 yc)∧W'.cell? ⟨w.heap.size+1,2,none⟩=some (.slice ya yn yk))
   ((refine HSB.out _ ?_;repeat' (first|with_reducible exact Below.refl _ _|with_reducible refine d_ ?_|with_reducible refine b_ ?_ hbz)))
   (first
    |(go_at_call 6;refine (HPA.out _).mono ?_;rintro e wz ⟨k,rfl,hk,rfl⟩;have hwk:IntKind.i64.wrap (1+(k:Int))=1+(k:Int):=(by rw[IntKind.wrap_i64];omega))
    |(go_at_call 5;refine (HAG.out _ (by repeat' (first|with_reducible exact Below.refl _ _|with_reducible refine d_ ?_)) _).mono ?_;rintro e wz ⟨vd,rfl,hgd,hbz⟩))
  all_goals go_wp2
  all_goals go_meet
  all_goals
   refine ⟨k,by omega,rfl,hgd,rfl,rfl,?_⟩
   repeat' (first|with_reducible exact Below.refl _ _|with_reducible refine d_ ?_|with_reducible refine b_ ?_ hbz)
 case rest=>
  obtain ⟨k,hk,rfl,hgd,rfl,rfl,hbc⟩:=hcut
  obtain ⟨V2,hV2⟩:=gM (wc)
  subst hV2
  have HK:=h_ hk
  have HGD:=h_ hgd
  have HB2:=h_ hbc
  clear hk hgd hbc
  go_wp2_with fail
  go_cut [16,17,18,19] from 47 to 58 (fun dv ov mv ev wx=>∃k':Nat,k'<12∧ev=errV (agE ls x y (1+(k':Int)))∧D_ wx dv (agD ls x y (1+(k':Int)))∧ov=.int .i64 (agO ls x y (1+(k':Int)))∧mv=.int .i64 (agM ls x y (1+(k':Int)))∧Below V2.heap.size V2 wx)
  case first=>
   have HSB2:Hid (∀W',Below V2.heap.size V2 W'→(fun W'=>W'.cell? ⟨w.heap.size,0,none⟩=some (.int .i64 xr)∧W'.cell? ⟨w.heap.size,1,none⟩=some (.int .i64 xc)∧W'.cell? ⟨w.heap.size,2,none⟩=some (.slice xa xn xk)∧W'.cell? ⟨w.heap.size+1,0,none⟩=some (.int .i64 yr)∧W'.cell? ⟨w.heap.size+1,1,none⟩=some (.int .i64 yc)∧W'.cell? ⟨w.heap.size+1,2,none⟩=some (.slice ya yn yk)) W'):=h_ (fun W' h=>HSB.out W' (b_ HB2.out h))
   obtain ⟨lm0,lm1,lm2,lm3,lm4,lm5⟩:=HSB2.out V2 (Below.refl _ _)
   go_region_held3 (fun W'=>W'.cell? ⟨w.heap.size,0,none⟩=some (.int .i64 xr)∧W'.cell? ⟨w.heap.size,1,none⟩=some (.int .i64 xc)∧W'.cell? ⟨w.heap.size,2,none⟩=some (.slice xa xn xk)∧W'.cell? ⟨w.heap.size+1,0,none⟩=some (.int .i64 yr)∧W'.cell? ⟨w.heap.size+1,1,none⟩=some (.int .i64 yc)∧W'.cell? ⟨w.heap.size+1,2,none⟩=some (.slice ya yn yk))
    ((refine HSB2.out _ ?_;repeat' (first|with_reducible exact Below.refl _ _|with_reducible refine d_ ?_|with_reducible refine b_ ?_ hbz)))
    (first
     |(go_at_call 6;refine (HPB.out _).mono ?_;rintro e wz ⟨k',rfl,hk',rfl⟩;have hwk:IntKind.i64.wrap (1+(k':Int))=1+(k':Int):=(by rw[IntKind.wrap_i64];omega))
     |(go_at_call 5;refine (HAG.out _ (b_ HB2.out (by repeat' (first|with_reducible exact Below.refl _ _|with_reducible refine d_ ?_))) _).mono ?_;rintro e wz ⟨vd,rfl,hgd,hbz⟩))
   all_goals go_wp2
   all_goals go_meet
   all_goals
    refine ⟨k',by omega,rfl,hgd,rfl,rfl,?_⟩
    repeat' (first|with_reducible exact Below.refl _ _|with_reducible refine d_ ?_|with_reducible refine b_ ?_ hbz)
  case rest=>
   obtain ⟨k',hk',rfl,hgd',rfl,rfl,hbc⟩:=hcut
   obtain ⟨V3,hV3⟩:=gM (wc)
   subst hV3
   have hev1:evB (1+(k:Int))=true:=ev_of (by omega) (by have:=HK.out;omega)
   have hev2:evB (1+(k':Int))=true:=ev_of (by omega) (by omega)
   obtain ⟨eE,eO,eD⟩:=ag_same (ls:=ls) (x:=x) (y:=y) hev2 hev1
   rw[eE,eO]
   rw[eD]at hgd'
   have eM:agE ls x y (1+(k:Int))=0→(1≤agM ls x y (1+(k:Int))∧agM ls x y (1+(k:Int))≤(N:Int)+1)∧(1≤agM ls x y (1+(k':Int))∧agM ls x y (1+(k':Int))≤(N:Int)+1):=fun h=>by
    have h1:=ag_most h
    have h2:=ag_most (eE.trans h)
    rw[HNL.out]at h1 h2
    exact ⟨h1,h2⟩
   have eF:agE ls x y (1+(k:Int))=0→N≤12∧ngE ls x=0∧addE (endX ls x) y=0∧nbE ls (ngX ls x) (offX (endX ls x) y)=0∧nbD ls (ngX ls x) (offX (endX ls x) y)=agD ls x y (1+(k:Int)):=fun h=>by
    obtain ⟨_,h1,h2,_⟩:=ag_ok h
    have h3:=((ngE_iff ls x).1 h1).1
    rw[HNL.out]at h3
    exact ⟨by omega,h1,h2,(ag_net h).1,(ag_net h).2⟩
   obtain ⟨E,hE⟩:=gN (agE ls x y (1+(k:Int)))
   obtain ⟨O,hO⟩:=gN (agO ls x y (1+(k:Int)))
   obtain ⟨M1,hM1⟩:=gN (agM ls x y (1+(k:Int)))
   obtain ⟨M2,hM2⟩:=gN (agM ls x y (1+(k':Int)))
   obtain ⟨D,hD⟩:=gN (agD ls x y (1+(k:Int)))
   rw[hE,hM1,hM2]at eM
   rw[hE,hD]at eF
   rw[hD]at hgd' HGD
   rw[hE,hO,hM1,hM2]
   have HB3:=h_ (b_ HB2.out hbc)
   have HG1:=h_ (HGD.out.u_ hbc)
   have HG2:=h_ hgd'
   have HEM:=h_ eM
   have HEF:=h_ eF
   clear hk' hgd' hbc hev1 hev2 eE eO eD eM eF hE hO hM1 hM2 hD
   by_cases h0:E=0
   ·subst h0
    rw[e_ rfl]
    obtain ⟨⟨m1,m2⟩,m3,m4⟩:=HEM.out rfl
    obtain ⟨hN12,hng,hae,hnb,hnd⟩:=HEF.out rfl
    have hN12i:(N:Int)≤12:=by omega
    have HC:=h_ (gds_same _ _ D V3 HG1.out HG2.out)
    have HNG:=h_ (And.intro hng (And.intro hae (And.intro hnb hnd)))
    clear hN12 hng hae hnb hnd
    go_wp2_with fail
    refine HC.out.mono ?_
    rintro e V4 ⟨rfl,hb4⟩
    have HB4:=h_ (b_ HB3.out hb4)
    have hg1:=HG1.out.u_ hb4
    have HG4:=h_ hg1
    clear HC hb4 hg1
    obtain ⟨lm0,lm1,lm2,lm3,lm4,lm5⟩:=HSB.out V4 HB4.out
    have HGO:=h_ (netgo_any (.slice va N vk) (.agg #[.int .i64 x.rows,.int .i64 x.cols,.slice xa xn xk]) ls x V4 (HL.out.u_ HB4.out) ⟨_,rfl,HSX.out.u_ HB4.out⟩)
    rw[HNG.out.1,e_ rfl,HXY.out.1.1,HXY.out.1.2]at HGO
    go_wp2_with fail
    refine HGO.out.mono ?_
    rintro e V5 ⟨vl,rfl,hms,hb5⟩
    have HB5:=h_ (b_ HB4.out hb5)
    have HG5:=h_ (HG4.out.u_ hb5)
    clear HGO lm0 lm1 lm2 lm3 lm4 lm5 hb5
    have hlen:(ngX ls x).length=N+1:=by unfold ngX;rw[if_pos HNG.out.1,List.length_cons,runT_len,HNL.out]
    have hat:(ngX ls x)[N]?=some (endX ls x):=by unfold ngX;rw[if_pos HNG.out.1,←HNL.out];exact endX_at ls x
    obtain ⟨lb,lo,lk,ua,un,uk,rfl,k0,k1,k2,hum⟩:=hms.at hat
    rw[hlen]
    have HMS:=h_ hms
    rw[hlen]at HMS
    have HUM:=h_ hum
    obtain ⟨m,hm⟩:=gN (endX ls x)
    obtain ⟨z,hz⟩:=gN (offX m y)
    rw[hm]at k0 k1 HUM HNG
    rw[hz]at HNG
    obtain ⟨mr,hmr⟩:=gN (m.rows)
    obtain ⟨mc,hmc⟩:=gN (m.cols)
    rw[hmr]at k0
    rw[hmc]at k1
    have HSB5:Hid (∀W',Below V5.heap.size V5 W'→(fun W'=>W'.cell? ⟨lb,lo+N*3,none⟩=some (.int .i64 mr)∧W'.cell? ⟨lb,lo+N*3+1,none⟩=some (.int .i64 mc)∧W'.cell? ⟨lb,lo+N*3+2,none⟩=some (.slice ua un uk)∧W'.cell? ⟨w.heap.size+1,0,none⟩=some (.int .i64 yr)∧W'.cell? ⟨w.heap.size+1,1,none⟩=some (.int .i64 yc)∧W'.cell? ⟨w.heap.size+1,2,none⟩=some (.slice ya yn yk)) W'):=h_ (fun W' h=>by
     obtain ⟨_,_,_,q3,q4,q5⟩:=HSB.out W' (b_ HB5.out h)
     exact ⟨c_ h k0,c_ h k1,c_ h k2,q3,q4,q5⟩)
    have HT5:=h_ (fun W (h:Below V5.heap.size V5 W)=>((lsback_any (.agg #[.int .i64 m.rows,.int .i64 m.cols,.slice ua un uk]) (.agg #[.int .i64 y.rows,.int .i64 y.cols,.slice ya yn yk]) m y W ⟨_,rfl,HUM.out.u_ h⟩ ⟨_,rfl,(HSY.out.u_ HB5.out).u_ h⟩).mono (R':=fun e wz=>∃ja jn jk,e=.returned (.tuple #[.agg #[.int .i64 z.rows,.int .i64 z.cols,.slice ja jn jk],.nilIface])∧M_ wz (.agg #[.int .i64 z.rows,.int .i64 z.cols,.slice ja jn jk]) z∧Below W.heap.size W wz∧F_ W.heap.size (.agg #[.int .i64 z.rows,.int .i64 z.cols,.slice ja jn jk])) (by
     rw[HNG.out.2.1,hz]
     rintro e wz ⟨v',rfl,⟨s',rfl,hs'⟩,hb,hf⟩
     obtain ⟨ja,jn,jk,rfl⟩:=hs'.shape
     exact ⟨ja,jn,jk,by rw[e_ rfl],⟨_,rfl,hs'⟩,hb,hf⟩)))
    rw[hmr,hmc,HXY.out.2.1,HXY.out.2.2]at HT5
    have hNb:((N:Int)+1 !=(N:Int)+1)=false:=by simp
    have hNc:((N+1:Nat):Int)=(N:Int)+1:=by omega
    have hNd:(N:Int)<(N:Int)+1:=by omega
    clear hlen hat k0 k1 k2 hum hms hm hz hmr hmc
    go_wp2_with fail
    have HT3:=h_ (HT5.out (V5.alloc (.cells #[.int .i64 0,.int .i64 0,.slice none 0 0] 25)).drew (d_ (a_ (Below.refl V5.heap.size V5))))
    have HT0:=h_ (HT5.out V5.drew (d_ (Below.refl V5.heap.size V5)))
    obtain ⟨lm0,lm1,lm2,lm3,lm4,lm5⟩:=HSB5.out V5 (Below.refl _ _)
    go_wp2
    go_cut [22,12] from 116 to 124 (fun a ev wx=>∃(Bk:Nat) (qa:Option Addr) (qn qk:Nat),a=.pointer (some ⟨Bk,0,none⟩)∧ev=.nilIface∧M_ wx (.agg #[.int .i64 z.rows,.int .i64 z.cols,.slice qa qn qk]) z∧Cells3 wx Bk (.int .i64 z.rows) (.int .i64 z.cols) (.slice qa qn qk)∧V5.heap.size≤Bk∧F_ V5.heap.size (.agg #[.int .i64 z.rows,.int .i64 z.cols,.slice qa qn qk])∧Below V5.heap.size V5 wx)
    case first=>
     go_region_held3 (fun W'=>W'.cell? ⟨lb,lo+N*3,none⟩=some (.int .i64 mr)∧W'.cell? ⟨lb,lo+N*3+1,none⟩=some (.int .i64 mc)∧W'.cell? ⟨lb,lo+N*3+2,none⟩=some (.slice ua un uk)∧W'.cell? ⟨w.heap.size+1,0,none⟩=some (.int .i64 yr)∧W'.cell? ⟨w.heap.size+1,1,none⟩=some (.int .i64 yc)∧W'.cell? ⟨w.heap.size+1,2,none⟩=some (.slice ya yn yk)) ((refine HSB5.out _ ?_;repeat' (first|with_reducible exact Below.refl _ _|with_reducible exact HB2.out|with_reducible refine d_ ?_|with_reducible refine a_ ?_|with_reducible refine t_ ?_ ?_|exact Nat.le_refl _|exact Nat.le_succ _|exact HB2.out.size|exact Nat.le_succ_of_le HB2.out.size)))
      (first
       |(go_at_call 9;guard_target=Calls _ _ _ (World.drew (World.alloc V5 (Obj.cells #[_,_,_] _))) _;refine HT3.out.mono ?_;rintro e wz ⟨ja,jn,jk,rfl,hm,hb2,hf⟩;have hc2:=b_ (r_ (Below.refl _ (V5.alloc (.cells #[.int .i64 0,.int .i64 0,.slice none 0 0] 25)))) hb2;have HB2:=h_ (show Below V5.heap.size V5 wz from b_ (o_ V5 (.cells #[.int .i64 0,.int .i64 0,.slice none 0 0] 25)) hc2);have ZB3:=h_ ((Box.new V5 [.int .i64 0,.int .i64 0,.slice none 0 0] 25 (B:=V5.heap.size) rfl).u_ hc2);have ZB3l:=h_ (Box.new V5 [.int .i64 0,.int .i64 0,.slice none 0 0] 25 (B:=V5.heap.size) rfl).lt;have ZF3:=h_ ((Free.new V5 #[.int .i64 0,.int .i64 0,.slice none 0 0] 25 (B:=V5.heap.size) rfl).u_ hc2 ZB3l.out);obtain ⟨z30,z31,z32⟩:=ZB3.out.c3;obtain ⟨f30,f31,f32⟩:=ZF3.out.f3;have HEa:Hid (Cells3 (((wz.setCell ⟨V5.heap.size,0,none⟩ (.int .i64 z.rows)).setCell ⟨V5.heap.size,1,none⟩ (.int .i64 z.cols)).setCell ⟨V5.heap.size,2,none⟩ (.slice ja jn jk)) V5.heap.size (.int .i64 z.rows) (.int .i64 z.cols) (.slice ja jn jk)):=h_ (c__ (set_three ZB3.out _ _ _));have HF:=h_ (show F_ (V5.heap.size+1) (.agg #[.int .i64 z.rows,.int .i64 z.cols,.slice ja jn jk]) from f_ hf (szd1 _ _));have HG:=h_ (f_ HF.out (Nat.le_succ _));have HNb:=h_ (Nat.le_refl V5.heap.size);clear hc2;have HN:=h_ hm;clear hb2 hm hf)
       |(go_at_call 9;guard_target=Calls _ _ _ (World.drew V5) _;refine HT0.out.mono ?_;rintro e wz ⟨ja,jn,jk,rfl,hm,hb2,hf⟩;have hc2:=b_ (r_ (Below.refl _ V5)) hb2;have HB2:=h_ (show Below V5.heap.size V5 wz from hc2);have HEa:Hid (Cells3 (wz.alloc (.cells #[.int .i64 z.rows,.int .i64 z.cols,.slice ja jn jk] 25)) wz.heap.size (.int .i64 z.rows) (.int .i64 z.cols) (.slice ja jn jk)):=h_ (c__ (Box.new wz [.int .i64 z.rows,.int .i64 z.cols,.slice ja jn jk] 25 rfl));have HF:=h_ (show F_ V5.heap.size (.agg #[.int .i64 z.rows,.int .i64 z.cols,.slice ja jn jk]) from hf);have HG:=HF;have HNb:=h_ HB2.out.size;clear hc2;have HN:=h_ hm;clear hb2 hm hf))
     all_goals go_wp2
     all_goals go_meet
     all_goals
      refine ⟨_,ja,jn,jk,rfl,rfl,?_,?_,HNb.out,HG.out,?_⟩
      ·(refine HN.out.above HF.out ?_;repeat' (first|with_reducible exact Above.refl _ _|with_reducible refine abv_drew ?_|with_reducible refine abv_alloc ?_|with_reducible refine v_ ?_ (by omega)))
      ·with_reducible exact HEa.out
      ·repeat' (first|with_reducible exact Below.refl _ _|with_reducible exact HB2.out|with_reducible refine d_ ?_|with_reducible refine a_ ?_|with_reducible refine t_ ?_ ?_|exact Nat.le_refl _|exact Nat.le_succ _|exact HB2.out.size|exact Nat.le_succ_of_le HB2.out.size)
    case rest=>
     obtain ⟨Bk,ja,jn,jk,rfl,rfl,hmx,⟨c0,c1,c2⟩,hBk,hfq,hbc⟩:=hcut
     have HNB:=h_ (netback_any (.slice va N vk) (.slice (some ⟨lb,lo,none⟩) (N+1) lk) (.agg #[.int .i64 z.rows,.int .i64 z.cols,.slice ja jn jk]) ls (ngX ls x) z wc (HL.out.u_ (b_ HB5.out hbc)) (HMS.out.u_ hbc) hmx)
     rw[HNG.out.2.2.1,HNG.out.2.2.2,e_ rfl]at HNB
     have HB6:=h_ (b_ HB5.out hbc)
     have HG6:=h_ (HG5.out.u_ hbc)
     clear HT5 HSB5 HT0 HT3 lm0 lm1 lm2 lm3 lm4 lm5 hmx hBk hfq hbc
     go_wp2_with fail
     refine HNB.out.mono ?_
     rintro e V7 ⟨vz,vd,rfl,⟨sz,rfl,hsz⟩,hgd,hb7⟩
     obtain ⟨pa,pn,pk,rfl⟩:=hsz.shape
     obtain ⟨V8,hV8⟩:=gM (V7.alloc (.cells #[.int .i64 (nbX ls (ngX ls x) z).rows,.int .i64 (nbX ls (ngX ls x) z).cols,.slice pa pn pk] 25))
     have hb8:Below V7.heap.size V7 V8:=by rw[hV8];exact o_ _ _
     have HC:=h_ (gds_same vd u13 D V8 (hgd.u_ hb8) ((HG6.out.u_ hb7).u_ hb8))
     have HB8:=h_ (b_ (b_ HB6.out hb7) hb8)
     have HV8:=h_ hV8
     clear HNB hsz hgd hb7 hb8 hV8 c0 c1 c2
     go_wp2_with fail
     rw[←HV8.out]
     refine HC.out.mono ?_
     rintro e V9 ⟨rfl,hb9⟩
     have HB9:=h_ (b_ HB8.out hb9)
     clear HC hb9
     go_wp2
     go_ret
     exact ⟨rfl,b_ HWV.out HB9.out⟩
   ·rw[n_ h0]
    clear h0
    go_wp2
    go_ret
    exact ⟨rfl,b_ HWV.out HB3.out⟩
end Go.Proofs.Ytpniemnfdleiiaj
