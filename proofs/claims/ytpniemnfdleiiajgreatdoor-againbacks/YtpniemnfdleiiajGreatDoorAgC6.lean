/- What Back of package again comes to. -/
import Derived.Test.YtpniemnfdleiiajGreatDoorPkLWide
import Derived.Test.YtpniemnfdleiiajGreatDoorAgC5
namespace Go.Proofs.YtpniemnfdleiiajGreatDoor
open Go.RowKit
def agB (ls:List Ly) (x y:Mx):Int:=bkE ls.reverse ((x::runT ls x).take ls.length).reverse (offX (endX ls x) y)
def agE (ls:List Ly) (x y:Mx) (e:Int):Int:=if evB e=false then 1 else if ngE ls x≠0 then ngE ls x else if addE (endX ls x) y≠0 then addE (endX ls x) y else agB ls x y
def agO (ls:List Ly) (x y:Mx) (e:Int):Int:=if agE ls x y e=0 then lossX (endX ls x) y else 0
def agM (ls:List Ly) (x y:Mx) (e:Int):Int:=if agE ls x y e=0 then (mostN e.toNat ls.length:Int) else 0
def agD (ls:List Ly) (x y:Mx) (e:Int):List (Mx×Mx):=if agE ls x y e=0 then bkD ls.reverse ((x::runT ls x).take ls.length).reverse (offX (endX ls x) y) else []
theorem ag_no{ls:List Ly}{x y:Mx}{e E:Int}(h:agE ls x y e=E)(h0:E≠0):agO ls x y e=0∧agM ls x y e=0∧agD ls x y e=[]:=by
 unfold agO agM agD
 rw[h,if_neg h0,if_neg h0,if_neg h0]
 exact ⟨rfl,rfl,rfl⟩
set_option maxHeartbeats 16000000 in
set_option maxRecDepth 100000 in
theorem again_any(v vx vy:Value)(ls:List Ly)(x y:Mx)(e:Int)(w:World)(hv:Y_ w v ls)(hx:M_ w vx x)(hy:M_ w vy y):
  Calls Tryz.prog 4 #[v,vx,vy,.int .i64 e] w fun r w'=>∃vd,r=.returned (.tuple #[vd,.int .i64 (agO ls x y e),.int .i64 (agM ls x y e),errV (agE ls x y e)])∧D_ w' vd (agD ls x y e)∧Below w.heap.size w w':=by
 obtain ⟨va,vk,rfl,hlc,hcm⟩:=hv.shape
 obtain ⟨sx,rfl,hsx⟩:=hx
 obtain ⟨xa,xn,xk,rfl⟩:=hsx.shape
 obtain ⟨sy,rfl,hsy⟩:=hy
 obtain ⟨ya,yn,yk,rfl⟩:=hsy.shape
 obtain ⟨N,hN⟩:=gN (ls.length)
 obtain ⟨V,hV⟩:=gM ((w.alloc (.cells #[.int .i64 x.rows,.int .i64 x.cols,.slice xa xn xk] 25)).alloc (.cells #[.int .i64 y.rows,.int .i64 y.cols,.slice ya yn yk] 25))
 have HV:=h_ hV
 have HWV:Hid (Below w.heap.size w V):=by rw[hV];exact h_ (a_ (o_ _ _))
 have HBX:Hid (Blk V w.heap.size #[.int .i64 x.rows,.int .i64 x.cols,.slice xa xn xk] 25):=by rw[hV];exact h_ ((Blk.new w _ _ rfl).alloc _)
 have HBY:Hid (Blk V (w.heap.size+1) #[.int .i64 y.rows,.int .i64 y.cols,.slice ya yn yk] 25):=by rw[hV];exact h_ (Blk.new _ _ _ (by simp))
 have HMB:=h_ (maybe_any e V)
 have HNL:=h_ hN
 have HL:=h_ hv
 have HSX:=h_ hsx
 have HSY:=h_ hsy
 obtain ⟨E,hE⟩:=gN (agE ls x y e)
 have HE:=h_ hE
 obtain ⟨xr,hxr⟩:=gN (x.rows)
 obtain ⟨xc,hxc⟩:=gN (x.cols)
 obtain ⟨wr',hyr⟩:=gN (y.rows)
 obtain ⟨wc',hyc⟩:=gN (y.cols)
 have HXY:=h_ (And.intro (And.intro hxr hxc) (And.intro hyr hyc))
 rw[hN]at HL
 have h0x:E≠0→agO ls x y e=0∧agM ls x y e=0∧agD ls x y e=[]:=ag_no hE
 have h0y:E=0→agO ls x y e=lossX (endX ls x) y∧agM ls x y e=(mostN e.toNat N:Int)∧agD ls x y e=bkD ls.reverse ((x::runT ls x).take N).reverse (offX (endX ls x) y):=fun h=>by
  unfold agO agM agD
  rw[hE,if_pos h,if_pos h,if_pos h,hN]
  exact ⟨rfl,rfl,rfl⟩
 obtain ⟨O,hO⟩:=gN (agO ls x y e)
 obtain ⟨Mo,hMo⟩:=gN (agM ls x y e)
 obtain ⟨D,hD⟩:=gN (agD ls x y e)
 rw[hO,hMo,hD]at h0x h0y
 rw[hO,hMo,hD]
 have HNO:=h_ h0x
 have HNY:=h_ h0y
 rw[hE,hN]
 rw[hxr,hxc]at HBX HV ⊢
 rw[hyr,hyc]at HBY HV ⊢
 clear hv hsx hsy hN hV hE hxr hxc hyr hyc h0x h0y hO hMo hD hlc hcm
 cases hev:evB e with
 |false=>
  have hE1:E=1:=by rw[←HE.out];unfold agE;rw[if_pos hev]
  obtain ⟨rfl,rfl,rfl⟩:=HNO.out (by rw[hE1];decide)
  rw[hE1]
  rw[hev]at HMB
  clear hev hE1
  go_enter Tryz.func4,Tryz.ntmps4
  go_wp2_with (go_at_call 13;rw[←HV.out];refine HMB.out.mono ?_;rintro r w' ⟨rfl,rfl⟩)
  exact bodyPost_ret (v:=.tuple #[.slice none 0 0,.int .i64 0,.int .i64 0,.iface 31 (.int .i64 1)]) (by simp[results,Tryz.results4,go_sem]) rfl ⟨_,rfl,(Owns.nil 0 0 _ 0 6).reads,HWV.out⟩
 |true=>
  obtain ⟨h1,h12⟩:1≤e∧e≤12:=by unfold evB at hev;exact of_decide_eq_true hev
  have HEV:=h_ hev
  have HFO:=h_ (forth_any e.toNat N ls x (.slice va N vk) (.agg #[.int .i64 x.rows,.int .i64 x.cols,.slice xa xn xk]) V (HL.out.u_ HWV.out) ⟨_,rfl,HSX.out.u_ HWV.out⟩ HNL.out (by omega) (by omega))
  rw[HXY.out.1.1,HXY.out.1.2,Int.toNat_of_nonneg (show 0≤e by omega)]at HFO
  rw[hev]at HMB
  have HE1:=h_ (show (if ngE ls x≠0 then ngE ls x else if addE (endX ls x) y≠0 then addE (endX ls x) y else agB ls x y)=E by rw[←HE.out];unfold agE;rw[if_neg (show ¬evB e=false by rw[hev];decide)])
  clear hev
  go_enter Tryz.func4,Tryz.ntmps4
  have x0:V.cell? ⟨w.heap.size,0,none⟩=some (.int .i64 xr):=HBX.out.cell (j:=0) rfl
  have x1:V.cell? ⟨w.heap.size,1,none⟩=some (.int .i64 xc):=HBX.out.cell (j:=1) rfl
  have x2:V.cell? ⟨w.heap.size,2,none⟩=some (.slice xa xn xk):=HBX.out.cell (j:=2) rfl
  go_wp2_with (go_at_call 13;rw[←HV.out];refine HMB.out.mono ?_;rintro r w' ⟨rfl,rfl⟩)
  refine HFO.out.mono ?_
  clear HFO x0 x1 x2
  rintro r w1 ⟨hb1,h⟩
  have HB1:=h_ hb1
  obtain ⟨Eg,hEg⟩:=gN (ngE ls x)
  have HEG:=h_ hEg
  rw[hEg]at h HE1
  rcases h with ⟨h0,S,M,rfl,hS,hM,hsh⟩|⟨h0,rfl⟩
  ·subst h0
   have HE2:=h_ (show (if addE (endX ls x) y≠0 then addE (endX ls x) y else agB ls x y)=E by rw[←HE1.out,if_neg (show ¬(0:Int)≠0 by simp)])
   obtain ⟨_,hfx,hrn⟩:=(ngE_iff ls x).1 hEg
   have hok:=run_ok_of ls x hrn
   have hN12:N≤12:=by have h1:=hok.1;have h2:=hsh.lm;have h3:=HNL.out;omega
   have hN12i:(N:Int)≤12:=by omega
   have hen:(x::runT ls x)[N]?=some (endX ls x):=by rw[←HNL.out];exact endX_at ls x
   obtain ⟨vm,m,hm,hvm,hlook⟩:=hsh.look (k:=N) (by simp)
   obtain ⟨sm,rfl,hsm⟩:=hvm
   obtain ⟨ua,un,uk,rfl⟩:=hsm.1.shape
   obtain rfl:endX ls x=m:=by rw[hen]at hm;exact Option.some.inj hm
   obtain ⟨m,hmm⟩:=gN (endX ls x)
   rw[hmm]at hsm hlook HE2 HNY
   obtain ⟨z,hz⟩:=gN (offX m y)
   obtain ⟨L,hLo⟩:=gN (lossX m y)
   obtain ⟨E2,hE2⟩:=gN (addE m y)
   rw[hE2]at HE2
   rw[hz,hLo]at HNY
   have HSH:=h_ hsh
   have HOK:=h_ (And.intro hok (And.intro hmm (And.intro hz hen)))
   have HT:=h_ (fun W (h:Below w1.heap.size w1 W)=>((compare_any (.agg #[.int .i64 m.rows,.int .i64 m.cols,.slice ua un uk]) (.agg #[.int .i64 y.rows,.int .i64 y.cols,.slice ya yn yk]) m y W ⟨_,rfl,hsm.1.u_ h⟩ ⟨_,rfl,(HSY.out.u_ (b_ HWV.out hb1)).u_ h⟩).mono (R':=fun e wz=>∃ja jn jk,e=.returned (.tuple #[.int .i64 L,.agg #[.int .i64 z.rows,.int .i64 z.cols,.slice ja jn jk],errV E2])∧M_ wz (.agg #[.int .i64 z.rows,.int .i64 z.cols,.slice ja jn jk]) z∧Below W.heap.size W wz∧F_ W.heap.size (.agg #[.int .i64 z.rows,.int .i64 z.cols,.slice ja jn jk])) (by
    rw[hE2,hz,hLo]
    rintro e wz ⟨v',rfl,⟨s',rfl,hs'⟩,hb,hf⟩
    obtain ⟨ja,jn,jk,rfl⟩:=hs'.shape
    exact ⟨ja,jn,jk,rfl,⟨_,rfl,hs'⟩,hb,hf⟩)))
   rw[HXY.out.2.1,HXY.out.2.2]at HT
   have HSB:Hid (∀W',Below w1.heap.size w1 W'→(fun W'=>W'.cell? ⟨S,0,none⟩=some (.map (some M))∧W'.cell? ⟨w.heap.size+1,0,none⟩=some (.int .i64 wr')∧W'.cell? ⟨w.heap.size+1,1,none⟩=some (.int .i64 wc')∧W'.cell? ⟨w.heap.size+1,2,none⟩=some (.slice ya yn yk)∧(Instr.lookup 52 (.map (some M)) (.int .i64 (N:Int)) false).run Tryz.prog W'=.ok ((.agg #[.int .i64 m.rows,.int .i64 m.cols,.slice ua un uk])) W') W'):=h_ (fun W' h=>⟨c_ h (hsh.st.cell (j:=0) rfl),c_ h ((HBY.out.u_ hb1).cell (j:=0) rfl),c_ h ((HBY.out.u_ hb1).cell (j:=1) rfl),c_ h ((HBY.out.u_ hb1).cell (j:=2) rfl),hlook W' (h.block M hsh.ltM)⟩)
   have HSM:=h_ (And.intro hS hM)
   clear hok hN12 hen hm hmm hsm hlook hz hLo hE2 hsh hfx hrn hEg hb1 hS hM
   go_wp2_with fail
   have HT3:=h_ (HT.out (w1.alloc (.cells #[.int .i64 0,.int .i64 0,.slice none 0 0] 25)).drew (d_ (a_ (Below.refl w1.heap.size w1))))
   have HT0:=h_ (HT.out w1.drew (d_ (Below.refl w1.heap.size w1)))
   obtain ⟨lm0,lm1,lm2,lm3,lm4⟩:=HSB.out w1 (Below.refl _ _)
   go_wp2
   go_cut [13,14,15] from 32 to 43 (fun ev ov a wx=>∃(Bk:Nat) (qa:Option Addr) (qn qk:Nat),a=.pointer (some ⟨Bk,0,none⟩)∧ev=errV E2∧ov=.int .i64 L∧M_ wx (.agg #[.int .i64 z.rows,.int .i64 z.cols,.slice qa qn qk]) z∧Cells3 wx Bk (.int .i64 z.rows) (.int .i64 z.cols) (.slice qa qn qk)∧w1.heap.size≤Bk∧F_ w1.heap.size (.agg #[.int .i64 z.rows,.int .i64 z.cols,.slice qa qn qk])∧Below w1.heap.size w1 wx)
   case first=>
    go_region_held3 (fun W'=>W'.cell? ⟨S,0,none⟩=some (.map (some M))∧W'.cell? ⟨w.heap.size+1,0,none⟩=some (.int .i64 wr')∧W'.cell? ⟨w.heap.size+1,1,none⟩=some (.int .i64 wc')∧W'.cell? ⟨w.heap.size+1,2,none⟩=some (.slice ya yn yk)∧(Instr.lookup 52 (.map (some M)) (.int .i64 (N:Int)) false).run Tryz.prog W'=.ok ((.agg #[.int .i64 m.rows,.int .i64 m.cols,.slice ua un uk])) W') ((refine HSB.out _ ?_;repeat' (first|with_reducible exact Below.refl _ _|with_reducible exact HB2.out|with_reducible refine d_ ?_|with_reducible refine a_ ?_|with_reducible refine t_ ?_ ?_|exact Nat.le_refl _|exact Nat.le_succ _|exact HB2.out.size|exact Nat.le_succ_of_le HB2.out.size)))
     (first
      |(go_at_call 15;guard_target=Calls _ _ _ (World.drew (World.alloc w1 (Obj.cells #[_,_,_] _))) _;refine HT3.out.mono ?_;rintro e wz ⟨ja,jn,jk,rfl,hm,hb2,hf⟩;have hc2:=b_ (r_ (Below.refl _ (w1.alloc (.cells #[.int .i64 0,.int .i64 0,.slice none 0 0] 25)))) hb2;have HB2:=h_ (show Below w1.heap.size w1 wz from b_ (o_ w1 (.cells #[.int .i64 0,.int .i64 0,.slice none 0 0] 25)) hc2);have ZB3:=h_ ((Box.new w1 [.int .i64 0,.int .i64 0,.slice none 0 0] 25 (B:=w1.heap.size) rfl).u_ hc2);have ZB3l:=h_ (Box.new w1 [.int .i64 0,.int .i64 0,.slice none 0 0] 25 (B:=w1.heap.size) rfl).lt;have ZF3:=h_ ((Free.new w1 #[.int .i64 0,.int .i64 0,.slice none 0 0] 25 (B:=w1.heap.size) rfl).u_ hc2 ZB3l.out);obtain ⟨z30,z31,z32⟩:=ZB3.out.c3;obtain ⟨f30,f31,f32⟩:=ZF3.out.f3;have HEa:Hid (Cells3 (((wz.setCell ⟨w1.heap.size,0,none⟩ (.int .i64 z.rows)).setCell ⟨w1.heap.size,1,none⟩ (.int .i64 z.cols)).setCell ⟨w1.heap.size,2,none⟩ (.slice ja jn jk)) w1.heap.size (.int .i64 z.rows) (.int .i64 z.cols) (.slice ja jn jk)):=h_ (c__ (set_three ZB3.out _ _ _));have HF:=h_ (show F_ (w1.heap.size+1) (.agg #[.int .i64 z.rows,.int .i64 z.cols,.slice ja jn jk]) from f_ hf (szd1 _ _));have HG:=h_ (f_ HF.out (Nat.le_succ _));have HNb:=h_ (Nat.le_refl w1.heap.size);clear hc2;have HN:=h_ hm;clear hb2 hm hf)
      |(go_at_call 15;guard_target=Calls _ _ _ (World.drew w1) _;refine HT0.out.mono ?_;rintro e wz ⟨ja,jn,jk,rfl,hm,hb2,hf⟩;have hc2:=b_ (r_ (Below.refl _ w1)) hb2;have HB2:=h_ (show Below w1.heap.size w1 wz from hc2);have HEa:Hid (Cells3 (wz.alloc (.cells #[.int .i64 z.rows,.int .i64 z.cols,.slice ja jn jk] 25)) wz.heap.size (.int .i64 z.rows) (.int .i64 z.cols) (.slice ja jn jk)):=h_ (c__ (Box.new wz [.int .i64 z.rows,.int .i64 z.cols,.slice ja jn jk] 25 rfl));have HF:=h_ (show F_ w1.heap.size (.agg #[.int .i64 z.rows,.int .i64 z.cols,.slice ja jn jk]) from hf);have HG:=HF;have HNb:=h_ HB2.out.size;clear hc2;have HN:=h_ hm;clear hb2 hm hf))
    all_goals go_wp2
    all_goals go_meet
    all_goals
     refine ⟨_,ja,jn,jk,rfl,rfl,rfl,?_,?_,HNb.out,HG.out,?_⟩
     ·(refine HN.out.above HF.out ?_;repeat' (first|with_reducible exact Above.refl _ _|with_reducible refine abv_drew ?_|with_reducible refine abv_alloc ?_|with_reducible refine v_ ?_ (by omega)))
     ·with_reducible exact HEa.out
     ·repeat' (first|with_reducible exact Below.refl _ _|with_reducible exact HB2.out|with_reducible refine d_ ?_|with_reducible refine a_ ?_|with_reducible refine t_ ?_ ?_|exact Nat.le_refl _|exact Nat.le_succ _|exact HB2.out.size|exact Nat.le_succ_of_le HB2.out.size)
   case rest=>
    obtain ⟨Bk,ja,jn,jk,rfl,rfl,rfl,hmx,⟨c0,c1,c2⟩,hBk,hfq,hbc⟩:=hcut
    obtain ⟨wb,hwb⟩:=gM (wc)
    subst hwb
    have HBW:=h_ (b_ HWV.out (b_ HB1.out hbc))
    have HSC:=h_ (HSH.out.u_ hbc)
    have HZ:=h_ (show MxA (fun b=>b=S∨b=M) wb (.agg #[.int .i64 z.rows,.int .i64 z.cols,.slice ja jn jk]) z from by
     obtain ⟨s',e',hs'⟩:=hmx
     obtain rfl:s'=.slice ja jn jk:=by simp at e';exact e'.symm
     exact ⟨_,rfl,x_ hs' hfq (fun b h=>by rcases h with rfl|rfl;exact HSH.out.st.lt;exact HSH.out.ltM)⟩)
    clear HT HSB HT0 HT3 lm0 lm1 lm2 lm3 lm4 hmx hBk hfq hbc
    by_cases hE2:E2=0
    ·subst hE2
     rw[e_ rfl]
     have hEB:agB ls x y=E:=by rw[←HE2.out,if_neg (show ¬(0:Int)≠0 by simp)]
     unfold agB at hEB
     rw[HOK.out.2.1,HOK.out.2.2.1,HNL.out]at hEB
     have hvv:Hold (fun b=>b=S∨b=M) wb (fun W=>Y_ W (.slice va N vk) ls):=by
      have h:=Reads.hold (v:=.slice va N vk) (n:=ls.length) (sp:=ls.flatMap lyS) HL.out HBW.out (G:=fun b=>b=S∨b=M) (fun b hb=>by have h1:=HSM.out.1;have h2:=HSM.out.2;have h3:=HWV.out.size;omega)
      exact h
     have hB:=agback_any (fun b=>b=S∨b=M) S M e.toNat N _ ls (x::runT ls x) z (.slice va N vk) (.agg #[.int .i64 z.rows,.int .i64 z.cols,.slice ja jn jk]) wb hvv HSC.out HOK.out.1 HNL.out (by omega) (by omega) (Nat.le_refl _) (fun b h=>by rcases h with rfl|rfl;exact HSC.out.st.lt;exact HSC.out.ltM) HZ.out
     rw[hEB,Int.toNat_of_nonneg (show 0≤e by omega),show (hdK e.toNat N++[N]).length=(hdK e.toNat N).length+1 by simp,most_same e.toNat (by omega) N (by omega) (by omega)]at hB
     have HB:=h_ hB
     have HEB:=h_ hEB
     obtain ⟨zr,hzr⟩:=gN (z.rows)
     obtain ⟨zc,hzc⟩:=gN (z.cols)
     rw[hzr,hzc]at HB
     rw[hzr]at c0
     rw[hzc]at c1
     clear hEB hvv hB hzr hzc
     go_wp2_with fail
     refine HB.out.mono ?_
     clear HB c0 c1 c2
     rintro r w3 ⟨hk,⟨vd,hE0,rfl,hgd,hst⟩|⟨E',hne,hE0,rfl⟩⟩
     ·subst hE0
      obtain ⟨rfl,rfl,rfl⟩:=HNY.out rfl
      have hm0:w3.cell? ⟨S,1,none⟩=some (.int .i64 (mostN e.toNat N:Int)):=hst.cell (j:=1) rfl
      have HGD:=h_ hgd
      have HKW:=h_ (Kept.u_ (N:=w.heap.size) HBW.out hk HBW.out.size (fun k h=>by have h1:=HSM.out.1;have h2:=HSM.out.2;have h3:=HWV.out.size;omega))
      clear hgd hk hst
      go_wp2_with fail
      go_region
      all_goals
       go_wp2
       exact bodyPost_ret (v:=.tuple #[vd,.int .i64 O,.int .i64 (mostN e.toNat N:Int),.nilIface]) (by simp[results,Tryz.results4,go_sem]) rfl ⟨_,rfl,HGD.out.u_ (r_ (Below.refl _ _)),r_ HKW.out⟩
     ·subst hE0
      obtain ⟨rfl,rfl,rfl⟩:=HNO.out hne
      have HN:=h_ hne
      have HKW:=h_ (Kept.u_ (N:=w.heap.size) HBW.out hk HBW.out.size (fun k h=>by have h1:=HSM.out.1;have h2:=HSM.out.2;have h3:=HWV.out.size;omega))
      clear hne hk
      go_wp2
      exact bodyPost_ret (v:=.tuple #[.slice none 0 0,.int .i64 0,.int .i64 0,.iface 31 (.int .i64 E)]) (by simp[results,Tryz.results4,go_sem]) rfl ⟨_,by rw[n_ HN.out],(Owns.nil 0 0 _ 0 6).reads,HKW.out⟩
    ·have HN:=h_ hE2
     obtain rfl:E2=E:=by rw[←HE2.out,if_pos hE2]
     obtain ⟨rfl,rfl,rfl⟩:=HNO.out hE2
     rw[n_ hE2]
     clear hE2 c0 c1 c2
     go_wp2
     exact bodyPost_ret (v:=.tuple #[.slice none 0 0,.int .i64 0,.int .i64 0,.iface 31 (.int .i64 E2)]) (by simp[results,Tryz.results4,go_sem]) rfl ⟨_,by rw[n_ HN.out],(Owns.nil 0 0 _ 0 6).reads,HBW.out⟩
  ·have HG:=h_ h0
   obtain rfl:Eg=E:=by rw[←HE1.out,if_pos h0]
   obtain ⟨rfl,rfl,rfl⟩:=HNO.out h0
   clear h0 hb1 hEg
   go_wp2
   exact bodyPost_ret (v:=.tuple #[.slice none 0 0,.int .i64 0,.int .i64 0,.iface 31 (.int .i64 Eg)]) (by simp[results,Tryz.results4,go_sem]) rfl ⟨_,by rw[n_ HG.out],(Owns.nil 0 0 _ 0 6).reads,b_ HWV.out HB1.out⟩
end Go.Proofs.YtpniemnfdleiiajGreatDoor
