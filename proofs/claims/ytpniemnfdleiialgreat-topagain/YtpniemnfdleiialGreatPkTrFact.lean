/- What trainFact of the laws comes to: a scale of 1 that ought to double learns. -/
import Derived.Test.YtpniemnfdleiialGreatTrC5
import Derived.Test.YtpniemnfdleiialGreatTrC2
import Derived.Test.YtpniemnfdleiialGreatRows
import Derived.Test.YtpniemnfdleiialGreatPlain
import Derived.Test.YtpniemnfdleiialGreatPkTrainR
import Derived.Test.YtpniemnfdleiialGreatPkSameL
import Derived.Test.YtpniemnfdleiialGreatStpD
namespace Go.Proofs.YtpniemnfdleiialGreat
open Go.RowKit
def tfL:List Ly:=[⟨3,⟨1,1,[256]⟩,noMx⟩]
def tfB:Mx×Mx:=(⟨1,1,[256]⟩,⟨1,1,[512]⟩)
theorem tf_E:oneE tfL (zeroD tfL) 0 tfB 1 128 0=0:=by kernel_rfl
theorem tf_S:(stepS ⟨tfL,zeroD tfL,0⟩ tfB 1 128 0).net=[⟨3,⟨1,1,[384]⟩,noMx⟩]:=by kernel_rfl
theorem tf_n:(stepS ⟨tfL,zeroD tfL,0⟩ tfB 1 128 0).n=1:=by kernel_rfl
theorem tf_K:stepK ⟨tfL,zeroD tfL,0⟩ tfB 1 128 0=128:=by kernel_rfl
theorem tf_made(w:World):Y_ ((w.alloc (.cells #[.int .i64 256] 3)).alloc (.cells #[.int .i64 3,.int .i64 1,.int .i64 1,.slice (some ⟨w.heap.size,0,none⟩) 1 1,.int .i64 0,.int .i64 0,.slice none 0 0] 61)) (.slice (some ⟨w.heap.size+1,0,none⟩) 1 1) tfL:=by
 have h:=Owns.made (lo:=0) (base:=0) (w:=w.alloc (.cells #[.int .i64 256] 3)) (e:=61) (size:=7) (n:=1) (cs:=[.int .i64 3,.int .i64 1,.int .i64 1,.slice (some ⟨w.heap.size,0,none⟩) 1 1,.int .i64 0,.int .i64 0,.slice none 0 0]) (sp:=lyS ⟨3,⟨1,1,[256]⟩,noMx⟩) (Nat.zero_le _) (by unfold maxLen;omega) rfl
  (enc_ly2 (l:=⟨3,⟨1,1,[256]⟩,noMx⟩) ⟨ints_new w [256] (by decide) 3,.inr fun b _ hb=>by omega⟩ ⟨I_.nil _,.inl rfl⟩)
 rw[World.size_alloc]at h
 exact h.reads
set_option maxHeartbeats 8000000 in
set_option maxRecDepth 100000 in
theorem topone_any(w:World):Calls Tryz.prog 5 #[] w fun e w'=>e=.returned (.bool true)∧Below w.heap.size w w':=by
 obtain ⟨V,hV⟩:=gM ((w.alloc (.cells #[.int .i64 256] 3)).alloc (.cells #[.int .i64 3,.int .i64 1,.int .i64 1,.slice (some ⟨w.heap.size,0,none⟩) 1 1,.int .i64 0,.int .i64 0,.slice none 0 0] 61))
 have HV:=h_ hV
 have HWV:Hid (Below w.heap.size w V):=by rw[hV];exact h_ (a_ (o_ _ _))
 have HL:Hid (Y_ V (.slice (some ⟨w.heap.size+1,0,none⟩) 1 1) tfL):=by rw[hV];exact h_ (tf_made w)
 have HC:=h_ (trbegin_any _ tfL V HL.out (by decide) (fun l hl=>by
  have e:l=⟨3,⟨1,1,[256]⟩,noMx⟩:=by simpa [tfL] using hl
  subst e;exact ⟨by decide,by decide⟩))
 clear hV
 go_enter Tryz.func5,Tryz.ntmps5
 go_wp2_with fail
 rw[←HV.out]
 refine HC.out.mono ?_
 rintro e w1 ⟨u,t,rfl,ho1,ho2,hb1⟩
 have H1:=h_ (show Y_ w1 u tfL from ho1.reads)
 have H2:=h_ (show D_ w1 t (zeroD tfL) from ho2.reads)
 obtain ⟨ua,uk,rfl,_,_⟩:=H1.out.shape
 obtain ⟨va,vk,rfl,_,_⟩:=H2.out.shape
 have HW1:=h_ (b_ HWV.out hb1)
 obtain ⟨un,eun⟩:=gN (tfL.length)
 obtain ⟨vn,evn⟩:=gN ((zeroD tfL).length)
 rw[eun]at H1 ⊢
 rw[evn]at H2 ⊢
 clear ho1 ho2 hb1 eun evn HC
 obtain ⟨Z,hZ⟩:=gM ((((w1.alloc (.cells #[.slice ua un uk,.slice va vn vk,.int .i64 0] 34)).alloc (.cells #[.int .i64 256] 3)).alloc (.cells #[.int .i64 512] 3)).alloc (.cells #[.int .i64 1,.int .i64 1,.slice (some ⟨w1.heap.size+1,0,none⟩) 1 1,.int .i64 1,.int .i64 1,.slice (some ⟨w1.heap.size+1+1,0,none⟩) 1 1] 30))
 have HZ:=h_ hZ
 have H1Z:Hid (Below w1.heap.size w1 Z):=by rw[hZ];exact h_ (a_ (a_ (a_ (o_ _ _))))
 have J1:Hid (I_ Z (.slice (some ⟨w1.heap.size+1,0,none⟩) 1 1) tfB.1.cells):=by
  rw[hZ];exact h_ ((ints_newB (w1.alloc (.cells #[.slice ua un uk,.slice va vn vk,.int .i64 0] 34)) [256] (by decide) 3 (B:=w1.heap.size+1) (by simp)).u_ (a_ (o_ _ _)))
 have J2:Hid (I_ Z (.slice (some ⟨w1.heap.size+1+1,0,none⟩) 1 1) tfB.2.cells):=by
  rw[hZ];exact h_ ((ints_newB ((w1.alloc (.cells #[.slice ua un uk,.slice va vn vk,.int .i64 0] 34)).alloc (.cells #[.int .i64 256] 3)) [512] (by decide) 3 (B:=w1.heap.size+1+1) (by simp)).u_ (o_ _ _))
 have HO:=h_ (trone_any (.slice ua un uk) (.slice va vn vk) tfL (zeroD tfL) 0 tfB 1 128 0 (some ⟨w1.heap.size+1,0,none⟩) 1 1 (some ⟨w1.heap.size+1+1,0,none⟩) 1 1 Z (H1.out.u_ H1Z.out) (H2.out.u_ H1Z.out) J1.out J2.out)
 rw[tf_E,tf_S,tf_n,tf_K,e_ rfl]at HO
 clear hZ
 go_wp2_with fail
 rw[←HZ.out]
 refine HO.out.mono ?_
 rintro e w2 ⟨hb2,u2,t2,rfl,ho1,ho2⟩
 have H3:=h_ (show Y_ w2 u2 [⟨3,⟨1,1,[384]⟩,noMx⟩] from ho1.reads)
 obtain ⟨va2,vk2,rfl,_,_,_⟩:=ho2.reads
 obtain ⟨vn2,evn2⟩:=gN ((stepS ⟨tfL,zeroD tfL,0⟩ tfB 1 128 0).spd.length)
 rw[evn2]
 obtain ⟨b,off,cp,sa,sn,sk,ta,tn,tk,rfl,_,_,_,c3,_,_,_,hly⟩:=H3.out.at (i:=0) (l:=⟨3,⟨1,1,[384]⟩,noMx⟩) rfl
 have hi:=(Y_.ints hly).1
 obtain ⟨a',cap',ei,_,_,h4⟩:=hi
 obtain ⟨ib,io,rfl,hic⟩:=h4.resolve_left (by decide)
 obtain ⟨ea,en,ek⟩:=Value.slice.inj ei
 subst ea en ek
 have hbx:=o_ w2 (.cells #[.slice (some ⟨b,off,none⟩) 1 cp,.slice va2 vn2 vk2,.int .i64 1] 34)
 have i0:=c_ hbx (show w2.cell? ⟨ib,io,none⟩=some (.int .i64 384) by simpa using hic 0 384 rfl)
 have c3':=c_ hbx (show w2.cell? ⟨b,off+1+2,none⟩=some (.slice (some ⟨ib,io,none⟩) 1 sk) by simpa using c3)
 have HW2:=h_ (b_ (b_ HW1.out H1Z.out) hb2)
 clear hb2 ho1 ho2 evn2 c3 hly ei h4 hic HO hbx
 go_wp2
 go_ret
 exact ⟨rfl,a_ HW2.out⟩
set_option maxHeartbeats 400000 in
theorem pick_any(c n:Int)(w:World)(h0:-9223372036854775808≤c)(h1:c≤9223372036854775807)(hn:0<n)(hn1:n≤1000000):Calls Tryz.prog 9 #[.int .i64 c,.int .i64 n] w fun e w'=>∃k:Nat,e=.returned (.int .i64 (k:Int))∧(k:Int)<n∧w'=w:=by
 have hz:¬n=0:=by omega
 by_cases hc:c<0
 ·have hm0:=Int.emod_nonneg (-(c+1)) hz
  have hm1:=Int.emod_lt_of_pos (-(c+1)) hn
  have hm:(-(c+1)).tmod n=(-(c+1)) % n:=Int.tmod_eq_emod_of_nonneg (by omega)
  have HM:=h_ (And.intro hm0 (And.intro hm1 hm))
  clear hm0 hm1 hm
  go_enter Tryz.func9,Tryz.ntmps9
  go_wp2
  go_ret
  refine ⟨((-(c+1)) % n).toNat,?_,?_,rfl⟩
  ·refine i_ ?_
   have:=HM.out.1
   rw[Int.toNat_of_nonneg this,←HM.out.2.2]
   first|rfl|rw[Int.neg_tmod]
  ·have:=HM.out.1;have:=HM.out.2.1;omega
 ·have hm0:=Int.emod_nonneg c hz
  have hm1:=Int.emod_lt_of_pos c hn
  have hm:c.tmod n=c % n:=Int.tmod_eq_emod_of_nonneg (by omega)
  have HM:=h_ (And.intro hm0 (And.intro hm1 hm))
  clear hm0 hm1 hm
  go_enter Tryz.func9,Tryz.ntmps9
  go_wp2
  go_ret
  refine ⟨(c % n).toNat,?_,?_,rfl⟩
  ·refine i_ ?_
   have:=HM.out.1
   rw[Int.toNat_of_nonneg this,←HM.out.2.2]
  ·have:=HM.out.1;have:=HM.out.2.1;omega
set_option maxHeartbeats 16000000 in
set_option maxRecDepth 100000 in
theorem tagain_walk(v v1:Value)(ls:List Ly)(ps:List (Mx×Mx))(n:Int)(vb:Value)(b:Mx×Mx)(ev le ke:Int)(w:World)(hv:Y_ w v ls)(hp:D_ w v1 ps)(hb:IsTwo w vb b.1 b.2)(he:-9223372036854775808≤ev∧ev≤9223372036854775807):
  Calls Tryz.prog 3 #[.agg #[v,v1,.int .i64 n],vb,.int .i64 ev,.agg #[.int .i64 le,.int .i64 ke]] w fun e w'=>e=.returned (.bool true)∧Below w.heap.size w w':=by
 obtain ⟨va,vk,rfl,_,_⟩:=hv.shape
 obtain ⟨pa,pk,rfl,_,_⟩:=hp.shape
 obtain ⟨sx,sy,rfl,hsx,hsy⟩:=hb
 obtain ⟨xa,xn,xk,rfl⟩:=hsx.shape
 obtain ⟨ya,yn,yk,rfl⟩:=hsy.shape
 obtain ⟨N,hN⟩:=gN (ls.length)
 obtain ⟨N1,hN1⟩:=gN (ps.length)
 rw[hN]at hv ⊢
 rw[hN1]at hp ⊢
 obtain ⟨V,hV⟩:=gM (((w.alloc (.cells #[.slice va N vk,.slice pa N1 pk,.int .i64 n] 25)).alloc (.cells #[.int .i64 b.1.rows,.int .i64 b.1.cols,.slice xa xn xk,.int .i64 b.2.rows,.int .i64 b.2.cols,.slice ya yn yk] 30)).alloc (.cells #[.int .i64 le,.int .i64 ke] 32))
 have HV:=h_ hV
 have HWV:Hid (Below w.heap.size w V):=by rw[hV];exact h_ (a_ (a_ (o_ _ _)))
 have HX0:Hid (Blk V w.heap.size #[.slice va N vk,.slice pa N1 pk,.int .i64 n] 25):=by rw[hV];exact h_ (((Blk.new w _ _ rfl).alloc _).alloc _)
 have HX1:Hid (Blk V (w.heap.size+1) #[.int .i64 b.1.rows,.int .i64 b.1.cols,.slice xa xn xk,.int .i64 b.2.rows,.int .i64 b.2.cols,.slice ya yn yk] 30):=by rw[hV];exact h_ ((Blk.new _ _ _ (by simp)).alloc _)
 have HX2:Hid (Blk V (w.heap.size+1+1) #[.int .i64 le,.int .i64 ke] 32):=by rw[hV];exact h_ (Blk.new _ _ _ (by simp))
 have HL:=h_ (hv.u_ HWV.out)
 have HP:=h_ (hp.u_ HWV.out)
 have HSX:=h_ (hsx.u_ HWV.out)
 have HSY:=h_ (hsy.u_ HWV.out)
 have HNL:=h_ (And.intro hN hN1)
 have HO:=h_ (topone_any V)
 have HPK:=h_ (fun W=>pick_any ev 12 W he.1 he.2 (by decide) (by decide))
 have HTR:=h_ (fun W (h:Below V.heap.size V W)=>trone_any (.slice va N vk) (.slice pa N1 pk) ls ps n b 1 le ke xa xn xk ya yn yk W (HL.out.u_ h) (HP.out.u_ h) (HSX.out.u_ h) (HSY.out.u_ h))
 have HAG:=h_ (fun W (h:Below V.heap.size V W) (k:Int)=>again_any (.slice va N vk) (.agg #[.int .i64 b.1.rows,.int .i64 b.1.cols,.slice xa xn xk]) (.agg #[.int .i64 b.2.rows,.int .i64 b.2.cols,.slice ya yn yk]) ls b.1 b.2 k W (HL.out.u_ h) ⟨_,rfl,HSX.out.u_ h⟩ ⟨_,rfl,HSY.out.u_ h⟩)
 have HON:Hid (∀k:Int,oneE ls ps n b 1 le ke=0→evB k=true→_):=h_ (fun k h h'=>again_one (ls:=ls) (ps:=ps) (n:=n) (b:=b) (le:=le) (ke:=ke) (e:=k) h h')
 obtain ⟨E,hE⟩:=gN (oneE ls ps n b 1 le ke)
 rw[hE]at HTR HON
 obtain ⟨X,hX⟩:=gN (stepS ⟨ls,ps,n⟩ b 1 le ke)
 obtain ⟨K,hK⟩:=gN (stepK ⟨ls,ps,n⟩ b 1 le ke)
 have hXE:E=0→X=⟨oneN ls ps b 1 le ke,oneV ls ps b 1 ke,n+1⟩∧K=sumAt ls (splX b 1):=fun h=>by
  have h':nextE ⟨ls,ps,n⟩ b 1 le ke=0:=hE.trans h
  rw[←hX,←hK]
  unfold stepS stepK
  rw[if_pos h',if_pos h']
  exact ⟨rfl,rfl⟩
 have HXE:=h_ hXE
 have hnn:E=0→0≤n∧n≤1000000000:=fun h=>by
  have h':=(one_parts (hE.trans h)).1
  have:=state_good h'
  exact ⟨this.2.2.1,this.2.2.2.1⟩
 have HNN:=h_ hnn
 rw[hX,hK]at HTR
 obtain ⟨X1,hX1⟩:=gN (X.net.length)
 obtain ⟨X2,hX2⟩:=gN (X.spd.length)
 obtain ⟨Xn,hXn⟩:=gN (X.n)
 have HXN:=h_ (And.intro hX1 (And.intro hX2 hXn))
 rw[hX1,hX2,hXn]at HTR
 obtain ⟨xr,hxr⟩:=gN (b.1.rows)
 obtain ⟨xc,hxc⟩:=gN (b.1.cols)
 obtain ⟨yr,hyr⟩:=gN (b.2.rows)
 obtain ⟨yc,hyc⟩:=gN (b.2.cols)
 rw[hxr,hxc,hyr,hyc]at HAG HTR HV HX1 ⊢
 have HSB:Hid (∀W',Below V.heap.size V W'→(fun W'=>W'.cell? ⟨w.heap.size,0,none⟩=some (.slice va N vk)∧W'.cell? ⟨w.heap.size+1,0,none⟩=some (.int .i64 xr)∧W'.cell? ⟨w.heap.size+1,1,none⟩=some (.int .i64 xc)∧W'.cell? ⟨w.heap.size+1,2,none⟩=some (.slice xa xn xk)∧W'.cell? ⟨w.heap.size+1,3,none⟩=some (.int .i64 yr)∧W'.cell? ⟨w.heap.size+1,4,none⟩=some (.int .i64 yc)∧W'.cell? ⟨w.heap.size+1,5,none⟩=some (.slice ya yn yk)) W'):=h_ (fun W' h=>⟨(HX0.out.u_ h).cell (j:=0) rfl,(HX1.out.u_ h).cell (j:=0) rfl,(HX1.out.u_ h).cell (j:=1) rfl,(HX1.out.u_ h).cell (j:=2) rfl,(HX1.out.u_ h).cell (j:=3) rfl,(HX1.out.u_ h).cell (j:=4) rfl,(HX1.out.u_ h).cell (j:=5) rfl⟩)
 clear hv hp hsx hsy hV hN hN1 he hE hX hK hXE hnn hX1 hX2 hXn hxr hxc hyr hyc
 go_enter Tryz.func3,Tryz.ntmps3
 go_wp2_with fail
 rw[←HV.out]
 refine HO.out.mono ?_
 rintro e W1 ⟨rfl,hb1⟩
 have HB1:=h_ hb1
 have d0:W1.cell? ⟨w.heap.size,0,none⟩=some (.slice va N vk):=(HX0.out.u_ hb1).cell (j:=0) rfl
 have d1:W1.cell? ⟨w.heap.size,1,none⟩=some (.slice pa N1 pk):=(HX0.out.u_ hb1).cell (j:=1) rfl
 have d2:W1.cell? ⟨w.heap.size,2,none⟩=some (.int .i64 n):=(HX0.out.u_ hb1).cell (j:=2) rfl
 clear hb1 HO
 have HS1:=h_ (hstate_any va N vk pa N1 pk n W1)
 go_wp2_with fail
 refine HS1.out.mono ?_
 rintro e W2 ⟨rfl,hb2⟩
 obtain ⟨W3,hW3⟩:=gM (W2.alloc (.cells #[.slice va N vk,.slice pa N1 pk,.int .i64 n] 34))
 have HB3:=h_ (show Below V.heap.size V W3 by rw[hW3];exact a_ (b_ HB1.out hb2))
 have HW3:=h_ hW3
 have HY0:=h_ (show Blk W3 W2.heap.size #[.slice va N vk,.slice pa N1 pk,.int .i64 n] 34 by rw[hW3];exact Blk.new _ _ _ rfl)
 clear hb2 d0 d1 d2 HS1
 have g0:W3.cell? ⟨W2.heap.size,0,none⟩=some (.slice va N vk):=HY0.out.cell (j:=0) rfl
 have g1:W3.cell? ⟨W2.heap.size,1,none⟩=some (.slice pa N1 pk):=HY0.out.cell (j:=1) rfl
 have g2:W3.cell? ⟨W2.heap.size,2,none⟩=some (.int .i64 n):=HY0.out.cell (j:=2) rfl
 obtain ⟨lm0,lm1,lm2,lm3,lm4,lm5,lm6⟩:=HSB.out W3 HB3.out
 have r0:W3.cell? ⟨w.heap.size+1+1,0,none⟩=some (.int .i64 le):=(HX2.out.u_ HB3.out).cell (j:=0) rfl
 have r1:W3.cell? ⟨w.heap.size+1+1,1,none⟩=some (.int .i64 ke):=(HX2.out.u_ HB3.out).cell (j:=1) rfl
 rw[hW3]at g0 g1 g2 lm0 lm1 lm2 lm3 lm4 lm5 lm6 r0 r1
 clear hW3
 go_wp2_with fail
 rw[←HW3.out]
 refine (HTR.out W3 HB3.out).mono ?_
 rintro e W4 ⟨hb4,u,t,rfl,ho1,ho2⟩
 obtain ⟨oa,ok,rfl,_,_,_⟩:=ho1.reads
 obtain ⟨qa,qk,rfl,_,_,_⟩:=ho2.reads
 obtain ⟨W5,hW5⟩:=gM (W4.alloc (.cells #[.slice oa X1 ok,.slice qa X2 qk,.int .i64 Xn] 34))
 have hb5:Below W4.heap.size W4 W5:=by rw[hW5];exact o_ _ _
 have HB5:=h_ (b_ (b_ HB3.out hb4) hb5)
 have HY1:=h_ (show Blk W5 W4.heap.size #[.slice oa X1 ok,.slice qa X2 qk,.int .i64 Xn] 34 by rw[hW5];exact Blk.new _ _ _ rfl)
 have HN5:=h_ (show Y_ W5 (.slice oa X1 ok) X.net by have h:=ho1.reads.u_ hb5;rw[←HXN.out.1]at h ⊢;exact h)
 have HG5:=h_ (show D_ W5 (.slice qa X2 qk) X.spd by have h:=ho2.reads.u_ hb5;rw[←HXN.out.2.1]at h ⊢;exact h)
 have HW5:=h_ hW5
 clear hb4 ho1 ho2 hW5 hb5 g0 g1 g2 lm0 lm1 lm2 lm3 lm4 lm5 lm6 r0 r1 HTR
 by_cases h0:E=0
 ·subst h0
  rw[e_ rfl]
  obtain ⟨hx1,hk1⟩:=HXE.out rfl
  obtain ⟨hn0,hn1⟩:=HNN.out rfl
  have HXX:=h_ (And.intro hx1 hk1)
  clear hx1 hk1
  go_wp2_with fail
  rw[←HW5.out]
  go_cut [13,14,15,16] from 35 to 49 (fun e1 dv ov _ wx=>∃k:Nat,k<12∧e1=errV (agE ls b.1 b.2 (1+(k:Int)))∧D_ wx dv (agD ls b.1 b.2 (1+(k:Int)))∧ov=.int .i64 (agO ls b.1 b.2 (1+(k:Int)))∧Below W5.heap.size W5 wx)
  case first=>
   have HSB2:Hid (∀W',Below W5.heap.size W5 W'→(fun W'=>W'.cell? ⟨w.heap.size,0,none⟩=some (.slice va N vk)∧W'.cell? ⟨w.heap.size+1,0,none⟩=some (.int .i64 xr)∧W'.cell? ⟨w.heap.size+1,1,none⟩=some (.int .i64 xc)∧W'.cell? ⟨w.heap.size+1,2,none⟩=some (.slice xa xn xk)∧W'.cell? ⟨w.heap.size+1,3,none⟩=some (.int .i64 yr)∧W'.cell? ⟨w.heap.size+1,4,none⟩=some (.int .i64 yc)∧W'.cell? ⟨w.heap.size+1,5,none⟩=some (.slice ya yn yk)) W'):=h_ (fun W' h=>HSB.out W' (b_ HB5.out h))
   obtain ⟨lm0,lm1,lm2,lm3,lm4,lm5,lm6⟩:=HSB2.out W5 (Below.refl _ _)
   go_region_held3 (fun W'=>W'.cell? ⟨w.heap.size,0,none⟩=some (.slice va N vk)∧W'.cell? ⟨w.heap.size+1,0,none⟩=some (.int .i64 xr)∧W'.cell? ⟨w.heap.size+1,1,none⟩=some (.int .i64 xc)∧W'.cell? ⟨w.heap.size+1,2,none⟩=some (.slice xa xn xk)∧W'.cell? ⟨w.heap.size+1,3,none⟩=some (.int .i64 yr)∧W'.cell? ⟨w.heap.size+1,4,none⟩=some (.int .i64 yc)∧W'.cell? ⟨w.heap.size+1,5,none⟩=some (.slice ya yn yk))
    ((refine HSB2.out _ ?_;repeat' (first|with_reducible exact Below.refl _ _|with_reducible refine d_ ?_|with_reducible refine b_ ?_ hbz)))
    (first
     |(go_at_call 9;refine (HPK.out _).mono ?_;rintro e wz ⟨k,rfl,hk,rfl⟩;have hwk:IntKind.i64.wrap (1+(k:Int))=1+(k:Int):=(by rw[IntKind.wrap_i64];omega))
     |(go_at_call 8;refine (HAG.out _ (b_ HB5.out (by repeat' (first|with_reducible exact Below.refl _ _|with_reducible refine d_ ?_))) _).mono ?_;rintro e wz ⟨vd,rfl,hgd,hbz⟩))
   all_goals go_wp2
   all_goals go_meet
   all_goals
    refine ⟨k,by omega,rfl,hgd,rfl,?_⟩
    repeat' (first|with_reducible exact Below.refl _ _|with_reducible refine d_ ?_|with_reducible refine b_ ?_ hbz)
  case rest=>
   obtain ⟨k,hk,rfl,hgd,rfl,hbc⟩:=hcut
   obtain ⟨W6,hW6⟩:=gM (wc)
   subst hW6
   obtain ⟨a1,a2,a3,a4,a5⟩:=HON.out (1+(k:Int)) trivial (ev_of (by omega) (by omega))
   obtain ⟨D,hD⟩:=gN (agD ls b.1 b.2 (1+(k:Int)))
   rw[hD]at hgd a3 a4 a5
   rw[a1,e_ rfl,a2]
   obtain ⟨da,dk,hde,_,_⟩:=hgd.shape
   obtain ⟨dn,hdn⟩:=gN (D.length)
   rw[hdn]at hde
   subst hde
   have HGD:=h_ hgd
   have HB6:=h_ (b_ HB5.out hbc)
   have HEQ:=h_ (And.intro a3 (And.intro a4 a5))
   have HDO:=h_ (stepdo_any (.slice va N vk) (.slice pa N1 pk) (.slice da dn dk) ls ps D le ke W6 (HL.out.u_ HB6.out) (HP.out.u_ HB6.out) hgd)
   rw[a3,e_ rfl]at HDO
   have hdl:doL ls ps D le ke=X.net∧doG ls ps D le ke=X.spd∧X.n=n+1∧sumAt ls (splX b 1)=K:=by
    unfold doL doG
    rw[if_pos a3,if_pos a3,a4,a5,HXX.out.1,HXX.out.2]
    exact ⟨rfl,rfl,rfl,rfl⟩
   obtain ⟨e1,e2,e3,e4⟩:=hdl
   rw[e1,e2]at HDO
   rw[e4]
   have HY16:=h_ (HY1.out.u_ hbc)
   have HN6:=h_ (HN5.out.u_ hbc)
   have HG6:=h_ (HG5.out.u_ hbc)
   have hXn:Xn=n+1:=HXN.out.2.2.symm.trans e3
   have d0:W6.cell? ⟨w.heap.size,0,none⟩=some (.slice va N vk):=(HX0.out.u_ HB6.out).cell (j:=0) rfl
   have d1:W6.cell? ⟨w.heap.size,1,none⟩=some (.slice pa N1 pk):=(HX0.out.u_ HB6.out).cell (j:=1) rfl
   have r0:W6.cell? ⟨w.heap.size+1+1,0,none⟩=some (.int .i64 le):=(HX2.out.u_ HB6.out).cell (j:=0) rfl
   have r1:W6.cell? ⟨w.heap.size+1+1,1,none⟩=some (.int .i64 ke):=(HX2.out.u_ HB6.out).cell (j:=1) rfl
   clear hgd hbc a1 a2 a3 a4 a5 hD hdn e1 e2 e3 e4 hk
   go_wp2_with fail
   refine HDO.out.mono ?_
   rintro e W7 ⟨u,t,rfl,ho1,ho2,hb7⟩
   have HN7:=h_ (HN6.out.u_ hb7)
   have HG7:=h_ (HG6.out.u_ hb7)
   have HU7:=h_ (show Y_ W7 u X.net from ho1.reads)
   have HT7:=h_ (show D_ W7 t X.spd from ho2.reads)
   have HB7:=h_ (b_ HB6.out hb7)
   have HY17:=h_ (HY16.out.u_ hb7)
   obtain ⟨ua,uk,hue,_,_⟩:=HU7.out.shape
   obtain ⟨ta,tk,hte,_,_⟩:=HT7.out.shape
   rw[HXN.out.1]at hue
   rw[HXN.out.2.1]at hte
   subst hue hte
   clear HDO d0 d1 r0 r1 ho1 ho2 hb7
   have HSS:=h_ (hstates_any (.slice ua X1 uk) (.slice ta X2 tk) (.slice oa X1 ok) (.slice qa X2 qk) X.net X.spd (n+1) W7 HU7.out HN7.out HT7.out HG7.out)
   have d2:W7.cell? ⟨w.heap.size,2,none⟩=some (.int .i64 n):=(HX0.out.u_ HB7.out).cell (j:=2) rfl
   have g0:W7.cell? ⟨W4.heap.size,0,none⟩=some (.slice oa X1 ok):=HY17.out.cell (j:=0) rfl
   have g1:W7.cell? ⟨W4.heap.size,1,none⟩=some (.slice qa X2 qk):=HY17.out.cell (j:=1) rfl
   have g2:W7.cell? ⟨W4.heap.size,2,none⟩=some (.int .i64 (n+1)):=by rw[←hXn];exact HY17.out.cell (j:=2) rfl
   clear hXn
   go_wp2_with fail
   refine HSS.out.mono ?_
   rintro e W8 ⟨rfl,hb8⟩
   have HB8:=h_ (b_ HB7.out hb8)
   clear HSS d2 g0 g1 g2 hb8
   go_wp2
   go_ret
   exact ⟨rfl,b_ HWV.out HB8.out⟩
 ·rw[n_ h0]
  clear h0
  go_wp2
  rw[←HW5.out]
  go_ret
  exact ⟨rfl,b_ HWV.out HB5.out⟩
end Go.Proofs.YtpniemnfdleiialGreat
