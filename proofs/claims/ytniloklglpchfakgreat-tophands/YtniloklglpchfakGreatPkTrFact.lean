/- What trainFact of the laws comes to: a scale of 1 that ought to double learns. -/
import Derived.Test.YtniloklglpchfakGreatPkTrC5
import Derived.Test.YtniloklglpchfakGreatPkHdN
import Derived.Test.YtniloklglpchfakGreatPkPlR3
import Derived.Test.YtniloklglpchfakGreatPkTrC4
import Derived.Deep.DeepCutAuto
import Derived.Deep.RegionHeld3
import Derived.Test.YtniloklglpchfakGreatPkLvOf
import Derived.Test.YtniloklglpchfakGreatPkHdT
import Derived.Deep.CutRange
namespace Go.Proofs.YtniloklglpchfakGreat
open Go.RowKit
def tfL:List Ly:=[⟨3,⟨1,1,[256]⟩,noMx⟩]
def tfB:Mx×Mx:=(⟨1,1,[256]⟩,⟨1,1,[512]⟩)
theorem tf_E:oneE tfL (zeroD tfL) 0 tfB 1 128 0=0:=by kernel_rfl
theorem tf_S:(stepS ⟨tfL,zeroD tfL,0⟩ tfB 1 128 0).net=[⟨3,⟨1,1,[384]⟩,noMx⟩]:=by kernel_rfl
theorem tf_n:(stepS ⟨tfL,zeroD tfL,0⟩ tfB 1 128 0).n=1:=by kernel_rfl
theorem tf_K:stepK ⟨tfL,zeroD tfL,0⟩ tfB 1 128 0=128:=by kernel_rfl
theorem tf_made(w:World):Y_ ((w.alloc (.cells #[.int .i64 256] 3)).alloc (.cells #[.int .i64 3,.int .i64 1,.int .i64 1,.slice (some ⟨w.heap.size,0,none⟩) 1 1,.int .i64 0,.int .i64 0,.slice none 0 0] 83)) (.slice (some ⟨w.heap.size+1,0,none⟩) 1 1) tfL:=by
 have h:=Owns.made (lo:=0) (base:=0) (w:=w.alloc (.cells #[.int .i64 256] 3)) (e:=83) (size:=7) (n:=1) (cs:=[.int .i64 3,.int .i64 1,.int .i64 1,.slice (some ⟨w.heap.size,0,none⟩) 1 1,.int .i64 0,.int .i64 0,.slice none 0 0]) (sp:=lyS ⟨3,⟨1,1,[256]⟩,noMx⟩) (Nat.zero_le _) (by unfold maxLen;omega) rfl
  (enc_ly2 (l:=⟨3,⟨1,1,[256]⟩,noMx⟩) ⟨ints_new w [256] (by decide) 3,.inr fun b _ hb=>by omega⟩ ⟨I_.nil _,.inl rfl⟩)
 rw[World.size_alloc]at h
 exact h.reads
set_option maxHeartbeats 8000000 in
set_option maxRecDepth 100000 in
theorem topone_any(w:World):Calls Tryz.prog 4 #[] w fun e w'=>e=.returned (.bool true)∧Below w.heap.size w w':=by
 obtain ⟨V,hV⟩:=gM ((w.alloc (.cells #[.int .i64 256] 3)).alloc (.cells #[.int .i64 3,.int .i64 1,.int .i64 1,.slice (some ⟨w.heap.size,0,none⟩) 1 1,.int .i64 0,.int .i64 0,.slice none 0 0] 83))
 have HV:=h_ hV
 have HWV:Hid (Below w.heap.size w V):=by rw[hV];exact h_ (a_ (o_ _ _))
 have HL:Hid (Y_ V (.slice (some ⟨w.heap.size+1,0,none⟩) 1 1) tfL):=by rw[hV];exact h_ (tf_made w)
 have HC:=h_ (trbegin_any _ tfL V HL.out (by decide) (fun l hl=>by
  have e:l=⟨3,⟨1,1,[256]⟩,noMx⟩:=by simpa [tfL] using hl
  subst e;exact ⟨by decide,by decide⟩))
 clear hV
 go_enter Tryz.func4,Tryz.ntmps4
 go_wp2_with fail
 rw[←HV.out]
 refine HC.out.mono ?_
 rintro e w1 ⟨u,t,rfl,ho1,ho2,hb1⟩
 have H1:=h_ (show Y_ w1 u tfL from ho1.reads)
 have H2:=h_ (show D_ w1 t (zeroD tfL) from ho2.reads)
 obtain ⟨ua,uk,rfl,_,_⟩:=H1.out.shape
 obtain ⟨va,vk,rfl,_,_⟩:=H2.out.shape
 have HW1:=h_ (b_ HWV.out hb1)
 obtain ⟨un,eun⟩:=gN (tfL.length)
 obtain ⟨vn,evn⟩:=gN ((zeroD tfL).length)
 rw[eun]at H1 ⊢
 rw[evn]at H2 ⊢
 clear ho1 ho2 hb1 eun evn HC
 obtain ⟨Z,hZ⟩:=gM ((((w1.alloc (.cells #[.slice ua un uk,.slice va vn vk,.int .i64 0] 35)).alloc (.cells #[.int .i64 256] 3)).alloc (.cells #[.int .i64 512] 3)).alloc (.cells #[.int .i64 1,.int .i64 1,.slice (some ⟨w1.heap.size+1,0,none⟩) 1 1,.int .i64 1,.int .i64 1,.slice (some ⟨w1.heap.size+1+1,0,none⟩) 1 1] 30))
 have HZ:=h_ hZ
 have H1Z:Hid (Below w1.heap.size w1 Z):=by rw[hZ];exact h_ (a_ (a_ (a_ (o_ _ _))))
 have J1:Hid (I_ Z (.slice (some ⟨w1.heap.size+1,0,none⟩) 1 1) tfB.1.cells):=by
  rw[hZ];exact h_ ((ints_newB (w1.alloc (.cells #[.slice ua un uk,.slice va vn vk,.int .i64 0] 35)) [256] (by decide) 3 (B:=w1.heap.size+1) (by simp)).u_ (a_ (o_ _ _)))
 have J2:Hid (I_ Z (.slice (some ⟨w1.heap.size+1+1,0,none⟩) 1 1) tfB.2.cells):=by
  rw[hZ];exact h_ ((ints_newB ((w1.alloc (.cells #[.slice ua un uk,.slice va vn vk,.int .i64 0] 35)).alloc (.cells #[.int .i64 256] 3)) [512] (by decide) 3 (B:=w1.heap.size+1+1) (by simp)).u_ (o_ _ _))
 have HO:=h_ (trone_any (.slice ua un uk) (.slice va vn vk) tfL (zeroD tfL) 0 tfB 1 128 0 (some ⟨w1.heap.size+1,0,none⟩) 1 1 (some ⟨w1.heap.size+1+1,0,none⟩) 1 1 Z (H1.out.u_ H1Z.out) (H2.out.u_ H1Z.out) J1.out J2.out)
 rw[tf_E,tf_S,tf_n,tf_K,e_ rfl]at HO
 clear hZ
 go_wp2_with fail
 rw[←HZ.out]
 refine HO.out.mono ?_
 rintro e w2 ⟨hb2,u2,t2,rfl,ho1,ho2⟩
 have H3:=h_ (show Y_ w2 u2 [⟨3,⟨1,1,[384]⟩,noMx⟩] from ho1.reads)
 obtain ⟨va2,vk2,rfl,_,_,_⟩:=ho2.reads
 obtain ⟨vn2,evn2⟩:=gN ((stepS ⟨tfL,zeroD tfL,0⟩ tfB 1 128 0).spd.length)
 rw[evn2]
 obtain ⟨b,off,cp,sa,sn,sk,ta,tn,tk,rfl,_,_,_,c3,_,_,_,hly⟩:=H3.out.at (i:=0) (l:=⟨3,⟨1,1,[384]⟩,noMx⟩) rfl
 have hi:=(Y_.ints hly).1
 obtain ⟨a',cap',ei,_,_,h4⟩:=hi
 obtain ⟨ib,io,rfl,hic⟩:=h4.resolve_left (by decide)
 obtain ⟨ea,en,ek⟩:=Value.slice.inj ei
 subst ea en ek
 have hbx:=o_ w2 (.cells #[.slice (some ⟨b,off,none⟩) 1 cp,.slice va2 vn2 vk2,.int .i64 1] 35)
 have i0:=c_ hbx (show w2.cell? ⟨ib,io,none⟩=some (.int .i64 384) by simpa using hic 0 384 rfl)
 have c3':=c_ hbx (show w2.cell? ⟨b,off+1+2,none⟩=some (.slice (some ⟨ib,io,none⟩) 1 sk) by simpa using c3)
 have HW2:=h_ (b_ (b_ HW1.out H1Z.out) hb2)
 clear hb2 ho1 ho2 evn2 c3 hly ei h4 hic HO hbx
 go_wp2
 go_ret
 exact ⟨rfl,a_ HW2.out⟩
def Boxes (V:World) (sb:Nat) (v v1:Value) (n br bc dr dc:Int) (s t:Value) (le ke:Int):Prop:=
 WBk V sb #[v,v1,.int .i64 n] 25∧WBk V (sb+1) #[.int .i64 br,.int .i64 bc,s,.int .i64 dr,.int .i64 dc,t] 30∧WBk V (sb+1+1) #[.int .i64 le,.int .i64 ke] 33
theorem Boxes.u_{V W:World}{sb:Nat}{v v1:Value}{n br bc dr dc:Int}{s t:Value}{le ke:Int}(h:Boxes V sb v v1 n br bc dr dc s t le ke)(hb:Below V.heap.size V W):Boxes W sb v v1 n br bc dr dc s t le ke:=⟨h.1.kept hb,h.2.1.kept hb,h.2.2.kept hb⟩
theorem Boxes.cells{V:World}{sb:Nat}{v v1:Value}{n br bc dr dc:Int}{s t:Value}{le ke:Int}(h:Boxes V sb v v1 n br bc dr dc s t le ke):
  (V.cell? ⟨sb,0,none⟩=some v∧V.cell? ⟨sb,1,none⟩=some v1∧V.cell? ⟨sb,2,none⟩=some (.int .i64 n))∧(V.cell? ⟨sb+1,0,none⟩=some (.int .i64 br)∧V.cell? ⟨sb+1,1,none⟩=some (.int .i64 bc)∧V.cell? ⟨sb+1,2,none⟩=some s∧V.cell? ⟨sb+1,3,none⟩=some (.int .i64 dr)∧V.cell? ⟨sb+1,4,none⟩=some (.int .i64 dc)∧V.cell? ⟨sb+1,5,none⟩=some t)∧V.cell? ⟨sb+1+1,0,none⟩=some (.int .i64 le)∧V.cell? ⟨sb+1+1,1,none⟩=some (.int .i64 ke):=
 ⟨⟨h.1.c rfl,h.1.c rfl,h.1.c rfl⟩,⟨h.2.1.c rfl,h.2.1.c rfl,h.2.1.c rfl,h.2.1.c rfl,h.2.1.c rfl,h.2.1.c rfl⟩,h.2.2.c rfl,h.2.2.c rfl⟩
theorem boxes_new(w:World)(v v1:Value)(n br bc dr dc:Int)(s t:Value)(le ke:Int):Boxes (((w.alloc (.cells #[v,v1,.int .i64 n] 25)).alloc (.cells #[.int .i64 br,.int .i64 bc,s,.int .i64 dr,.int .i64 dc,t] 30)).alloc (.cells #[.int .i64 le,.int .i64 ke] 33)) w.heap.size v v1 n br bc dr dc s t le ke:=by
 refine ⟨((WBk.new w _ _).kept (o_ _ _)).kept (o_ _ _),?_,?_⟩
 ·have h:=(WBk.new (w.alloc (.cells #[v,v1,.int .i64 n] 25)) #[.int .i64 br,.int .i64 bc,s,.int .i64 dr,.int .i64 dc,t] 30).kept (o_ _ (.cells #[.int .i64 le,.int .i64 ke] 33))
  rw[World.size_alloc]at h
  exact h
 ·have h:=WBk.new ((w.alloc (.cells #[v,v1,.int .i64 n] 25)).alloc (.cells #[.int .i64 br,.int .i64 bc,s,.int .i64 dr,.int .i64 dc,t] 30)) #[.int .i64 le,.int .i64 ke] 33
  rw[World.size_alloc,World.size_alloc]at h
  exact h
set_option maxHeartbeats 16000000 in
set_option maxRecDepth 100000 in
theorem hands_early(v v1 pv:Value)(ls:List Ly)(ps:List (Mx×Mx))(n:Int)(b:Mx×Mx)(at_:Int)(pl:List (List (Int×Int)))(parts le ke:Int)(sa:Option Addr)(sn sk:Nat)(ta:Option Addr)(tn tk:Nat)(w:World)(hv:Y_ w v ls)(hp:D_ w v1 ps)(hs:I_ w (.slice sa sn sk) b.1.cells)(ht:I_ w (.slice ta tn tk) b.2.cells)(hpv:IsPlan w pv pl)
  (hno:¬(oneE ls ps n b parts le ke=0∧2≤ls.length∧pl.length=2∧planE pl parts=0∧evenB pl=true)):
  Calls Tryz.prog 3 #[.agg #[v,v1,.int .i64 n],.agg #[.int .i64 b.1.rows,.int .i64 b.1.cols,.slice sa sn sk,.int .i64 b.2.rows,.int .i64 b.2.cols,.slice ta tn tk],.int .i64 at_,pv,.int .i64 parts,.agg #[.int .i64 le,.int .i64 ke]] w fun e w'=>e=.returned (.bool true)∧Below w.heap.size w w':=by
 have HNO:=h_ hno
 obtain ⟨va,vk,rfl,hlc,hcm⟩:=hv.shape
 obtain ⟨xa,xk,rfl,hxc,hxm⟩:=hp.shape
 obtain ⟨pa,pk,rfl⟩:∃a k,pv=.slice a pl.length k:=by obtain ⟨a,k,h,_⟩:=hpv;exact ⟨a,k,h⟩
 obtain ⟨br,hbr⟩:=gN (b.1.rows)
 obtain ⟨bc,hbc⟩:=gN (b.1.cols)
 obtain ⟨dr,hdr⟩:=gN (b.2.rows)
 obtain ⟨dc,hdc⟩:=gN (b.2.cols)
 obtain ⟨N,hN⟩:=gN (ls.length)
 obtain ⟨N1,hN1⟩:=gN (ps.length)
 obtain ⟨M,hM⟩:=gN (pl.length)
 rw[hN]at hv ⊢
 rw[hN1]at hp ⊢
 rw[hM]at hpv ⊢
 rw[hN,hM]at HNO
 have HBOX:=h_ (boxes_new w (.slice va N vk) (.slice xa N1 xk) n br bc dr dc (.slice sa sn sk) (.slice ta tn tk) le ke)
 obtain ⟨V,hV⟩:=gM (((w.alloc (.cells #[.slice va N vk,.slice xa N1 xk,.int .i64 n] 25)).alloc (.cells #[.int .i64 br,.int .i64 bc,.slice sa sn sk,.int .i64 dr,.int .i64 dc,.slice ta tn tk] 30)).alloc (.cells #[.int .i64 le,.int .i64 ke] 33))
 rw[←hV]at HBOX
 have HWV:=h_ (show Below w.heap.size w V by rw[hV];exact bel_on (bel_on (o_ _ _) (o_ _ _)) (o_ _ _))
 have HVV:=h_ hV
 have HLS:=h_ hv
 have HPS:=h_ hp
 have HS:=h_ hs
 have HT:=h_ ht
 have HON:=h_ (topone_any V)
 have HONE:=h_ (fun (U:World) (hb:Below w.heap.size w U)=>trone_any (.slice va N vk) (.slice xa N1 xk) ls ps n b parts le ke sa sn sk ta tn tk U (HLS.out.u_ hb) (HPS.out.u_ hb) (HS.out.u_ hb) (HT.out.u_ hb))
 obtain ⟨E,hE⟩:=gN (oneE ls ps n b parts le ke)
 obtain ⟨St,hSt⟩:=gN (stepS ⟨ls,ps,n⟩ b parts le ke)
 obtain ⟨KK,hKK⟩:=gN (stepK ⟨ls,ps,n⟩ b parts le ke)
 obtain ⟨SN,hSN⟩:=gN (St.net.length)
 obtain ⟨SV,hSV⟩:=gN (St.spd.length)
 obtain ⟨SI,hSI⟩:=gN (St.n)
 rw[hE,hbr,hbc,hdr,hdc,hSt,hKK,hSN,hSV,hSI]at HONE
 rw[hE]at HNO
 have HEV:=h_ (fun (U:World) (hb:Below w.heap.size w U)=>peven_any (.slice pa M pk) pl parts U (hpv.u_ hb))
 obtain ⟨X,hX⟩:=gN (planE pl parts)
 have HEX:=h_ (show ∀x,evenX pl parts=x→X=0→E=0→2≤N→M=2→x=false from fun x hx h0 h1 h2 h3=>by
  rw[←hx]
  unfold evenX
  rw[if_pos (hX.trans h0)]
  cases he:evenB pl with
  |false=>rfl
  |true=>exact absurd ⟨h1,h2,h3,hX.trans h0,he⟩ HNO.out)
 obtain ⟨Y,hY⟩:=gN (evenX pl parts)
 replace HEX:=h_ (HEX.out Y hY)
 rw[hX,hY]at HEV
 rw[hbr,hbc,hdr,hdc]
 clear HNO hno hX hY hE hSt hKK hSN hSV hSI hv hp hs ht hpv hV hbr hbc hdr hdc hlc hcm hxc hxm hN hN1 hM
 go_enter Tryz.func3,Tryz.ntmps3
 go_wp2_with (first
  |(go_at_call 4;rw[←HVV.out];refine HON.out.mono ?_;rintro e u1 ⟨rfl,hb1⟩;have HB1:=h_ hb1;obtain ⟨⟨k0,k1,k2⟩,_⟩:=(HBOX.out.u_ hb1).cells;clear hb1)
  |(go_at_call 5;refine (hstate_any _ _ _ _ _ _ _ _).mono ?_;rintro e u2 ⟨rfl,hb2⟩;have HB2:=h_ (bel_on HB1.out hb2);have HB3:=h_ (bel_on HB2.out (o_ u2 (.cells #[.slice va N vk,.slice xa N1 xk,.int .i64 n] 35)));obtain ⟨_,⟨l0,l1,l2,l3,l4,l5⟩,l6,l7⟩:=(HBOX.out.u_ HB3.out).cells;clear hb2)
  |fail)
 refine (HONE.out _ (bel_on HWV.out HB3.out)).mono ?_
 rintro e u3 ⟨hb3,wu,wt,rfl,hwu,hwt⟩
 obtain ⟨wua,wuk,hwue,_,_⟩:=hwu.reads
 obtain ⟨wta,wtk,hwte,_,_⟩:=hwt.reads
 subst hwue hwte
 have HB4:=h_ (bel_on HB3.out hb3)
 have HB5:=h_ (bel_on HB4.out (o_ u3 (.cells #[.slice wua SN wuk,.slice wta SV wtk,.int .i64 SI] 35)))
 obtain ⟨⟨m0,m1,m2⟩,_⟩:=(HBOX.out.u_ HB5.out).cells
 have HBW:=h_ (bel_on HWV.out HB5.out)
 clear hb3 hwu hwt
 by_cases hE:E=0
 case neg=>
  rw[n_ hE]
  clear hE
  go_wp2
  go_ret
  exact ⟨rfl,HBW.out⟩
 case pos=>
 subst hE
 rw[e_ rfl]
 by_cases hN2:(N:Int)<2
 case pos=>
  go_wp2
  go_ret
  exact ⟨rfl,HBW.out⟩
 case neg=>
 by_cases hM2:M=2
 case neg=>
  have hMc:((M:Int) !=2)=true:=by simp;omega
  clear hM2
  go_wp2
  go_ret
  exact ⟨rfl,HBW.out⟩
 case pos=>
 subst hM2
 replace HEX:=h_ (show X=0→Y=false from fun h=>HEX.out h rfl (by omega) rfl)
 go_wp2_with fail
 refine (HEV.out _ HBW.out).mono ?_
 rintro e u4 ⟨rfl,hb4⟩
 have HB6:=h_ (bel_on HBW.out hb4)
 clear hb4
 by_cases hX0:X=0
 case neg=>
  rw[n_ hX0]
  clear hX0
  go_wp2
  go_ret
  exact ⟨rfl,HB6.out⟩
 case pos=>
 have hY0:Y=false:=HEX.out hX0
 subst hX0 hY0
 rw[e_ rfl]
 go_wp2
 go_ret
 exact ⟨rfl,HB6.out⟩
def stepC:Code→Nat→Code
 |.seq a _,0=>a
 |.seq _ b,_=>b
 |.cond _ a _,0=>a
 |.cond _ _ b,_=>b
 |.block _ c,_=>c
 |.loop c,_=>c
 |c,_=>c
structure HGiv (D:HD) (P K J:Nat):Prop where
 hp:HandP D.p0 D.p1 D.P
 pe:D.P=P
 ll:D.L.length=P
 al:D.a.length=K
 bl:D.b.length=J
 k1:1≤K
 j1:1≤J
 k2:K≤12
 j2:J≤12
 p2:P≤12
 pt:∀m,m<P→PartH D.a D.b (D.at m)
 z0:Fits D.a (zeroD D.a)
 z1:Fits D.b (zeroD D.b)
section
variable {D:HD} {h:HBk} {W0 w V:World} {c0 c1:Nat} {d0 d1:Nat→Prop} {y0 y1:List (Mx×Mx)} {q1 q0:List Nat} {m1 m0 g1 g0:Nat→Bool} {P K J m:Nat}
theorem HMem.base(i:HMem D h W0 w c0 c1 d0 d1 y0 y1 q1 q0 m1 m0 g1 g0):HMem D h w w c0 c1 d0 d1 y0 y1 q1 q0 m1 m0 g1 g0:=⟨i.od,i.lt,Kept.refl _ _,i.nxt,i.yy,i.w0,i.w1,i.n0,i.n1,i.e0,i.e1,i.x1,i.x0⟩
theorem HMem.from(i:HMem D h V w c0 c1 d0 d1 y0 y1 q1 q0 m1 m0 g1 g0)(hk:Kept h.A W0 V):HMem D h W0 w c0 c1 d0 d1 y0 y1 q1 q0 m1 m0 g1 g0:=⟨i.od,i.lt,hk.trans i.kp (fun _ _ q=>q),i.nxt,i.yy,i.w0,i.w1,i.n0,i.n1,i.e0,i.e1,i.x1,i.x0⟩
theorem HGiv.na(g:HGiv D P K J):D.a≠[]:=fun e=>by have h1:=g.al;have h2:=g.k1;rw[e]at h1;simp at h1;omega
theorem HGiv.nb(g:HGiv D P K J):D.b≠[]:=fun e=>by have h1:=g.bl;have h2:=g.j1;rw[e]at h1;simp at h1;omega
theorem HGiv.mem(g:HGiv D P K J){n:Nat}{d:Mx×Mx}(hd:d∈D.L.take n):PartH D.a D.b d:=by
 obtain ⟨i,hi⟩:=List.getElem?_of_mem (List.mem_of_mem_take hd)
 have hlt:=(List.getElem?_eq_some_iff.1 hi).1
 have:=g.pt i (by rw[←g.ll];exact hlt)
 unfold HD.at at this
 rw[hi]at this
 exact this
theorem HGiv.f0(g:HGiv D P K J)(n:Nat):Fits D.a (by0 D.a D.b (D.L.take n)):=by0_fits g.z0 (fun _ hd=>g.mem hd)
theorem HGiv.f1(g:HGiv D P K J)(n:Nat):Fits D.b (by1 D.a D.b (D.L.take n)):=by1_fits g.z1 (fun _ hd=>g.mem hd)
theorem HGiv.ge0(g:HGiv D P K J)(n:Nat)(hm:m<P):gaE (by0 D.a D.b (D.L.take n)) (grd0 D.a D.b (D.at m))=0:=(ga_fits (g.f0 n) (g.pt m hm).f0).1
theorem HGiv.ge1(g:HGiv D P K J)(n:Nat)(hm:m<P):gaE (by1 D.a D.b (D.L.take n)) (grd1 D.a D.b (D.at m))=0:=(ga_fits (g.f1 n) (g.pt m hm).f1).1
theorem HGiv.l0(g:HGiv D P K J)(n:Nat):(by0 D.a D.b (D.L.take n)).length≤12:=by rw[(g.f0 n).len,g.al];exact g.k2
theorem HGiv.l1(g:HGiv D P K J)(n:Nat):(by1 D.a D.b (D.L.take n)).length≤12:=by rw[(g.f1 n).len,g.bl];exact g.j2
theorem HGiv.yy0(g:HGiv D P K J)(hm:m<P):gaX (by0 D.a D.b (D.L.take m)) (grd0 D.a D.b (D.at m))=by0 D.a D.b (D.L.take (m+1)):=by rw[at_next (by rw[g.ll];exact hm),by0_snoc]
theorem HGiv.yy1(g:HGiv D P K J)(hm:m<P):gaX (by1 D.a D.b (D.L.take m)) (grd1 D.a D.b (D.at m))=by1 D.a D.b (D.L.take (m+1)):=by rw[at_next (by rw[g.ll];exact hm),by1_snoc]
theorem HGiv.sm(g:HGiv D P K J)(hm:m<P):ad (sumAt (D.a++D.b) (D.L.take m)) (lossX (gotH D.a D.b (D.at m)) (D.at m).2)=sumAt (D.a++D.b) (D.L.take (m+1)):=by
 rw[at_next (by rw[g.ll];exact hm),sumAt_snoc]
 unfold prtX
 rw[(g.pt m hm).en]
theorem HLog.few(g:HGiv D P K J)(l:HLog D c0 c1 q1 q0 m1 m0):q1.length<16∧q0.length<16:=by
 have h1:=few_in l.l1
 have h2:=few_in l.l0
 have h3:=g.pe
 have h4:=g.p2
 omega
theorem act_nat{l:List (Int×Int)}{P c:Nat}(h:StOK l P){a:Int×Int}(ha:l[c]?=some a):∃m:Nat,m<P∧(a=(1,(m:Int))∨a=(2,(m:Int))):=by
 obtain ⟨_,_,h3,h4⟩:=h.ok _ (List.mem_of_getElem? ha)
 refine ⟨a.2.toNat,by omega,?_⟩
 rw[show ((a.2.toNat:Nat):Int)=a.2 by omega]
 exact h.forth ha
theorem back_at{l:List (Int×Int)}{P c m:Nat}(h:StOK l P)(ha:l[c]?=some (2,(m:Int))):bks l c=m∧bks l (c+1)=m+1:=by
 have h1:=gob_next h.gb ha rfl
 have h1:(m:Int)=(bks l c:Int):=h1
 have h2:=bks_back ha rfl
 omega
theorem hinv_f0(g:HGiv D P K J)(ha:D.p0[c0]?=some (1,(m:Int)))(hmP:m<P)(l:HLog D c0 c1 q1 q0 m1 m0)(i:HMem D h W0 w (c0+1) c1 (fun m=>(1,(m:Int))∈D.p0.take (c0+1)) (fun m=>(1,(m:Int))∈D.p1.take c1) (by0 D.a D.b (D.L.take (bks D.p0 c0))) (by1 D.a D.b (D.L.take (bks D.p1 c1))) (q1++[m]) q0 m1 m0 m1 m0):HInv D h W0 w (c0+1) c1 (q1++[m]) q0 m1 m0:=by
 unfold HInv
 rw[bks_forth ha (show (1:Int)≠2 by decide)]
 exact ⟨i,l.forth0 g.hp ha (by rw[g.pe];exact hmP)⟩
theorem hinv_f1(g:HGiv D P K J)(ha:D.p1[c1]?=some (1,(m:Int)))(hmP:m<P)(hc:m1 m=true)(l:HLog D c0 c1 q1 q0 m1 m0)(i:HMem D h W0 w c0 (c1+1) (fun m=>(1,(m:Int))∈D.p0.take c0) (fun m=>(1,(m:Int))∈D.p1.take (c1+1)) (by0 D.a D.b (D.L.take (bks D.p0 c0))) (by1 D.a D.b (D.L.take (bks D.p1 c1))) q1 q0 m1 m0 m1 m0):HInv D h W0 w c0 (c1+1) q1 q0 m1 m0:=by
 unfold HInv
 rw[bks_forth ha (show (1:Int)≠2 by decide)]
 exact ⟨i,l.forth1 g.hp ha (by rw[g.pe];exact hmP) hc⟩
theorem hinv_b0(g:HGiv D P K J)(ha:D.p0[c0]?=some (2,(m:Int)))(hmP:m<P)(hc:m0 m=true)(l:HLog D c0 c1 q1 q0 m1 m0)(i:HMem D h W0 w (c0+1) c1 (fun m=>(1,(m:Int))∈D.p0.take c0) (fun m=>(1,(m:Int))∈D.p1.take c1) (by0 D.a D.b (D.L.take (m+1))) (by1 D.a D.b (D.L.take (bks D.p1 c1))) q1 q0 m1 m0 m1 m0):HInv D h W0 w (c0+1) c1 q1 q0 m1 m0:=by
 unfold HInv
 rw[saw_back ha,(back_at g.hp.s0 ha).2]
 exact ⟨i,l.back0 g.hp ha (by rw[g.pe];exact hmP) hc⟩
theorem hinv_b1(g:HGiv D P K J)(ha:D.p1[c1]?=some (2,(m:Int)))(hmP:m<P)(l:HLog D c0 c1 q1 q0 m1 m0)(i:HMem D h W0 w c0 (c1+1) (fun m=>(1,(m:Int))∈D.p0.take c0) (fun m=>(1,(m:Int))∈D.p1.take c1) (by0 D.a D.b (D.L.take (bks D.p0 c0))) (by1 D.a D.b (D.L.take (m+1))) q1 (q0++[m]) m1 m0 m1 m0):HInv D h W0 w c0 (c1+1) q1 (q0++[m]) m1 m0:=by
 unfold HInv
 rw[saw_back ha,(back_at g.hp.s1 ha).2]
 exact ⟨i,l.back1 g.hp ha (by rw[g.pe];exact hmP)⟩
end
theorem bks_all{l:List (Int×Int)}{P:Nat}(h:StOK l P):bks l (2*P)=P:=by
 have h1:=h.bks_le (c:=2*P) (Nat.le_refl _)
 rcases Nat.eq_zero_or_pos P with e|e
 ·omega
 have h2:(2,((P - 1:Nat):Int))∈l.take (2*P):=by
  rw[←h.len,List.take_length]
  exact h.all ⟨show (1:Int)≤2 by decide,show (2:Int)≤2 by decide,by show (0:Int)≤((P - 1:Nat):Int);omega,by show ((P - 1:Nat):Int)<(P:Int);omega⟩
 have h3:=(bks_mem h.gb _ (2*P) (by rw[h.len];exact Nat.le_refl _)).1 h2
 omega
theorem HGiv.all{D:HD}{P K J:Nat}(g:HGiv D P K J):D.L.take (bks D.p1 (2*P))=D.L∧D.L.take (bks D.p0 (2*P))=D.L:=by
 have h1:=bks_all g.hp.s1
 have h0:=bks_all g.hp.s0
 rw[g.pe]at h1 h0
 rw[h1,h0]
 exact ⟨List.take_of_length_le (by rw[g.ll];exact Nat.le_refl _),List.take_of_length_le (by rw[g.ll];exact Nat.le_refl _)⟩
theorem plan_at{w:World}{pa:Option Addr}{pk:Nat}{p0 p1:List (Int×Int)}(hp:IsPlan w (.slice pa 2 pk) [p0,p1]):∃b off,pa=some ⟨b,off,none⟩∧(∃s,w.cell? ⟨b,off,none⟩=some s∧IsActs w s p0)∧∃s,w.cell? ⟨b,off+1,none⟩=some s∧IsActs w s p1:=by
 obtain ⟨a,cap,h1,_,_,h4⟩:=hp
 injection h1 with e1 e2 e3
 subst e1
 rcases h4 with h4|⟨b,off,ha,hc⟩
 ·cases h4
 ·exact ⟨b,off,ha,hc 0 p0 rfl,hc 1 p1 rfl⟩
theorem acts_at{w:World}{s:Value}{l:List (Int×Int)}{c:Nat}{a:Int×Int}(h:IsActs w s l)(ha:l[c]?=some a):∃b off cap,s=.slice (some ⟨b,off,none⟩) l.length cap∧w.cell? ⟨b,off+c*2,none⟩=some (.int .i64 a.1)∧w.cell? ⟨b,off+c*2+1,none⟩=some (.int .i64 a.2):=by
 obtain ⟨x,cap,h1,_,_,h4⟩:=h
 rcases h4 with h4|⟨b,off,hx,hc⟩
 ·subst h4;simp at ha
 ·subst hx
  exact ⟨b,off,cap,h1,(hc c a ha).1,(hc c a ha).2⟩
set_option maxHeartbeats 32000000 in
set_option maxRecDepth 100000 in
theorem end0{u0 u1 u2 u3 u5 u6 u7 u8 u9 u10 u11 u12 u14 u15 u16 u17 u18 u19 u20 u21 u22 u23 u24 u25 u26 u27 u28 u29 u30 u31 u33 u35 u36 u37 u38 u39 u40 u41 u42 u43 u44 u45 u46 u47 u48 u49 u50 u51 u52 u53 u54 u55 u56 u57 u58 u59 u60 u61 u62 u63 u64 u65 u66 u67 u68 u69 u70 u71 u72 u73 u74 u75 u76 u77 u78 u79 u80 u81 u82 u83 u84 u85 u86 u87 u88 u89 u90 u91 u92 u93 u94 u95 u96 u97 u98 u99 u100 u101 u102 u103 u104 u105 u106 u107 u108 u109 u110 u111 u112 u113 u114 u115 u116 u117 u118 u119 u120 u121 u122 u123 u124 u125 u126 u127 u128 u129 u130 u131 u132 u133 u134 u135 u136 u137 u138 u139 u140 u141 u142 u143 u144 u145 u146 u147 u148 u149 u150 u151 u152 u153 u154 u155 u156 u157 u158 u159 u160 u161 u162 u163 u164 u165 u166 u167 u168 u169 u170 u171 u172 u173 u174 u175 u176 u177 u178 u179 u180 u181 u182 u183 u184 u185 u186 u187 u188 u189 u190 u191 u192 u193 u194 u195 u196 u197 u198 u199 u200 u201 u202 u203 u204 u205 u206 u207 u208 u209 u210 u211 u212 u213 u214 u215 u216 u217 u218 u219 u220 u221 u222 u223 u224 u225 u226 u227 u228 u229 u230 u231 u232 u233 u234 u235 u236 u237 u238 u239 u240 u241 u242 u243 u244 u245 u246 u247 u248 u249 u250 u251 u252 u253 u254 u255 u256 u257 u258 u259 u260 u261 u262 u263 u264 u265 u266 u267 u268 u269 u270 u271 u272 u273 u274 u275 u276 u277 u278 u279 u280 u281 u282 u283 u284 u285 u286 u287 u288 u289 u290 u291 u292 u293 u294 u295 u296 u297 u298 u299 u300 u301 u302 u303 u304 u305 u306 u307 u308 u309 u310 u311 u312 u313 u314 u315 u316 u317 u318 u319 u320 u321 u322 u323 u324 u325 u326 u327 u328 u329 u330 u331 u332 u333 u334 u335 u336 u337 u338 u339 u340 u341 u342 u343 u344 u345 u346 u347 u348 u349 u350 u351 u352 u353 u354 u355 u356 u357 u358 u359 u360 u361 u362 u363 u364 u365 u366 u367 u368 u369 u370 u371 u372 u373 u374 u375 u376 u377 u378 u379 u380 u381 u382 u383 u384 u385 u386 u387 u388 u389 u390 u391 u392 u393 u394 u395 u396 u397 u398 u399 u400 u401 u402 u403 u404 u405 u406 u407 u408 u409 u410 u411 u412 u413 u414 u415 u416 u417 u418 u419 u420 u421 u422 u423 u424 u425 u426 u427 u428 u429 u430 u431 u432 u433 u434 u435 u436 u437 u438 u439 u440 u441:Value}(P B1 C1 B0 C0 Y:Nat)(w:World)(Q:Exit→Act→World→Prop)(D:HD)(W0:World)(c0 c1:Nat)(d0 d1:Nat→Prop)(y0 y1:List (Mx×Mx))(q1 q0:List Nat)(m1 m0 g1 g0:Nat→Bool)(hm:HMem D (HBk.of Y B1 C1 B0 C0) W0 w c0 c1 d0 d1 y0 y1 q1 q0 m1 m0 g1 g0)(hP12:P≤12)(hc0:c0≤24)(hc1:c1≤24)(hQ:∀(v373 v374 v375 v376 v377 v378 v379 v380 v381 v382 v383 v384 v385 v386 v387 v388 v389 v390 v391 v392:Value) (wx:World),HMem D (HBk.of Y B1 C1 B0 C0) W0 wx (c0+1) c1 d0 d1 y0 y1 q1 q0 m1 m0 g1 g0→Q (if c0+c1+1=4*P then .exit 0 else .normal) { tmps:=#[u0,u1,u2,u3,.int .i64 (P:Int),u5,u6,u7,u8,u9,u10,u11,u12,.bool true,u14,u15,u16,u17,u18,u19,u20,u21,u22,u23,u24,u25,u26,u27,u28,u29,u30,u31,.slice (some ⟨Y+1+1+1+1+1+1+1+1+1+1,0,none⟩) 2 2,.int .i64 (-1),.int .i64 0,u35,u36,u37,u38,u39,u40,u41,u42,u43,u44,u45,u46,u47,u48,u49,u50,u51,u52,u53,u54,u55,u56,u57,u58,u59,u60,u61,u62,u63,u64,u65,u66,u67,u68,u69,u70,u71,u72,u73,u74,u75,u76,u77,u78,u79,u80,u81,u82,u83,u84,u85,u86,u87,u88,u89,u90,u91,u92,u93,u94,u95,u96,u97,u98,u99,u100,u101,u102,u103,u104,u105,u106,u107,u108,u109,u110,u111,u112,u113,u114,u115,u116,u117,u118,u119,u120,u121,u122,u123,u124,u125,u126,u127,u128,u129,u130,u131,u132,u133,u134,u135,u136,u137,u138,u139,u140,u141,u142,u143,u144,u145,u146,u147,u148,u149,u150,u151,u152,u153,u154,u155,u156,u157,u158,u159,u160,u161,u162,u163,u164,u165,u166,u167,u168,u169,u170,u171,u172,u173,u174,u175,u176,u177,u178,u179,u180,u181,u182,u183,u184,u185,u186,u187,u188,u189,u190,u191,u192,u193,u194,u195,u196,u197,u198,u199,u200,u201,u202,u203,u204,u205,u206,u207,u208,u209,u210,u211,u212,u213,u214,u215,u216,u217,u218,u219,u220,u221,u222,u223,u224,u225,u226,u227,u228,u229,u230,u231,u232,u233,u234,u235,u236,u237,u238,u239,u240,u241,u242,u243,u244,u245,u246,u247,u248,u249,u250,u251,u252,u253,u254,u255,u256,u257,u258,u259,u260,u261,u262,u263,u264,u265,u266,u267,u268,u269,u270,u271,u272,u273,u274,u275,u276,u277,u278,u279,u280,u281,u282,u283,u284,u285,u286,u287,u288,u289,u290,u291,u292,u293,u294,u295,u296,u297,u298,u299,u300,u301,u302,u303,u304,u305,u306,u307,u308,u309,u310,u311,u312,u313,u314,u315,u316,u317,u318,u319,u320,u321,u322,u323,u324,u325,u326,u327,u328,u329,u330,u331,u332,u333,u334,u335,u336,u337,u338,u339,u340,u341,u342,u343,u344,u345,u346,u347,u348,u349,u350,u351,u352,u353,u354,u355,u356,u357,u358,u359,u360,u361,u362,u363,u364,u365,u366,u367,u368,u369,u370,u371,u372,v373,v374,v375,v376,v377,v378,v379,v380,v381,v382,v383,v384,v385,v386,v387,v388,v389,v390,v391,v392,u393,u394,u395,u396,u397,u398,u399,u400,u401,u402,u403,u404,u405,u406,u407,u408,u409,u410,u411,u412,u413,u414,u415,u416,u417,u418,u419,u420,u421,u422,u423,u424,u425,u426,u427,u428,u429,u430,u431,u432,u433,u434,u435,u436,u437,u438,u439,u440,u441],defers:=[] } wx):Code.wp Tryz.prog (List.foldl stepC ((Tryz.f3.body).getD .skip) [1,1,1,1,1,1,1,1,1,1,1,1,1,1,1,1,1,1,1,1,1,1,1,1,1,1,1,0,1,0,0,1,0,0,1,1,1,1,1,1,1,1]) Q { tmps:=#[u0,u1,u2,u3,.int .i64 (P:Int),u5,u6,u7,u8,u9,u10,u11,u12,.bool true,u14,u15,u16,u17,u18,u19,u20,u21,u22,u23,u24,u25,u26,u27,u28,u29,u30,u31,.slice (some ⟨Y+1+1+1+1+1+1+1+1+1+1,0,none⟩) 2 2,u33,.int .i64 0,u35,u36,u37,u38,u39,u40,u41,u42,u43,u44,u45,u46,u47,u48,u49,u50,u51,u52,u53,u54,u55,u56,u57,u58,u59,u60,u61,u62,u63,u64,u65,u66,u67,u68,u69,u70,u71,u72,u73,u74,u75,u76,u77,u78,u79,u80,u81,u82,u83,u84,u85,u86,u87,u88,u89,u90,u91,u92,u93,u94,u95,u96,u97,u98,u99,u100,u101,u102,u103,u104,u105,u106,u107,u108,u109,u110,u111,u112,u113,u114,u115,u116,u117,u118,u119,u120,u121,u122,u123,u124,u125,u126,u127,u128,u129,u130,u131,u132,u133,u134,u135,u136,u137,u138,u139,u140,u141,u142,u143,u144,u145,u146,u147,u148,u149,u150,u151,u152,u153,u154,u155,u156,u157,u158,u159,u160,u161,u162,u163,u164,u165,u166,u167,u168,u169,u170,u171,u172,u173,u174,u175,u176,u177,u178,u179,u180,u181,u182,u183,u184,u185,u186,u187,u188,u189,u190,u191,u192,u193,u194,u195,u196,u197,u198,u199,u200,u201,u202,u203,u204,u205,u206,u207,u208,u209,u210,u211,u212,u213,u214,u215,u216,u217,u218,u219,u220,u221,u222,u223,u224,u225,u226,u227,u228,u229,u230,u231,u232,u233,u234,u235,u236,u237,u238,u239,u240,u241,u242,u243,u244,u245,u246,u247,u248,u249,u250,u251,u252,u253,u254,u255,u256,u257,u258,u259,u260,u261,u262,u263,u264,u265,u266,u267,u268,u269,u270,u271,u272,u273,u274,u275,u276,u277,u278,u279,u280,u281,u282,u283,u284,u285,u286,u287,u288,u289,u290,u291,u292,u293,u294,u295,u296,u297,u298,u299,u300,u301,u302,u303,u304,u305,u306,u307,u308,u309,u310,u311,u312,u313,u314,u315,u316,u317,u318,u319,u320,u321,u322,u323,u324,u325,u326,u327,u328,u329,u330,u331,u332,u333,u334,u335,u336,u337,u338,u339,u340,u341,u342,u343,u344,u345,u346,u347,u348,u349,u350,u351,u352,u353,u354,u355,u356,u357,u358,u359,u360,u361,u362,u363,u364,u365,u366,u367,u368,u369,u370,u371,u372,u373,u374,u375,u376,u377,u378,u379,u380,u381,u382,u383,u384,u385,u386,u387,u388,u389,u390,u391,u392,u393,u394,u395,u396,u397,u398,u399,u400,u401,u402,u403,u404,u405,u406,u407,u408,u409,u410,u411,u412,u413,u414,u415,u416,u417,u418,u419,u420,u421,u422,u423,u424,u425,u426,u427,u428,u429,u430,u431,u432,u433,u434,u435,u436,u437,u438,u439,u440,u441],defers:=[] } w:=by
 have HM1:=h_ (hm.next0 (c0+1))
 have n0:w.cell? ⟨Y+1+1+1+1+1+1+1+1+1+1,0,none⟩=some (.int .i64 (c0:Int)):=hm.nxt.c (i:=0) rfl
 have n1:w.cell? ⟨Y+1+1+1+1+1+1+1+1+1+1,1,none⟩=some (.int .i64 (c1:Int)):=hm.nxt.c (i:=1) rfl
 have f0:w.frozen? ⟨Y+1+1+1+1+1+1+1+1+1+1,0,none⟩=false:=hm.nxt.f 0
 obtain ⟨V,hV⟩:=gM (w.setCell ⟨Y+1+1+1+1+1+1+1+1+1+1,0,none⟩ (.int .i64 ((c0+1:Nat):Int)))
 have HMV:=h_ (show HMem D (HBk.of Y B1 C1 B0 C0) W0 V (c0+1) c1 d0 d1 y0 y1 q1 q0 m1 m0 g1 g0 by rw[hV];exact HM1.out)
 have a0:V.cell? ⟨Y+1+1+1+1+1+1+1+1+1+1,0,none⟩=some (.int .i64 ((c0+1:Nat):Int)):=HMV.out.nxt.c (i:=0) rfl
 have a1:V.cell? ⟨Y+1+1+1+1+1+1+1+1+1+1,1,none⟩=some (.int .i64 (c1:Int)):=HMV.out.nxt.c (i:=1) rfl
 have hcast:((c0+1:Nat):Int)=(c0:Int)+1:=by omega
 rw[hcast]at hV a0
 have HV:=h_ hV
 have HQ:=h_ hQ
 clear hm hQ hV hcast
 by_cases hd:c0+c1+1=4*P
 ·have hb:(((c0:Int)+1)+(c1:Int)==4*(P:Int))=true:=by simp;omega
  rw[if_pos hd]at HQ
  clear hd
  simp only[List.foldl,stepC,Tryz.f3,Option.getD]
  go_wp2_with fail
  rw[←HV.out]
  go_region
  go_wp2_with fail
  exact HQ.out _ _ _ _ _ _ _ _ _ _ _ _ _ _ _ _ _ _ _ _ _ HMV.out.drew
 ·have hb:(((c0:Int)+1)+(c1:Int)==4*(P:Int))=false:=by simp;omega
  rw[if_neg hd]at HQ
  clear hd
  simp only[List.foldl,stepC,Tryz.f3,Option.getD]
  go_wp2_with fail
  rw[←HV.out]
  go_region
  go_wp2_with fail
  exact HQ.out _ _ _ _ _ _ _ _ _ _ _ _ _ _ _ _ _ _ _ _ _ HMV.out.drew
set_option maxHeartbeats 32000000 in
set_option maxRecDepth 100000 in
theorem end1{u0 u1 u2 u3 u5 u6 u7 u8 u9 u10 u11 u12 u14 u15 u16 u17 u18 u19 u20 u21 u22 u23 u24 u25 u26 u27 u28 u29 u30 u31 u33 u35 u36 u37 u38 u39 u40 u41 u42 u43 u44 u45 u46 u47 u48 u49 u50 u51 u52 u53 u54 u55 u56 u57 u58 u59 u60 u61 u62 u63 u64 u65 u66 u67 u68 u69 u70 u71 u72 u73 u74 u75 u76 u77 u78 u79 u80 u81 u82 u83 u84 u85 u86 u87 u88 u89 u90 u91 u92 u93 u94 u95 u96 u97 u98 u99 u100 u101 u102 u103 u104 u105 u106 u107 u108 u109 u110 u111 u112 u113 u114 u115 u116 u117 u118 u119 u120 u121 u122 u123 u124 u125 u126 u127 u128 u129 u130 u131 u132 u133 u134 u135 u136 u137 u138 u139 u140 u141 u142 u143 u144 u145 u146 u147 u148 u149 u150 u151 u152 u153 u154 u155 u156 u157 u158 u159 u160 u161 u162 u163 u164 u165 u166 u167 u168 u169 u170 u171 u172 u173 u174 u175 u176 u177 u178 u179 u180 u181 u182 u183 u184 u185 u186 u187 u188 u189 u190 u191 u192 u193 u194 u195 u196 u197 u198 u199 u200 u201 u202 u203 u204 u205 u206 u207 u208 u209 u210 u211 u212 u213 u214 u215 u216 u217 u218 u219 u220 u221 u222 u223 u224 u225 u226 u227 u228 u229 u230 u231 u232 u233 u234 u235 u236 u237 u238 u239 u240 u241 u242 u243 u244 u245 u246 u247 u248 u249 u250 u251 u252 u253 u254 u255 u256 u257 u258 u259 u260 u261 u262 u263 u264 u265 u266 u267 u268 u269 u270 u271 u272 u273 u274 u275 u276 u277 u278 u279 u280 u281 u282 u283 u284 u285 u286 u287 u288 u289 u290 u291 u292 u293 u294 u295 u296 u297 u298 u299 u300 u301 u302 u303 u304 u305 u306 u307 u308 u309 u310 u311 u312 u313 u314 u315 u316 u317 u318 u319 u320 u321 u322 u323 u324 u325 u326 u327 u328 u329 u330 u331 u332 u333 u334 u335 u336 u337 u338 u339 u340 u341 u342 u343 u344 u345 u346 u347 u348 u349 u350 u351 u352 u353 u354 u355 u356 u357 u358 u359 u360 u361 u362 u363 u364 u365 u366 u367 u368 u369 u370 u371 u372 u373 u374 u375 u376 u377 u378 u379 u380 u381 u382 u383 u384 u385 u386 u387 u388 u389 u390 u391 u392 u393 u394 u395 u396 u397 u398 u399 u400 u401 u402 u403 u404 u405 u406 u407 u408 u409 u410 u411 u412 u413 u414 u415 u416 u417 u418 u419 u420 u421 u422 u423 u424 u425 u426 u427 u428 u429 u430 u431 u432 u433 u434 u435 u436 u437 u438 u439 u440 u441:Value}(P B1 C1 B0 C0 Y:Nat)(w:World)(Q:Exit→Act→World→Prop)(D:HD)(W0:World)(c0 c1:Nat)(d0 d1:Nat→Prop)(y0 y1:List (Mx×Mx))(q1 q0:List Nat)(m1 m0 g1 g0:Nat→Bool)(hm:HMem D (HBk.of Y B1 C1 B0 C0) W0 w c0 c1 d0 d1 y0 y1 q1 q0 m1 m0 g1 g0)(hP12:P≤12)(hc0:c0≤24)(hc1:c1≤24)(hQ:∀(v373 v374 v375 v376 v377 v378 v379 v380 v381 v382 v383 v384 v385 v386 v387 v388 v389 v390 v391 v392:Value) (wx:World),HMem D (HBk.of Y B1 C1 B0 C0) W0 wx c0 (c1+1) d0 d1 y0 y1 q1 q0 m1 m0 g1 g0→Q (if c0+c1+1=4*P then .exit 0 else .normal) { tmps:=#[u0,u1,u2,u3,.int .i64 (P:Int),u5,u6,u7,u8,u9,u10,u11,u12,.bool true,u14,u15,u16,u17,u18,u19,u20,u21,u22,u23,u24,u25,u26,u27,u28,u29,u30,u31,.slice (some ⟨Y+1+1+1+1+1+1+1+1+1+1,0,none⟩) 2 2,.int .i64 (0),.int .i64 1,u35,u36,u37,u38,u39,u40,u41,u42,u43,u44,u45,u46,u47,u48,u49,u50,u51,u52,u53,u54,u55,u56,u57,u58,u59,u60,u61,u62,u63,u64,u65,u66,u67,u68,u69,u70,u71,u72,u73,u74,u75,u76,u77,u78,u79,u80,u81,u82,u83,u84,u85,u86,u87,u88,u89,u90,u91,u92,u93,u94,u95,u96,u97,u98,u99,u100,u101,u102,u103,u104,u105,u106,u107,u108,u109,u110,u111,u112,u113,u114,u115,u116,u117,u118,u119,u120,u121,u122,u123,u124,u125,u126,u127,u128,u129,u130,u131,u132,u133,u134,u135,u136,u137,u138,u139,u140,u141,u142,u143,u144,u145,u146,u147,u148,u149,u150,u151,u152,u153,u154,u155,u156,u157,u158,u159,u160,u161,u162,u163,u164,u165,u166,u167,u168,u169,u170,u171,u172,u173,u174,u175,u176,u177,u178,u179,u180,u181,u182,u183,u184,u185,u186,u187,u188,u189,u190,u191,u192,u193,u194,u195,u196,u197,u198,u199,u200,u201,u202,u203,u204,u205,u206,u207,u208,u209,u210,u211,u212,u213,u214,u215,u216,u217,u218,u219,u220,u221,u222,u223,u224,u225,u226,u227,u228,u229,u230,u231,u232,u233,u234,u235,u236,u237,u238,u239,u240,u241,u242,u243,u244,u245,u246,u247,u248,u249,u250,u251,u252,u253,u254,u255,u256,u257,u258,u259,u260,u261,u262,u263,u264,u265,u266,u267,u268,u269,u270,u271,u272,u273,u274,u275,u276,u277,u278,u279,u280,u281,u282,u283,u284,u285,u286,u287,u288,u289,u290,u291,u292,u293,u294,u295,u296,u297,u298,u299,u300,u301,u302,u303,u304,u305,u306,u307,u308,u309,u310,u311,u312,u313,u314,u315,u316,u317,u318,u319,u320,u321,u322,u323,u324,u325,u326,u327,u328,u329,u330,u331,u332,u333,u334,u335,u336,u337,u338,u339,u340,u341,u342,u343,u344,u345,u346,u347,u348,u349,u350,u351,u352,u353,u354,u355,u356,u357,u358,u359,u360,u361,u362,u363,u364,u365,u366,u367,u368,u369,u370,u371,u372,v373,v374,v375,v376,v377,v378,v379,v380,v381,v382,v383,v384,v385,v386,v387,v388,v389,v390,v391,v392,u393,u394,u395,u396,u397,u398,u399,u400,u401,u402,u403,u404,u405,u406,u407,u408,u409,u410,u411,u412,u413,u414,u415,u416,u417,u418,u419,u420,u421,u422,u423,u424,u425,u426,u427,u428,u429,u430,u431,u432,u433,u434,u435,u436,u437,u438,u439,u440,u441],defers:=[] } wx):Code.wp Tryz.prog (List.foldl stepC ((Tryz.f3.body).getD .skip) [1,1,1,1,1,1,1,1,1,1,1,1,1,1,1,1,1,1,1,1,1,1,1,1,1,1,1,0,1,0,0,1,0,0,1,1,1,1,1,1,1,1]) Q { tmps:=#[u0,u1,u2,u3,.int .i64 (P:Int),u5,u6,u7,u8,u9,u10,u11,u12,.bool true,u14,u15,u16,u17,u18,u19,u20,u21,u22,u23,u24,u25,u26,u27,u28,u29,u30,u31,.slice (some ⟨Y+1+1+1+1+1+1+1+1+1+1,0,none⟩) 2 2,u33,.int .i64 1,u35,u36,u37,u38,u39,u40,u41,u42,u43,u44,u45,u46,u47,u48,u49,u50,u51,u52,u53,u54,u55,u56,u57,u58,u59,u60,u61,u62,u63,u64,u65,u66,u67,u68,u69,u70,u71,u72,u73,u74,u75,u76,u77,u78,u79,u80,u81,u82,u83,u84,u85,u86,u87,u88,u89,u90,u91,u92,u93,u94,u95,u96,u97,u98,u99,u100,u101,u102,u103,u104,u105,u106,u107,u108,u109,u110,u111,u112,u113,u114,u115,u116,u117,u118,u119,u120,u121,u122,u123,u124,u125,u126,u127,u128,u129,u130,u131,u132,u133,u134,u135,u136,u137,u138,u139,u140,u141,u142,u143,u144,u145,u146,u147,u148,u149,u150,u151,u152,u153,u154,u155,u156,u157,u158,u159,u160,u161,u162,u163,u164,u165,u166,u167,u168,u169,u170,u171,u172,u173,u174,u175,u176,u177,u178,u179,u180,u181,u182,u183,u184,u185,u186,u187,u188,u189,u190,u191,u192,u193,u194,u195,u196,u197,u198,u199,u200,u201,u202,u203,u204,u205,u206,u207,u208,u209,u210,u211,u212,u213,u214,u215,u216,u217,u218,u219,u220,u221,u222,u223,u224,u225,u226,u227,u228,u229,u230,u231,u232,u233,u234,u235,u236,u237,u238,u239,u240,u241,u242,u243,u244,u245,u246,u247,u248,u249,u250,u251,u252,u253,u254,u255,u256,u257,u258,u259,u260,u261,u262,u263,u264,u265,u266,u267,u268,u269,u270,u271,u272,u273,u274,u275,u276,u277,u278,u279,u280,u281,u282,u283,u284,u285,u286,u287,u288,u289,u290,u291,u292,u293,u294,u295,u296,u297,u298,u299,u300,u301,u302,u303,u304,u305,u306,u307,u308,u309,u310,u311,u312,u313,u314,u315,u316,u317,u318,u319,u320,u321,u322,u323,u324,u325,u326,u327,u328,u329,u330,u331,u332,u333,u334,u335,u336,u337,u338,u339,u340,u341,u342,u343,u344,u345,u346,u347,u348,u349,u350,u351,u352,u353,u354,u355,u356,u357,u358,u359,u360,u361,u362,u363,u364,u365,u366,u367,u368,u369,u370,u371,u372,u373,u374,u375,u376,u377,u378,u379,u380,u381,u382,u383,u384,u385,u386,u387,u388,u389,u390,u391,u392,u393,u394,u395,u396,u397,u398,u399,u400,u401,u402,u403,u404,u405,u406,u407,u408,u409,u410,u411,u412,u413,u414,u415,u416,u417,u418,u419,u420,u421,u422,u423,u424,u425,u426,u427,u428,u429,u430,u431,u432,u433,u434,u435,u436,u437,u438,u439,u440,u441],defers:=[] } w:=by
 have HM1:=h_ (hm.next1 (c1+1))
 have n0:w.cell? ⟨Y+1+1+1+1+1+1+1+1+1+1,0,none⟩=some (.int .i64 (c0:Int)):=hm.nxt.c (i:=0) rfl
 have n1:w.cell? ⟨Y+1+1+1+1+1+1+1+1+1+1,1,none⟩=some (.int .i64 (c1:Int)):=hm.nxt.c (i:=1) rfl
 have f0:w.frozen? ⟨Y+1+1+1+1+1+1+1+1+1+1,1,none⟩=false:=hm.nxt.f 1
 obtain ⟨V,hV⟩:=gM (w.setCell ⟨Y+1+1+1+1+1+1+1+1+1+1,1,none⟩ (.int .i64 ((c1+1:Nat):Int)))
 have HMV:=h_ (show HMem D (HBk.of Y B1 C1 B0 C0) W0 V c0 (c1+1) d0 d1 y0 y1 q1 q0 m1 m0 g1 g0 by rw[hV];exact HM1.out)
 have a0:V.cell? ⟨Y+1+1+1+1+1+1+1+1+1+1,0,none⟩=some (.int .i64 (c0:Int)):=HMV.out.nxt.c (i:=0) rfl
 have a1:V.cell? ⟨Y+1+1+1+1+1+1+1+1+1+1,1,none⟩=some (.int .i64 ((c1+1:Nat):Int)):=HMV.out.nxt.c (i:=1) rfl
 have hcast:((c1+1:Nat):Int)=(c1:Int)+1:=by omega
 rw[hcast]at hV a1
 have HV:=h_ hV
 have HQ:=h_ hQ
 clear hm hQ hV hcast
 by_cases hd:c0+c1+1=4*P
 ·have hb:((c0:Int)+((c1:Int)+1)==4*(P:Int))=true:=by simp;omega
  rw[if_pos hd]at HQ
  clear hd
  simp only[List.foldl,stepC,Tryz.f3,Option.getD]
  go_wp2_with fail
  rw[←HV.out]
  go_region
  go_wp2_with fail
  exact HQ.out _ _ _ _ _ _ _ _ _ _ _ _ _ _ _ _ _ _ _ _ _ HMV.out.drew
 ·have hb:((c0:Int)+((c1:Int)+1)==4*(P:Int))=false:=by simp;omega
  rw[if_neg hd]at HQ
  clear hd
  simp only[List.foldl,stepC,Tryz.f3,Option.getD]
  go_wp2_with fail
  rw[←HV.out]
  go_region
  go_wp2_with fail
  exact HQ.out _ _ _ _ _ _ _ _ _ _ _ _ _ _ _ _ _ _ _ _ _ HMV.out.drew
end Go.Proofs.YtniloklglpchfakGreat
