/- What Told of package plain and Error of package galleysame come to at an Errno and at nil. Condition: the library's variable errors.errorType is as its text lays it. -/
import Derived.Test.YtniloklglpchfaeGreatDoorPkSameL
import Derived.WalkLawsBesides
import Derived.Below
import Derived.Test.YtniloklglpchfaeGreatDoorPkSame
import Derived.Test.YtniloklglpchfaeGreatDoorTrC5
namespace Go.Proofs.YtniloklglpchfaeGreatDoor
open Go.RowKit
theorem Handle.alloc{w:World}(h:Handle w)(o:Obj):Handle (w.alloc o):=by
 unfold Handle;rw[World.cell?_alloc_lt _ _ ⟨0,0,none⟩ (World.block_lt_of_cell? w _ h)];exact h
theorem told_hit(k:Int)(w:World)(hg:Handle w):Calls Tryz.prog 22 #[.iface 33 (.int .i64 k)] w fun e w'=>e=.returned (.int .i64 k)∧Below w.heap.size w w':=by
 have hA:=hg.alloc (.cells #[.int .i64 0] 33)
 have htA:(w.alloc (.cells #[.int .i64 0] 33)).cell? ⟨w.heap.size,0,none⟩=some (.int .i64 0):=by simp
 have hfA:(w.alloc (.cells #[.int .i64 0] 33)).frozen? ⟨w.heap.size,0,none⟩=false:=by simp
 go_enter Tryz.func22,Tryz.ntmps22
 go_wp2_with (go_at_call 41;refine (as_hit k _ (.int .i64 0) _ hA htA hfA).mono ?_;rintro e w' ⟨rfl,rfl⟩)
 go_ret
 exact ⟨rfl,by repeat (first|exact Below.refl _ _|refine Below.alloc ?_ (by first|exact Nat.le_refl _|(simp only[World.size_alloc];omega)|omega) _)⟩
theorem error_hit(k n:Int)(w:World)(hg:Handle w):Calls Tryz.prog 8 #[.iface 33 (.int .i64 k),.int .i64 n] w fun e w'=>e=.returned (.bool (k==n))∧Below w.heap.size w w':=by
 go_enter Tryz.func8,Tryz.ntmps8
 go_wp2_with (go_at_call 22;refine (told_hit k _ hg).mono ?_;rintro e w1 ⟨rfl,hb⟩)
 go_ret
 exact ⟨rfl,hb⟩
theorem told_nil(w:World):Calls Tryz.prog 22 #[.nilIface] w fun e w'=>e=.returned (.int .i64 0)∧w'=w:=by
 go_enter Tryz.func22,Tryz.ntmps22
 go_wp2
 go_ret
 exact ⟨rfl,rfl⟩
theorem Handle.u_{w w':World}(h:Handle w)(hb:Below w.heap.size w w'):Handle w':=by
 unfold Handle at h ⊢
 rw[hb.cell (p:=⟨0,0,none⟩) (World.block_lt_of_cell? w _ h)];exact h
theorem error_any(k n:Int)(w:World)(hg:Handle w):Calls Tryz.prog 8 #[errV k,.int .i64 n] w fun e w'=>e=.returned (.bool (k==n))∧Below w.heap.size w w':=by
 by_cases hk:k=0
 ·subst hk
  rw[show errV 0=.nilIface from rfl]
  go_enter Tryz.func8,Tryz.ntmps8
  go_wp2_with (go_at_call 22;refine (told_nil _).mono ?_;rintro e w1 ⟨rfl,rfl⟩)
  go_ret
  exact ⟨rfl,Below.refl _ _⟩
 ·rw[show errV k=.iface 33 (.int .i64 k) by unfold errV;rw[if_neg hk]]
  exact error_hit k n w hg
theorem error_same{k n:Int}(h:k=n)(w:World)(hg:Handle w):Calls Tryz.prog 8 #[errV k,.int .i64 n] w fun e w'=>e=.returned (.bool true)∧Below w.heap.size w w':=by
 refine (error_any k n w hg).mono ?_
 rintro e w' ⟨rfl,hb⟩
 exact ⟨by rw[h];simp,hb⟩
set_option maxHeartbeats 16000000 in
set_option maxRecDepth 100000 in
theorem tones_walk(v0 v1:Value)(ls:List Ly)(ps:List (Mx×Mx))(n:Int)(vb:Value)(b:Mx×Mx)(parts le ke:Int)(w:World)(w0:Y_ w v0 ls)(w1:D_ w v1 ps)(w2:IsTwo w vb b.1 b.2)(hH:Handle w):Calls Tryz.prog 3 #[.agg #[v0,v1,.int .i64 n],vb,.int .i64 parts,.agg #[.int .i64 le,.int .i64 ke]] w fun e w'=>e=.returned (.bool true)∧Below w.heap.size w w':=by
 obtain ⟨a,cap,rfl,_,_⟩:=w0.shape
 obtain ⟨a1,cap1,rfl,_,_⟩:=w1.shape
 obtain ⟨sb',tb',rfl,hs,ht⟩:=w2
 obtain ⟨sa,sn,sk,rfl⟩:=hs.shape
 obtain ⟨ta,tn,tk,rfl⟩:=ht.shape
 obtain ⟨N,hN⟩:=gN (ls.length)
 obtain ⟨N1,hN1⟩:=gN (ps.length)
 rw[hN]at w0 ⊢
 rw[hN1]at w1 ⊢
 obtain ⟨V,hV⟩:=gM (((w.alloc (.cells #[.slice a N cap,.slice a1 N1 cap1,.int .i64 n] 25)).alloc (.cells #[.int .i64 b.1.rows,.int .i64 b.1.cols,.slice sa sn sk,.int .i64 b.2.rows,.int .i64 b.2.cols,.slice ta tn tk] 30)).alloc (.cells #[.int .i64 le,.int .i64 ke] 32))
 have HV:=h_ hV
 have HWV:Hid (Below w.heap.size w V):=by rw[hV];exact h_ (a_ (a_ (o_ _ _)))
 have HX0:Hid (Box V w.heap.size [.slice a N cap,.slice a1 N1 cap1,.int .i64 n]):=by rw[hV];exact h_ ((Box.new w [.slice a N cap,.slice a1 N1 cap1,.int .i64 n] 25 rfl).u_ (a_ (o_ _ _)))
 have HX1:Hid (Box V (w.heap.size+1) [.int .i64 b.1.rows,.int .i64 b.1.cols,.slice sa sn sk,.int .i64 b.2.rows,.int .i64 b.2.cols,.slice ta tn tk]):=by rw[hV];exact h_ ((Box.new _ [.int .i64 b.1.rows,.int .i64 b.1.cols,.slice sa sn sk,.int .i64 b.2.rows,.int .i64 b.2.cols,.slice ta tn tk] 30 (by simp)).u_ (o_ _ _))
 have HX2:Hid (Box V (w.heap.size+1+1) [.int .i64 le,.int .i64 ke]):=by rw[hV];exact h_ (Box.new _ [.int .i64 le,.int .i64 ke] 32 (by simp))
 have M0:=h_ (w0.u_ HWV.out)
 have M1:=h_ (w1.u_ HWV.out)
 have MS:=h_ (hs.u_ HWV.out)
 have MT:=h_ (ht.u_ HWV.out)
 have HH:=h_ (hH.u_ HWV.out)
 obtain ⟨E0,hE0⟩:=gN (stateE ls ps n)
 obtain ⟨E,hE⟩:=gN (oneE ls ps n b parts le ke)
 obtain ⟨X,hX⟩:=gN (stepS ⟨ls,ps,n⟩ b parts le ke)
 obtain ⟨K,hK⟩:=gN (stepK ⟨ls,ps,n⟩ b parts le ke)
 have HE0:=h_ hE0
 have HE:=h_ (And.intro hE (And.intro hX hK))
 clear w0 w1 hs ht hE0 hE hX hK hH hN hN1
 have C0:=h_ (Below.refl V.heap.size V)
 obtain ⟨d0,d1,d2⟩:=(HX0.out.u_ C0.out).c3
 rw[HV.out]at d0 d1 d2
 clear hV
 go_enter Tryz.func3,Tryz.ntmps3
 have HX:=h_ (rstatefault_any _ _ ls ps n _ (M0.out.u_ C0.out) (M1.out.u_ C0.out))
 go_wp2_with fail
 rw[←HV.out]
 refine HX.out.mono ?_
 rintro e u1 ⟨rfl,hb⟩
 replace C0:=h_ (b_ C0.out hb)
 clear HX hb
 have C1:=h_ (Below.refl u1.heap.size u1)
 rw[HE0.out]
 clear d0 d1 d2
 obtain ⟨d0,d1,d2⟩:=(HX0.out.u_ C0.out).c3
 have HX:=h_ (lawstate_any a N cap a1 N1 cap1 n u1)
 go_wp2_with fail
 refine HX.out.mono ?_
 rintro e u2 ⟨rfl,hb⟩
 replace C0:=h_ (b_ C0.out hb)
 replace C1:=h_ (b_ C1.out hb)
 clear HX hb
 have C2:=h_ (Below.refl u2.heap.size u2)
 clear d0 d1 d2
 replace C0:=h_ (a_ (o:=(.cells #[.slice a N cap,.slice a1 N1 cap1,.int .i64 n] 35)) C0.out)
 replace C1:=h_ (a_ (o:=(.cells #[.slice a N cap,.slice a1 N1 cap1,.int .i64 n] 35)) C1.out)
 replace C2:=h_ (a_ (o:=(.cells #[.slice a N cap,.slice a1 N1 cap1,.int .i64 n] 35)) C2.out)
 have HX3:=h_ (show Box (u2.alloc (.cells #[.slice a N cap,.slice a1 N1 cap1,.int .i64 n] 35)) u2.heap.size [.slice a N cap,.slice a1 N1 cap1,.int .i64 n] from Box.new _ _ _ rfl)
 have C3:=h_ (Below.refl (u2.alloc (.cells #[.slice a N cap,.slice a1 N1 cap1,.int .i64 n] 35)).heap.size (u2.alloc (.cells #[.slice a N cap,.slice a1 N1 cap1,.int .i64 n] 35)))
 have HX:=h_ (trcheck_any _ _ ls ps n _ (M0.out.u_ C0.out) (M1.out.u_ C0.out))
 go_wp2_with fail
 refine HX.out.mono ?_
 rintro e u3 ⟨rfl,hb⟩
 replace C0:=h_ (b_ C0.out hb)
 replace C1:=h_ (b_ C1.out hb)
 replace C2:=h_ (b_ C2.out hb)
 replace C3:=h_ (b_ C3.out hb)
 clear HX hb
 have C4:=h_ (Below.refl u3.heap.size u3)
 rw[HE0.out]
 have HX:=h_ (error_same (k:=E0) (n:=E0) rfl _ (HH.out.u_ C0.out))
 go_wp2_with fail
 refine HX.out.mono ?_
 rintro e u4 ⟨rfl,hb⟩
 replace C0:=h_ (b_ C0.out hb)
 replace C1:=h_ (b_ C1.out hb)
 replace C2:=h_ (b_ C2.out hb)
 replace C3:=h_ (b_ C3.out hb)
 replace C4:=h_ (b_ C4.out hb)
 clear HX hb
 have C5:=h_ (Below.refl u4.heap.size u4)
 obtain ⟨d0,d1,d2⟩:=(HX3.out.u_ C3.out).c3
 obtain ⟨g0,g1,g2,g3,g4,g5⟩:=(HX1.out.u_ C0.out).c6
 obtain ⟨r0,r1⟩:=(HX2.out.u_ C0.out).c2
 have HX:=h_ (trone_any _ _ ls ps n b parts le ke sa sn sk ta tn tk _ (M0.out.u_ C0.out) (M1.out.u_ C0.out) (MS.out.u_ C0.out) (MT.out.u_ C0.out))
 go_wp2_with fail
 refine HX.out.mono ?_
 rintro e u5 ⟨hb,x1,x2,rfl,ho1,ho2⟩
 replace C0:=h_ (b_ C0.out hb)
 replace C1:=h_ (b_ C1.out hb)
 replace C2:=h_ (b_ C2.out hb)
 replace C3:=h_ (b_ C3.out hb)
 replace C4:=h_ (b_ C4.out hb)
 replace C5:=h_ (b_ C5.out hb)
 clear HX hb
 have C6:=h_ (Below.refl u5.heap.size u5)
 rw[HE.out.1,HE.out.2.1,HE.out.2.2]
 rw[HE.out.2.1]at ho1 ho2
 have Hp1:=h_ (show Y_ u5 x1 X.net from ho1.reads)
 have Hp2:=h_ (show D_ u5 x2 X.spd from ho2.reads)
 obtain ⟨pa,pk,rfl,_,_⟩:=Hp1.out.shape
 obtain ⟨pb,pl,rfl,_,_⟩:=Hp2.out.shape
 clear ho1 ho2
 clear d0 d1 d2 g0 g1 g2 g3 g4 g5 r0 r1
 obtain ⟨XN,eXN⟩:=gN (X.net.length)
 obtain ⟨XV,eXV⟩:=gN (X.spd.length)
 obtain ⟨xn,exn⟩:=gN (X.n)
 have HXN:=h_ (And.intro eXN eXV)
 rw[eXN]at Hp1 ⊢
 rw[eXV]at Hp2 ⊢
 rw[exn]
 have HXE:=h_ exn
 clear eXN eXV exn
 replace C0:=h_ (a_ (o:=(.cells #[.slice pa XN pk,.slice pb XV pl,.int .i64 xn] 35)) C0.out)
 replace C1:=h_ (a_ (o:=(.cells #[.slice pa XN pk,.slice pb XV pl,.int .i64 xn] 35)) C1.out)
 replace C2:=h_ (a_ (o:=(.cells #[.slice pa XN pk,.slice pb XV pl,.int .i64 xn] 35)) C2.out)
 replace C3:=h_ (a_ (o:=(.cells #[.slice pa XN pk,.slice pb XV pl,.int .i64 xn] 35)) C3.out)
 replace C4:=h_ (a_ (o:=(.cells #[.slice pa XN pk,.slice pb XV pl,.int .i64 xn] 35)) C4.out)
 replace C5:=h_ (a_ (o:=(.cells #[.slice pa XN pk,.slice pb XV pl,.int .i64 xn] 35)) C5.out)
 replace C6:=h_ (a_ (o:=(.cells #[.slice pa XN pk,.slice pb XV pl,.int .i64 xn] 35)) C6.out)
 have HX4:=h_ (show Box (u5.alloc (.cells #[.slice pa XN pk,.slice pb XV pl,.int .i64 xn] 35)) u5.heap.size [.slice pa XN pk,.slice pb XV pl,.int .i64 xn] from Box.new _ _ _ rfl)
 have C7:=h_ (Below.refl (u5.alloc (.cells #[.slice pa XN pk,.slice pb XV pl,.int .i64 xn] 35)).heap.size (u5.alloc (.cells #[.slice pa XN pk,.slice pb XV pl,.int .i64 xn] 35)))
 obtain ⟨d0,d1,d2⟩:=(HX0.out.u_ C0.out).c3
 obtain ⟨g0,g1,g2,g3,g4,g5⟩:=(HX1.out.u_ C0.out).c6
 obtain ⟨r0,r1⟩:=(HX2.out.u_ C0.out).c2
 have HX:=h_ (roneof_step _ _ ls ps n b parts le ke sa sn sk ta tn tk _ (M0.out.u_ C0.out) (M1.out.u_ C0.out) (MS.out.u_ C0.out) (MT.out.u_ C0.out))
 go_wp2_with fail
 refine HX.out.mono ?_
 rintro e u6 ⟨hb,x1,x2,rfl,ho1,ho2⟩
 replace C0:=h_ (b_ C0.out hb)
 replace C1:=h_ (b_ C1.out hb)
 replace C2:=h_ (b_ C2.out hb)
 replace C3:=h_ (b_ C3.out hb)
 replace C4:=h_ (b_ C4.out hb)
 replace C5:=h_ (b_ C5.out hb)
 replace C6:=h_ (b_ C6.out hb)
 replace C7:=h_ (b_ C7.out hb)
 clear HX hb
 have C8:=h_ (Below.refl u6.heap.size u6)
 rw[HE.out.1,HE.out.2.1,HE.out.2.2]
 rw[HE.out.2.1]at ho1 ho2
 have Hq1:=h_ (show Y_ u6 x1 X.net from ho1.reads)
 have Hq2:=h_ (show D_ u6 x2 X.spd from ho2.reads)
 obtain ⟨qa,qk,rfl,_,_⟩:=Hq1.out.shape
 obtain ⟨qb,ql,rfl,_,_⟩:=Hq2.out.shape
 clear ho1 ho2
 clear d0 d1 d2 g0 g1 g2 g3 g4 g5 r0 r1
 rw[HXN.out.1]at Hq1 ⊢
 rw[HXN.out.2]at Hq2 ⊢
 rw[HXE.out]
 replace C0:=h_ (a_ (o:=(.cells #[.slice qa XN qk,.slice qb XV ql,.int .i64 xn] 25)) C0.out)
 replace C1:=h_ (a_ (o:=(.cells #[.slice qa XN qk,.slice qb XV ql,.int .i64 xn] 25)) C1.out)
 replace C2:=h_ (a_ (o:=(.cells #[.slice qa XN qk,.slice qb XV ql,.int .i64 xn] 25)) C2.out)
 replace C3:=h_ (a_ (o:=(.cells #[.slice qa XN qk,.slice qb XV ql,.int .i64 xn] 25)) C3.out)
 replace C4:=h_ (a_ (o:=(.cells #[.slice qa XN qk,.slice qb XV ql,.int .i64 xn] 25)) C4.out)
 replace C5:=h_ (a_ (o:=(.cells #[.slice qa XN qk,.slice qb XV ql,.int .i64 xn] 25)) C5.out)
 replace C6:=h_ (a_ (o:=(.cells #[.slice qa XN qk,.slice qb XV ql,.int .i64 xn] 25)) C6.out)
 replace C7:=h_ (a_ (o:=(.cells #[.slice qa XN qk,.slice qb XV ql,.int .i64 xn] 25)) C7.out)
 replace C8:=h_ (a_ (o:=(.cells #[.slice qa XN qk,.slice qb XV ql,.int .i64 xn] 25)) C8.out)
 have HX5:=h_ (show Box (u6.alloc (.cells #[.slice qa XN qk,.slice qb XV ql,.int .i64 xn] 25)) u6.heap.size [.slice qa XN qk,.slice qb XV ql,.int .i64 xn] from Box.new _ _ _ rfl)
 have C9:=h_ (Below.refl (u6.alloc (.cells #[.slice qa XN qk,.slice qb XV ql,.int .i64 xn] 25)).heap.size (u6.alloc (.cells #[.slice qa XN qk,.slice qb XV ql,.int .i64 xn] 25)))
 have HX:=h_ (error_same (k:=E) (n:=E) rfl _ (HH.out.u_ C0.out))
 go_wp2_with fail
 refine HX.out.mono ?_
 rintro e u7 ⟨rfl,hb⟩
 replace C0:=h_ (b_ C0.out hb)
 replace C1:=h_ (b_ C1.out hb)
 replace C2:=h_ (b_ C2.out hb)
 replace C3:=h_ (b_ C3.out hb)
 replace C4:=h_ (b_ C4.out hb)
 replace C5:=h_ (b_ C5.out hb)
 replace C6:=h_ (b_ C6.out hb)
 replace C7:=h_ (b_ C7.out hb)
 replace C8:=h_ (b_ C8.out hb)
 replace C9:=h_ (b_ C9.out hb)
 clear HX hb
 have C10:=h_ (Below.refl u7.heap.size u7)
 obtain ⟨d0,d1,d2⟩:=(HX4.out.u_ C7.out).c3
 obtain ⟨g0,g1,g2⟩:=(HX5.out.u_ C9.out).c3
 have HX:=h_ (lawstates_any (.slice pa XN pk) (.slice pb XV pl) (.slice qa XN qk) (.slice qb XV ql) X.net X.spd xn _ (Hp1.out.u_ C6.out) (Hp2.out.u_ C6.out) (Hq1.out.u_ C8.out) (Hq2.out.u_ C8.out))
 go_wp2_with fail
 refine HX.out.mono ?_
 rintro e u8 ⟨rfl,hb⟩
 replace C0:=h_ (b_ C0.out hb)
 replace C1:=h_ (b_ C1.out hb)
 replace C2:=h_ (b_ C2.out hb)
 replace C3:=h_ (b_ C3.out hb)
 replace C4:=h_ (b_ C4.out hb)
 replace C5:=h_ (b_ C5.out hb)
 replace C6:=h_ (b_ C6.out hb)
 replace C7:=h_ (b_ C7.out hb)
 replace C8:=h_ (b_ C8.out hb)
 replace C9:=h_ (b_ C9.out hb)
 replace C10:=h_ (b_ C10.out hb)
 clear HX hb
 have C11:=h_ (Below.refl u8.heap.size u8)
 clear d0 d1 d2 g0 g1 g2
 have hkk:(K==K)=true:=by simp
 go_wp2
 go_ret
 exact ⟨rfl,b_ HWV.out C0.out⟩
end Go.Proofs.YtniloklglpchfaeGreatDoor
