/- What One of package train comes to: one step of all parts. -/
import Derived.Test.YtniloklglpchfafPkTrainR
import Derived.Test.YtniloklglpchfafPkTrC3
import Derived.Test.YtniloklglpchfafTrC4
import Derived.Test.YtniloklglpchfafStpD
namespace Go.Proofs.Ytniloklglpchfaf
open Go.RowKit
set_option maxHeartbeats 16000000 in
set_option maxRecDepth 100000 in
theorem trone_any(v v1:Value)(ls:List Ly)(ps:List (Mx×Mx))(n:Int)(b:Mx×Mx)(parts le ke:Int)(sa:Option Addr)(sn sk:Nat)(ta:Option Addr)(tn tk:Nat)(w:World)(hv:Y_ w v ls)(hp:D_ w v1 ps)(hs:I_ w (.slice sa sn sk) b.1.cells)(ht:I_ w (.slice ta tn tk) b.2.cells):
  Calls Try.prog 8 #[.agg #[v,v1,.int .i64 n],.agg #[.int .i64 b.1.rows,.int .i64 b.1.cols,.slice sa sn sk,.int .i64 b.2.rows,.int .i64 b.2.cols,.slice ta tn tk],.int .i64 parts,.agg #[.int .i64 le,.int .i64 ke]] w fun e w'=>Below w.heap.size w w'∧
   ∃u t,e=.returned (.tuple #[.agg #[u,t,.int .i64 (stepS ⟨ls,ps,n⟩ b parts le ke).n],.int .i64 (stepK ⟨ls,ps,n⟩ b parts le ke),errV (oneE ls ps n b parts le ke)])∧
    Owns 0 w.heap.size w' 52 7 u (stepS ⟨ls,ps,n⟩ b parts le ke).net.length ((stepS ⟨ls,ps,n⟩ b parts le ke).net.flatMap lyS)∧Owns 0 w.heap.size w' 79 6 t (stepS ⟨ls,ps,n⟩ b parts le ke).spd.length ((stepS ⟨ls,ps,n⟩ b parts le ke).spd.flatMap gdS):=by
 obtain ⟨a,cap,rfl,_,_⟩:=hv.shape
 obtain ⟨a1,cap1,rfl,_,_⟩:=hp.shape
 obtain ⟨N,hN⟩:=gN (ls.length)
 obtain ⟨N1,hN1⟩:=gN (ps.length)
 rw[hN]at hv ⊢
 rw[hN1]at hp ⊢
 have HVV:=h_ hv
 have HP:=h_ hp
 have HS:=h_ hs
 have HT:=h_ ht
 obtain ⟨V,hV⟩:=gM ((((w.alloc (.cells #[.slice a N cap,.slice a1 N1 cap1,.int .i64 n] 37)).alloc (.cells #[.int .i64 b.1.rows,.int .i64 b.1.cols,.slice sa sn sk,.int .i64 b.2.rows,.int .i64 b.2.cols,.slice ta tn tk] 42)).alloc (.cells #[.int .i64 le,.int .i64 ke] 30)).alloc (.cells #[.slice none 0 0,.slice none 0 0,.int .i64 0] 37))
 have HV:=h_ hV
 have HWV:Hid (Below w.heap.size w V):=by rw[hV];exact h_ (a_ (a_ (a_ (o_ _ _))))
 have HX0:Hid (Box V w.heap.size [.slice a N cap,.slice a1 N1 cap1,.int .i64 n]):=by rw[hV];exact h_ ((Box.new w [.slice a N cap,.slice a1 N1 cap1,.int .i64 n] 37 rfl).u_ (a_ (a_ (o_ _ _))))
 have HX1:Hid (Box V (w.heap.size+1) [.int .i64 b.1.rows,.int .i64 b.1.cols,.slice sa sn sk,.int .i64 b.2.rows,.int .i64 b.2.cols,.slice ta tn tk]):=by rw[hV];exact h_ ((Box.new _ [.int .i64 b.1.rows,.int .i64 b.1.cols,.slice sa sn sk,.int .i64 b.2.rows,.int .i64 b.2.cols,.slice ta tn tk] 42 (by simp)).u_ (a_ (o_ _ _)))
 have HX2:Hid (Box V (w.heap.size+1+1) [.int .i64 le,.int .i64 ke]):=by rw[hV];exact h_ ((Box.new _ [.int .i64 le,.int .i64 ke] 30 (by simp)).u_ (o_ _ _))
 have HX3:Hid (Box V (w.heap.size+1+1+1) [.slice none 0 0,.slice none 0 0,.int .i64 0]):=by rw[hV];exact h_ (Box.new _ [.slice none 0 0,.slice none 0 0,.int .i64 0] 37 (by simp))
 have HF3:Hid (Free V (w.heap.size+1+1+1)):=by rw[hV];exact h_ (Free.new _ _ _ (by simp))
 have HC:=h_ (trchkone_any (.slice a N cap) (.slice a1 N1 cap1) ls ps n b parts le ke sa sn sk ta tn tk V (hv.u_ HWV.out) (hp.u_ HWV.out) (hs.u_ HWV.out) (ht.u_ HWV.out))
 obtain ⟨E,hE⟩:=gN (oneE ls ps n b parts le ke)
 have HE:=h_ hE
 obtain ⟨X,hX⟩:=gN (stepS ⟨ls,ps,n⟩ b parts le ke)
 obtain ⟨Kk,hKk⟩:=gN (stepK ⟨ls,ps,n⟩ b parts le ke)
 have HX:=h_ (show (if E=0 then nextS ⟨ls,ps,n⟩ b parts le ke else noSt)=X by rw[←hE,←hX];rfl)
 have HKK:=h_ (show (if E=0 then sumAt ls (splX b parts) else 0)=Kk by rw[←hE,←hKk];rfl)
 rw[hE]at HC ⊢
 rw[hX,hKk]
 obtain ⟨d0,d1,d2⟩:=HX0.out.c3
 obtain ⟨g0,g1,g2,g3,g4,g5⟩:=HX1.out.c6
 obtain ⟨r0,r1⟩:=HX2.out.c2
 rw[HV.out]at d0 d1 d2 g0 g1 g2 g3 g4 g5 r0 r1
 clear hV hv hp hs ht hN hN1 hE hX hKk
 go_enter Try.func8,Try.ntmps8
 go_wp2_with fail
 rw[←HV.out]
 refine HC.out.mono ?_
 rintro e w1 ⟨rfl,hb1⟩
 have HB1:=h_ hb1
 have HW1:=h_ (b_ HWV.out hb1)
 clear hb1 HC d0 d1 d2 g0 g1 g2 g3 g4 g5 r0 r1
 by_cases k1:E=0
 case neg=>
  obtain rfl:X=noSt:=by rw[←HX.out,if_neg k1]
  obtain rfl:Kk=0:=by rw[←HKK.out,if_neg k1]
  rw[n_ k1]
  have HKE:=h_ k1
  obtain ⟨t0,t1,t2⟩:=(HX3.out.u_ HB1.out).c3
  obtain ⟨f0,f1,f2⟩:=(HF3.out.u_ HB1.out HX3.out.lt).f3
  have HBE:=h_ (show Below w.heap.size w (((w1.setCell ⟨w.heap.size+1+1+1,0,none⟩ (.slice none 0 0)).setCell ⟨w.heap.size+1+1+1,1,none⟩ (.slice none 0 0)).setCell ⟨w.heap.size+1+1+1,2,none⟩ (.int .i64 0)) from S_ HW1.out (by omega) _ _ _)
  clear k1
  go_wp2
  exact bodyPost_ret (v:=.tuple #[.agg #[.slice none 0 0,.slice none 0 0,.int .i64 0],.int .i64 0,.iface 65 (.int .i64 E)]) (by simp[results,Try.results8,go_sem,t0,t1,t2]) rfl ⟨HBE.out,_,_,by rw[n_ HKE.out];rfl,Owns.nil _ _ _ _ _,Owns.nil _ _ _ _ _⟩
 subst k1
 rw[e_ rfl]
 obtain rfl:X=nextS ⟨ls,ps,n⟩ b parts le ke:=by rw[←HX.out,if_pos rfl]
 obtain rfl:Kk=sumAt ls (splX b parts):=by rw[←HKK.out,if_pos rfl]
 obtain ⟨q1,q2,q3,q4⟩:=one_parts HE.out
 obtain ⟨s1,s2,s3,s4,s5⟩:=state_good q1
 have hn0:0≤n:=s3
 have hn1:n≤1000000000:=s4
 have HZF:=h_ (zero_fits ls (stt_good s2 s5))
 have HBF:=h_ (by_fits HZF.out (splX b parts) (fun e he=>prt_fits (q4 e he).2.2))
 have HSE:=h_ (show stE ls ps (byAt ls (splX b parts)) le ke=0 by
  unfold stE
  rw[if_neg (by simp[q2]),if_neg (by omega),if_neg (by simp[s2,HBF.out.len])]
  exact stp_of s2 s5 HBF.out)
 have HRK:=h_ (trreckon_any (.slice a N cap) ls b parts sa sn sk ta tn tk w1 (HVV.out.u_ HW1.out) (HS.out.u_ HW1.out) (HT.out.u_ HW1.out) s1 (stt_good s2 s5) q3 q4)
 have HDL:=h_ (show doL ls ps (byAt ls (splX b parts)) le ke=(nextS ⟨ls,ps,n⟩ b parts le ke).net by unfold doL;rw[if_pos HSE.out];rfl)
 have HDG:=h_ (show doG ls ps (byAt ls (splX b parts)) le ke=(nextS ⟨ls,ps,n⟩ b parts le ke).spd by unfold doG;rw[if_pos HSE.out];rfl)
 have HNN:=h_ (show (nextS ⟨ls,ps,n⟩ b parts le ke).n=n+1 from rfl)
 obtain ⟨XN,eXN⟩:=gN ((nextS ⟨ls,ps,n⟩ b parts le ke).net)
 obtain ⟨XV,eXV⟩:=gN ((nextS ⟨ls,ps,n⟩ b parts le ke).spd)
 rw[eXN]at HDL
 rw[eXV]at HDG
 have HEX:=h_ (And.intro eXN eXV)
 have d0:=(HX0.out.u_ HB1.out) 0 _ rfl
 obtain ⟨g0,g1,g2,g3,g4,g5⟩:=(HX1.out.u_ HB1.out).c6
 clear q1 q2 q3 q4 s1 s2 s3 s4 s5 eXN eXV
 go_wp2_with fail
 refine HRK.out.mono ?_
 rintro e w2 ⟨y,rfl,hy,hb2⟩
 have HB2:=h_ (b_ HB1.out hb2)
 have HW2:=h_ (b_ HW1.out hb2)
 have HDO:=h_ (stepdo_any (.slice a N cap) (.slice a1 N1 cap1) y ls ps (byAt ls (splX b parts)) le ke w2 (HVV.out.u_ HW2.out) (HP.out.u_ HW2.out) hy)
 rw[HSE.out,HDL.out,HDG.out]at HDO
 obtain ⟨sm,esm⟩:=gN (sumAt ls (splX b parts))
 have HSM:=h_ esm
 rw[esm]
 clear hy hb2 HRK d0 g0 g1 g2 g3 g4 g5 esm
 obtain ⟨d0,d1⟩:=(HX0.out.u_ HB2.out).c2
 obtain ⟨r0,r1⟩:=(HX2.out.u_ HB2.out).c2
 go_wp2_with fail
 refine HDO.out.mono ?_
 rintro e w3 ⟨u,t,rfl,ho1,ho2,hb3⟩
 rw[e_ rfl]
 obtain ⟨ua,uk,rfl,_,_⟩:=(show Y_ w3 u XN from ho1.reads).shape
 obtain ⟨va,vk,rfl,_,_⟩:=(show D_ w3 t XV from ho2.reads).shape
 obtain ⟨un,eun⟩:=gN (XN.length)
 obtain ⟨vn,evn⟩:=gN (XV.length)
 rw[eun]at ho1 ⊢
 rw[evn]at ho2 ⊢
 have HEU:=h_ (And.intro eun evn)
 have HB3:=h_ (b_ HB2.out hb3)
 have HW3:=h_ (b_ HW2.out hb3)
 have hlt:=(HX3.out.u_ HB2.out).lt
 have HOU:=h_ (show Owns 0 w.heap.size (((w3.setCell ⟨w.heap.size+1+1+1,0,none⟩ (.slice ua un uk)).setCell ⟨w.heap.size+1+1+1,1,none⟩ (.slice va vn vk)).setCell ⟨w.heap.size+1+1+1,2,none⟩ (.int .i64 (n+1))) 52 7 (.slice ua un uk) un (XN.flatMap lyS) from Owns.weaken (((ho1.set (Nat.zero_le _) hlt 0 _).set (Nat.zero_le _) hlt 1 _).set (Nat.zero_le _) hlt 2 _) HW2.out.size (Nat.le_refl _))
 have HOT:=h_ (show Owns 0 w.heap.size (((w3.setCell ⟨w.heap.size+1+1+1,0,none⟩ (.slice ua un uk)).setCell ⟨w.heap.size+1+1+1,1,none⟩ (.slice va vn vk)).setCell ⟨w.heap.size+1+1+1,2,none⟩ (.int .i64 (n+1))) 79 6 (.slice va vn vk) vn (XV.flatMap gdS) from Owns.weaken (((ho2.set (Nat.zero_le _) hlt 0 _).set (Nat.zero_le _) hlt 1 _).set (Nat.zero_le _) hlt 2 _) HW2.out.size (Nat.le_refl _))
 have HBE:=h_ (show Below w.heap.size w (((w3.setCell ⟨w.heap.size+1+1+1,0,none⟩ (.slice ua un uk)).setCell ⟨w.heap.size+1+1+1,1,none⟩ (.slice va vn vk)).setCell ⟨w.heap.size+1+1+1,2,none⟩ (.int .i64 (n+1))) from S_ HW3.out (by omega) _ _ _)
 obtain ⟨t0,t1,t2⟩:=(HX3.out.u_ HB3.out).c3
 obtain ⟨f0,f1,f2⟩:=(HF3.out.u_ HB3.out HX3.out.lt).f3
 have e2:=(HX0.out.u_ HB3.out) 2 _ rfl
 clear ho1 ho2 hb3 eun evn hlt HDO d0 d1 r0 r1
 go_wp2
 exact bodyPost_ret (v:=.tuple #[.agg #[.slice ua un uk,.slice va vn vk,.int .i64 (n+1)],.int .i64 sm,.nilIface]) (by simp[results,Try.results8,go_sem,t0,t1,t2]) rfl ⟨HBE.out,_,_,by rw[HSM.out,HNN.out];rfl,by rw[HEX.out.1,HEU.out.1];exact HOU.out,by rw[HEX.out.2,HEU.out.2];exact HOT.out⟩
end Go.Proofs.Ytniloklglpchfaf
