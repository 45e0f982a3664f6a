/- What One of package train comes to: one step of all parts. -/
import Derived.Test.YtniloklglpchfakGreatPkHdN
import Derived.Test.YtniloklglpchfakGreatPkTrC3
import Derived.Test.YtniloklglpchfakGreatPkTrC4
import Derived.Test.YtniloklglpchfakGreatStpD
import Derived.Test.YtniloklglpchfakGreatPkLBox
import Derived.Test.YtniloklglpchfakGreatPkNetC2
import Derived.Laws.CopyOwn
namespace Go.Proofs.YtniloklglpchfakGreat
open Go.RowKit
set_option maxHeartbeats 16000000 in
set_option maxRecDepth 100000 in
theorem trone_any(v v1:Value)(ls:List Ly)(ps:List (Mx×Mx))(n:Int)(b:Mx×Mx)(parts le ke:Int)(sa:Option Addr)(sn sk:Nat)(ta:Option Addr)(tn tk:Nat)(w:World)(hv:Y_ w v ls)(hp:D_ w v1 ps)(hs:I_ w (.slice sa sn sk) b.1.cells)(ht:I_ w (.slice ta tn tk) b.2.cells):
  Calls Tryz.prog 6 #[.agg #[v,v1,.int .i64 n],.agg #[.int .i64 b.1.rows,.int .i64 b.1.cols,.slice sa sn sk,.int .i64 b.2.rows,.int .i64 b.2.cols,.slice ta tn tk],.int .i64 parts,.agg #[.int .i64 le,.int .i64 ke]] w fun e w'=>Below w.heap.size w w'∧
   ∃u t,e=.returned (.tuple #[.agg #[u,t,.int .i64 (stepS ⟨ls,ps,n⟩ b parts le ke).n],.int .i64 (stepK ⟨ls,ps,n⟩ b parts le ke),errV (oneE ls ps n b parts le ke)])∧
    Owns 0 w.heap.size w' 83 7 u (stepS ⟨ls,ps,n⟩ b parts le ke).net.length ((stepS ⟨ls,ps,n⟩ b parts le ke).net.flatMap lyS)∧Owns 0 w.heap.size w' 109 6 t (stepS ⟨ls,ps,n⟩ b parts le ke).spd.length ((stepS ⟨ls,ps,n⟩ b parts le ke).spd.flatMap gdS):=by
 obtain ⟨a,cap,rfl,_,_⟩:=hv.shape
 obtain ⟨a1,cap1,rfl,_,_⟩:=hp.shape
 obtain ⟨N,hN⟩:=gN (ls.length)
 obtain ⟨N1,hN1⟩:=gN (ps.length)
 rw[hN]at hv ⊢
 rw[hN1]at hp ⊢
 have HVV:=h_ hv
 have HP:=h_ hp
 have HS:=h_ hs
 have HT:=h_ ht
 obtain ⟨V,hV⟩:=gM ((((w.alloc (.cells #[.slice a N cap,.slice a1 N1 cap1,.int .i64 n] 35)).alloc (.cells #[.int .i64 b.1.rows,.int .i64 b.1.cols,.slice sa sn sk,.int .i64 b.2.rows,.int .i64 b.2.cols,.slice ta tn tk] 30)).alloc (.cells #[.int .i64 le,.int .i64 ke] 33)).alloc (.cells #[.slice none 0 0,.slice none 0 0,.int .i64 0] 35))
 have HV:=h_ hV
 have HWV:Hid (Below w.heap.size w V):=by rw[hV];exact h_ (a_ (a_ (a_ (o_ _ _))))
 have HX0:Hid (Box V w.heap.size [.slice a N cap,.slice a1 N1 cap1,.int .i64 n]):=by rw[hV];exact h_ ((Box.new w [.slice a N cap,.slice a1 N1 cap1,.int .i64 n] 35 rfl).u_ (a_ (a_ (o_ _ _))))
 have HX1:Hid (Box V (w.heap.size+1) [.int .i64 b.1.rows,.int .i64 b.1.cols,.slice sa sn sk,.int .i64 b.2.rows,.int .i64 b.2.cols,.slice ta tn tk]):=by rw[hV];exact h_ ((Box.new _ [.int .i64 b.1.rows,.int .i64 b.1.cols,.slice sa sn sk,.int .i64 b.2.rows,.int .i64 b.2.cols,.slice ta tn tk] 30 (by simp)).u_ (a_ (o_ _ _)))
 have HX2:Hid (Box V (w.heap.size+1+1) [.int .i64 le,.int .i64 ke]):=by rw[hV];exact h_ ((Box.new _ [.int .i64 le,.int .i64 ke] 33 (by simp)).u_ (o_ _ _))
 have HX3:Hid (Box V (w.heap.size+1+1+1) [.slice none 0 0,.slice none 0 0,.int .i64 0]):=by rw[hV];exact h_ (Box.new _ [.slice none 0 0,.slice none 0 0,.int .i64 0] 35 (by simp))
 have HF3:Hid (Free V (w.heap.size+1+1+1)):=by rw[hV];exact h_ (Free.new _ _ _ (by simp))
 have HC:=h_ (trchkone_any (.slice a N cap) (.slice a1 N1 cap1) ls ps n b parts le ke sa sn sk ta tn tk V (hv.u_ HWV.out) (hp.u_ HWV.out) (hs.u_ HWV.out) (ht.u_ HWV.out))
 obtain ⟨E,hE⟩:=gN (oneE ls ps n b parts le ke)
 have HE:=h_ hE
 obtain ⟨X,hX⟩:=gN (stepS ⟨ls,ps,n⟩ b parts le ke)
 obtain ⟨Kk,hKk⟩:=gN (stepK ⟨ls,ps,n⟩ b parts le ke)
 have HX:=h_ (show (if E=0 then nextS ⟨ls,ps,n⟩ b parts le ke else noSt)=X by rw[←hE,←hX];rfl)
 have HKK:=h_ (show (if E=0 then sumAt ls (splX b parts) else 0)=Kk by rw[←hE,←hKk];rfl)
 rw[hE]at HC ⊢
 rw[hX,hKk]
 obtain ⟨d0,d1,d2⟩:=HX0.out.c3
 obtain ⟨g0,g1,g2,g3,g4,g5⟩:=HX1.out.c6
 obtain ⟨r0,r1⟩:=HX2.out.c2
 rw[HV.out]at d0 d1 d2 g0 g1 g2 g3 g4 g5 r0 r1
 clear hV hv hp hs ht hN hN1 hE hX hKk
 go_enter Tryz.func6,Tryz.ntmps6
 go_wp2_with fail
 rw[←HV.out]
 refine HC.out.mono ?_
 rintro e w1 ⟨rfl,hb1⟩
 have HB1:=h_ hb1
 have HW1:=h_ (b_ HWV.out hb1)
 clear hb1 HC d0 d1 d2 g0 g1 g2 g3 g4 g5 r0 r1
 by_cases k1:E=0
 case neg=>
  obtain rfl:X=noSt:=by rw[←HX.out,if_neg k1]
  obtain rfl:Kk=0:=by rw[←HKK.out,if_neg k1]
  rw[n_ k1]
  have HKE:=h_ k1
  obtain ⟨t0,t1,t2⟩:=(HX3.out.u_ HB1.out).c3
  obtain ⟨f0,f1,f2⟩:=(HF3.out.u_ HB1.out HX3.out.lt).f3
  have HBE:=h_ (show Below w.heap.size w (((w1.setCell ⟨w.heap.size+1+1+1,0,none⟩ (.slice none 0 0)).setCell ⟨w.heap.size+1+1+1,1,none⟩ (.slice none 0 0)).setCell ⟨w.heap.size+1+1+1,2,none⟩ (.int .i64 0)) from S_ HW1.out (by omega) _ _ _)
  clear k1
  go_wp2
  exact bodyPost_ret (v:=.tuple #[.agg #[.slice none 0 0,.slice none 0 0,.int .i64 0],.int .i64 0,.iface 94 (.int .i64 E)]) (by simp[results,Tryz.results6,go_sem,t0,t1,t2]) rfl ⟨HBE.out,_,_,by rw[n_ HKE.out];rfl,Owns.nil _ _ _ _ _,Owns.nil _ _ _ _ _⟩
 subst k1
 rw[e_ rfl]
 obtain rfl:X=nextS ⟨ls,ps,n⟩ b parts le ke:=by rw[←HX.out,if_pos rfl]
 obtain rfl:Kk=sumAt ls (splX b parts):=by rw[←HKK.out,if_pos rfl]
 obtain ⟨q1,q2,q3,q4⟩:=one_parts HE.out
 obtain ⟨s1,s2,s3,s4,s5⟩:=state_good q1
 have hn0:0≤n:=s3
 have hn1:n≤1000000000:=s4
 have HZF:=h_ (zero_fits ls (stt_good s2 s5))
 have HBF:=h_ (by_fits HZF.out (splX b parts) (fun e he=>prt_fits (q4 e he).2.2))
 have HSE:=h_ (show stE ls ps (byAt ls (splX b parts)) le ke=0 by
  unfold stE
  rw[if_neg (by simp[q2]),if_neg (by omega),if_neg (by simp[s2,HBF.out.len])]
  exact stp_of s2 s5 HBF.out)
 have HRK:=h_ (trreckon_any (.slice a N cap) ls b parts sa sn sk ta tn tk w1 (HVV.out.u_ HW1.out) (HS.out.u_ HW1.out) (HT.out.u_ HW1.out) s1 (stt_good s2 s5) q3 q4)
 have HDL:=h_ (show doL ls ps (byAt ls (splX b parts)) le ke=(nextS ⟨ls,ps,n⟩ b parts le ke).net by unfold doL;rw[if_pos HSE.out];rfl)
 have HDG:=h_ (show doG ls ps (byAt ls (splX b parts)) le ke=(nextS ⟨ls,ps,n⟩ b parts le ke).spd by unfold doG;rw[if_pos HSE.out];rfl)
 have HNN:=h_ (show (nextS ⟨ls,ps,n⟩ b parts le ke).n=n+1 from rfl)
 obtain ⟨XN,eXN⟩:=gN ((nextS ⟨ls,ps,n⟩ b parts le ke).net)
 obtain ⟨XV,eXV⟩:=gN ((nextS ⟨ls,ps,n⟩ b parts le ke).spd)
 rw[eXN]at HDL
 rw[eXV]at HDG
 have HEX:=h_ (And.intro eXN eXV)
 have d0:=(HX0.out.u_ HB1.out) 0 _ rfl
 obtain ⟨g0,g1,g2,g3,g4,g5⟩:=(HX1.out.u_ HB1.out).c6
 clear q1 q2 q3 q4 s1 s2 s3 s4 s5 eXN eXV
 go_wp2_with fail
 refine HRK.out.mono ?_
 rintro e w2 ⟨y,rfl,hy,hb2⟩
 have HB2:=h_ (b_ HB1.out hb2)
 have HW2:=h_ (b_ HW1.out hb2)
 have HDO:=h_ (stepdo_any (.slice a N cap) (.slice a1 N1 cap1) y ls ps (byAt ls (splX b parts)) le ke w2 (HVV.out.u_ HW2.out) (HP.out.u_ HW2.out) hy)
 rw[HSE.out,HDL.out,HDG.out]at HDO
 obtain ⟨sm,esm⟩:=gN (sumAt ls (splX b parts))
 have HSM:=h_ esm
 rw[esm]
 clear hy hb2 HRK d0 g0 g1 g2 g3 g4 g5 esm
 obtain ⟨d0,d1⟩:=(HX0.out.u_ HB2.out).c2
 obtain ⟨r0,r1⟩:=(HX2.out.u_ HB2.out).c2
 go_wp2_with fail
 refine HDO.out.mono ?_
 rintro e w3 ⟨u,t,rfl,ho1,ho2,hb3⟩
 rw[e_ rfl]
 obtain ⟨ua,uk,rfl,_,_⟩:=(show Y_ w3 u XN from ho1.reads).shape
 obtain ⟨va,vk,rfl,_,_⟩:=(show D_ w3 t XV from ho2.reads).shape
 obtain ⟨un,eun⟩:=gN (XN.length)
 obtain ⟨vn,evn⟩:=gN (XV.length)
 rw[eun]at ho1 ⊢
 rw[evn]at ho2 ⊢
 have HEU:=h_ (And.intro eun evn)
 have HB3:=h_ (b_ HB2.out hb3)
 have HW3:=h_ (b_ HW2.out hb3)
 have hlt:=(HX3.out.u_ HB2.out).lt
 have HOU:=h_ (show Owns 0 w.heap.size (((w3.setCell ⟨w.heap.size+1+1+1,0,none⟩ (.slice ua un uk)).setCell ⟨w.heap.size+1+1+1,1,none⟩ (.slice va vn vk)).setCell ⟨w.heap.size+1+1+1,2,none⟩ (.int .i64 (n+1))) 83 7 (.slice ua un uk) un (XN.flatMap lyS) from Owns.weaken (((ho1.set (Nat.zero_le _) hlt 0 _).set (Nat.zero_le _) hlt 1 _).set (Nat.zero_le _) hlt 2 _) HW2.out.size (Nat.le_refl _))
 have HOT:=h_ (show Owns 0 w.heap.size (((w3.setCell ⟨w.heap.size+1+1+1,0,none⟩ (.slice ua un uk)).setCell ⟨w.heap.size+1+1+1,1,none⟩ (.slice va vn vk)).setCell ⟨w.heap.size+1+1+1,2,none⟩ (.int .i64 (n+1))) 109 6 (.slice va vn vk) vn (XV.flatMap gdS) from Owns.weaken (((ho2.set (Nat.zero_le _) hlt 0 _).set (Nat.zero_le _) hlt 1 _).set (Nat.zero_le _) hlt 2 _) HW2.out.size (Nat.le_refl _))
 have HBE:=h_ (show Below w.heap.size w (((w3.setCell ⟨w.heap.size+1+1+1,0,none⟩ (.slice ua un uk)).setCell ⟨w.heap.size+1+1+1,1,none⟩ (.slice va vn vk)).setCell ⟨w.heap.size+1+1+1,2,none⟩ (.int .i64 (n+1))) from S_ HW3.out (by omega) _ _ _)
 obtain ⟨t0,t1,t2⟩:=(HX3.out.u_ HB3.out).c3
 obtain ⟨f0,f1,f2⟩:=(HF3.out.u_ HB3.out HX3.out.lt).f3
 have e2:=(HX0.out.u_ HB3.out) 2 _ rfl
 clear ho1 ho2 hb3 eun evn hlt HDO d0 d1 r0 r1
 go_wp2
 exact bodyPost_ret (v:=.tuple #[.agg #[.slice ua un uk,.slice va vn vk,.int .i64 (n+1)],.int .i64 sm,.nilIface]) (by simp[results,Tryz.results6,go_sem,t0,t1,t2]) rfl ⟨HBE.out,_,_,by rw[HSM.out,HNN.out];rfl,by rw[HEX.out.1,HEU.out.1];exact HOU.out,by rw[HEX.out.2,HEU.out.2];exact HOT.out⟩
theorem trSizeInt:(Tryz.prog.info? 3).map (·.size)=some 1:=by kernel_rfl
theorem zeros_list(n:Nat):zeros n=((tab n (fun _=>0)).map (Value.int .i64)).toArray:=by
 have h:=zeros_row (World.alloc default (.cells #[] 0)) n
 have h2:(World.alloc (World.alloc default (.cells #[] 0)) (.cells (zeros n) 3)).heap[(World.alloc default (.cells #[] 0)).heap.size]?=some (.cells (zeros n) 3 (0,0)):=heap_alloc_new _ _
 have h3:=h2.symm.trans h
 injection h3 with h3
 injection h3 with h3
theorem splice_all(n:Nat)(zs:List Int)(h:zs.length=n):(splice ((tab n (fun _=>0)).map (Value.int .i64)) 0 (zs.map (Value.int .i64))).toArray=(zs.map (Value.int .i64)).toArray:=by
 unfold splice
 rw[List.take_zero,List.nil_append,List.drop_eq_nil_of_le (by simp[tab_len,h]),List.append_nil]
set_option maxHeartbeats 4000000 in
set_option maxRecDepth 100000 in
theorem trcopy_any(v:Value)(m:Mx)(w:World)(hv:M_ w v m)(hn:m.cells.length≤17592186043904):Calls Tryz.prog 84 #[v] w fun e w'=>∃s,e=.returned (.agg #[.int .i64 m.rows,.int .i64 m.cols,s])∧I_ w' s m.cells∧Below w.heap.size w w'∧F_ w.heap.size (.agg #[.int .i64 m.rows,.int .i64 m.cols,s]):=by
 obtain ⟨s,rfl,hs⟩:=hv
 obtain ⟨za,zk,rfl,_,_,hcells⟩:=id hs
 obtain ⟨n,hnn⟩:=gN (m.cells.length)
 rw[hnn]at hn ⊢
 have HNN:=h_ hnn
 have hmk:=run_mkI n hn
 obtain ⟨r,er⟩:=gN (m.rows)
 obtain ⟨c,ec⟩:=gN (m.cols)
 rw[er,ec]
 have HR:=h_ (And.intro er ec)
 have HWV:Hid (Below w.heap.size w ((w.alloc (.cells #[.int .i64 r,.int .i64 c,.slice za n zk] 28)).alloc (.cells #[.int .i64 0,.int .i64 0,.slice none 0 0] 28))):=h_ (a_ (o_ _ _))
 have HVS:Hid (((w.alloc (.cells #[.int .i64 r,.int .i64 c,.slice za n zk] 28)).alloc (.cells #[.int .i64 0,.int .i64 0,.slice none 0 0] 28)).heap.size=w.heap.size+1+1):=h_ (by simp)
 have HXA:Hid (Box ((w.alloc (.cells #[.int .i64 r,.int .i64 c,.slice za n zk] 28)).alloc (.cells #[.int .i64 0,.int .i64 0,.slice none 0 0] 28)) w.heap.size [.int .i64 r,.int .i64 c,.slice za n zk]):=h_ ((Box.new w [.int .i64 r,.int .i64 c,.slice za n zk] 28 rfl).u_ (o_ _ _))
 have HXB:Hid (Box ((w.alloc (.cells #[.int .i64 r,.int .i64 c,.slice za n zk] 28)).alloc (.cells #[.int .i64 0,.int .i64 0,.slice none 0 0] 28)) (w.heap.size+1) [.int .i64 0,.int .i64 0,.slice none 0 0]):=h_ (Box.new _ [.int .i64 0,.int .i64 0,.slice none 0 0] 28 (by simp))
 have HFB:Hid (Free ((w.alloc (.cells #[.int .i64 r,.int .i64 c,.slice za n zk] 28)).alloc (.cells #[.int .i64 0,.int .i64 0,.slice none 0 0] 28)) (w.heap.size+1)):=h_ (Free.new _ _ _ (by simp))
 have HHG:Hid ((((w.alloc (.cells #[.int .i64 r,.int .i64 c,.slice za n zk] 28)).alloc (.cells #[.int .i64 0,.int .i64 0,.slice none 0 0] 28)).alloc (.cells (zeros n) 3)).heap[w.heap.size+1+1]?=some (.cells ((tab n (fun _=>0)).map (Value.int .i64)).toArray 3 (0,0))):=by
  rw[←zeros_list,←HVS.out];exact h_ (heap_alloc_new _ _)
 have HSRC:=h_ (show 0<(m.cells.map (Value.int .i64)).length→(some (⟨w.heap.size+1+1,0,none⟩:Addr))=some ⟨w.heap.size+1+1,0,none⟩∧∃ad,za=some ad∧∀j u,(m.cells.map (Value.int .i64))[j]?=some u→(((w.alloc (.cells #[.int .i64 r,.int .i64 c,.slice za n zk] 28)).alloc (.cells #[.int .i64 0,.int .i64 0,.slice none 0 0] 28)).alloc (.cells (zeros n) 3)).cell? (ad.add j)=some u from fun hpos=>by
  refine ⟨rfl,?_⟩
  have h0:m.cells≠[]:=fun e=>by rw[e]at hpos;simp at hpos
  obtain ⟨b,off,rfl,hc⟩:=hcells.resolve_left h0
  refine ⟨_,rfl,fun j u hu=>?_⟩
  rw[List.getElem?_map]at hu
  obtain ⟨x,hx,rfl⟩:=Option.map_eq_some_iff.1 hu
  rw[Addr.add_lit]
  exact c_ (a_ HWV.out) (hc j x hx))
 have HBV:=h_ (show Below ((w.alloc (.cells #[.int .i64 r,.int .i64 c,.slice za n zk] 28)).alloc (.cells #[.int .i64 0,.int .i64 0,.slice none 0 0] 28)).heap.size ((w.alloc (.cells #[.int .i64 r,.int .i64 c,.slice za n zk] 28)).alloc (.cells #[.int .i64 0,.int .i64 0,.slice none 0 0] 28)) (((w.alloc (.cells #[.int .i64 r,.int .i64 c,.slice za n zk] 28)).alloc (.cells #[.int .i64 0,.int .i64 0,.slice none 0 0] 28)).alloc (.cells (zeros n) 3)) from o_ _ _)
 have HLE:=h_ (show ((w.alloc (.cells #[.int .i64 r,.int .i64 c,.slice za n zk] 28)).alloc (.cells #[.int .i64 0,.int .i64 0,.slice none 0 0] 28)).heap.size≤w.heap.size+1+1 by rw[HVS.out];exact Nat.le_refl _)
 have HSP:=h_ (splice_all n m.cells hnn)
 have HLEN:=h_ (show (m.cells.map (Value.int .i64)).length=Nat.min n n by rw[List.length_map,hnn];exact (Nat.min_self n).symm)
 have HFIT:=h_ (show 0+(m.cells.map (Value.int .i64)).length≤((tab n (fun _=>0)).map (Value.int .i64)).length by rw[List.length_map,List.length_map,tab_len,hnn];omega)
 have HONE:=h_ (show ∀u∈m.cells.map (Value.int .i64),u.oneCell'=true from fun u hu=>by obtain ⟨x,_,rfl⟩:=List.mem_map.1 hu;rfl)
 obtain ⟨cs,ecs⟩:=gM (m.cells.map (Value.int .i64))
 rw[←ecs]at HSRC HSP HLEN HFIT HONE
 have HCS:=h_ ecs
 have HML:=h_ (show m.cells.length≤maxLen by unfold maxLen;omega)
 clear hs hnn er ec hcells ecs
 go_enter Tryz.func84,Tryz.ntmps84
 go_wp2_with (show wpList _ _ _ (⟨_,.call { callee:=.builtin .copy,args:=_,argTypes:=_ },_,_,_,_⟩::_) _ _;refine wpList_copy_splice rfl _ _ 26 26 rfl 3 Tryz.underlying26 trSizeInt _ _ _ _ _ _ rfl rfl (w.heap.size+1+1) 0 ((tab n (fun _=>0)).map (Value.int .i64)) 3 HHG.out cs HLEN.out HSRC.out HFIT.out HONE.out ((w.alloc (.cells #[.int .i64 r,.int .i64 c,.slice za n zk] 28)).alloc (.cells #[.int .i64 0,.int .i64 0,.slice none 0 0] 28)).heap.size ((w.alloc (.cells #[.int .i64 r,.int .i64 c,.slice za n zk] 28)).alloc (.cells #[.int .i64 0,.int .i64 0,.slice none 0 0] 28)) HBV.out HLE.out ?_)
 intro w2 HG2 hb2
 replace hb2:Below ((w.alloc (.cells #[.int .i64 r,.int .i64 c,.slice za n zk] 28)).alloc (.cells #[.int .i64 0,.int .i64 0,.slice none 0 0] 28)).heap.size ((w.alloc (.cells #[.int .i64 r,.int .i64 c,.slice za n zk] 28)).alloc (.cells #[.int .i64 0,.int .i64 0,.slice none 0 0] 28)) w2:=by first|exact hb2|(rw[HVS.out];exact hb2)
 have HROW:=h_ (show RowAt 3 w2 (w.heap.size+1+1) m.cells by
  have h:=HG2.out
  rw[HSP.out,HCS.out]at h
  exact h)
 have HB2:=h_ hb2
 have HW2:=h_ (b_ HWV.out hb2)
 obtain ⟨d0,d1⟩:=(HXA.out.u_ HB2.out).c2
 obtain ⟨t0,t1,t2⟩:=(HXB.out.u_ HB2.out).c3
 obtain ⟨f0,f1,f2⟩:=(HFB.out.u_ HB2.out HXB.out.lt).f3
 have HM:=h_ (show I_ (((w2.setCell ⟨w.heap.size+1,0,none⟩ (.int .i64 r)).setCell ⟨w.heap.size+1,1,none⟩ (.int .i64 c)).setCell ⟨w.heap.size+1,2,none⟩ (.slice (some ⟨w.heap.size+1+1,0,none⟩) n n)) (.slice (some ⟨w.heap.size+1+1,0,none⟩) n n) m.cells by
  have h:=(((HROW.out.other ⟨w.heap.size+1,0,none⟩ (.int .i64 r) (by show _≠w.heap.size+1;omega)).other ⟨w.heap.size+1,1,none⟩ (.int .i64 c) (by show _≠w.heap.size+1;omega)).other ⟨w.heap.size+1,2,none⟩ (.slice (some ⟨w.heap.size+1+1,0,none⟩) n n) (by show _≠w.heap.size+1;omega)).isInts HML.out
  rw[HNN.out]at h;exact h)
 have HB3:=h_ (show Below w.heap.size w (((w2.setCell ⟨w.heap.size+1,0,none⟩ (.int .i64 r)).setCell ⟨w.heap.size+1,1,none⟩ (.int .i64 c)).setCell ⟨w.heap.size+1,2,none⟩ (.slice (some ⟨w.heap.size+1+1,0,none⟩) n n)) from S_ HW2.out (by omega) _ _ _)
 clear hb2 HG2
 go_wp2
 exact bodyPost_ret (v:=.agg #[.int .i64 r,.int .i64 c,.slice (some ⟨w.heap.size+1+1,0,none⟩) n n]) (by simp[results,Tryz.results84,go_sem,t0,t1,t2]) rfl ⟨_,rfl,HM.out,HB3.out,fresh_at (by omega) _ _ _⟩
set_option maxHeartbeats 8000000 in
set_option maxRecDepth 100000 in
theorem trcopynet_any(v:Value)(ls:List Ly)(w:World)(hv:Y_ w v ls)(hle:ls.length≤1599289640355)(hz:∀l∈ls,l.w.cells.length≤17592186043904∧l.b.cells.length≤17592186043904):
  Calls Tryz.prog 53 #[v] w fun e w'=>∃u,e=.returned u∧Owns 0 w.heap.size w' 83 7 u ls.length (ls.flatMap lyS)∧Below w.heap.size w w':=by
 obtain ⟨a,cap,rfl,hlc,hcm⟩:=hv.shape
 have HV:=h_ hv
 have HZ:=h_ hz
 obtain ⟨N,hN⟩:=gN (ls.length)
 have HN:=h_ hN
 rw[hN]at HV hle ⊢
 have hmk:=run_mkL 83 22 7 88 _ Tryz.underlying22 infoLy2 (N:Int) N rfl (by omega) (by omega)
 have HO0:=h_ (show Owns 0 w.heap.size (w.alloc (.cells (rawCells (.agg #[.int .i64 0,.int .i64 0,.int .i64 0,.slice none 0 0,.int .i64 0,.int .i64 0,.slice none 0 0]) (N*7)) 83)) 83 7 (.slice (some ⟨w.heap.size,0,none⟩) 0 N) 0 [] from
  Owns.room _ (Nat.le_refl _) (by unfold maxLen;omega) (rawCells_size _ _))
 have HLE:=h_ hle
 obtain ⟨e0,ei,hz0,hz1,hz2⟩:=info_parts infoLy2
 have HEI:=h_ (And.intro ei (And.intro hz0 (And.intro hz1 hz2)))
 have hN63:(N:Int)≤1599289640355:=by omega
 clear hv hz hN hlc hcm hle ei hz0 hz1 hz2
 go_enter Tryz.func53,Tryz.ntmps53
 go_wp2
 clear hmk
 go_loopw [3,11] (fun o a wr=>∃(i:Nat) (xi:Int),i≤N∧xi=(i:Int)∧a=.int .i64 xi∧Owns 0 w.heap.size wr 83 7 o i ((ls.take i).flatMap lyS)∧Below w.heap.size w wr) (fun _ a _=>N - (intOf a).toNat)
 case atStart=>exact ⟨0,0,Nat.zero_le _,rfl,rfl,by simpa using HO0.out,o_ _ _⟩
 case round=>
  obtain ⟨i,xi,hi,hxi,rfl,how,hb⟩:=hrel
  have HXI:=h_ hxi
  have HO:=h_ how
  have HB:=h_ hb
  have hxi0:0≤xi:=by omega
  have hxi1:xi≤1599289640355:=by omega
  clear hxi how hb HO0
  by_cases hlt:xi<(N:Int)
  ·have hin:i<N:=by have:=HXI.out;omega
   have hxn:xi.toNat=i:=by have:=HXI.out;omega
   obtain ⟨l,hl⟩:∃l,ls[i]?=some l:=⟨ls[i]'(by have:=HN.out;omega),List.getElem?_eq_getElem _⟩
   obtain ⟨b,off,cp,sa,sn,sk,ta,tn,tk,ev,k0,k1,k2,k3,k4,k5,k6,hly⟩:=HV.out.at hl
   obtain ⟨i1,i2⟩:=Y_.ints hly
   clear hly
   obtain rfl:=(Value.slice.inj ev).1
   rw[←hxn]at k0 k1 k2 k3 k4 k5 k6
   replace k0:=c_ HB.out k0
   replace k1:=c_ HB.out k1
   replace k2:=c_ HB.out k2
   replace k3:=c_ HB.out k3
   replace k4:=c_ HB.out k4
   replace k5:=c_ HB.out k5
   replace k6:=c_ HB.out k6
   obtain ⟨z1,z2⟩:=HZ.out l (List.mem_of_getElem? hl)
   have HLB:=h_ (show Box (wr.alloc (.cells #[.int .i64 l.k,.int .i64 l.w.rows,.int .i64 l.w.cols,.slice sa sn sk,.int .i64 l.b.rows,.int .i64 l.b.cols,.slice ta tn tk] 83)) wr.heap.size [.int .i64 l.k,.int .i64 l.w.rows,.int .i64 l.w.cols,.slice sa sn sk,.int .i64 l.b.rows,.int .i64 l.b.cols,.slice ta tn tk] from Box.new _ _ _ rfl)
   have HSB:Hid (∀W',Below (wr.alloc (.cells #[.int .i64 l.k,.int .i64 l.w.rows,.int .i64 l.w.cols,.slice sa sn sk,.int .i64 l.b.rows,.int .i64 l.b.cols,.slice ta tn tk] 83)).heap.size (wr.alloc (.cells #[.int .i64 l.k,.int .i64 l.w.rows,.int .i64 l.w.cols,.slice sa sn sk,.int .i64 l.b.rows,.int .i64 l.b.cols,.slice ta tn tk] 83)) W'→(fun W'=>W'.cell? ⟨wr.heap.size,0,none⟩=some (.int .i64 l.k)∧W'.cell? ⟨wr.heap.size,1,none⟩=some (.int .i64 l.w.rows)∧W'.cell? ⟨wr.heap.size,2,none⟩=some (.int .i64 l.w.cols)∧W'.cell? ⟨wr.heap.size,3,none⟩=some (.slice sa sn sk)∧W'.cell? ⟨wr.heap.size,4,none⟩=some (.int .i64 l.b.rows)∧W'.cell? ⟨wr.heap.size,5,none⟩=some (.int .i64 l.b.cols)∧W'.cell? ⟨wr.heap.size,6,none⟩=some (.slice ta tn tk)) W'):=h_ (fun W' h=>have hx:=HLB.out.u_ h;⟨hx 0 _ rfl,hx 1 _ rfl,hx 2 _ rfl,hx 3 _ rfl,hx 4 _ rfl,hx 5 _ rfl,hx 6 _ rfl⟩)
   have HZ1:=h_ (trcopy_any (.agg #[.int .i64 l.w.rows,.int .i64 l.w.cols,.slice sa sn sk]) l.w (wr.alloc (.cells #[.int .i64 l.k,.int .i64 l.w.rows,.int .i64 l.w.cols,.slice sa sn sk,.int .i64 l.b.rows,.int .i64 l.b.cols,.slice ta tn tk] 83)).drew ⟨_,rfl,i1.u_ (d_ (a_ HB.out))⟩ z1)
   have HZ2:=h_ (fun W (h:Below (wr.alloc (.cells #[.int .i64 l.k,.int .i64 l.w.rows,.int .i64 l.w.cols,.slice sa sn sk,.int .i64 l.b.rows,.int .i64 l.b.cols,.slice ta tn tk] 83)).heap.size (wr.alloc (.cells #[.int .i64 l.k,.int .i64 l.w.rows,.int .i64 l.w.cols,.slice sa sn sk,.int .i64 l.b.rows,.int .i64 l.b.cols,.slice ta tn tk] 83)) W)=>trcopy_any (.agg #[.int .i64 l.b.rows,.int .i64 l.b.cols,.slice ta tn tk]) l.b W ⟨_,rfl,i2.u_ (b_ (a_ HB.out) h)⟩ z2)
   have HGL:=h_ (show ∀b,(fun b=>u3.ownBlock=some b∨(0≤b∧b<w.heap.size)) b→b<(wr.alloc (.cells #[.int .i64 l.k,.int .i64 l.w.rows,.int .i64 l.w.cols,.slice sa sn sk,.int .i64 l.b.rows,.int .i64 l.b.cols,.slice ta tn tk] 83)).drew.heap.size from fun b hb=>by
    have h1:=szd1 wr (.cells #[.int .i64 l.k,.int .i64 l.w.rows,.int .i64 l.w.cols,.slice sa sn sk,.int .i64 l.b.rows,.int .i64 l.b.cols,.slice ta tn tk] 83)
    rcases hb with hb|hb
    ·have:=(HO.out.lt b hb).2;omega
    ·have:=HB.out.size;omega)
   have HNE:=h_ (show some wr.heap.size≠u3.ownBlock from fun e=>by have:=(HO.out.lt _ e.symm).2;omega)
   have HM1:=h_ (show i+1≤maxLen by unfold maxLen;have:=HLE.out;omega)
   have HM2:=h_ (show (i+1)*88≤140737488355328 by have:=HLE.out;omega)
   have HTK:=h_ (take_end hl)
   clear ev i1 i2 z1 z2 hl hxn
   go_wp2
   obtain ⟨lm0,lm1,lm2,lm3,lm4,lm5,lm6⟩:=HSB.out (wr.alloc (.cells #[.int .i64 l.k,.int .i64 l.w.rows,.int .i64 l.w.cols,.slice sa sn sk,.int .i64 l.b.rows,.int .i64 l.b.cols,.slice ta tn tk] 83)) (Below.refl _ _)
   go_region_held3 (fun W'=>W'.cell? ⟨wr.heap.size,0,none⟩=some (.int .i64 l.k)∧W'.cell? ⟨wr.heap.size,1,none⟩=some (.int .i64 l.w.rows)∧W'.cell? ⟨wr.heap.size,2,none⟩=some (.int .i64 l.w.cols)∧W'.cell? ⟨wr.heap.size,3,none⟩=some (.slice sa sn sk)∧W'.cell? ⟨wr.heap.size,4,none⟩=some (.int .i64 l.b.rows)∧W'.cell? ⟨wr.heap.size,5,none⟩=some (.int .i64 l.b.cols)∧W'.cell? ⟨wr.heap.size,6,none⟩=some (.slice ta tn tk)) (first|exact HSW.out|(refine HSB.out _ ?_;repeat' (first|with_reducible exact Below.refl _ _|with_reducible exact HB2.out|with_reducible exact HB1.out|with_reducible refine d_ ?_|with_reducible refine a_ ?_|exact Nat.le_refl _|exact Nat.le_succ _)))
    (first
     |(go_at_call 84;guard_target=Calls _ _ _ (World.drew (World.alloc wr _)) _;refine HZ1.out.mono ?_;rintro e w1 ⟨s1,rfl,hs1,hb1,hf1⟩;obtain ⟨pa,pn,pk,rfl⟩:=hs1.shape;have HS1:=h_ hs1;have HB1:=h_ (show Below (wr.alloc (.cells #[.int .i64 l.k,.int .i64 l.w.rows,.int .i64 l.w.cols,.slice sa sn sk,.int .i64 l.b.rows,.int .i64 l.b.cols,.slice ta tn tk] 83)).heap.size (wr.alloc (.cells #[.int .i64 l.k,.int .i64 l.w.rows,.int .i64 l.w.cols,.slice sa sn sk,.int .i64 l.b.rows,.int .i64 l.b.cols,.slice ta tn tk] 83)) w1 from b_ (d_ (Below.refl _ _)) hb1);have HF1:=h_ hf1;have HZ3:=h_ (HZ2.out w1 HB1.out);clear hs1 hb1 hf1)
     |(go_at_call 84;refine HZ3.out.mono ?_;rintro e w2 ⟨s2,rfl,hs2,hb2,hf2⟩;obtain ⟨qa,qn,qk,rfl⟩:=hs2.shape;have HB2:=h_ (show Below (wr.alloc (.cells #[.int .i64 l.k,.int .i64 l.w.rows,.int .i64 l.w.cols,.slice sa sn sk,.int .i64 l.b.rows,.int .i64 l.b.cols,.slice ta tn tk] 83)).heap.size (wr.alloc (.cells #[.int .i64 l.k,.int .i64 l.w.rows,.int .i64 l.w.cols,.slice sa sn sk,.int .i64 l.b.rows,.int .i64 l.b.cols,.slice ta tn tk] 83)) w2 from b_ HB1.out hb2);have HBA:=h_ (show Below wr.heap.size wr (w2.alloc (.cells #[.int .i64 l.k,.int .i64 l.w.rows,.int .i64 l.w.cols,.slice pa pn pk,.int .i64 l.b.rows,.int .i64 l.b.cols,.slice qa qn qk] 83)) from a_ (b_ (o_ _ _) HB2.out));have HOA:=h_ (HO.out.u_ HBA.out);have HEN:=h_ (show Enc (w2.alloc (.cells #[.int .i64 l.k,.int .i64 l.w.rows,.int .i64 l.w.cols,.slice pa pn pk,.int .i64 l.b.rows,.int .i64 l.b.cols,.slice qa qn qk] 83)) (fun b=>u3.ownBlock=some b∨(0≤b∧b<w.heap.size)) (lyS l) [.int .i64 l.k,.int .i64 l.w.rows,.int .i64 l.w.cols,.slice pa pn pk,.int .i64 l.b.rows,.int .i64 l.b.cols,.slice qa qn qk] from enc_ly2 (l:=l) ((x_ HS1.out HF1.out (fun b hb=>HGL.out b hb)).u_ (a_ hb2)) ((x_ hs2 hf2 (fun b hb=>Nat.lt_of_lt_of_le (HGL.out b hb) HB1.out.size)).u_ (o_ _ _)));have HNB:=h_ (show Box (w2.alloc (.cells #[.int .i64 l.k,.int .i64 l.w.rows,.int .i64 l.w.cols,.slice pa pn pk,.int .i64 l.b.rows,.int .i64 l.b.cols,.slice qa qn qk] 83)) w2.heap.size [.int .i64 l.k,.int .i64 l.w.rows,.int .i64 l.w.cols,.slice pa pn pk,.int .i64 l.b.rows,.int .i64 l.b.cols,.slice qa qn qk] from Box.new _ _ _ rfl);have HBS:=h_ (show w.heap.size≤(w2.alloc (.cells #[.int .i64 l.k,.int .i64 l.w.rows,.int .i64 l.w.cols,.slice pa pn pk,.int .i64 l.b.rows,.int .i64 l.b.cols,.slice qa qn qk] 83)).heap.size from Nat.le_trans HB.out.size HBA.out.size);clear hs2 hb2 hf2)
     |((try rw[if_pos (by rfl)]);refine wp_append_owns _ _ 22 rfl w.heap.size 83 e0 (.agg #[.int .i64 0,.int .i64 0,.int .i64 0,.slice none 0 0,.int .i64 0,.int .i64 0,.slice none 0 0]) 7 88 Tryz.underlying22 HEI.out.1 HEI.out.2.1 HEI.out.2.2.1 HEI.out.2.2.2 rfl (by decide) 0 _ _ _ rfl HOA.out ⟨w2.heap.size,0,none⟩ 1 1 [.int .i64 l.k,.int .i64 l.w.rows,.int .i64 l.w.cols,.slice pa pn pk,.int .i64 l.b.rows,.int .i64 l.b.cols,.slice qa qn qk] rfl rfl (fun q u hq=>by rw[addr_add];exact HNB.out q u hq) (lyS l) HEN.out HM1.out HM2.out HBS.out ?_;intro v' w' hown' hgrow hwh;have HOW:=h_ hown';have HBW:=h_ (show Below w.heap.size w w' from (b_ HB.out HBA.out).grown hgrow HBS.out (fun k hk=>(HO.out.lt k hk).1));have HSW:=h_ (show (fun W'=>W'.cell? ⟨wr.heap.size,0,none⟩=some (.int .i64 l.k)∧W'.cell? ⟨wr.heap.size,1,none⟩=some (.int .i64 l.w.rows)∧W'.cell? ⟨wr.heap.size,2,none⟩=some (.int .i64 l.w.cols)∧W'.cell? ⟨wr.heap.size,3,none⟩=some (.slice sa sn sk)∧W'.cell? ⟨wr.heap.size,4,none⟩=some (.int .i64 l.b.rows)∧W'.cell? ⟨wr.heap.size,5,none⟩=some (.int .i64 l.b.cols)∧W'.cell? ⟨wr.heap.size,6,none⟩=some (.slice ta tn tk)) w' from (fun hx:Box w' wr.heap.size [.int .i64 l.k,.int .i64 l.w.rows,.int .i64 l.w.cols,.slice sa sn sk,.int .i64 l.b.rows,.int .i64 l.b.cols,.slice ta tn tk]=>⟨hx 0 _ rfl,hx 1 _ rfl,hx 2 _ rfl,hx 3 _ rfl,hx 4 _ rfl,hx 5 _ rfl,hx 6 _ rfl⟩) (fun j u hu=>hgrow.cell (((HLB.out.u_ HB2.out).u_ (o_ _ _)) j u hu) HNE.out));clear hown' hgrow hwh))
   all_goals go_wp2
   all_goals go_roundw
   case rel=>exact ⟨i+1,_,by omega,by have:=HXI.out;omega,rfl,by rw[HTK.out,←flat_snoc];exact HOW.out,HBW.out⟩
   case measure=>have:=HXI.out;simp[intOf];omega
  ·have hin:i=N:=by have:=HXI.out;omega
   have HM:=h_ (show Owns 0 w.heap.size wr 83 7 u3 N (ls.flatMap lyS) by
    have h:=HO.out
    rw[hin,show ls.take N=ls by rw[←HN.out,List.take_length]]at h
    exact h)
   clear hin
   go_wp2
   go_ret
   exact ⟨_,rfl,HM.out,HB.out⟩
set_option maxHeartbeats 4000000 in
set_option maxRecDepth 100000 in
theorem trbegin_any(v:Value)(ls:List Ly)(w:World)(hv:Y_ w v ls)(hle:ls.length≤1599289640355)(hz:∀l∈ls,l.w.cells.length≤17592186043904∧l.b.cells.length≤17592186043904):
  Calls Tryz.prog 22 #[v] w fun e w'=>∃u t,e=.returned (.agg #[u,t,.int .i64 0])∧Owns 0 w.heap.size w' 83 7 u ls.length (ls.flatMap lyS)∧Owns 0 w.heap.size w' 109 6 t (zeroD ls).length ((zeroD ls).flatMap gdS)∧Below w.heap.size w w':=by
 obtain ⟨V,hV⟩:=gM (w.alloc (.cells #[.slice none 0 0,.slice none 0 0,.int .i64 0] 35))
 have HV:=h_ hV
 have HWV:Hid (Below w.heap.size w V):=by rw[hV];exact h_ (o_ _ _)
 have HVS:Hid (V.heap.size=w.heap.size+1):=by rw[hV];exact h_ (by simp)
 have HX:Hid (Box V w.heap.size [.slice none 0 0,.slice none 0 0,.int .i64 0]):=by rw[hV];exact h_ (Box.new w _ 35 rfl)
 have HF:Hid (Free V w.heap.size):=by rw[hV];exact h_ (Free.new _ _ _ rfl)
 have HC:=h_ (trcopynet_any v ls V (hv.u_ HWV.out) hle hz)
 have HZ:=h_ (fun W (h:Below w.heap.size w W)=>netzero_owns v ls W (hv.u_ h) hle hz)
 clear hV hv hle hz
 go_enter Tryz.func22,Tryz.ntmps22
 go_wp2_with fail
 rw[←HV.out]
 refine HC.out.mono ?_
 rintro e w1 ⟨u,rfl,ho1,hb1⟩
 have HB1:=h_ hb1
 have HW1:=h_ (b_ HWV.out hb1)
 have HO1:=h_ ho1
 clear ho1 hb1 HC
 go_wp2_with fail
 refine (HZ.out _ HW1.out).mono ?_
 rintro e w2 ⟨t,rfl,ho2,hb2⟩
 have HB2:=h_ (b_ HB1.out hb2)
 have HW2:=h_ (b_ HW1.out hb2)
 replace HO1:=h_ (HO1.out.u_ hb2)
 obtain ⟨ua,uk,rfl,_,_⟩:=(show Y_ w2 u ls from HO1.out.reads).shape
 obtain ⟨ta,tk,rfl,_,_⟩:=(show D_ w2 t (zeroD ls) from ho2.reads).shape
 obtain ⟨un,eun⟩:=gN (ls.length)
 obtain ⟨tn,etn⟩:=gN ((zeroD ls).length)
 have HEU:=h_ (And.intro eun etn)
 rw[eun]at HO1 ⊢
 rw[etn]at ho2 ⊢
 have hlt1:w.heap.size<V.heap.size:=by rw[HVS.out];exact Nat.lt_succ_self _
 have hlt2:w.heap.size<w1.heap.size:=Nat.lt_of_lt_of_le hlt1 HB1.out.size
 have HOU:=h_ (show Owns 0 w.heap.size (((w2.setCell ⟨w.heap.size,0,none⟩ (.slice ua un uk)).setCell ⟨w.heap.size,1,none⟩ (.slice ta tn tk)).setCell ⟨w.heap.size,2,none⟩ (.int .i64 0)) 83 7 (.slice ua un uk) un (ls.flatMap lyS) from Owns.weaken (((HO1.out.set (Nat.zero_le _) hlt1 0 _).set (Nat.zero_le _) hlt1 1 _).set (Nat.zero_le _) hlt1 2 _) HWV.out.size (Nat.le_refl _))
 have HOT:=h_ (show Owns 0 w.heap.size (((w2.setCell ⟨w.heap.size,0,none⟩ (.slice ua un uk)).setCell ⟨w.heap.size,1,none⟩ (.slice ta tn tk)).setCell ⟨w.heap.size,2,none⟩ (.int .i64 0)) 109 6 (.slice ta tn tk) tn ((zeroD ls).flatMap gdS) from Owns.weaken (((ho2.set (Nat.zero_le _) hlt2 0 _).set (Nat.zero_le _) hlt2 1 _).set (Nat.zero_le _) hlt2 2 _) HW1.out.size (Nat.le_refl _))
 have HBE:=h_ (show Below w.heap.size w (((w2.setCell ⟨w.heap.size,0,none⟩ (.slice ua un uk)).setCell ⟨w.heap.size,1,none⟩ (.slice ta tn tk)).setCell ⟨w.heap.size,2,none⟩ (.int .i64 0)) from S_ HW2.out (Nat.le_refl _) _ _ _)
 obtain ⟨t0,t1,t2⟩:=(HX.out.u_ HB2.out).c3
 obtain ⟨f0,f1,f2⟩:=(HF.out.u_ HB2.out HX.out.lt).f3
 clear ho2 hb2 eun etn hlt1 hlt2 HZ HO1
 go_wp2
 exact bodyPost_ret (v:=.agg #[.slice ua un uk,.slice ta tn tk,.int .i64 0]) (by simp[results,Tryz.results22,go_sem,t0,t1,t2]) rfl ⟨_,_,rfl,by rw[HEU.out.1];exact HOU.out,by rw[HEU.out.2];exact HOT.out,HBE.out⟩
end Go.Proofs.YtniloklglpchfakGreat
