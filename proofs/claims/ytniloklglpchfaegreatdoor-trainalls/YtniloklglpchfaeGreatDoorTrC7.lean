/- What All of package train comes to: batch by batch, one behind the other. -/
import Derived.Test.YtniloklglpchfaeGreatDoorTrC5
import Derived.Test.YtniloklglpchfaeGreatDoorTrC6
import Derived.Test.YtniloklglpchfaeGreatDoorPkNetBk
import Derived.Test.YtniloklglpchfaeGreatDoorPkTrC3
namespace Go.Proofs.YtniloklglpchfaeGreatDoor
open Go.RowKit
theorem runsE_cons(parts le ke:Int)(s:St)(b:Mx×Mx)(bs:List (Mx×Mx)):runsE parts le ke s (b::bs)=if nextE s b parts le ke≠0 then nextE s b parts le ke else runsE parts le ke (nextS s b parts le ke) bs:=rfl
theorem runsS_cons(parts le ke:Int)(s:St)(b:Mx×Mx)(bs:List (Mx×Mx)):runsS parts le ke s (b::bs)=runsS parts le ke (nextS s b parts le ke) bs:=rfl
theorem runsK_cons(parts le ke:Int)(s:St)(b:Mx×Mx)(bs:List (Mx×Mx)):runsK parts le ke s (b::bs)=nextK s b parts::runsK parts le ke (nextS s b parts le ke) bs:=rfl
theorem Owns.hold_ints{base:Nat}{w:World}{e:TypeId}{v:Value}{zs:List Int}(h:Owns 0 base w e 1 v zs.length (zs.map Sum.inl)):Hold (fun b=>b<base) w (fun W=>I_ W v zs):=fun W hW=>by
 obtain ⟨a,cap,h1,h2,h3,h4⟩:=h.hold W hW
 refine ⟨a,cap,h1,h2,h3,?_⟩
 rcases h4 with h4|⟨b,off,ha,hc⟩
 ·exact .inl (List.eq_nil_of_length_eq_zero h4)
 ·refine .inr ⟨b,off,ha,fun i x hx=>?_⟩
  obtain ⟨u,hu,hp⟩:=hc i (.inl x) (by rw[List.getElem?_map,hx];rfl)
  have hp:u=.int .i64 x:=hp
  rw[hu,hp]
theorem enc_int(w:World)(P:Nat->Prop)(k:Int):Enc w P [.inl k] [.int .i64 k]:=.cons rfl (.nil _ _)
def DoesOne (K:Nat) (cpt:Array Value) (parts le ke:Int) (w:World):Prop:=
 ∀(W:World) (v v1:Value) (ls:List Ly) (ps:List (Mx×Mx)) (n:Int) (b:Mx×Mx) (sa:Option Addr) (sn sk:Nat) (ta:Option Addr) (tn tk:Nat),Below w.heap.size w W->Y_ W v ls->D_ W v1 ps->I_ W (.slice sa sn sk) b.1.cells->I_ W (.slice ta tn tk) b.2.cells->
  Calls Tryz.prog K (#[.agg #[v,v1,.int .i64 n],.agg #[.int .i64 b.1.rows,.int .i64 b.1.cols,.slice sa sn sk,.int .i64 b.2.rows,.int .i64 b.2.cols,.slice ta tn tk]]++cpt) W fun e w'=>Below W.heap.size W w'/\
   ∃u t,e=.returned (.tuple #[.agg #[u,t,.int .i64 (stepS ⟨ls,ps,n⟩ b parts le ke).n],.int .i64 (stepK ⟨ls,ps,n⟩ b parts le ke),errV (oneE ls ps n b parts le ke)])/\
    Owns 0 W.heap.size w' 58 7 u (stepS ⟨ls,ps,n⟩ b parts le ke).net.length ((stepS ⟨ls,ps,n⟩ b parts le ke).net.flatMap lyS)/\Owns 0 W.heap.size w' 61 6 t (stepS ⟨ls,ps,n⟩ b parts le ke).spd.length ((stepS ⟨ls,ps,n⟩ b parts le ke).spd.flatMap gdS)
set_option maxHeartbeats 16000000 in
set_option maxRecDepth 100000 in
theorem trallby_any(K:Nat)(cpt:Array Value)(eg:∀args w,(callFunc K args).run Tryz.prog w=.ok (.enter K args) w)(v v1 vl:Value)(ls:List Ly)(ps:List (Mx×Mx))(n:Int)(bs:List (Mx×Mx))(parts le ke:Int)(w:World)(hG:DoesOne K cpt parts le ke w)(hv:Y_ w v ls)(hp:D_ w v1 ps)(hl:IsBts w vl bs):
  Calls Tryz.prog 32 #[.agg #[v,v1,.int .i64 n],vl,.func (.func K) #[] cpt] w fun e w'=>Below w.heap.size w w'/\
   ∃u t o,e=.returned (.tuple #[.agg #[u,t,.int .i64 (allS ⟨ls,ps,n⟩ bs parts le ke).n],o,errV (allE ⟨ls,ps,n⟩ bs parts le ke)])/\Hold (fun b=>b<w.heap.size) w' (fun W=>Y_ W u (allS ⟨ls,ps,n⟩ bs parts le ke).net)/\Hold (fun b=>b<w.heap.size) w' (fun W=>D_ W t (allS ⟨ls,ps,n⟩ bs parts le ke).spd)/\Hold (fun b=>b<w.heap.size) w' (fun W=>I_ W o (allK ⟨ls,ps,n⟩ bs parts le ke)):=by
 obtain ⟨a,cap,rfl,_,_⟩:=hv.shape
 obtain ⟨a1,cap1,rfl,_,_⟩:=hp.shape
 obtain ⟨la,lk,rfl,hlc,hlm⟩:=(show D_ w vl bs from hl).shape
 obtain ⟨N,hN⟩:=gN (ls.length)
 obtain ⟨N1,hN1⟩:=gN (ps.length)
 obtain ⟨M,hM⟩:=gN (bs.length)
 have HMM:=h_ hM
 rw[hN]at hv ⊢
 rw[hN1]at hp ⊢
 replace hl:D_ w (.slice la bs.length lk) bs:=hl
 rw[hM]at hl hlc ⊢
 have hm0:M<=maxLen:=by omega
 unfold maxLen at hm0
 have HVV:=h_ hv
 have HP:=h_ hp
 have HL:=h_ hl
 have HGG:=h_ hG
 clear hG
 have HWV:Hid (Below w.heap.size w ((w.alloc (.cells #[.slice a N cap,.slice a1 N1 cap1,.int .i64 n] 35)).alloc (.cells #[.slice none 0 0,.slice none 0 0,.int .i64 0] 35))):=h_ (a_ (o_ _ _))
 have HX0:Hid (Box ((w.alloc (.cells #[.slice a N cap,.slice a1 N1 cap1,.int .i64 n] 35)).alloc (.cells #[.slice none 0 0,.slice none 0 0,.int .i64 0] 35)) w.heap.size [.slice a N cap,.slice a1 N1 cap1,.int .i64 n]):=h_ ((Box.new w [.slice a N cap,.slice a1 N1 cap1,.int .i64 n] 35 rfl).u_ (o_ _ _))
 have HX2:Hid (Box ((w.alloc (.cells #[.slice a N cap,.slice a1 N1 cap1,.int .i64 n] 35)).alloc (.cells #[.slice none 0 0,.slice none 0 0,.int .i64 0] 35)) (w.heap.size+1) [.slice none 0 0,.slice none 0 0,.int .i64 0]):=h_ (Box.new _ [.slice none 0 0,.slice none 0 0,.int .i64 0] 35 (by simp))
 have HF0:Hid (Free ((w.alloc (.cells #[.slice a N cap,.slice a1 N1 cap1,.int .i64 n] 35)).alloc (.cells #[.slice none 0 0,.slice none 0 0,.int .i64 0] 35)) w.heap.size):=h_ ((Free.new w _ 35 rfl).u_ (o_ _ _) (by simp))
 have HF2:Hid (Free ((w.alloc (.cells #[.slice a N cap,.slice a1 N1 cap1,.int .i64 n] 35)).alloc (.cells #[.slice none 0 0,.slice none 0 0,.int .i64 0] 35)) (w.heap.size+1)):=h_ (Free.new _ _ _ (by simp))
 have HSZ:Hid (((w.alloc (.cells #[.slice a N cap,.slice a1 N1 cap1,.int .i64 n] 35)).alloc (.cells #[.slice none 0 0,.slice none 0 0,.int .i64 0] 35)).heap.size=w.heap.size+1+1):=h_ (by simp)
 obtain ⟨E,hE⟩:=gN (allE ⟨ls,ps,n⟩ bs parts le ke)
 obtain ⟨X,hX⟩:=gN (allS ⟨ls,ps,n⟩ bs parts le ke)
 obtain ⟨Kk,hKk⟩:=gN (allK ⟨ls,ps,n⟩ bs parts le ke)
 have HE:=h_ (show (if 20<M then 3 else if bs=[] then stateE ls ps n else runsE parts le ke ⟨ls,ps,n⟩ bs)=E by rw[<-hE,<-hM];rfl)
 have HX:=h_ (show (if E=0 then runsS parts le ke ⟨ls,ps,n⟩ bs else noSt)=X by rw[<-hE,<-hX];rfl)
 have HK:=h_ (show (if E=0 then runsK parts le ke ⟨ls,ps,n⟩ bs else [])=Kk by rw[<-hE,<-hKk];rfl)
 rw[hE,hX,hKk]
 clear hv hp hl hN hN1 hM hE hX hKk hlc hlm
 by_cases h20:20<M
 ·obtain rfl:3=E:=by rw[<-HE.out,if_pos h20]
  obtain rfl:X=noSt:=by rw[<-HX.out,if_neg (by decide)]
  obtain rfl:Kk=[]:=by rw[<-HK.out,if_neg (by decide)]
  have h20':(20:Int)<(M:Int):=by omega
  go_enter Tryz.func32,Tryz.ntmps32
  go_wp2
  exact bodyPost_ret (v:=.tuple #[.agg #[.slice none 0 0,.slice none 0 0,.int .i64 0],.slice none 0 0,.iface 33 (.int .i64 3)]) (by simp[results,Tryz.results32,go_sem]) rfl ⟨HWV.out,_,_,_,rfl,fun W _=>Owns.reads (Owns.nil 0 0 W 58 7),fun W _=>Owns.reads (Owns.nil 0 0 W 61 6),fun W _=>I_.nil W⟩
 have h20':¬(20:Int)<(M:Int):=by omega
 by_cases hM0:M=0
 ·subst hM0
  have hbs:bs=[]:=List.eq_nil_of_length_eq_zero HMM.out
  obtain rfl:E=stateE ls ps n:=by rw[<-HE.out,if_neg (by decide),if_pos hbs]
  have HXX:=h_ (show X=keepS ls ps n by rw[<-HX.out,hbs];rfl)
  obtain rfl:Kk=[]:=by rw[<-HK.out,hbs];split<;>rfl
  have HU:=h_ (truntouched_any (.slice a N cap) (.slice a1 N1 cap1) ls ps n ((w.alloc (.cells #[.slice a N cap,.slice a1 N1 cap1,.int .i64 n] 35)).alloc (.cells #[.slice none 0 0,.slice none 0 0,.int .i64 0] 35)) (HVV.out.u_ HWV.out) (HP.out.u_ HWV.out))
  obtain ⟨E,hE⟩:=gN (stateE ls ps n)
  rw[hE,<-HXX.out]at HU
  rw[hE]
  have e0:((0:Nat):Int)=0:=rfl
  clear hbs h20 hE
  go_enter Tryz.func32,Tryz.ntmps32
  go_wp2_with fail
  refine HU.out.mono ?_
  rintro e w1 ⟨hb1,u,t,rfl,ho1,ho2⟩
  obtain ⟨ua,uk,rfl,_,_⟩:=(show Y_ w1 u X.net from ho1.reads).shape
  obtain ⟨va,vk,rfl,_,_⟩:=(show D_ w1 t X.spd from ho2.reads).shape
  obtain ⟨un,eun⟩:=gN (X.net.length)
  obtain ⟨vn,evn⟩:=gN (X.spd.length)
  have HEU:=h_ (And.intro eun evn)
  rw[eun]at ho1 ⊢
  rw[evn]at ho2 ⊢
  obtain ⟨nn,enn⟩:=gN (X.n)
  have HNN:=h_ enn
  rw[enn]
  have hlt:w.heap.size+1<((w.alloc (.cells #[.slice a N cap,.slice a1 N1 cap1,.int .i64 n] 35)).alloc (.cells #[.slice none 0 0,.slice none 0 0,.int .i64 0] 35)).heap.size:=by rw[HSZ.out];omega
  have HOU:=h_ (show Hold (fun b=>b<w.heap.size) (((w1.setCell ⟨w.heap.size+1,0,none⟩ (.slice ua un uk)).setCell ⟨w.heap.size+1,1,none⟩ (.slice va vn vk)).setCell ⟨w.heap.size+1,2,none⟩ (.int .i64 nn)) (fun W=>Y_ W (.slice ua un uk) X.net) by
   show Hold _ _ (fun W=>Reads W _ X.net.length _)
   rw[HEU.out.1];exact (((ho1.set (Nat.zero_le _) hlt 0 _).set (Nat.zero_le _) hlt 1 _).set (Nat.zero_le _) hlt 2 _).hold.mono (fun b _ hb=>by rw[HSZ.out];omega))
  have HOT:=h_ (show Hold (fun b=>b<w.heap.size) (((w1.setCell ⟨w.heap.size+1,0,none⟩ (.slice ua un uk)).setCell ⟨w.heap.size+1,1,none⟩ (.slice va vn vk)).setCell ⟨w.heap.size+1,2,none⟩ (.int .i64 nn)) (fun W=>D_ W (.slice va vn vk) X.spd) by
   show Hold _ _ (fun W=>Reads W _ X.spd.length _)
   rw[HEU.out.2];exact (((ho2.set (Nat.zero_le _) hlt 0 _).set (Nat.zero_le _) hlt 1 _).set (Nat.zero_le _) hlt 2 _).hold.mono (fun b _ hb=>by rw[HSZ.out];omega))
  have HBE:=h_ (show Below w.heap.size w (((w1.setCell ⟨w.heap.size+1,0,none⟩ (.slice ua un uk)).setCell ⟨w.heap.size+1,1,none⟩ (.slice va vn vk)).setCell ⟨w.heap.size+1,2,none⟩ (.int .i64 nn)) from S_ (b_ HWV.out hb1) (by omega) _ _ _)
  have HB1:=h_ hb1
  obtain ⟨t0,t1,t2⟩:=(HX2.out.u_ HB1.out).c3
  obtain ⟨f0,f1,f2⟩:=(HF2.out.u_ HB1.out HX2.out.lt).f3
  clear hb1 ho1 ho2 eun evn enn hlt HU
  go_wp2
  exact bodyPost_ret (v:=.tuple #[.agg #[.slice ua un uk,.slice va vn vk,.int .i64 nn],.slice none 0 0,errV E]) (by simp[results,Tryz.results32,go_sem,t0,t1,t2]) rfl ⟨HBE.out,_,_,_,by rw[HNN.out],HOU.out,HOT.out,fun W _=>I_.nil W⟩
 have hbs:bs≠[]:=fun e=>hM0 (by rw[<-HMM.out,e];rfl)
 have HE2:=h_ (show runsE parts le ke ⟨ls,ps,n⟩ bs=E by rw[<-HE.out,if_neg h20,if_neg hbs])
 have HM0:=h_ hM0
 have hM1:((M:Int)==0)=false:=by simp;omega
 have hmk:=run_mkL 3 26 1 8 _ Tryz.underlying26 infoInt (M:Int) M rfl (by omega) (by omega)
 have HB4:=h_ (show Below w.heap.size w (((w.alloc (.cells #[.slice a N cap,.slice a1 N1 cap1,.int .i64 n] 35)).alloc (.cells #[.slice none 0 0,.slice none 0 0,.int .i64 0] 35)).alloc (.cells (rawCells (.int .i64 0) M) 3)) from a_ HWV.out)
 have HO0:=h_ (show Owns 0 (w.heap.size+1+1) (((w.alloc (.cells #[.slice a N cap,.slice a1 N1 cap1,.int .i64 n] 35)).alloc (.cells #[.slice none 0 0,.slice none 0 0,.int .i64 0] 35)).alloc (.cells (rawCells (.int .i64 0) M) 3)) 3 1 (.slice (some ⟨w.heap.size+1+1,0,none⟩) 0 M) 0 [] by
  have h:=Owns.room (lo:=0) (base:=w.heap.size+1+1) (w:=((w.alloc (.cells #[.slice a N cap,.slice a1 N1 cap1,.int .i64 n] 35)).alloc (.cells #[.slice none 0 0,.slice none 0 0,.int .i64 0] 35))) (e:=3) (size:=1) (cap:=M) (rawCells (.int .i64 0) M) (by rw[HSZ.out];exact Nat.le_refl _) (by unfold maxLen;omega) (by rw[rawCells_size,Nat.mul_one])
  rw[HSZ.out]at h;exact h)
 have HLD:∀b,(fun b=>(b<w.heap.size+1+1/\(w.heap.size<=b\/0<0))\/(Value.slice (some ⟨w.heap.size+1+1,0,none⟩) 0 M).ownBlock=some b) b->w.heap.size<=b:=fun b hb=>by
  rcases hb with hb|hb
  ·omega
  ·have e:w.heap.size+1+1=b:=by simpa [Value.ownBlock] using hb
   omega
 have HLY:=h_ (Reads.hold (show Reads w (.slice a N cap) ls.length (ls.flatMap lyS) from HVV.out) HB4.out HLD)
 have HGD:=h_ (Reads.hold (show Reads w (.slice a1 N1 cap1) ps.length (ps.flatMap gdS) from HP.out) HB4.out HLD)
 obtain ⟨e0,ei,hz0,hz1,hz2⟩:=info_parts infoInt
 have HEI:=h_ (And.intro ei (And.intro hz0 (And.intro hz1 hz2)))
 have HBOX:=h_ (And.intro (HX0.out.u_ (o_ _ (.cells (rawCells (.int .i64 0) M) 3))) (And.intro (HX2.out.u_ (o_ _ (.cells (rawCells (.int .i64 0) M) 3))) (And.intro (HF0.out.u_ (o_ _ (.cells (rawCells (.int .i64 0) M) 3)) HX0.out.lt) (HF2.out.u_ (o_ _ (.cells (rawCells (.int .i64 0) M) 3)) HX2.out.lt))))
 clear hbs hM0 h20 ei hz0 hz1 hz2 HLD
 go_enter Tryz.func32,Tryz.ntmps32
 go_wp2
 clear hmk
 go_loopw [9,33] (fun o c wr=>∃(i:Nat) (xi:Int) (s:St) (ks:List Int),i<=M/\xi=(i:Int)/\c=.int .i64 xi/\ks.length=i/\runsE parts le ke s (bs.drop i)=E/\runsS parts le ke s (bs.drop i)=runsS parts le ke ⟨ls,ps,n⟩ bs/\ks++runsK parts le ke s (bs.drop i)=runsK parts le ke ⟨ls,ps,n⟩ bs/\∃(u t:Value),Box wr w.heap.size [u,t,.int .i64 s.n]/\Box wr (w.heap.size+1) [.slice none 0 0,.slice none 0 0,.int .i64 0]/\Free wr w.heap.size/\Free wr (w.heap.size+1)/\Hold (fun b=>(b<w.heap.size+1+1/\(w.heap.size<=b\/0<i))\/(o).ownBlock=some b) wr (fun W=>Y_ W u s.net)/\Hold (fun b=>(b<w.heap.size+1+1/\(w.heap.size<=b\/0<i))\/(o).ownBlock=some b) wr (fun W=>D_ W t s.spd)/\Owns 0 (w.heap.size+1+1) wr 3 1 o i (ks.map Sum.inl)/\Below w.heap.size w wr) (fun _ c _=>M - (intOf c).toNat)
 case atStart=>exact ⟨0,0,⟨ls,ps,n⟩,[],Nat.zero_le _,rfl,rfl,rfl,HE2.out,rfl,rfl,_,_,HBOX.out.1,HBOX.out.2.1,HBOX.out.2.2.1,HBOX.out.2.2.2,HLY.out,HGD.out,HO0.out,HB4.out⟩
 case round=>
  obtain ⟨i,xi,s,ks,hi,hxi,rfl,hkl,hre,hrs,hrk,u,t,bx0,bx2,fr0,fr2,hhl,hhg,how,hb⟩:=hrel
  have HXI:=h_ hxi
  have hxi0:0<=xi:=by omega
  have hxi1:xi<=20:=by omega
  have HB:=h_ hb
  have HR:=h_ (And.intro hkl (And.intro hre (And.intro hrs hrk)))
  have HY0:=h_ bx0
  have HY2:=h_ bx2
  have HZ0:=h_ fr0
  have HZ2:=h_ fr2
  have HHL:=h_ hhl
  have HHG:=h_ hhg
  have HOW:=h_ how
  obtain ⟨pa,pk,rfl,_,_⟩:=(show Y_ wr u s.net from hhl.now).shape
  obtain ⟨qa,qk,rfl,_,_⟩:=(show D_ wr t s.spd from hhg.now).shape
  obtain ⟨pn,epn⟩:=gN (s.net.length)
  obtain ⟨qn,eqn⟩:=gN (s.spd.length)
  obtain ⟨sn',esn⟩:=gN (s.n)
  rw[epn]at HY0 HHL
  rw[eqn]at HY0 HHG
  rw[esn]at HY0
  have HSN:=h_ esn
  clear hxi hkl hre hrs hrk bx0 bx2 fr0 fr2 hhl hhg how hb epn eqn esn
  by_cases hlt:xi<(M:Int)
  ·have hin:i<M:=by have:=HXI.out;omega
   have hxn:xi.toNat=i:=by have:=HXI.out;omega
   obtain ⟨d,hd⟩:∃x,bs[i]?=some x:=⟨bs[i]'(by have:=HMM.out;omega),List.getElem?_eq_getElem _⟩
   obtain ⟨ub,uo,uc,xa,xn,xk,ya,yn,yk,ev,c0,c1,c2,c3,c4,c5,hdw,hdb⟩:=HL.out.at hd
   obtain rfl:=(Value.slice.inj ev).1
   rw[<-hxn]at c0 c1 c2 c3 c4 c5
   replace c0:=c_ HB.out c0
   replace c1:=c_ HB.out c1
   replace c2:=c_ HB.out c2
   replace c3:=c_ HB.out c3
   replace c4:=c_ HB.out c4
   replace c5:=c_ HB.out c5
   have HDR:=h_ (drop_at hd)
   have HON:=h_ (HGG.out (wr.alloc (.cells #[.int .i64 d.1.rows,.int .i64 d.1.cols,.slice xa xn xk,.int .i64 d.2.rows,.int .i64 d.2.cols,.slice ya yn yk] 30)) (.slice pa pn pk) (.slice qa qn qk) s.net s.spd s.n d xa xn xk ya yn yk (a_ HB.out) ((show Y_ wr (.slice pa pn pk) s.net from HHL.out.now).u_ (o_ _ _)) ((show D_ wr (.slice qa qn qk) s.spd from HHG.out.now).u_ (o_ _ _)) (hdw.u_ (a_ HB.out)) (hdb.u_ (a_ HB.out)))
   obtain ⟨E1,hE1⟩:=gN (oneE s.net s.spd s.n d parts le ke)
   have HE1:=h_ (show nextE s d parts le ke=E1 from hE1)
   rw[hE1,HSN.out]at HON
   obtain ⟨X1,hX1⟩:=gN (stepS ⟨s.net,s.spd,sn'⟩ d parts le ke)
   obtain ⟨K1,hK1⟩:=gN (stepK ⟨s.net,s.spd,sn'⟩ d parts le ke)
   rw[hX1,hK1]at HON
   have HX1':=h_ (show (if E1=0 then nextS s d parts le ke else noSt)=X1 by rw[<-hX1,<-HE1.out,<-HSN.out];rfl)
   have HK1':=h_ (show (if E1=0 then nextK s d parts else 0)=K1 by rw[<-hK1,<-HE1.out,<-HSN.out];rfl)
   obtain ⟨d0,d1,d2⟩:=(HY0.out.u_ (o_ wr (.cells #[.int .i64 d.1.rows,.int .i64 d.1.cols,.slice xa xn xk,.int .i64 d.2.rows,.int .i64 d.2.cols,.slice ya yn yk] 30))).c3
   clear ev hdw hdb hd hxn hE1 hX1 hK1
   go_wp2_with fail
   go_at_fn K
   refine HON.out.mono ?_
   rintro e w1 ⟨hb1,u1,t1,rfl,ho1,ho2⟩
   have HB1:=h_ (show Below wr.heap.size wr w1 from b_ (o_ _ _) hb1)
   have HW1:=h_ (b_ HB.out HB1.out)
   obtain ⟨ua,uk,rfl,_,_⟩:=(show Y_ w1 u1 X1.net from ho1.reads).shape
   obtain ⟨va,vk,rfl,_,_⟩:=(show D_ w1 t1 X1.spd from ho2.reads).shape
   obtain ⟨un,eun⟩:=gN (X1.net.length)
   obtain ⟨vn,evn⟩:=gN (X1.spd.length)
   have HEU:=h_ (And.intro eun evn)
   rw[eun]at ho1 ⊢
   rw[evn]at ho2 ⊢
   obtain ⟨nn,enn⟩:=gN (X1.n)
   have HNN:=h_ enn
   rw[enn]
   have HO1:=h_ ho1
   have HO2:=h_ ho2
   have HUS:=h_ hb1.size
   clear hb1 ho1 ho2 eun evn enn HON c0 c1 c2 c3 c4 c5 d0 d1 d2
   by_cases k1:E1=0
   case neg=>
    obtain rfl:E1=E:=by have h:=HR.out.2.1;rw[HDR.out,runsE_cons,HE1.out,if_pos k1]at h;exact h
    obtain rfl:X=noSt:=by rw[<-HX.out,if_neg k1]
    obtain rfl:Kk=[]:=by rw[<-HK.out,if_neg k1]
    rw[n_ k1]
    have HKE:=h_ k1
    have HBX:=h_ (show Below wr.heap.size wr (w1.alloc (.cells #[.slice ua un uk,.slice va vn vk,.int .i64 nn] 35)) from a_ HB1.out)
    obtain ⟨t0,t1,t2⟩:=(HY2.out.u_ HBX.out).c3
    obtain ⟨f0,f1,f2⟩:=(HZ2.out.u_ HBX.out HY2.out.lt).f3
    have HBE:=h_ (show Below w.heap.size w ((((w1.alloc (.cells #[.slice ua un uk,.slice va vn vk,.int .i64 nn] 35)).setCell ⟨w.heap.size+1,0,none⟩ (.slice none 0 0)).setCell ⟨w.heap.size+1,1,none⟩ (.slice none 0 0)).setCell ⟨w.heap.size+1,2,none⟩ (.int .i64 0)) from S_ (b_ HB.out HBX.out) (by omega) _ _ _)
    clear k1
    go_wp2
    exact bodyPost_ret (v:=.tuple #[.agg #[.slice none 0 0,.slice none 0 0,.int .i64 0],.slice none 0 0,.iface 33 (.int .i64 E1)]) (by simp[results,Tryz.results32,go_sem,t0,t1,t2]) rfl ⟨HBE.out,_,_,_,by rw[n_ HKE.out];rfl,fun W _=>Owns.reads (Owns.nil 0 0 W 58 7),fun W _=>Owns.reads (Owns.nil 0 0 W 61 6),fun W _=>I_.nil W⟩
   subst k1
   rw[e_ rfl]
   have HX3:=h_ (show nextS s d parts le ke=X1 by rw[<-HX1'.out,if_pos rfl])
   have HK3:=h_ (show nextK s d parts=K1 by rw[<-HK1'.out,if_pos rfl])
   have HRE:=h_ (show runsE parts le ke X1 (bs.drop (i+1))=E by have h:=HR.out.2.1;rw[HDR.out,runsE_cons,HE1.out,if_neg (by simp),HX3.out]at h;exact h)
   have HRS:=h_ (show runsS parts le ke X1 (bs.drop (i+1))=runsS parts le ke ⟨ls,ps,n⟩ bs by have h:=HR.out.2.2.1;rw[HDR.out,runsS_cons,HX3.out]at h;exact h)
   have HRK:=h_ (show (ks++[K1])++runsK parts le ke X1 (bs.drop (i+1))=runsK parts le ke ⟨ls,ps,n⟩ bs by have h:=HR.out.2.2.2;rw[HDR.out,runsK_cons,HX3.out,HK3.out]at h;rw[List.append_assoc];exact h)
   have HBX:=h_ (show Below wr.heap.size wr (w1.alloc (.cells #[.slice ua un uk,.slice va vn vk,.int .i64 nn] 35)) from a_ HB1.out)
   have hlt0:w.heap.size<(wr.alloc (.cells #[.int .i64 d.1.rows,.int .i64 d.1.cols,.slice xa xn xk,.int .i64 d.2.rows,.int .i64 d.2.cols,.slice ya yn yk] 30)).heap.size:=by have:=HY0.out.lt;rw[World.size_alloc];omega
   have hob:∀b,(fun b=>(b<w.heap.size+1+1/\(w.heap.size<=b\/0<i+1))\/(u9).ownBlock=some b) b->b<(wr.alloc (.cells #[.int .i64 d.1.rows,.int .i64 d.1.cols,.slice xa xn xk,.int .i64 d.2.rows,.int .i64 d.2.cols,.slice ya yn yk] 30)).heap.size:=fun b hb=>by
    have h2:=HY2.out.lt
    rw[World.size_alloc]
    rcases hb with hb|hb
    ·omega
    ·have:=(HOW.out.lt b hb).2;omega
   have HGB:=h_ (show (fun b=>(b<w.heap.size+1+1/\(w.heap.size<=b\/0<i+1))\/(u9).ownBlock=some b) w.heap.size from .inl ⟨by omega,.inl (Nat.le_refl _)⟩)
   have HL1:=h_ (show Hold (fun b=>(b<w.heap.size+1+1/\(w.heap.size<=b\/0<i+1))\/(u9).ownBlock=some b) (((((w1.alloc (.cells #[.slice ua un uk,.slice va vn vk,.int .i64 nn] 35)).setCell ⟨w.heap.size,0,none⟩ (.slice ua un uk)).setCell ⟨w.heap.size,1,none⟩ (.slice va vn vk)).setCell ⟨w.heap.size,2,none⟩ (.int .i64 nn)).alloc (.cells #[.int .i64 K1] 3)) (fun W=>Reads W (.slice ua un uk) un (X1.net.flatMap lyS)) from ((((((HO1.out.hold.mono (fun b _ h=>hob b h)).u_ (o_ _ _)).set HGB.out 0 _).set HGB.out 1 _).set HGB.out 2 _).u_ (o_ _ _)))
   have HL2:=h_ (show Hold (fun b=>(b<w.heap.size+1+1/\(w.heap.size<=b\/0<i+1))\/(u9).ownBlock=some b) (((((w1.alloc (.cells #[.slice ua un uk,.slice va vn vk,.int .i64 nn] 35)).setCell ⟨w.heap.size,0,none⟩ (.slice ua un uk)).setCell ⟨w.heap.size,1,none⟩ (.slice va vn vk)).setCell ⟨w.heap.size,2,none⟩ (.int .i64 nn)).alloc (.cells #[.int .i64 K1] 3)) (fun W=>Reads W (.slice va vn vk) vn (X1.spd.flatMap gdS)) from ((((((HO2.out.hold.mono (fun b _ h=>hob b h)).u_ (o_ _ _)).set HGB.out 0 _).set HGB.out 1 _).set HGB.out 2 _).u_ (o_ _ _)))
   have HYS:=h_ (show ((((w1.alloc (.cells #[.slice ua un uk,.slice va vn vk,.int .i64 nn] 35)).setCell ⟨w.heap.size,0,none⟩ (.slice ua un uk)).setCell ⟨w.heap.size,1,none⟩ (.slice va vn vk)).setCell ⟨w.heap.size,2,none⟩ (.int .i64 nn)).heap.size=w1.heap.size+1 by simp[World.setCell])
   have HOA:=h_ (show Owns 0 (w.heap.size+1+1) (((((w1.alloc (.cells #[.slice ua un uk,.slice va vn vk,.int .i64 nn] 35)).setCell ⟨w.heap.size,0,none⟩ (.slice ua un uk)).setCell ⟨w.heap.size,1,none⟩ (.slice va vn vk)).setCell ⟨w.heap.size,2,none⟩ (.int .i64 nn)).alloc (.cells #[.int .i64 K1] 3)) 3 1 u9 i (ks.map Sum.inl) by
    have hlb:w.heap.size<w.heap.size+1+1:=by omega
    exact ((((HOW.out.u_ HBX.out).set (Nat.zero_le _) hlb 0 _).set (Nat.zero_le _) hlb 1 _).set (Nat.zero_le _) hlb 2 _).u_ (o_ _ _))
   have HEN:=h_ (enc_int (((((w1.alloc (.cells #[.slice ua un uk,.slice va vn vk,.int .i64 nn] 35)).setCell ⟨w.heap.size,0,none⟩ (.slice ua un uk)).setCell ⟨w.heap.size,1,none⟩ (.slice va vn vk)).setCell ⟨w.heap.size,2,none⟩ (.int .i64 nn)).alloc (.cells #[.int .i64 K1] 3)) (fun b=>u9.ownBlock=some b\/(0<=b/\b<w.heap.size+1+1)) K1)
   have HNB:=h_ (show Box (((((w1.alloc (.cells #[.slice ua un uk,.slice va vn vk,.int .i64 nn] 35)).setCell ⟨w.heap.size,0,none⟩ (.slice ua un uk)).setCell ⟨w.heap.size,1,none⟩ (.slice va vn vk)).setCell ⟨w.heap.size,2,none⟩ (.int .i64 nn)).alloc (.cells #[.int .i64 K1] 3)) (w1.heap.size+1) [.int .i64 K1] from Box.new _ _ _ HYS.out)
   have HBYA:=h_ (show Below w.heap.size w (((((w1.alloc (.cells #[.slice ua un uk,.slice va vn vk,.int .i64 nn] 35)).setCell ⟨w.heap.size,0,none⟩ (.slice ua un uk)).setCell ⟨w.heap.size,1,none⟩ (.slice va vn vk)).setCell ⟨w.heap.size,2,none⟩ (.int .i64 nn)).alloc (.cells #[.int .i64 K1] 3)) from a_ (S_ (b_ HB.out HBX.out) (Nat.le_refl _) _ _ _))
   have HBS:=h_ (show w.heap.size+1+1<=(((((w1.alloc (.cells #[.slice ua un uk,.slice va vn vk,.int .i64 nn] 35)).setCell ⟨w.heap.size,0,none⟩ (.slice ua un uk)).setCell ⟨w.heap.size,1,none⟩ (.slice va vn vk)).setCell ⟨w.heap.size,2,none⟩ (.int .i64 nn)).alloc (.cells #[.int .i64 K1] 3)).heap.size by rw[World.size_alloc,HYS.out];have:=HY2.out.lt;have:=HB1.out.size;omega)
   have HM1:=h_ (show i+1<=maxLen by unfold maxLen;omega)
   have HM2:=h_ (show (i+1)*8<=140737488355328 by omega)
   have HV0:=h_ (show Box (((((w1.alloc (.cells #[.slice ua un uk,.slice va vn vk,.int .i64 nn] 35)).setCell ⟨w.heap.size,0,none⟩ (.slice ua un uk)).setCell ⟨w.heap.size,1,none⟩ (.slice va vn vk)).setCell ⟨w.heap.size,2,none⟩ (.int .i64 nn)).alloc (.cells #[.int .i64 K1] 3)) w.heap.size [.slice ua un uk,.slice va vn vk,.int .i64 nn] from (three_set (HY0.out.u_ HBX.out) (.slice ua un uk) (.slice va vn vk) (.int .i64 nn)).u_ (o_ _ _))
   have HV2:=h_ (show Box (((((w1.alloc (.cells #[.slice ua un uk,.slice va vn vk,.int .i64 nn] 35)).setCell ⟨w.heap.size,0,none⟩ (.slice ua un uk)).setCell ⟨w.heap.size,1,none⟩ (.slice va vn vk)).setCell ⟨w.heap.size,2,none⟩ (.int .i64 nn)).alloc (.cells #[.int .i64 K1] 3)) (w.heap.size+1) [.slice none 0 0,.slice none 0 0,.int .i64 0] from (((((HY2.out.u_ HBX.out).other (by omega) (.slice ua un uk)).other (by omega) (.slice va vn vk)).other (by omega) (.int .i64 nn)).u_ (o_ _ _)))
   have HU0:=h_ (show Free (((((w1.alloc (.cells #[.slice ua un uk,.slice va vn vk,.int .i64 nn] 35)).setCell ⟨w.heap.size,0,none⟩ (.slice ua un uk)).setCell ⟨w.heap.size,1,none⟩ (.slice va vn vk)).setCell ⟨w.heap.size,2,none⟩ (.int .i64 nn)).alloc (.cells #[.int .i64 K1] 3)) w.heap.size from ((((HZ0.out.u_ HBX.out HY0.out.lt).put _ _).put _ _).put _ _).u_ (o_ _ _) (by rw[HYS.out];have:=HY0.out.lt;have:=HB1.out.size;omega))
   have HU2:=h_ (show Free (((((w1.alloc (.cells #[.slice ua un uk,.slice va vn vk,.int .i64 nn] 35)).setCell ⟨w.heap.size,0,none⟩ (.slice ua un uk)).setCell ⟨w.heap.size,1,none⟩ (.slice va vn vk)).setCell ⟨w.heap.size,2,none⟩ (.int .i64 nn)).alloc (.cells #[.int .i64 K1] 3)) (w.heap.size+1) from ((((HZ2.out.u_ HBX.out HY2.out.lt).put _ _).put _ _).put _ _).u_ (o_ _ _) (by rw[HYS.out];have:=HY2.out.lt;have:=HB1.out.size;omega))
   have HNB0:=h_ (show ∀B,B<w.heap.size+1+1->some B≠u9.ownBlock from fun B hB e=>by have:=(HOW.out.lt _ e.symm).1;omega)
   obtain ⟨t0,t1,t2⟩:=(HY0.out.u_ HBX.out).c3
   obtain ⟨f0,f1,f2⟩:=(HZ0.out.u_ HBX.out HY0.out.lt).f3
   clear hlt0 hob
   go_wp2_with (at_builtin;refine wpList_append_owns rfl _ _ 26 rfl (w.heap.size+1+1) 3 e0 (.int .i64 0) 1 8 Tryz.underlying26 HEI.out.1 HEI.out.2.1 HEI.out.2.2.1 HEI.out.2.2.2 rfl (by decide) 0 u9 _ _ rfl HOA.out ⟨w1.heap.size+1,0,none⟩ 1 1 [.int .i64 K1] rfl rfl (fun q u hq=>by rw[addr_add];exact HNB.out q u hq) [.inl K1] HEN.out HM1.out HM2.out HBS.out ?_)
   intro v' w' hown' hgrow hwh
   have HVW:=h_ (show Owns 0 (w.heap.size+1+1) w' 3 1 v' (i+1) ((ks++[K1]).map Sum.inl) by rw[List.map_append];exact hown')
   have hGG:∀b,b<(((((w1.alloc (.cells #[.slice ua un uk,.slice va vn vk,.int .i64 nn] 35)).setCell ⟨w.heap.size,0,none⟩ (.slice ua un uk)).setCell ⟨w.heap.size,1,none⟩ (.slice va vn vk)).setCell ⟨w.heap.size,2,none⟩ (.int .i64 nn)).alloc (.cells #[.int .i64 K1] 3)).heap.size->(fun b=>(b<w.heap.size+1+1/\(w.heap.size<=b\/0<i+1))\/(v').ownBlock=some b) b->(fun b=>(b<w.heap.size+1+1/\(w.heap.size<=b\/0<i+1))\/(u9).ownBlock=some b) b:=fun b hlt' hb=>hb.imp id (fun h=>by
    rcases hwh with h'|h'
    ·rw[<-h'];exact h
    ·rw[h']at h
     have:=Option.some.inj h
     rw[World.size_alloc,HYS.out]at hlt'
     have e9:=HYS.out
     omega)
   have HL3:=h_ (HL1.out.grown hgrow (fun b hb=>.inr hb) hGG)
   have HL4:=h_ (HL2.out.grown hgrow (fun b hb=>.inr hb) hGG)
   have HW0':=h_ (show Box w' w.heap.size [.slice ua un uk,.slice va vn vk,.int .i64 nn] from fun j x hx=>hgrow.cell (HV0.out j x hx) (HNB0.out (w.heap.size) (by omega)))
   have HW2':=h_ (show Box w' (w.heap.size+1) [.slice none 0 0,.slice none 0 0,.int .i64 0] from fun j x hx=>hgrow.cell (HV2.out j x hx) (HNB0.out (w.heap.size+1) (by omega)))
   have HF0':=h_ (show Free w' w.heap.size from fun j=>(World.frozen?_of_block (a:=⟨w.heap.size,j,none⟩) (hgrow.block _ HV0.out.lt (HNB0.out (w.heap.size) (by omega)))).trans (HU0.out j))
   have HF2':=h_ (show Free w' (w.heap.size+1) from fun j=>(World.frozen?_of_block (a:=⟨w.heap.size+1,j,none⟩) (hgrow.block _ HV2.out.lt (HNB0.out (w.heap.size+1) (by omega)))).trans (HU2.out j))
   have HBW:=h_ (show Below w.heap.size w w' from HBYA.out.grown hgrow HBYA.out.size (fun k hk=>by have:=(HOW.out.lt k hk).1;omega))
   have HKL:=h_ (show (ks++[K1]).length=i+1 by rw[List.length_append,HR.out.1];rfl)
   clear hown' hgrow hwh hGG t0 t1 t2 f0 f1 f2
   go_wp2
   go_roundw
   case rel=>exact ⟨i+1,_,X1,ks++[K1],by omega,by have:=HXI.out;omega,rfl,HKL.out,HRE.out,HRS.out,HRK.out,_,_,by rw[HNN.out];exact HW0'.out,HW2'.out,HF0'.out,HF2'.out,by have h:=HL3.out;show Hold _ _ (fun W=>Reads W _ X1.net.length _);rw[HEU.out.1];exact h,by have h:=HL4.out;show Hold _ _ (fun W=>Reads W _ X1.spd.length _);rw[HEU.out.2];exact h,HVW.out,HBW.out⟩
   case measure=>have:=HXI.out;simp[intOf];omega
  ·have hin:i=M:=by have:=HXI.out;omega
   have hdr:bs.drop i=[]:=by rw[hin,<-HMM.out,List.drop_length]
   obtain ⟨r1,r2,r3,r4⟩:=HR.out
   rw[hdr]at r2 r3 r4
   obtain rfl:E=0:=r2.symm
   have HXX:=h_ (show X=s by rw[<-HX.out,if_pos rfl];exact r3.symm)
   have HKK:=h_ (show Kk=ks by rw[<-HK.out,if_pos rfl,<-r4];show ks++[]=ks;simp)
   have HOI:=h_ (show Owns 0 (w.heap.size+1+1) wr 3 1 u9 ks.length (ks.map Sum.inl) by rw[r1];exact HOW.out)
   obtain ⟨nn,enn⟩:=gN (sn')
   have HG2:=h_ (show (fun b=>(b<w.heap.size+1+1/\(w.heap.size<=b\/0<i))\/(u9).ownBlock=some b) (w.heap.size+1) from .inl ⟨by omega,.inl (by omega)⟩)
   have hi0:0<i:=by have:=HM0.out;omega
   have hGL:∀b,b<w.heap.size->(fun b=>(b<w.heap.size+1+1/\(w.heap.size<=b\/0<i))\/(u9).ownBlock=some b) b:=fun b hb=>.inl ⟨by omega,.inr hi0⟩
   have HIL:=h_ (show Hold (fun b=>b<w.heap.size) (((wr.setCell ⟨w.heap.size+1,0,none⟩ (.slice pa pn pk)).setCell ⟨w.heap.size+1,1,none⟩ (.slice qa qn qk)).setCell ⟨w.heap.size+1,2,none⟩ (.int .i64 sn')) (fun W=>Y_ W (.slice pa pn pk) s.net) from (((HHL.out.set HG2.out 0 _).set HG2.out 1 _).set HG2.out 2 _).mono (fun b _ hb=>hGL b hb))
   have HIG:=h_ (show Hold (fun b=>b<w.heap.size) (((wr.setCell ⟨w.heap.size+1,0,none⟩ (.slice pa pn pk)).setCell ⟨w.heap.size+1,1,none⟩ (.slice qa qn qk)).setCell ⟨w.heap.size+1,2,none⟩ (.int .i64 sn')) (fun W=>D_ W (.slice qa qn qk) s.spd) from (((HHG.out.set HG2.out 0 _).set HG2.out 1 _).set HG2.out 2 _).mono (fun b _ hb=>hGL b hb))
   have hlb:w.heap.size+1<w.heap.size+1+1:=by omega
   have HII:=h_ (show Hold (fun b=>b<w.heap.size) (((wr.setCell ⟨w.heap.size+1,0,none⟩ (.slice pa pn pk)).setCell ⟨w.heap.size+1,1,none⟩ (.slice qa qn qk)).setCell ⟨w.heap.size+1,2,none⟩ (.int .i64 sn')) (fun W=>I_ W u9 ks) from (show Hold (fun b=>b<w.heap.size+1+1) (((wr.setCell ⟨w.heap.size+1,0,none⟩ (.slice pa pn pk)).setCell ⟨w.heap.size+1,1,none⟩ (.slice qa qn qk)).setCell ⟨w.heap.size+1,2,none⟩ (.int .i64 sn')) (fun W=>I_ W u9 ks) from ((((HOI.out.set (Nat.zero_le _) hlb 0 (.slice pa pn pk)).set (Nat.zero_le _) hlb 1 (.slice qa qn qk)).set (Nat.zero_le _) hlb 2 (.int .i64 sn')).hold_ints)).mono (fun b _ hb=>by omega))
   have HBE:=h_ (show Below w.heap.size w (((wr.setCell ⟨w.heap.size+1,0,none⟩ (.slice pa pn pk)).setCell ⟨w.heap.size+1,1,none⟩ (.slice qa qn qk)).setCell ⟨w.heap.size+1,2,none⟩ (.int .i64 sn')) from S_ HB.out (by omega) _ _ _)
   obtain ⟨d0,d1,d2⟩:=HY0.out.c3
   obtain ⟨t0,t1,t2⟩:=HY2.out.c3
   obtain ⟨f0,f1,f2⟩:=HZ2.out.f3
   clear hin hdr r1 r2 r3 r4 enn hlb hi0 hGL
   go_wp2
   exact bodyPost_ret (v:=.tuple #[.agg #[.slice pa pn pk,.slice qa qn qk,.int .i64 sn'],u9,.nilIface]) (by simp[results,Tryz.results32,go_sem,t0,t1,t2]) rfl ⟨HBE.out,_,_,_,by rw[HXX.out,HSN.out];rfl,by rw[HXX.out];exact HIL.out,by rw[HXX.out];exact HIG.out,by rw[HKK.out];exact HII.out⟩
set_option maxHeartbeats 8000000 in
set_option maxRecDepth 100000 in
theorem trfn_any(v v1:Value)(ls:List Ly)(ps:List (Mx×Mx))(n:Int)(b:Mx×Mx)(parts le ke:Int)(sa:Option Addr)(sn sk:Nat)(ta:Option Addr)(tn tk:Nat)(pb rb:Nat)(w:World)(hb0:Box w pb [.int .i64 parts])(hb1:Box w rb [.int .i64 le,.int .i64 ke])(hv:Y_ w v ls)(hp:D_ w v1 ps)(hs:I_ w (.slice sa sn sk) b.1.cells)(ht:I_ w (.slice ta tn tk) b.2.cells):
  Calls Tryz.prog 33 #[.agg #[v,v1,.int .i64 n],.agg #[.int .i64 b.1.rows,.int .i64 b.1.cols,.slice sa sn sk,.int .i64 b.2.rows,.int .i64 b.2.cols,.slice ta tn tk],.pointer (some ⟨pb,0,none⟩),.pointer (some ⟨rb,0,none⟩)] w fun e w'=>Below w.heap.size w w'/\
   ∃u t,e=.returned (.tuple #[.agg #[u,t,.int .i64 (stepS ⟨ls,ps,n⟩ b parts le ke).n],.int .i64 (stepK ⟨ls,ps,n⟩ b parts le ke),errV (oneE ls ps n b parts le ke)])/\
    Owns 0 w.heap.size w' 58 7 u (stepS ⟨ls,ps,n⟩ b parts le ke).net.length ((stepS ⟨ls,ps,n⟩ b parts le ke).net.flatMap lyS)/\Owns 0 w.heap.size w' 61 6 t (stepS ⟨ls,ps,n⟩ b parts le ke).spd.length ((stepS ⟨ls,ps,n⟩ b parts le ke).spd.flatMap gdS):=by
 obtain ⟨a,cap,rfl,_,_⟩:=hv.shape
 obtain ⟨a1,cap1,rfl,_,_⟩:=hp.shape
 obtain ⟨N,hN⟩:=gN (ls.length)
 obtain ⟨N1,hN1⟩:=gN (ps.length)
 rw[hN]at hv ⊢
 rw[hN1]at hp ⊢
 obtain ⟨V,hV⟩:=gM ((((w.alloc (.cells #[.slice a N cap,.slice a1 N1 cap1,.int .i64 n] 35)).alloc (.cells #[.int .i64 b.1.rows,.int .i64 b.1.cols,.slice sa sn sk,.int .i64 b.2.rows,.int .i64 b.2.cols,.slice ta tn tk] 30)).alloc (.cells #[.slice none 0 0,.slice none 0 0,.int .i64 0] 35)))
 have HV:=h_ hV
 have HWV:Hid (Below w.heap.size w V):=by rw[hV];exact h_ (a_ (a_ (o_ _ _)))
 have HX0:Hid (Box V w.heap.size [.slice a N cap,.slice a1 N1 cap1,.int .i64 n]):=by rw[hV];exact h_ ((Box.new w [.slice a N cap,.slice a1 N1 cap1,.int .i64 n] 35 rfl).u_ (a_ (o_ _ _)))
 have HX1:Hid (Box V (w.heap.size+1) [.int .i64 b.1.rows,.int .i64 b.1.cols,.slice sa sn sk,.int .i64 b.2.rows,.int .i64 b.2.cols,.slice ta tn tk]):=by rw[hV];exact h_ ((Box.new _ [.int .i64 b.1.rows,.int .i64 b.1.cols,.slice sa sn sk,.int .i64 b.2.rows,.int .i64 b.2.cols,.slice ta tn tk] 30 (by simp)).u_ (o_ _ _))
 have HX2:Hid (Box V (w.heap.size+1+1) [.slice none 0 0,.slice none 0 0,.int .i64 0]):=by rw[hV];exact h_ (Box.new _ [.slice none 0 0,.slice none 0 0,.int .i64 0] 35 (by simp))
 have HF2:Hid (Free V (w.heap.size+1+1)):=by rw[hV];exact h_ (Free.new _ _ _ (by simp))
 have HC:=h_ (trone_any (.slice a N cap) (.slice a1 N1 cap1) ls ps n b parts le ke sa sn sk ta tn tk V (hv.u_ HWV.out) (hp.u_ HWV.out) (hs.u_ HWV.out) (ht.u_ HWV.out))
 obtain ⟨E,hE⟩:=gN (oneE ls ps n b parts le ke)
 obtain ⟨X,hX⟩:=gN (stepS ⟨ls,ps,n⟩ b parts le ke)
 obtain ⟨Kk,hKk⟩:=gN (stepK ⟨ls,ps,n⟩ b parts le ke)
 rw[hE,hX,hKk]at HC ⊢
 obtain ⟨d0,d1,d2⟩:=HX0.out.c3
 obtain ⟨g0,g1,g2,g3,g4,g5⟩:=HX1.out.c6
 have p0:=(hb0.u_ HWV.out) 0 _ rfl
 obtain ⟨r0,r1⟩:=(hb1.u_ HWV.out).c2
 rw[HV.out]at d0 d1 d2 g0 g1 g2 g3 g4 g5 p0 r0 r1
 clear hV hv hp hs ht hN hN1 hE hX hKk hb0 hb1
 go_enter Tryz.func33,Tryz.ntmps33
 go_wp2_with fail
 rw[<-HV.out]
 refine HC.out.mono ?_
 rintro e w1 ⟨hb1,u,t,rfl,ho1,ho2⟩
 obtain ⟨ua,uk,rfl,_,_⟩:=(show Y_ w1 u X.net from ho1.reads).shape
 obtain ⟨va,vk,rfl,_,_⟩:=(show D_ w1 t X.spd from ho2.reads).shape
 obtain ⟨un,eun⟩:=gN (X.net.length)
 obtain ⟨vn,evn⟩:=gN (X.spd.length)
 have HEU:=h_ (And.intro eun evn)
 rw[eun]at ho1 ⊢
 rw[evn]at ho2 ⊢
 obtain ⟨nn,enn⟩:=gN (X.n)
 have HNN:=h_ enn
 rw[enn]
 have hlt:w.heap.size+1+1<V.heap.size:=HX2.out.lt
 have hle:w.heap.size<=V.heap.size:=by omega
 have HOU:=h_ (show Owns 0 w.heap.size (((w1.setCell ⟨w.heap.size+1+1,0,none⟩ (.slice ua un uk)).setCell ⟨w.heap.size+1+1,1,none⟩ (.slice va vn vk)).setCell ⟨w.heap.size+1+1,2,none⟩ (.int .i64 nn)) 58 7 (.slice ua un uk) un (X.net.flatMap lyS) from Owns.weaken (((ho1.set (Nat.zero_le _) hlt 0 _).set (Nat.zero_le _) hlt 1 _).set (Nat.zero_le _) hlt 2 _) hle (Nat.le_refl _))
 have HOT:=h_ (show Owns 0 w.heap.size (((w1.setCell ⟨w.heap.size+1+1,0,none⟩ (.slice ua un uk)).setCell ⟨w.heap.size+1+1,1,none⟩ (.slice va vn vk)).setCell ⟨w.heap.size+1+1,2,none⟩ (.int .i64 nn)) 61 6 (.slice va vn vk) vn (X.spd.flatMap gdS) from Owns.weaken (((ho2.set (Nat.zero_le _) hlt 0 _).set (Nat.zero_le _) hlt 1 _).set (Nat.zero_le _) hlt 2 _) hle (Nat.le_refl _))
 have HBE:=h_ (show Below w.heap.size w (((w1.setCell ⟨w.heap.size+1+1,0,none⟩ (.slice ua un uk)).setCell ⟨w.heap.size+1+1,1,none⟩ (.slice va vn vk)).setCell ⟨w.heap.size+1+1,2,none⟩ (.int .i64 nn)) from S_ (b_ HWV.out hb1) (by omega) _ _ _)
 have HB1:=h_ hb1
 obtain ⟨t0,t1,t2⟩:=(HX2.out.u_ HB1.out).c3
 obtain ⟨f0,f1,f2⟩:=(HF2.out.u_ HB1.out HX2.out.lt).f3
 clear hb1 ho1 ho2 eun evn enn hlt hle
 go_wp2
 exact bodyPost_ret (v:=.tuple #[.agg #[.slice ua un uk,.slice va vn vk,.int .i64 nn],.int .i64 Kk,errV E]) (by simp[results,Tryz.results33,go_sem,t0,t1,t2]) rfl ⟨HBE.out,_,_,by rw[HNN.out],by rw[HEU.out.1];exact HOU.out,by rw[HEU.out.2];exact HOT.out⟩
set_option maxHeartbeats 8000000 in
set_option maxRecDepth 100000 in
theorem trall_any(v v1 vl:Value)(ls:List Ly)(ps:List (Mx×Mx))(n:Int)(bs:List (Mx×Mx))(parts le ke:Int)(w:World)(hv:Y_ w v ls)(hp:D_ w v1 ps)(hl:IsBts w vl bs):
  Calls Tryz.prog 12 #[.agg #[v,v1,.int .i64 n],vl,.int .i64 parts,.agg #[.int .i64 le,.int .i64 ke]] w fun e w'=>Below w.heap.size w w'/\
   ∃u t o,e=.returned (.tuple #[.agg #[u,t,.int .i64 (allS ⟨ls,ps,n⟩ bs parts le ke).n],o,errV (allE ⟨ls,ps,n⟩ bs parts le ke)])/\Y_ w' u (allS ⟨ls,ps,n⟩ bs parts le ke).net/\D_ w' t (allS ⟨ls,ps,n⟩ bs parts le ke).spd/\I_ w' o (allK ⟨ls,ps,n⟩ bs parts le ke):=by
 obtain ⟨a,cap,rfl,_,_⟩:=hv.shape
 obtain ⟨a1,cap1,rfl,_,_⟩:=hp.shape
 obtain ⟨la,lk,rfl,_,_⟩:=(show D_ w vl bs from hl).shape
 obtain ⟨N,hN⟩:=gN (ls.length)
 obtain ⟨N1,hN1⟩:=gN (ps.length)
 obtain ⟨M,hM⟩:=gN (bs.length)
 rw[hN]at hv ⊢
 rw[hN1]at hp ⊢
 replace hl:IsBts w (.slice la bs.length lk) bs:=hl
 rw[hM]at hl ⊢
 obtain ⟨V,hV⟩:=gM (((((w.alloc (.cells #[.slice a N cap,.slice a1 N1 cap1,.int .i64 n] 35)).alloc (.cells #[.int .i64 parts] 3)).alloc (.cells #[.int .i64 le,.int .i64 ke] 32)).alloc (.cells #[.slice none 0 0,.slice none 0 0,.int .i64 0] 35)))
 have HV:=h_ hV
 have HWV:Hid (Below w.heap.size w V):=by rw[hV];exact h_ (a_ (a_ (a_ (o_ _ _))))
 have HX0:Hid (Box V w.heap.size [.slice a N cap,.slice a1 N1 cap1,.int .i64 n]):=by rw[hV];exact h_ ((Box.new w [.slice a N cap,.slice a1 N1 cap1,.int .i64 n] 35 rfl).u_ (a_ (a_ (o_ _ _))))
 have HX1:Hid (Box V (w.heap.size+1) [.int .i64 parts]):=by rw[hV];exact h_ ((Box.new _ [.int .i64 parts] 3 (by simp)).u_ (a_ (o_ _ _)))
 have HX2:Hid (Box V (w.heap.size+1+1) [.int .i64 le,.int .i64 ke]):=by rw[hV];exact h_ ((Box.new _ [.int .i64 le,.int .i64 ke] 32 (by simp)).u_ (o_ _ _))
 have HX3:Hid (Box V (w.heap.size+1+1+1) [.slice none 0 0,.slice none 0 0,.int .i64 0]):=by rw[hV];exact h_ (Box.new _ [.slice none 0 0,.slice none 0 0,.int .i64 0] 35 (by simp))
 have HF3:Hid (Free V (w.heap.size+1+1+1)):=by rw[hV];exact h_ (Free.new _ _ _ (by simp))
 have HC:=h_ (trallby_any 33 #[.pointer (some ⟨w.heap.size+1,0,none⟩),.pointer (some ⟨w.heap.size+1+1,0,none⟩)] (enters_of Tryz.func33 (by kernel_rfl) rfl) (.slice a N cap) (.slice a1 N1 cap1) (.slice la M lk) ls ps n bs parts le ke V (fun W v v1 ls ps n b sa sn sk ta tn tk hW h1 h2 h3 h4=>trfn_any v v1 ls ps n b parts le ke sa sn sk ta tn tk _ _ W (HX1.out.u_ hW) (HX2.out.u_ hW) h1 h2 h3 h4) (hv.u_ HWV.out) (hp.u_ HWV.out) (show IsBts V _ bs from Reads.u_ (show Reads w (.slice la M lk) bs.length _ from hl) HWV.out))
 obtain ⟨E,hE⟩:=gN (allE ⟨ls,ps,n⟩ bs parts le ke)
 obtain ⟨X,hX⟩:=gN (allS ⟨ls,ps,n⟩ bs parts le ke)
 obtain ⟨Kk,hKk⟩:=gN (allK ⟨ls,ps,n⟩ bs parts le ke)
 rw[hE,hX,hKk]at HC ⊢
 obtain ⟨d0,d1,d2⟩:=HX0.out.c3
 rw[HV.out]at d0 d1 d2
 clear hV hv hp hl hN hN1 hM hE hX hKk
 go_enter Tryz.func12,Tryz.ntmps12
 go_wp2_with fail
 rw[<-HV.out]
 refine HC.out.mono ?_
 rintro e w1 ⟨hb1,u,t,o,rfl,ho1,ho2,ho3⟩
 obtain ⟨ua,uk,rfl,_,_⟩:=(show Y_ w1 u X.net from ho1.now).shape
 obtain ⟨va,vk,rfl,_,_⟩:=(show D_ w1 t X.spd from ho2.now).shape
 obtain ⟨oa,on,ok,rfl⟩:∃oa on ok,o=.slice oa on ok:=by obtain ⟨x,y,h,_⟩:=ho3.now;exact ⟨x,_,y,h⟩
 obtain ⟨un,eun⟩:=gN (X.net.length)
 obtain ⟨vn,evn⟩:=gN (X.spd.length)
 rw[eun]at ho1 ⊢
 rw[evn]at ho2 ⊢
 obtain ⟨nn,enn⟩:=gN (X.n)
 rw[enn]
 have HNN:=h_ enn
 clear eun evn enn
 have HB1:=h_ hb1
 obtain ⟨t0,t1,t2⟩:=(HX3.out.u_ HB1.out).c3
 obtain ⟨f0,f1,f2⟩:=(HF3.out.u_ HB1.out HX3.out.lt).f3
 have hlt:w.heap.size+1+1+1<V.heap.size:=HX3.out.lt
 have HR1:=h_ (((ho1.set hlt 0 (.slice ua un uk)).set hlt 1 (.slice va vn vk)).set hlt 2 (.int .i64 nn)).now
 have HR2:=h_ (((ho2.set hlt 0 (.slice ua un uk)).set hlt 1 (.slice va vn vk)).set hlt 2 (.int .i64 nn)).now
 have HR3:=h_ (((ho3.set hlt 0 (.slice ua un uk)).set hlt 1 (.slice va vn vk)).set hlt 2 (.int .i64 nn)).now
 clear hb1 ho1 ho2 ho3 hlt
 go_wp2
 exact bodyPost_ret (v:=.tuple #[.agg #[.slice ua un uk,.slice va vn vk,.int .i64 nn],.slice oa on ok,errV E]) (by simp[results,Tryz.results12,go_sem,t0,t1,t2]) rfl ⟨S_ (b_ HWV.out HB1.out) (by omega) _ _ _,_,_,_,by rw[HNN.out],HR1.out,HR2.out,HR3.out⟩
end Go.Proofs.YtniloklglpchfaeGreatDoor
