/- What untouched of package train comes to: a state as it is, in memory of its own, or what is wrong with it. -/
import Derived.Test.YtniloklglpchfaeGreatDoorPkNetLaw
import Derived.Test.YtniloklglpchfaeGreatDoorPkLAt
import Derived.Test.YtniloklglpchfaeGreatDoorTrC2
namespace Go.Proofs.YtniloklglpchfaeGreatDoor
open Go.RowKit
theorem good_room{m:Mx}(h:q_ m=0):m.cells.length<=17592186043904:=by
 obtain ⟨R,C,g⟩:=o__ h
 have h1:=Nat.mul_le_mul g.hR g.hC
 rw[g.l];omega
theorem stt_speed:∀{ls:List Ly} {ps:List (Mx×Mx)},ps.length=ls.length->sttE ls ps=0->∀p∈ps,q_ p.1=0/\q_ p.2=0
 |[],[],_,_,p,hp=>by cases hp
 |[],_::_,h,_,_,_=>by simp at h
 |_::_,[],h,_,_,_=>by simp at h
 |l0::ls,p0::ps,h,he,p,hp=>by
  have he':(if stt1E l0 p0≠0 then stt1E l0 p0 else sttE ls ps)=0:=he
  have h1:stt1E l0 p0=0:=by
   by_cases h0:stt1E l0 p0=0
   ·exact h0
   ·rw[if_pos h0]at he';exact he'
  rw[if_neg (by simp[h1])]at he'
  rcases List.mem_cons.1 hp with rfl|hp
  ·unfold stt1E at h1
   by_cases a0:l_ l0=0
   ·by_cases a1:q_ p.1=0
    ·by_cases a2:q_ p.2=0
     ·exact ⟨a1,a2⟩
     ·simp[a0,a1,a2]at h1
    ·simp[a0,a1]at h1
   ·simp[a0]at h1
  ·exact stt_speed (by simpa using h) he' p hp
def keepS (ls:List Ly) (ps:List (Mx×Mx)) (n:Int):St:=if stateE ls ps n=0 then ⟨ls,ps,n⟩ else noSt
set_option maxHeartbeats 8000000 in
set_option maxRecDepth 100000 in
theorem truntouched_any(v v1:Value)(ls:List Ly)(ps:List (Mx×Mx))(n:Int)(w:World)(hv:Y_ w v ls)(hp:D_ w v1 ps):
  Calls Tryz.prog 64 #[.agg #[v,v1,.int .i64 n]] w fun e w'=>Below w.heap.size w w'/\
   ∃u t,e=.returned (.tuple #[.agg #[u,t,.int .i64 (keepS ls ps n).n],.slice none 0 0,errV (stateE ls ps n)])/\
    Owns 0 w.heap.size w' 58 7 u (keepS ls ps n).net.length ((keepS ls ps n).net.flatMap lyS)/\Owns 0 w.heap.size w' 61 6 t (keepS ls ps n).spd.length ((keepS ls ps n).spd.flatMap gdS):=by
 obtain ⟨a,cap,rfl,_,_⟩:=hv.shape
 obtain ⟨a1,cap1,rfl,_,_⟩:=hp.shape
 obtain ⟨N,hN⟩:=gN (ls.length)
 obtain ⟨N1,hN1⟩:=gN (ps.length)
 have HN:=h_ (And.intro hN hN1)
 rw[hN]at hv ⊢
 rw[hN1]at hp ⊢
 have HVV:=h_ hv
 have HP:=h_ hp
 have HWV:Hid (Below w.heap.size w ((w.alloc (.cells #[.slice a N cap,.slice a1 N1 cap1,.int .i64 n] 35)).alloc (.cells #[.slice none 0 0,.slice none 0 0,.int .i64 0] 35))):=h_ (a_ (o_ _ _))
 have H1V:Hid (Below (w.alloc (.cells #[.slice a N cap,.slice a1 N1 cap1,.int .i64 n] 35)).heap.size (w.alloc (.cells #[.slice a N cap,.slice a1 N1 cap1,.int .i64 n] 35)) ((w.alloc (.cells #[.slice a N cap,.slice a1 N1 cap1,.int .i64 n] 35)).alloc (.cells #[.slice none 0 0,.slice none 0 0,.int .i64 0] 35))):=h_ (o_ _ _)
 have HLE:Hid ((w.alloc (.cells #[.slice a N cap,.slice a1 N1 cap1,.int .i64 n] 35)).heap.size<=w.heap.size+1):=h_ (by simp)
 have HX1:Hid (Box (w.alloc (.cells #[.slice a N cap,.slice a1 N1 cap1,.int .i64 n] 35)) w.heap.size [.slice a N cap,.slice a1 N1 cap1,.int .i64 n]):=h_ (Box.new w [.slice a N cap,.slice a1 N1 cap1,.int .i64 n] 35 rfl)
 have HXR:Hid (Box ((w.alloc (.cells #[.slice a N cap,.slice a1 N1 cap1,.int .i64 n] 35)).alloc (.cells #[.slice none 0 0,.slice none 0 0,.int .i64 0] 35)) (w.heap.size+1) [.slice none 0 0,.slice none 0 0,.int .i64 0]):=h_ (Box.new _ [.slice none 0 0,.slice none 0 0,.int .i64 0] 35 (by simp))
 have HFR:Hid (Free ((w.alloc (.cells #[.slice a N cap,.slice a1 N1 cap1,.int .i64 n] 35)).alloc (.cells #[.slice none 0 0,.slice none 0 0,.int .i64 0] 35)) (w.heap.size+1)):=h_ (Free.new _ _ _ (by simp))
 have HC:=h_ (trcheck_any (.slice a N cap) (.slice a1 N1 cap1) ls ps n ((w.alloc (.cells #[.slice a N cap,.slice a1 N1 cap1,.int .i64 n] 35)).alloc (.cells #[.slice none 0 0,.slice none 0 0,.int .i64 0] 35)) (hv.u_ HWV.out) (hp.u_ HWV.out))
 have HSB:Hid (∀W',Below (w.alloc (.cells #[.slice a N cap,.slice a1 N1 cap1,.int .i64 n] 35)).heap.size (w.alloc (.cells #[.slice a N cap,.slice a1 N1 cap1,.int .i64 n] 35)) W'->(fun W'=>W'.cell? ⟨w.heap.size,0,none⟩=some (.slice a N cap)/\W'.cell? ⟨w.heap.size,1,none⟩=some (.slice a1 N1 cap1)/\W'.cell? ⟨w.heap.size,2,none⟩=some (.int .i64 n)) W'):=h_ (fun W' h=>have hx:=HX1.out.u_ h;⟨hx 0 _ rfl,hx 1 _ rfl,hx 2 _ rfl⟩)
 obtain ⟨E,hE⟩:=gN (stateE ls ps n)
 have HE:=h_ hE
 obtain ⟨X,hX⟩:=gN (keepS ls ps n)
 have HX:=h_ (show (if E=0 then ⟨ls,ps,n⟩ else noSt)=X by rw[<-hE,<-hX];rfl)
 rw[hE]at HC ⊢
 rw[hX]
 clear hv hp hN hN1 hE hX
 go_enter Tryz.func64,Tryz.ntmps64
 go_wp2_with fail
 refine HC.out.mono ?_
 rintro e w0 ⟨rfl,hb0⟩
 have HB0:=h_ (show Below (w.alloc (.cells #[.slice a N cap,.slice a1 N1 cap1,.int .i64 n] 35)).heap.size (w.alloc (.cells #[.slice a N cap,.slice a1 N1 cap1,.int .i64 n] 35)) w0 from b_ H1V.out hb0)
 have HW0:=h_ (b_ HWV.out hb0)
 have HX2:=h_ (HXR.out.u_ hb0)
 have HF2:=h_ (HFR.out.u_ hb0 HXR.out.lt)
 clear hb0 HC
 by_cases k1:E=0
 case neg=>
  obtain rfl:X=noSt:=by rw[<-HX.out,if_neg k1]
  rw[n_ k1]
  have HKE:=h_ k1
  obtain ⟨t0,t1,t2⟩:=HX2.out.c3
  obtain ⟨f0,f1,f2⟩:=HF2.out.f3
  have HBE:=h_ (show Below w.heap.size w (((w0.setCell ⟨w.heap.size+1,0,none⟩ (.slice none 0 0)).setCell ⟨w.heap.size+1,1,none⟩ (.slice none 0 0)).setCell ⟨w.heap.size+1,2,none⟩ (.int .i64 0)) from S_ HW0.out (by omega) _ _ _)
  clear k1
  go_wp2
  exact bodyPost_ret (v:=.tuple #[.agg #[.slice none 0 0,.slice none 0 0,.int .i64 0],.slice none 0 0,.iface 33 (.int .i64 E)]) (by simp[results,Tryz.results64,go_sem,t0,t1,t2]) rfl ⟨HBE.out,_,_,by rw[n_ HKE.out];rfl,Owns.nil _ _ _ _ _,Owns.nil _ _ _ _ _⟩
 subst k1
 rw[e_ rfl]
 obtain rfl:X=⟨ls,ps,n⟩:=by rw[<-HX.out,if_pos rfl]
 obtain ⟨s1,s2,s3,s4,s5⟩:=state_good HE.out
 have HC1:=h_ (trcopynet_any (.slice a N cap) ls w0.drew (HVV.out.u_ (d_ HW0.out)) (by omega) (fun l hl=>⟨good_room (stt_good s2 s5 l hl).1,good_room (stt_good s2 s5 l hl).2⟩))
 have HC2:=h_ (fun W (h:Below w.heap.size w W)=>trcopygrads_any (.slice a1 N1 cap1) ps W (HP.out.u_ h) (by omega) (fun p hp=>⟨good_room (stt_speed s2 s5 p hp).1,good_room (stt_speed s2 s5 p hp).2⟩))
 have hn0:0<=n:=s3
 have hn1:n<=1000000000:=s4
 obtain ⟨lm0,lm1,lm2⟩:=HSB.out w0 HB0.out
 clear s1 s2 s3 s4 s5
 go_wp2
 go_region_held3 (fun W'=>W'.cell? ⟨w.heap.size,0,none⟩=some (.slice a N cap)/\W'.cell? ⟨w.heap.size,1,none⟩=some (.slice a1 N1 cap1)/\W'.cell? ⟨w.heap.size,2,none⟩=some (.int .i64 n)) ((refine HSB.out _ ?_;repeat' (first|with_reducible exact Below.refl _ _|with_reducible exact HB0.out|with_reducible exact HB2.out|with_reducible exact HB1.out|with_reducible refine d_ ?_|with_reducible refine a_ ?_|with_reducible refine t_ ?_ ?_|exact HLE.out)))
  (first
   |(go_at_call 34;refine HC1.out.mono ?_;rintro e w1 ⟨u,rfl,ho1,hb1⟩;obtain ⟨ua,uk,eu,_,_⟩:=(show Y_ w1 u ls from ho1.reads).shape;rw[HN.out.1]at eu;subst eu;have HO1:=h_ ho1;have HB1:=h_ (show Below (w.alloc (.cells #[.slice a N cap,.slice a1 N1 cap1,.int .i64 n] 35)).heap.size (w.alloc (.cells #[.slice a N cap,.slice a1 N1 cap1,.int .i64 n] 35)) w1 from b_ (d_ HB0.out) hb1);have HD1:=h_ (show Below w0.drew.heap.size w0.drew w1 from hb1);have HC3:=h_ (HC2.out w1 (b_ HW0.out (show Below w0.heap.size w0 w1 from b_ (d_ (Below.refl _ _)) hb1)));clear ho1 hb1)
   |(go_at_call 95;refine HC3.out.mono ?_;rintro e w2 ⟨t,rfl,ho2,hb2⟩;obtain ⟨va,vk,ev,_,_⟩:=(show D_ w2 t ps from ho2.reads).shape;rw[HN.out.2]at ev;subst ev;have HB2:=h_ (show Below (w.alloc (.cells #[.slice a N cap,.slice a1 N1 cap1,.int .i64 n] 35)).heap.size (w.alloc (.cells #[.slice a N cap,.slice a1 N1 cap1,.int .i64 n] 35)) w2 from b_ HB1.out hb2);have H02:=h_ (show Below w0.heap.size w0 w2 from b_ (b_ (d_ (Below.refl _ _)) HD1.out) hb2);have HP2:=h_ (HO1.out.u_ hb2);have HO2:=h_ ho2;have t0:=(HX2.out.u_ H02.out) 0 _ rfl;have t1:=(HX2.out.u_ H02.out) 1 _ rfl;have t2:=(HX2.out.u_ H02.out) 2 _ rfl;have f0:=(HF2.out.u_ H02.out HX2.out.lt) 0;have f1:=(HF2.out.u_ H02.out HX2.out.lt) 1;have f2:=(HF2.out.u_ H02.out HX2.out.lt) 2;clear ho2 hb2))
 all_goals go_wp2
 all_goals (
  have hlt0:w.heap.size+1<w0.heap.size:=HX2.out.lt
  have hlt1:w.heap.size+1<w1.heap.size:=Nat.lt_of_lt_of_le hlt0 (show w0.heap.size<=w1.heap.size from HD1.out.size)
  have HOU:=h_ (show Owns 0 w.heap.size (((w2.setCell ⟨w.heap.size+1,0,none⟩ (.slice ua N uk)).setCell ⟨w.heap.size+1,1,none⟩ (.slice va N1 vk)).setCell ⟨w.heap.size+1,2,none⟩ (.int .i64 n)) 58 7 (.slice ua N uk) ls.length (ls.flatMap lyS) from Owns.weaken (((HP2.out.set (Nat.zero_le _) hlt0 0 _).set (Nat.zero_le _) hlt0 1 _).set (Nat.zero_le _) hlt0 2 _) HW0.out.size (Nat.le_refl _))
  have HOT:=h_ (show Owns 0 w.heap.size (((w2.setCell ⟨w.heap.size+1,0,none⟩ (.slice ua N uk)).setCell ⟨w.heap.size+1,1,none⟩ (.slice va N1 vk)).setCell ⟨w.heap.size+1,2,none⟩ (.int .i64 n)) 61 6 (.slice va N1 vk) ps.length (ps.flatMap gdS) from Owns.weaken (((HO2.out.set (Nat.zero_le _) hlt1 0 _).set (Nat.zero_le _) hlt1 1 _).set (Nat.zero_le _) hlt1 2 _) (Nat.le_trans HW0.out.size (show w0.heap.size<=w1.heap.size from HD1.out.size)) (Nat.le_refl _))
  have HBE:=h_ (show Below w.heap.size w (((w2.setCell ⟨w.heap.size+1,0,none⟩ (.slice ua N uk)).setCell ⟨w.heap.size+1,1,none⟩ (.slice va N1 vk)).setCell ⟨w.heap.size+1,2,none⟩ (.int .i64 n)) from S_ (b_ HW0.out H02.out) (by omega) _ _ _)
  exact bodyPost_ret (v:=.tuple #[.agg #[.slice ua N uk,.slice va N1 vk,.int .i64 n],.slice none 0 0,.nilIface]) (by simp[results,Tryz.results64,go_sem,t0,t1,t2]) rfl ⟨HBE.out,_,_,rfl,HOU.out,HOT.out⟩)
end Go.Proofs.YtniloklglpchfaeGreatDoor
