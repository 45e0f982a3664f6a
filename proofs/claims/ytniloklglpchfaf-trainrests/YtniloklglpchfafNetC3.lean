/- What Zero of package net comes to: noughts for each layer. Condition: the room that any slice that comes in may have. -/
import Derived.Test.YtniloklglpchfafPkTrC3
import Derived.Test.YtniloklglpchfafPkReg
namespace Go.Proofs.Ytniloklglpchfaf
open Go.RowKit
theorem run_mkI(n:Nat)(hn:n≤17592186043904)(W:World):(Instr.makeSlice 26 (.int .i64 (n:Int)) (.int .i64 (n:Int))).run Try.prog W=.ok (.slice (some ⟨W.heap.size,0,none⟩) n n) (W.alloc (.cells (zeros n) 3)):=by
 obtain ⟨i0,hi,hz0,hz1,hz2⟩:=info_parts infoInt
 have hr:=run_make (P:=Try.prog) W 26 3 i0 (.int .i64 0) Try.underlying26 hi hz0 .i64 .i64 (n:Int) (n:Int) (by omega) (Int.le_refl _) (by rw[hz2];omega) (by omega)
 simpa [zeros,hz1,Value.cells] using hr
set_option maxHeartbeats 2000000 in
set_option maxRecDepth 100000 in
theorem zeros_any(v:Value)(m:Mx)(w:World)(hv:M_ w v m)(hn:m.cells.length≤17592186043904):Calls Try.prog 31 #[v] w fun e w'=>∃s,e=.returned (.agg #[.int .i64 m.rows,.int .i64 m.cols,s])∧I_ w' s (zeroM m).cells∧Below w.heap.size w w'∧F_ w.heap.size (.agg #[.int .i64 m.rows,.int .i64 m.cols,s]):=by
 obtain ⟨s,rfl,hs⟩:=hv
 obtain ⟨za,zk,rfl,_,_,_⟩:=id hs
 obtain ⟨n,hnn⟩:=gN (m.cells.length)
 rw[hnn]at hn ⊢
 have HNN:=h_ hnn
 have hmk:=run_mkI n hn
 obtain ⟨r,er⟩:=gN (m.rows)
 obtain ⟨c,ec⟩:=gN (m.cols)
 rw[er,ec]
 have HR:=h_ (And.intro er ec)
 have HSB:Hid (∀W',Below (w.alloc (.cells #[.int .i64 r,.int .i64 c,.slice za n zk] 28)).heap.size (w.alloc (.cells #[.int .i64 r,.int .i64 c,.slice za n zk] 28)) W'→(fun W'=>W'.cell? ⟨w.heap.size,0,none⟩=some (.int .i64 r)∧W'.cell? ⟨w.heap.size,1,none⟩=some (.int .i64 c)∧W'.cell? ⟨w.heap.size,2,none⟩=some (.slice za n zk)) W'):=h_ (fun W' h=>have hx:=(Box.new w [.int .i64 r,.int .i64 c,.slice za n zk] 28 rfl).u_ h;⟨hx 0 _ rfl,hx 1 _ rfl,hx 2 _ rfl⟩)
 clear hs hnn er ec
 go_enter Try.func31,Try.ntmps31
 go_wp2
 go_region_held3 (fun W'=>W'.cell? ⟨w.heap.size,0,none⟩=some (.int .i64 r)∧W'.cell? ⟨w.heap.size,1,none⟩=some (.int .i64 c)∧W'.cell? ⟨w.heap.size,2,none⟩=some (.slice za n zk)) ((refine HSB.out _ ?_;repeat' (first|with_reducible exact Below.refl _ _|with_reducible refine d_ ?_|with_reducible refine a_ ?_|with_reducible refine t_ ?_ ?_|exact Nat.le_refl _|exact Nat.le_succ _))) (fail)
 all_goals go_wp2
 have HM:=h_ (show I_ (((w.alloc (.cells #[.int .i64 r,.int .i64 c,.slice za n zk] 28)).alloc (.cells #[.int .i64 r,.int .i64 c,.slice (some ⟨w.heap.size+1+1,0,none⟩) n n] 28)).alloc (.cells (zeros n) 3)).drew (.slice (some ⟨w.heap.size+1+1,0,none⟩) n n) (zeroM m).cells by
  have h:=RowAt.isTab (e:=3) (RowAt.drew (zeros_row ((w.alloc (.cells #[.int .i64 r,.int .i64 c,.slice za n zk] 28)).alloc (.cells #[.int .i64 r,.int .i64 c,.slice (some ⟨w.heap.size+1+1,0,none⟩) n n] 28)) n)) (by unfold maxLen;omega)
  rw[World.size_alloc,World.size_alloc]at h
  unfold zeroM
  rw[HNN.out];exact h)
 exact bodyPost_ret (v:=.agg #[.int .i64 r,.int .i64 c,.slice (some ⟨w.heap.size+1+1,0,none⟩) n n]) (by simp[results,Try.results31,go_sem]) rfl ⟨_,rfl,HM.out,d_ (a_ (a_ (a_ (Below.refl _ _)))),fresh_at (by omega) _ _ _⟩
theorem zeroD_snoc(ls:List Ly)(l:Ly):zeroD ls++[(zeroM l.w,zeroM l.b)]=zeroD (ls++[l]):=by unfold zeroD;simp
set_option maxHeartbeats 8000000 in
set_option maxRecDepth 100000 in
theorem netzero_owns(v:Value)(ls:List Ly)(w:World)(hv:Y_ w v ls)(hle:ls.length≤1599289640355)(hz:∀l∈ls,l.w.cells.length≤17592186043904∧l.b.cells.length≤17592186043904):
  Calls Try.prog 17 #[v] w fun e w'=>∃u,e=.returned u∧Owns 0 w.heap.size w' 79 6 u (zeroD ls).length ((zeroD ls).flatMap gdS)∧Below w.heap.size w w':=by
 obtain ⟨a,cap,rfl,hlc,hcm⟩:=hv.shape
 have HV:=h_ hv
 have HZ:=h_ hz
 obtain ⟨N,hN⟩:=gN (ls.length)
 have HN:=h_ hN
 rw[hN]at HV hle ⊢
 have hmk:=run_mkL 79 23 6 80 _ Try.underlying23 infoGd (N:Int) N rfl (by omega) (by omega)
 have HO0:=h_ (show Owns 0 w.heap.size (w.alloc (.cells (rawCells (.agg #[.int .i64 0,.int .i64 0,.slice none 0 0,.int .i64 0,.int .i64 0,.slice none 0 0]) (N*6)) 79)) 79 6 (.slice (some ⟨w.heap.size,0,none⟩) 0 N) 0 [] from
  Owns.room _ (Nat.le_refl _) (by unfold maxLen;omega) (rawCells_size _ _))
 have HLE:=h_ hle
 obtain ⟨e0,ei,hz0,hz1,hz2⟩:=info_parts infoGd
 have HEI:=h_ (And.intro ei (And.intro hz0 (And.intro hz1 hz2)))
 have hN63:(N:Int)≤1599289640355:=by omega
 clear hv hz hN hlc hcm hle ei hz0 hz1 hz2
 go_enter Try.func17,Try.ntmps17
 go_wp2
 clear hmk
 go_loopw [3,11] (fun o a wr=>∃(i:Nat) (xi:Int),i≤N∧xi=(i:Int)∧a=.int .i64 xi∧Owns 0 w.heap.size wr 79 6 o i ((zeroD (ls.take i)).flatMap gdS)∧Below w.heap.size w wr) (fun _ a _=>N - (intOf a).toNat)
 case atStart=>exact ⟨0,0,Nat.zero_le _,rfl,rfl,by simpa [zeroD] using HO0.out,o_ _ _⟩
 case round=>
  obtain ⟨i,xi,hi,hxi,rfl,how,hb⟩:=hrel
  have HXI:=h_ hxi
  have HO:=h_ how
  have HB:=h_ hb
  have hxi0:0≤xi:=by omega
  have hxi1:xi≤1599289640355:=by omega
  clear hxi how hb HO0
  by_cases hlt:xi<(N:Int)
  ·have hin:i<N:=by have:=HXI.out;omega
   have hxn:xi.toNat=i:=by have:=HXI.out;omega
   obtain ⟨l,hl⟩:∃l,ls[i]?=some l:=⟨ls[i]'(by have:=HN.out;omega),List.getElem?_eq_getElem _⟩
   obtain ⟨b,off,cp,sa,sn,sk,ta,tn,tk,ev,k0,k1,k2,k3,k4,k5,k6,hly⟩:=HV.out.at hl
   injection ev with ev1 ev2 ev3
   clear ev2 ev3
   subst ev1
   rw[←hxn]at k0 k1 k2 k3 k4 k5 k6
   replace k0:=c_ HB.out k0
   replace k1:=c_ HB.out k1
   replace k2:=c_ HB.out k2
   replace k3:=c_ HB.out k3
   replace k4:=c_ HB.out k4
   replace k5:=c_ HB.out k5
   replace k6:=c_ HB.out k6
   obtain ⟨i1,i2⟩:=Y_.ints hly
   obtain ⟨z1,z2⟩:=HZ.out l (List.mem_of_getElem? hl)
   have HLB:=h_ (show Box (wr.alloc (.cells #[.int .i64 l.k,.int .i64 l.w.rows,.int .i64 l.w.cols,.slice sa sn sk,.int .i64 l.b.rows,.int .i64 l.b.cols,.slice ta tn tk] 52)) wr.heap.size [.int .i64 l.k,.int .i64 l.w.rows,.int .i64 l.w.cols,.slice sa sn sk,.int .i64 l.b.rows,.int .i64 l.b.cols,.slice ta tn tk] from Box.new _ _ _ rfl)
   have HSB:Hid (∀W',Below (wr.alloc (.cells #[.int .i64 l.k,.int .i64 l.w.rows,.int .i64 l.w.cols,.slice sa sn sk,.int .i64 l.b.rows,.int .i64 l.b.cols,.slice ta tn tk] 52)).heap.size (wr.alloc (.cells #[.int .i64 l.k,.int .i64 l.w.rows,.int .i64 l.w.cols,.slice sa sn sk,.int .i64 l.b.rows,.int .i64 l.b.cols,.slice ta tn tk] 52)) W'→(fun W'=>W'.cell? ⟨wr.heap.size,1,none⟩=some (.int .i64 l.w.rows)∧W'.cell? ⟨wr.heap.size,2,none⟩=some (.int .i64 l.w.cols)∧W'.cell? ⟨wr.heap.size,3,none⟩=some (.slice sa sn sk)∧W'.cell? ⟨wr.heap.size,4,none⟩=some (.int .i64 l.b.rows)∧W'.cell? ⟨wr.heap.size,5,none⟩=some (.int .i64 l.b.cols)∧W'.cell? ⟨wr.heap.size,6,none⟩=some (.slice ta tn tk)) W'):=h_ (fun W' h=>have hx:=HLB.out.u_ h;⟨hx 1 _ rfl,hx 2 _ rfl,hx 3 _ rfl,hx 4 _ rfl,hx 5 _ rfl,hx 6 _ rfl⟩)
   have HZ1:=h_ (zeros_any (.agg #[.int .i64 l.w.rows,.int .i64 l.w.cols,.slice sa sn sk]) l.w (wr.alloc (.cells #[.int .i64 l.k,.int .i64 l.w.rows,.int .i64 l.w.cols,.slice sa sn sk,.int .i64 l.b.rows,.int .i64 l.b.cols,.slice ta tn tk] 52)).drew ⟨_,rfl,i1.u_ (d_ (a_ HB.out))⟩ z1)
   have HZ2:=h_ (fun W (h:Below (wr.alloc (.cells #[.int .i64 l.k,.int .i64 l.w.rows,.int .i64 l.w.cols,.slice sa sn sk,.int .i64 l.b.rows,.int .i64 l.b.cols,.slice ta tn tk] 52)).heap.size (wr.alloc (.cells #[.int .i64 l.k,.int .i64 l.w.rows,.int .i64 l.w.cols,.slice sa sn sk,.int .i64 l.b.rows,.int .i64 l.b.cols,.slice ta tn tk] 52)) W)=>zeros_any (.agg #[.int .i64 l.b.rows,.int .i64 l.b.cols,.slice ta tn tk]) l.b W ⟨_,rfl,i2.u_ (b_ (a_ HB.out) h)⟩ z2)
   have HGL:=h_ (show ∀b,(fun b=>u3.ownBlock=some b∨(0≤b∧b<w.heap.size)) b→b<(wr.alloc (.cells #[.int .i64 l.k,.int .i64 l.w.rows,.int .i64 l.w.cols,.slice sa sn sk,.int .i64 l.b.rows,.int .i64 l.b.cols,.slice ta tn tk] 52)).drew.heap.size from fun b hb=>by
    have h1:=szd1 wr (.cells #[.int .i64 l.k,.int .i64 l.w.rows,.int .i64 l.w.cols,.slice sa sn sk,.int .i64 l.b.rows,.int .i64 l.b.cols,.slice ta tn tk] 52)
    rcases hb with hb|hb
    ·have:=(HO.out.lt b hb).2;omega
    ·have:=HB.out.size;omega)
   have HNE:=h_ (show some wr.heap.size≠u3.ownBlock from fun e=>by have:=(HO.out.lt _ e.symm).2;omega)
   have HM1:=h_ (show i+1≤maxLen by unfold maxLen;have:=HLE.out;omega)
   have HM2:=h_ (show (i+1)*80≤140737488355328 by have:=HLE.out;omega)
   have HTK:=h_ (show (zeroD (ls.take i))++[(zeroM l.w,zeroM l.b)]=zeroD (ls.take (i+1)) by rw[zeroD_snoc,take_end hl])
   clear hly i1 i2 z1 z2 hl hxn
   go_wp2
   obtain ⟨lm1,lm2,lm3,lm4,lm5,lm6⟩:=HSB.out (wr.alloc (.cells #[.int .i64 l.k,.int .i64 l.w.rows,.int .i64 l.w.cols,.slice sa sn sk,.int .i64 l.b.rows,.int .i64 l.b.cols,.slice ta tn tk] 52)) (Below.refl _ _)
   go_region_held3 (fun W'=>W'.cell? ⟨wr.heap.size,1,none⟩=some (.int .i64 l.w.rows)∧W'.cell? ⟨wr.heap.size,2,none⟩=some (.int .i64 l.w.cols)∧W'.cell? ⟨wr.heap.size,3,none⟩=some (.slice sa sn sk)∧W'.cell? ⟨wr.heap.size,4,none⟩=some (.int .i64 l.b.rows)∧W'.cell? ⟨wr.heap.size,5,none⟩=some (.int .i64 l.b.cols)∧W'.cell? ⟨wr.heap.size,6,none⟩=some (.slice ta tn tk)) (first|exact HSW.out|(refine HSB.out _ ?_;repeat' (first|with_reducible exact Below.refl _ _|with_reducible exact HB2.out|with_reducible exact HB1.out|with_reducible refine d_ ?_|with_reducible refine a_ ?_|exact Nat.le_refl _|exact Nat.le_succ _)))
    (first
     |(go_at_call 31;guard_target=Calls _ _ _ (World.drew (World.alloc wr _)) _;refine HZ1.out.mono ?_;rintro e w1 ⟨s1,rfl,hs1,hb1,hf1⟩;obtain ⟨pa,pn,pk,rfl⟩:=hs1.shape;have HS1:=h_ hs1;have HB1:=h_ (show Below (wr.alloc (.cells #[.int .i64 l.k,.int .i64 l.w.rows,.int .i64 l.w.cols,.slice sa sn sk,.int .i64 l.b.rows,.int .i64 l.b.cols,.slice ta tn tk] 52)).heap.size (wr.alloc (.cells #[.int .i64 l.k,.int .i64 l.w.rows,.int .i64 l.w.cols,.slice sa sn sk,.int .i64 l.b.rows,.int .i64 l.b.cols,.slice ta tn tk] 52)) w1 from b_ (d_ (Below.refl _ _)) hb1);have HF1:=h_ hf1;have HZ3:=h_ (HZ2.out w1 HB1.out);clear hs1 hb1 hf1)
     |(go_at_call 31;refine HZ3.out.mono ?_;rintro e w2 ⟨s2,rfl,hs2,hb2,hf2⟩;obtain ⟨qa,qn,qk,rfl⟩:=hs2.shape;have HB2:=h_ (show Below (wr.alloc (.cells #[.int .i64 l.k,.int .i64 l.w.rows,.int .i64 l.w.cols,.slice sa sn sk,.int .i64 l.b.rows,.int .i64 l.b.cols,.slice ta tn tk] 52)).heap.size (wr.alloc (.cells #[.int .i64 l.k,.int .i64 l.w.rows,.int .i64 l.w.cols,.slice sa sn sk,.int .i64 l.b.rows,.int .i64 l.b.cols,.slice ta tn tk] 52)) w2 from b_ HB1.out hb2);have HBA:=h_ (show Below wr.heap.size wr (w2.alloc (.cells #[.int .i64 l.w.rows,.int .i64 l.w.cols,.slice pa pn pk,.int .i64 l.b.rows,.int .i64 l.b.cols,.slice qa qn qk] 79)) from a_ (b_ (o_ _ _) HB2.out));have HOA:=h_ (HO.out.u_ HBA.out);have HEN:=h_ (show Enc (w2.alloc (.cells #[.int .i64 l.w.rows,.int .i64 l.w.cols,.slice pa pn pk,.int .i64 l.b.rows,.int .i64 l.b.cols,.slice qa qn qk] 79)) (fun b=>u3.ownBlock=some b∨(0≤b∧b<w.heap.size)) (gdS (zeroM l.w,zeroM l.b)) [.int .i64 l.w.rows,.int .i64 l.w.cols,.slice pa pn pk,.int .i64 l.b.rows,.int .i64 l.b.cols,.slice qa qn qk] from enc_gd (d:=(zeroM l.w,zeroM l.b)) ((x_ HS1.out HF1.out (fun b hb=>HGL.out b hb)).u_ (a_ hb2)) ((x_ hs2 hf2 (fun b hb=>Nat.lt_of_lt_of_le (HGL.out b hb) HB1.out.size)).u_ (o_ _ _)));have HNB:=h_ (show Box (w2.alloc (.cells #[.int .i64 l.w.rows,.int .i64 l.w.cols,.slice pa pn pk,.int .i64 l.b.rows,.int .i64 l.b.cols,.slice qa qn qk] 79)) w2.heap.size [.int .i64 l.w.rows,.int .i64 l.w.cols,.slice pa pn pk,.int .i64 l.b.rows,.int .i64 l.b.cols,.slice qa qn qk] from Box.new _ _ _ rfl);have HBS:=h_ (show w.heap.size≤(w2.alloc (.cells #[.int .i64 l.w.rows,.int .i64 l.w.cols,.slice pa pn pk,.int .i64 l.b.rows,.int .i64 l.b.cols,.slice qa qn qk] 79)).heap.size from Nat.le_trans HB.out.size HBA.out.size);clear hs2 hb2 hf2)
     |((try rw[if_pos (by rfl)]);refine wp_append_owns _ _ 23 rfl w.heap.size 79 e0 (.agg #[.int .i64 0,.int .i64 0,.slice none 0 0,.int .i64 0,.int .i64 0,.slice none 0 0]) 6 80 Try.underlying23 HEI.out.1 HEI.out.2.1 HEI.out.2.2.1 HEI.out.2.2.2 rfl (by decide) 0 _ _ _ rfl HOA.out ⟨w2.heap.size,0,none⟩ 1 1 [.int .i64 l.w.rows,.int .i64 l.w.cols,.slice pa pn pk,.int .i64 l.b.rows,.int .i64 l.b.cols,.slice qa qn qk] rfl rfl (fun q u hq=>by rw[addr_add];exact HNB.out q u hq) (gdS (zeroM l.w,zeroM l.b)) HEN.out HM1.out HM2.out HBS.out ?_;intro v' w' hown' hgrow hwh;have HOW:=h_ hown';have HBW:=h_ (show Below w.heap.size w w' from (b_ HB.out HBA.out).grown hgrow HBS.out (fun k hk=>(HO.out.lt k hk).1));have HSW:=h_ (show (fun W'=>W'.cell? ⟨wr.heap.size,1,none⟩=some (.int .i64 l.w.rows)∧W'.cell? ⟨wr.heap.size,2,none⟩=some (.int .i64 l.w.cols)∧W'.cell? ⟨wr.heap.size,3,none⟩=some (.slice sa sn sk)∧W'.cell? ⟨wr.heap.size,4,none⟩=some (.int .i64 l.b.rows)∧W'.cell? ⟨wr.heap.size,5,none⟩=some (.int .i64 l.b.cols)∧W'.cell? ⟨wr.heap.size,6,none⟩=some (.slice ta tn tk)) w' from (fun hx:Box w' wr.heap.size [.int .i64 l.k,.int .i64 l.w.rows,.int .i64 l.w.cols,.slice sa sn sk,.int .i64 l.b.rows,.int .i64 l.b.cols,.slice ta tn tk]=>⟨hx 1 _ rfl,hx 2 _ rfl,hx 3 _ rfl,hx 4 _ rfl,hx 5 _ rfl,hx 6 _ rfl⟩) (fun j u hu=>hgrow.cell (((HLB.out.u_ HB2.out).u_ (o_ _ _)) j u hu) HNE.out));clear hown' hgrow hwh))
   all_goals go_wp2
   all_goals go_roundw
   case rel=>exact ⟨i+1,_,by omega,by have:=HXI.out;omega,rfl,by rw[←HTK.out,←flat_snoc];exact HOW.out,HBW.out⟩
   case measure=>have:=HXI.out;simp[intOf];omega
  ·have hin:i=N:=by have:=HXI.out;omega
   have HM:=h_ (show Owns 0 w.heap.size wr 79 6 u3 (zeroD ls).length ((zeroD ls).flatMap gdS) by
    have h:=HO.out
    rw[hin,←HN.out,List.take_length]at h
    rw[show (zeroD ls).length=ls.length by unfold zeroD;simp];exact h)
   clear hin
   go_wp2
   go_ret
   exact ⟨_,rfl,HM.out,HB.out⟩
theorem netzero_any(v:Value)(ls:List Ly)(w:World)(hv:Y_ w v ls)(hle:ls.length≤1599289640355)(hz:∀l∈ls,l.w.cells.length≤17592186043904∧l.b.cells.length≤17592186043904):
  Calls Try.prog 17 #[v] w fun e w'=>∃u,e=.returned u∧D_ w' u (zeroD ls)∧Below w.heap.size w w':=by
 refine (netzero_owns v ls w hv hle hz).mono ?_
 rintro e w1 ⟨u,h1,h2,h3⟩
 exact ⟨u,h1,h2.reads,h3⟩
end Go.Proofs.Ytniloklglpchfaf
