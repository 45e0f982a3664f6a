/- What fits, leastLimit and the library's Search come to: the least limit within which so many stages are enough. -/
import Derived.Test.YtpniemnfdleiialGreatPkOwZ
import Derived.Deep.LoopGhost
namespace Go.Proofs.YtpniemnfdleiialGreat
open Go.RowKit
theorem fits_no{cs:List Int}{r k:Nat}{x L:Int}(h:cs[k]?=some x)(hx:L<x):¬fitsP cs r L:=fun e=>by
 have:=e.1 x (List.mem_of_getElem? h);omega
open Classical in
set_option maxHeartbeats 4000000 in
set_option maxRecDepth 100000 in
theorem fits_any(v:Value)(cs:List Int)(R:Nat)(r L:Int)(w:World)(hv:I_ w v cs)(hc:∀c∈cs,0≤c∧c≤1000000)(hl:cs.length≤12)(hr:r=(R:Int)):
  Calls Tryz.prog 71 #[v,.int .i64 r,.int .i64 L] w fun e w'=>e=.returned (.bool (decide (fitsP cs R L)))∧w'=w:=by
 obtain ⟨a,cap,rfl,h2,h3,h4⟩:=hv
 obtain ⟨n,hn⟩:=gN (cs.length)
 rw[hn]at h2 hl ⊢
 have HN:=h_ hn
 have H4:=h_ h4
 have HC:=h_ hc
 have HR:=h_ hr
 clear hn h4 hc hr
 go_enter Tryz.func71,Tryz.ntmps71
 go_wp2
 go_loop [7,8,13] (fun f s i=>∃(k F:Nat) (xf xs:Int),k≤n∧F≤k∧i=.int .i64 k∧f=.int .i64 xf∧xf=(F:Int)∧s=.int .i64 xs∧0≤xs∧xs≤1000000*k∧(∀j x,j<k→cs[j]?=some x→x≤L)∧gr L (cs.drop k) xs F=gr L cs 0 0) (fun _ _ i=>n - (intOf i).toNat)
 case atStart=>exact ⟨0,0,0,0,Nat.zero_le _,Nat.zero_le _,rfl,rfl,rfl,rfl,by omega,by omega,fun j x hj _=>by omega,rfl⟩
 case round=>
  obtain ⟨k,F,xf,xs,hk,hF,rfl,rfl,hxf,rfl,hs0,hs1,he,hg⟩:=hrel
  have HE:=h_ he
  have HG:=h_ hg
  have HF:=h_ hxf
  have hf0:0≤xf:=by omega
  have hf1:xf≤12:=by omega
  have hs2:xs≤12000000:=by omega
  have HS:=h_ hs1
  clear he hg hxf hs1
  by_cases hlt:k<n
  ·obtain ⟨x,hx⟩:=some_at (cs:=cs) (p:=k) (by have:=HN.out;omega)
   obtain ⟨b,off,rfl,hcl⟩:=H4.out.resolve_left (fun e=>by rw[e]at hx;simp at hx)
   have cx:=hcl k x hx
   have hx1:=HC.out x (List.mem_of_getElem? hx)
   have HX:=h_ hx
   have hlt':(k:Int)<(n:Int):=by omega
   obtain ⟨hx0,hx1⟩:=hx1
   clear hcl hx
   by_cases c1:L<x
   ·have HB:=h_ (fits_no (r:=R) HX.out c1)
    go_wp2
    go_ret
    exact ⟨ret_bool (by rw[eq_comm,decide_eq_false_iff_not];exact HB.out),rfl⟩
   ·have HU:=h_ (show ∀j y,j<k+1→cs[j]?=some y→y≤L by
     intro j y hj hy
     rcases Nat.lt_or_ge j k with h|h
     ·exact HE.out j y h hy
     ·have e:y=x:=Option.some.inj (by rw[←hy,show j=k by omega,HX.out])
      rw[e];omega)
    by_cases c2:xf=0
    ·have HG2:=h_ (show gr L (cs.drop (k+1)) x (F+1)=gr L cs 0 0 by
      rw[←HG.out,gr_drop HX.out,if_pos (.inl (by have:=HF.out;omega))])
     have n2:(xf==0)=true:=by simp[c2]
     clear c2
     go_wp2
     go_round
     case rel=>exact ⟨k+1,F+1,_,_,by omega,by omega,by go_num,rfl,by have:=HF.out;omega,rfl,hx0,by have:=HS.out;omega,HU.out,HG2.out⟩
     case measure=>simp[intOf];omega
    ·have n2:(xf==0)=false:=by simpa using c2
     have HC2:=h_ c2
     clear c2
     by_cases c3:L<xs+x
     ·have HG2:=h_ (show gr L (cs.drop (k+1)) x (F+1)=gr L cs 0 0 by
       rw[←HG.out,gr_drop HX.out,if_pos (.inr c3)])
      go_wp2
      go_round
      case rel=>exact ⟨k+1,F+1,_,_,by omega,by omega,by go_num,rfl,by have:=HF.out;omega,rfl,hx0,by have:=HS.out;omega,HU.out,HG2.out⟩
      case measure=>simp[intOf];omega
     ·have HG2:=h_ (show gr L (cs.drop (k+1)) (xs+x) F=gr L cs 0 0 by
       rw[←HG.out,gr_drop HX.out,if_neg (by have:=HF.out;have:=HC2.out;omega)])
      go_wp2
      go_round
      case rel=>exact ⟨k+1,F,_,_,by omega,by omega,by go_num,rfl,HF.out,rfl,by omega,by have:=HS.out;omega,HU.out,HG2.out⟩
      case measure=>simp[intOf];omega
  ·have hkn:k=cs.length:=by have:=HN.out;omega
   have HD:=h_ (show decide (xf≤r)=decide (fitsP cs R L) by
    rw[decide_eq_decide]
    have hg:=HG.out
    rw[hkn,gr_end]at hg
    unfold fitsP
    rw[←hg,HF.out,HR.out]
    exact ⟨fun h=>⟨fun c hc=>by
     obtain ⟨j,hj,hjc⟩:=List.getElem_of_mem hc
     exact HE.out j c (by omega) (by rw[List.getElem?_eq_getElem hj,hjc]),by omega⟩,fun h=>by have:=h.2;omega⟩)
   clear hkn
   go_wp2
   go_ret
   exact ⟨ret_bool HD.out,rfl⟩
open Classical in
theorem limit_clos(B C:Nat)(v:Value)(cs:List Int)(R:Nat)(r i:Int)(w:World)(hB:w.cell? ⟨B,0,none⟩=some v)(hC:w.cell? ⟨C,0,none⟩=some (.int .i64 r))(hv:I_ w v cs)(hc:∀c∈cs,0≤c∧c≤1000000)(hl:cs.length≤12)(hr:r=(R:Int)):
  Calls Tryz.prog 70 (#[.int .i64 i]++#[.pointer (some ⟨B,0,none⟩),.pointer (some ⟨C,0,none⟩)]) w fun e w'=>e=.returned (.bool (decide (fitsP cs R i)))∧w'=w:=by
 have HF:=h_ (fits_any v cs R r i w hv hc hl hr)
 obtain ⟨a,n,k,rfl⟩:=hv.shape
 obtain ⟨d,hd⟩:=gN (decide (fitsP cs R i))
 rw[hd]at HF ⊢
 clear hv hc hr hd
 go_enter Tryz.func70,Tryz.ntmps70
 go_wp2_with (go_at_call 71;refine HF.out.mono ?_;rintro e w' ⟨rfl,rfl⟩)
 go_ret
 exact ⟨rfl,rfl⟩
set_option maxHeartbeats 4000000 in
set_option maxRecDepth 1000000 in
theorem search_any(K:Nat)(cap:Array Value)(eg:∀args w,(callFunc K args).run Tryz.prog w=.ok (.enter K args) w)(N:Nat)(p:Nat→Bool)(w:World)(hN:N≤12000000)
  (hf:∀i:Nat,i<N→Calls Tryz.prog K (#[.int .i64 (i:Int)]++cap) w fun e w'=>e=.returned (.bool (p i))∧w'=w) (hm:∀a b,a≤b→b<N→p a=true→p b=true):
  Calls Tryz.prog 69 #[.int .i64 (N:Int),.func (.func K) #[] cap] w fun e w'=>∃m:Nat,e=.returned (.int .i64 (m:Int))∧w'=w∧m≤N∧(∀t,t<m→p t=false)∧(∀t,m≤t→t<N→p t=true):=by
 have HF:=h_ hf
 have M:=h_ hm
 clear hf hm
 go_enter Tryz.func69,Tryz.ntmps69
 go_wp2
 go_loopg [5,6] N (fun kx s5 s6 wr=>∃(lo hi:Nat),s5=.int .i64 lo∧s6=.int .i64 hi∧lo≤hi∧hi≤N∧hi - lo≤kx∧wr=w∧Hid ((∀t,t<lo→p t=false)∧(∀t,hi≤t→t<N→p t=true)))
 case atStart=>exact ⟨0,N,rfl,rfl,Nat.zero_le _,Nat.le_refl _,by omega,rfl,h_ ⟨fun t ht=>absurd ht (Nat.not_lt_zero _),fun t h1 h2=>by omega⟩⟩
 case round=>
  obtain ⟨lo,hi,rfl,rfl,hlh,hin,hg,rfl,I⟩:=hrel
  by_cases hlt:lo<hi
  ·have hc:=HF.out ((lo+hi) / 2) (by omega)
   rw[show (((lo+hi) / 2:Nat):Int)=((lo:Int)+(hi:Int)) / 2 by omega]at hc
   cases hp:p ((lo+hi) / 2)<;>rw[hp]at hc
   ·have HP:=h_ hp
    clear hp
    go_wp2_with (go_at_fn K;refine hc.mono ?_;rintro e w' ⟨rfl,rfl⟩)
    go_roundg (hi - ((lo+hi) / 2+1))
    case measure=>omega
    case rel=>
     have I2:=h_ (show (∀t,t<(lo+hi) / 2+1→p t=false)∧(∀t,hi≤t→t<N→p t=true) from ⟨fun t ht=>(by
      cases h:p t with
      |false=>rfl
      |true=>have:=M.out t ((lo+hi) / 2) (by omega) (by omega) h;rw[HP.out]at this;cases this),I.out.2⟩)
     exact ⟨(lo+hi) / 2+1,hi,by rw[show ((lo:Int)+(hi:Int)) / 2+1=(((lo+hi) / 2+1:Nat):Int) by omega],rfl,by omega,hin,Nat.le_refl _,rfl,I2⟩
   ·have HP:=h_ hp
    clear hp
    go_wp2_with (go_at_fn K;refine hc.mono ?_;rintro e w' ⟨rfl,rfl⟩)
    go_roundg ((lo+hi) / 2 - lo)
    case measure=>omega
    case rel=>
     have I2:=h_ (show (∀t,t<lo→p t=false)∧(∀t,(lo+hi) / 2≤t→t<N→p t=true) from ⟨I.out.1,fun t ht htn=>M.out ((lo+hi) / 2) t ht htn HP.out⟩)
     exact ⟨lo,(lo+hi) / 2,rfl,by rw[show ((lo:Int)+(hi:Int)) / 2=(((lo+hi) / 2:Nat):Int) by omega],by omega,by omega,Nat.le_refl _,rfl,I2⟩
  ·obtain rfl:hi=lo:=by omega
   go_wp2
   go_ret
   exact ⟨hi,rfl,rfl,hin,I.out.1,I.out.2⟩
theorem preS_whole{cs:List Int}{R:Nat}(h1:1≤R)(hn:1≤cs.length):Fw (preS cs) cs.length R 0 (preS cs cs.length):=
 ⟨[cs.length],by simpa using h1,⟨hn,rfl⟩,⟨by rw[preS_zero];omega,trivial⟩⟩
open Classical in
theorem least_of{cs:List Int}(hc:∀c∈cs,0≤c){R m N:Nat}(h1:1≤R)(hR:R≤cs.length)(hN:preS cs cs.length=(N:Int))(hm:m≤N)(hlo:∀t:Nat,t<m→decide (fitsP cs R (t:Int))=false)(hhi:∀t:Nat,m≤t→t<N→decide (fitsP cs R (t:Int))=true):Least (preS cs) cs.length R 0 0 (m:Int):=by
 have key:∀L,fitsP cs R L↔Fw (preS cs) cs.length R 0 L:=fun L=>by have:=fits_iff hc R 0 L (Nat.zero_le _);simpa using this
 have hfw:Fw (preS cs) cs.length R 0 (m:Int):=by
  rcases Nat.lt_or_ge m N with h|h
  ·exact (key _).1 (of_decide_eq_true (hhi m (Nat.le_refl _) h))
  ·obtain rfl:m=N:=by omega
   rw[←hN];exact preS_whole h1 (by omega)
 refine ⟨by omega,hfw.fx (preS_mono hc) (by omega),fun L h0 hL=>?_⟩
 rcases Int.lt_or_le L m with h|h
 ·have:=of_decide_eq_false (hlo L.toNat (by omega))
  rw[show ((L.toNat:Nat):Int)=L by omega]at this
  exact absurd ((key L).2 hL.fw) this
 ·exact h
open Classical in
set_option maxHeartbeats 4000000 in
set_option maxRecDepth 100000 in
theorem limit_any(v:Value)(cs:List Int)(R:Nat)(r:Int)(w:World)(hv:I_ w v cs)(hc:∀c∈cs,0≤c∧c≤1000000)(hl:cs.length≤12)(hr:r=(R:Int))(h1:1≤R)(hR:R≤cs.length):
  Calls Tryz.prog 34 #[v,.int .i64 r] w fun e w'=>∃m,e=.returned (.int .i64 m)∧Least (preS cs) cs.length R 0 0 m∧m≤12000000∧Below w.heap.size w w':=by
 obtain ⟨a,n,k,rfl⟩:=hv.shape
 have hc0:∀c∈cs,0≤c:=fun c h=>(hc c h).1
 obtain ⟨V,hV⟩:=gM ((w.alloc (.cells #[.slice a n k] 26)).alloc (.cells #[.int .i64 r] 3))
 have HBV:=h_ (show Below w.heap.size w V by rw[hV];exact bel_al (o_ _ _))
 have e1:V.cell? ⟨w.heap.size,0,none⟩=some (.slice a n k):=by rw[hV];exact p_ (by simp) _
 have e2:V.cell? ⟨w.heap.size+1,0,none⟩=some (.int .i64 r):=by rw[hV];simp
 obtain ⟨N,hN⟩:∃N:Nat,preS cs cs.length=(N:Int):=⟨(preS cs cs.length).toNat,by have:=preS_mono hc0 0 cs.length (Nat.zero_le _);rw[preS_zero]at this;omega⟩
 have hNb:N≤12000000:=by have:=preS_bound hc cs.length;omega
 have HS:=h_ (ctsum_any _ cs V (hv.u_ HBV.out) hc hl)
 rw[hN]at HS
 have mono:∀x y:Nat,x≤y→y<N→decide (fitsP cs R (x:Int))=true→decide (fitsP cs R (y:Int))=true:=fun x y hxy _ h=>by
  have key:∀L,fitsP cs R L↔Fw (preS cs) cs.length R 0 L:=fun L=>by have:=fits_iff hc0 R 0 L (Nat.zero_le _);simpa using this
  exact decide_eq_true ((key _).2 (((key _).1 (of_decide_eq_true h)).mono (by omega)))
 have HQ:=h_ (search_any 70 #[.pointer (some ⟨w.heap.size,0,none⟩),.pointer (some ⟨w.heap.size+1,0,none⟩)] (enters_of Tryz.func70 (by kernel_rfl) rfl) N (fun i=>decide (fitsP cs R (i:Int))) V hNb
  (fun i _=>limit_clos _ _ _ cs R r i V e1 e2 (hv.u_ HBV.out) hc hl hr) mono)
 have HL:=h_ (fun (m:Nat)=>least_of (m:=m) hc0 h1 hR hN)
 rw[hV]at e1
 have HV:=h_ hV
 have HNB:=h_ hNb
 clear hV hv hc hc0 hr hN hNb mono h1 hR e2
 go_enter Tryz.func34,Tryz.ntmps34
 go_wp2_with (first|(go_at_call 37;rw[←HV.out];refine HS.out.mono ?_;rintro e w' ⟨rfl,rfl⟩)|(go_at_call 69;refine HQ.out.mono ?_;rintro e w' ⟨m,rfl,rfl,q1,q2,q3⟩))
 refine bodyPost_ret (v:=.int .i64 (m:Int)) (by simp[results,Tryz.results34,go_sem]) rfl ⟨_,rfl,HL.out m q1 q2 q3,by have:=HNB.out;omega,HBV.out⟩
theorem elemCt:Tryz.prog.underlying 26=some (.slice (Tryz.prog.elem 26)):=by kernel_rfl
theorem sizeCt(w:World):(Go.sizeOf (Tryz.prog.elem 26)).run Tryz.prog w=.ok 1 w:=by kernel_rfl
theorem ct_part{w:World}{a:Option Addr}{cap:Nat}{zs:List Int}(h2:zs.length≤cap)(h3:cap≤maxLen)(h4:zs=[]∨∃b off,a=some ⟨b,off,none⟩∧∀i x,zs[i]?=some x→w.cell? ⟨b,off+i,none⟩=some (.int .i64 x))(l m:Nat)(hlm:l≤m)(hm:m≤zs.length):
  I_ w (.slice (if cap=l then a else a.map (·.add (l*1))) (m - l) (cap - l)) ((zs.drop l).take (m - l)):=by
 have hll:((zs.drop l).take (m - l)).length=m - l:=by simp;omega
 refine ⟨_,_,by rw[hll],by rw[hll];omega,by omega,?_⟩
 rcases Nat.eq_zero_or_pos (m - l) with hC|hC
 ·exact .inl (by apply List.eq_nil_of_length_eq_zero;omega)
 ·obtain ⟨b,off,rfl,hc⟩:=h4.resolve_left (fun e=>by rw[e]at hm;simp at hm;omega)
  refine .inr ⟨b,off+l,?_,fun j x hx=>?_⟩
  ·rw[if_neg (by omega)]
   show some (Addr.add _ _)=_
   rw[Addr.add_lit,Nat.mul_one]
  ·have hj:j<m - l:=by
    rcases Nat.lt_or_ge j (m - l) with h|h
    ·exact h
    ·rw[List.getElem?_eq_none (by omega)]at hx;cases hx
   rw[List.getElem?_take_of_lt hj,List.getElem?_drop]at hx
   rw[Nat.add_assoc]
   exact hc _ _ hx
theorem ct_lh{w:World}{a:Option Addr}{n cap:Nat}{zs:List Int}(h:I_ w (.slice a n cap) zs)(l m:Nat)(lo hi:Int)(hlo:lo=(l:Int))(hhi:hi=(m:Int))(hlm:l≤m)(hm:m≤zs.length):
  ∃a' n' c',(∀W,(Instr.slice 26 (.slice a n cap) (some (.int .i64 lo)) (some (.int .i64 hi)) none).run Tryz.prog W=.ok (.slice a' n' c') W)∧I_ w (.slice a' n' c') ((zs.drop l).take (m - l)):=by
 obtain ⟨a0,cap0,e,h2,h3,h4⟩:=h
 injection e with e1 e2 e3
 subst e1 e2 e3
 have q1:lo.toNat=l:=by omega
 have q2:hi.toNat=m:=by omega
 refine ⟨_,_,_,fun W=>?_,ct_part h2 h3 h4 l m hlm hm⟩
 rw[run_slice_lh (P:=Tryz.prog) (w:=W) 26 a zs.length cap elemCt .i64 .i64 lo hi (by omega) (by omega) (by omega),sizeCt,q1,q2]
 rfl
theorem ct_l{w:World}{a:Option Addr}{n cap:Nat}{zs:List Int}(h:I_ w (.slice a n cap) zs)(l:Nat)(lo:Int)(hlo:lo=(l:Int))(hm:l≤zs.length):
  ∃a' n' c',(∀W,(Instr.slice 26 (.slice a n cap) (some (.int .i64 lo)) none none).run Tryz.prog W=.ok (.slice a' n' c') W)∧I_ w (.slice a' n' c') (zs.drop l):=by
 obtain ⟨a0,cap0,e,h2,h3,h4⟩:=h
 injection e with e1 e2 e3
 subst e1 e2 e3
 have q1:lo.toNat=l:=by omega
 have hp:=ct_part h2 h3 h4 l zs.length hm (Nat.le_refl _)
 rw[List.take_of_length_le (by simp)]at hp
 refine ⟨_,_,_,fun W=>?_,hp⟩
 rw[run_slice_l (P:=Tryz.prog) (w:=W) 26 a zs.length cap elemCt .i64 lo (by omega) (by omega),sizeCt,q1]
 rfl
def ctI (t:List Nat):List Int:=t.map (fun (e:Nat)=>(e:Int))
theorem ctI_snoc(t:List Nat)(e:Nat):ctI (t++[e])=ctI t++[(e:Int)]:=by simp[ctI]
theorem ctI_len(t:List Nat):(ctI t).length=t.length:=by simp[ctI]
open Classical in
set_option maxHeartbeats 8000000 in
set_option maxRecDepth 100000 in
theorem within_any(v:Value)(cs:List Int)(R:Nat)(r L:Int)(w:World)(hv:I_ w v cs)(hc:∀c∈cs,0≤c∧c≤1000000)(hl:cs.length≤12)(hr:r=(R:Int))(hR:R≤6)(hx:Fx (preS cs) cs.length R 0 L):
  Calls Tryz.prog 35 #[v,.int .i64 r,.int .i64 L] w fun e w'=>∃s,e=.returned s∧∃t,I_ w' s (ctI t)∧First (preS cs) cs.length L R 0 t∧Below w.heap.size w w':=by
 obtain ⟨a,n0,k,rfl⟩:=hv.shape
 have hc0:∀c∈cs,0≤c:=fun c h=>(hc c h).1
 have hmk:=run_mk0 r R hr (by omega)
 have HR:=h_ (And.intro hr hR)
 have HC:=h_ hc
 have HC0:=h_ hc0
 have HV:=h_ hv
 have HX:=h_ hx
 obtain ⟨n,hn⟩:=gN (cs.length)
 have HN:=h_ (And.intro hn hl)
 rw[hn]at HX ⊢
 have HO0:=h_ (OwnZ.made w R (by omega))
 obtain ⟨e0,ei,hz0,hz1,hz2⟩:=info_parts infoInt
 have HEI:=h_ (And.intro ei (And.intro hz0 (And.intro hz1 hz2)))
 have hr0:0≤r:=by omega
 have hr6:r≤6:=by omega
 clear hv hc hl hr hR hx hc0 hn ei hz0 hz1 hz2
 go_enter Tryz.func35,Tryz.ntmps35
 go_wp2
 clear hmk
 go_loopw [7,8,9] (fun sv ev lv wr=>∃(q x:Nat) (xx xl:Int) (ts:List Nat),q≤R∧ts.length+q=R∧xl=(q:Int) - 1∧lv=.int .i64 xl∧xx=(x:Int)∧x≤n∧ev=.int .i64 xx∧OwnZ wr w.heap.size sv (ctI ts)∧Below w.heap.size w wr∧Fx (preS cs) n q x L∧(∀t,First (preS cs) n L q x t→First (preS cs) n L R 0 (ts++t))) (fun _ _ lv _=>(intOf lv+1).toNat)
 case atStart=>exact ⟨R,0,0,_,[],Nat.le_refl _,by simp,by have:=HR.out.1;omega,rfl,rfl,Nat.zero_le _,rfl,HO0.out,o_ _ _,HX.out,fun t ht=>ht⟩
 case round=>
  obtain ⟨q,x,xx,xl,ts,hq,hts,hxl,rfl,hxx,hxn,rfl,hro,hbw,hfx,hfi⟩:=hrel
  have HRO:=h_ hro
  have HBW:=h_ hbw
  have HFX:=h_ hfx
  have HFI:=h_ hfi
  have HXL:=h_ hxl
  have HXX:=h_ hxx
  have hb1:-1≤xl:=by omega
  have hb2:xl≤6:=by have:=HR.out.2;omega
  have hb3:0≤xx:=by omega
  have hb4:xx≤12:=by have:=HN.out;omega
  have HXN:=h_ hxn
  clear hro hbw hfx hfi hxl hxx hxn
  by_cases hlt:0≤xl
  ·obtain ⟨p,rfl⟩:∃p,q=p+1:=⟨q - 1,by have:=HXL.out;omega⟩
   obtain ⟨f,hf1,hf2,hf3⟩:=fx_succ.1 HFX.out
   have HF:=h_ (And.intro hf1 (And.intro hf3.fw hf3.room))
   clear hf1 hf2 hf3
   obtain ⟨sa,sk,hse⟩:=HRO.out.shape
   subst hse
   go_wp2
   go_loopw [8] (fun ev w2=>∃(y:Nat) (xy:Int),x<y∧y≤n∧xy=(y:Int)∧ev=.int .i64 xy∧w2=wr∧∀z,x<z→z<y→¬Fw (preS cs) n p z L) (fun ev _=>n - (intOf ev).toNat)
   case atStart=>exact ⟨x+1,_,by omega,by have:=HF.out;omega,by have:=HXX.out;omega,rfl,rfl,fun z h1 h2=>by omega⟩
   case round=>
    obtain ⟨y,xy,hy1,hy2,hxy,rfl,rfl,hno⟩:=hrel
    have HNO:=h_ hno
    have HXY:=h_ hxy
    have hb5:0≤xy:=by omega
    have hb6:xy≤12:=by have:=HN.out;omega
    obtain ⟨pa,pn,pk,hsl,hpi⟩:=ct_l (HV.out.u_ HBW.out) y xy hxy (by have:=HN.out;omega)
    have HFT:=h_ (fits_any _ (cs.drop y) p xl L wr hpi (fun c h=>HC.out c (List.mem_of_mem_drop h)) (by have:=HN.out;simp;omega) (by have:=HXL.out;omega))
    have HIF:=h_ (fits_iff HC0.out p y L (by have:=HN.out;omega))
    rw[HN.out.1]at HIF
    clear hno hxy hpi
    by_cases hfit:fitsP (cs.drop y) p L
    ·have HFW:=h_ (HIF.out.1 hfit)
     rw[decide_eq_true hfit]at HFT
     clear hfit
     obtain ⟨hs1,hs2⟩:=first_step (preS_mono HC0.out) HFX.out HFW.out HNO.out
     have HNX:=h_ hs2
     have HFN:=h_ (show ∀t,First (preS cs) n L p y t→First (preS cs) n L R 0 (ts++[y]++t) from fun t ht=>by
      rw[List.append_assoc]
      exact HFI.out _ ⟨y,t,rfl,by omega,HFW.out,HNO.out,ht⟩)
     have HBS:=h_ HBW.out.size
     have HTL:=h_ (show (ctI ts).length≤6 by rw[ctI_len];have:=HR.out.2;omega)
     clear hs1 hs2
     go_wp2_with (first|(go_at_call 71;refine HFT.out.mono ?_;rintro e w' ⟨rfl,rfl⟩)|(at_builtin;refine wpList_append_own _ rfl _ _ 26 rfl w.heap.size 3 e0 (.int .i64 0) 1 8 Tryz.underlying26 HEI.out.1 HEI.out.2.1 HEI.out.2.2.1 HEI.out.2.2.2 rfl (by decide) _ _ _ rfl (HRO.out.alloc _) ⟨w'.heap.size,0,none⟩ 1 1 [.int .i64 xy] rfl rfl (one_cells _ _) (one_one _) ?c3 ?c4 ?c5 ?_))
     case c3=>unfold maxLen;have:=HTL.out;omega
     case c4=>have:=HTL.out;omega
     case c5=>have:=HBS.out;simp;omega
     intro v' w' hown' hgrow _
     have HO2:=h_ (show OwnZ w' w.heap.size v' (ctI (ts++[y])) by rw[ctI_snoc,←HXY.out];exact OwnZ.step hown')
     have HB2:=h_ (show Below w.heap.size w w' from (bel_al HBW.out).grown hgrow (by simp;have:=HBS.out;omega) (fun k hk=>(World.ownsRow.lt HRO.out k hk).1))
     clear hown' hgrow
     go_wp2
     go_roundw
     case rel=>exact ⟨p,y,_,_,ts++[y],by omega,by simp;omega,by have:=HXL.out;omega,rfl,HXY.out,hy2,rfl,HO2.out,HB2.out,HNX.out,HFN.out⟩
     case measure=>have:=HXL.out;simp[intOf];omega
    ·have HNF:=h_ (fun h=>hfit (HIF.out.2 h))
     rw[decide_eq_false hfit]at HFT
     clear hfit
     have hyn:y<n:=by
      have:=HF.out
      rcases Nat.lt_trichotomy f y with h|h|h
      ·exact absurd this.2.1 (HNO.out f this.1 h)
      ·subst h;exact absurd this.2.1 HNF.out
      ·omega
     go_wp2_with (go_at_call 71;refine HFT.out.mono ?_;rintro e w' ⟨rfl,rfl⟩)
     go_roundw
     case rel=>exact ⟨y+1,_,by omega,by omega,by have:=HXY.out;omega,rfl,(by first|rfl|trivial),fun z h1 h2=>by
      rcases Nat.lt_or_ge z y with h|h
      ·exact HNO.out z h1 h
      ·obtain rfl:z=y:=by omega
       exact HNF.out⟩
     case measure=>have:=HXY.out;simp[intOf];omega
  ·obtain rfl:q=0:=by have:=HXL.out;omega
   have HI:=h_ HRO.out.isInts
   have HFE:=h_ (HFI.out [] rfl)
   rw[List.append_nil]at HFE
   go_wp2
   exact bodyPost_ret (v:=u7) (by simp[results,Tryz.results35,go_sem]) rfl ⟨_,rfl,ts,HI.out,HFE.out,HBW.out⟩
end Go.Proofs.YtpniemnfdleiialGreat
