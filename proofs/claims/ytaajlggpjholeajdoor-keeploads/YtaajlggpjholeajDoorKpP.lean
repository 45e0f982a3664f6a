/- What the bytes of a state are, and what is read of bytes: plain facts. No program in sight. -/
import Derived.Test.YtaajlggpjholeajDoorWrN
import Derived.Test.YtaajlggpjholeajDoorPkLBox
namespace Go.Proofs.YtaajlggpjholeajDoor
def lyN (x:Ly×(Mx×Mx)):List Nat:=x.1.k.toNat::(mxN x.1.w++(mxN x.1.b++(mxN x.2.1++mxN x.2.2)))
def rdL (b:List Int):Option ((Ly×(Mx×Mx))×List Int):=
 match rd1 b with
 |none=>none
 |some (k,t0)=>match rdM t0 with
  |none=>none
  |some (w,t1)=>match rdM t1 with
   |none=>none
   |some (v,t2)=>match rdM t2 with
    |none=>none
    |some (p,t3)=>match rdM t3 with
     |none=>none
     |some (q,t4)=>some ((⟨k,w,v⟩,(p,q)),t4)
theorem rdL_some{b t:List Int}{x:Ly×(Mx×Mx)}(h:rdL b=some (x,t)):∃t0 t1 t2 t3,rd1 b=some (x.1.k,t0)∧rdM t0=some (x.1.w,t1)∧rdM t1=some (x.1.b,t2)∧rdM t2=some (x.2.1,t3)∧rdM t3=some (x.2.2,t):=by
 unfold rdL at h
 cases h0:rd1 b with
 |none=>rw[h0]at h;cases h
 |some p0=>
  obtain ⟨k,t0⟩:=p0
  rw[h0]at h;dsimp only at h
  cases h1:rdM t0 with
  |none=>rw[h1]at h;cases h
  |some p1=>
   obtain ⟨w,t1⟩:=p1
   rw[h1]at h;dsimp only at h
   cases h2:rdM t1 with
   |none=>rw[h2]at h;cases h
   |some p2=>
    obtain ⟨v,t2⟩:=p2
    rw[h2]at h;dsimp only at h
    cases h3:rdM t2 with
    |none=>rw[h3]at h;cases h
    |some p3=>
     obtain ⟨p,t3⟩:=p3
     rw[h3]at h;dsimp only at h
     cases h4:rdM t3 with
     |none=>rw[h4]at h;cases h
     |some p4=>
      obtain ⟨q,t4⟩:=p4
      rw[h4]at h;dsimp only at h
      obtain ⟨g1,g2⟩:=Prod.mk.inj (Option.some.inj h)
      subst g1 g2
      exact ⟨t0,t1,t2,t3,rfl,h1,h2,h3,h4⟩
theorem rdL_of{b t0 t1 t2 t3 t:List Int}{x:Ly×(Mx×Mx)}(h0:rd1 b=some (x.1.k,t0))(h1:rdM t0=some (x.1.w,t1))(h2:rdM t1=some (x.1.b,t2))(h3:rdM t2=some (x.2.1,t3))(h4:rdM t3=some (x.2.2,t)):rdL b=some (x,t):=by
 unfold rdL
 rw[h0];dsimp only
 rw[h1];dsimp only
 rw[h2];dsimp only
 rw[h3];dsimp only
 rw[h4]
theorem rdL_canon:Canon rdL lyN:=by
 intro b x t hb h
 obtain ⟨t0,t1,t2,t3,h0,h1,h2,h3,h4⟩:=rdL_some h
 obtain ⟨a0,c0⟩:=rd1_canon b _ t0 hb h0
 have b0:∀d∈t0,0≤d∧d<256:=by rw[a0]at hb;exact byte_tail hb
 obtain ⟨a1,c1⟩:=rdM_canon t0 _ t1 b0 h1
 have b1:∀d∈t1,0≤d∧d<256:=by rw[a1]at b0;exact byte_tail b0
 obtain ⟨a2,c2⟩:=rdM_canon t1 _ t2 b1 h2
 have b2:∀d∈t2,0≤d∧d<256:=by rw[a2]at b1;exact byte_tail b1
 obtain ⟨a3,c3⟩:=rdM_canon t2 _ t3 b2 h3
 have b3:∀d∈t3,0≤d∧d<256:=by rw[a3]at b2;exact byte_tail b2
 obtain ⟨a4,c4⟩:=rdM_canon t3 _ t b3 h4
 have ew:∀r:List Int,wrNs (lyN x)++r=wrNs [x.1.k.toNat]++(wrNs (mxN x.1.w)++(wrNs (mxN x.1.b)++(wrNs (mxN x.2.1)++(wrNs (mxN x.2.2)++r)))):=fun r=>by
  unfold lyN
  simp[wrNs]
 refine ⟨by rw[ew,←a4,←a3,←a2,←a1,←a0],fun t'=>?_⟩
 rw[ew]
 exact rdL_of (c0 _) (c1 _) (c2 _) (c3 _) (c4 _)
def lysN:List (Ly×(Mx×Mx))→List Nat:=List.flatMap lyN
def rdLs:Nat→List Int→Option (List (Ly×(Mx×Mx))×List Int)
 |0,b=>some ([],b)
 |k+1,b=>match rdL b with
  |none=>none
  |some (x,t)=>match rdLs k t with
   |none=>none
   |some (l,t')=>some (x::l,t')
theorem rdLs_no{k:Nat}{b:List Int}(h:rdL b=none):rdLs (k+1) b=none:=by rw[rdLs,h]
theorem rdLs_yes{k:Nat}{b t:List Int}{x:Ly×(Mx×Mx)}(h:rdL b=some (x,t)):rdLs (k+1) b=match rdLs k t with|none=>none|some (l,t')=>some (x::l,t'):=by
 rw[rdLs,h]
theorem rdLs_canon:∀(K:Nat),Canon (rdLs K) lysN
 |0=>by
  intro b x t hb h
  simp only[rdLs]at h
  obtain ⟨h1,h2⟩:=Prod.mk.inj (Option.some.inj h)
  subst h1 h2
  exact ⟨by simp[wrNs,lysN],fun t'=>by simp[wrNs,rdLs,lysN]⟩
 |K+1=>by
  intro b x t hb h
  cases h1:rdL b with
  |none=>rw[rdLs_no h1]at h;cases h
  |some p=>
   obtain ⟨y,u⟩:=p
   rw[rdLs_yes h1]at h
   obtain ⟨e1,e2⟩:=rdL_canon b y u hb h1
   have hu:∀d∈u,0≤d∧d<256:=by rw[e1]at hb;exact byte_tail hb
   cases h2:rdLs K u with
   |none=>rw[h2]at h;cases h
   |some q=>
    obtain ⟨ys,v⟩:=q
    rw[h2]at h
    dsimp only at h
    obtain ⟨g1,g2⟩:=Prod.mk.inj (Option.some.inj h)
    subst g1 g2
    obtain ⟨f1,f2⟩:=rdLs_canon K u ys v hu h2
    have ew:∀r:List Int,wrNs (lysN (y::ys))++r=wrNs (lyN y)++(wrNs (lysN ys)++r):=fun r=>by
     unfold lysN
     rw[List.flatMap_cons,wr_app,List.append_assoc]
    refine ⟨by rw[ew,←f1,←e1],fun t'=>?_⟩
    rw[ew,rdLs_yes (e2 _),f2]
theorem rdLs_len:∀{K:Nat} {b:List Int} {x:List (Ly×(Mx×Mx))} {t:List Int},rdLs K b=some (x,t)→x.length=K
 |0,b,x,t,h=>by simp only[rdLs]at h;rw[←(Prod.mk.inj (Option.some.inj h)).1];rfl
 |K+1,b,x,t,h=>by
  cases h1:rdL b with
  |none=>rw[rdLs_no h1]at h;cases h
  |some p=>
   obtain ⟨y,u⟩:=p
   rw[rdLs_yes h1]at h
   cases h2:rdLs K u with
   |none=>rw[h2]at h;cases h
   |some q=>
    obtain ⟨ys,v⟩:=q
    rw[h2]at h
    dsimp only at h
    rw[←(Prod.mk.inj (Option.some.inj h)).1,List.length_cons,rdLs_len h2]
def stN (n:Int) (xs:List (Ly×(Mx×Mx))):List Nat:=n.toNat::xs.length::lysN xs
def stB (n:Int) (xs:List (Ly×(Mx×Mx))):List Int:=71::1::wrNs (stN n xs)
def savB (n:Int) (xs:List (Ly×(Mx×Mx))):List Int:=stB n xs++sumsG 0 0 (stB n xs)
def rdH (b:List Int):Option ((Int×List (Ly×(Mx×Mx)))×List Int):=
 match rd1 b with
 |none=>none
 |some (n,t0)=>match rd1 t0 with
  |none=>none
  |some (k,t1)=>if 12<k then none else match rdLs k.toNat t1 with
   |none=>none
   |some (xs,t2)=>some ((n,xs),t2)
theorem rdH_some{b t:List Int}{n:Int}{xs:List (Ly×(Mx×Mx))}(h:rdH b=some ((n,xs),t)):∃t0 k t1,rd1 b=some (n,t0)∧rd1 t0=some (k,t1)∧¬12<k∧rdLs k.toNat t1=some (xs,t):=by
 unfold rdH at h
 cases h0:rd1 b with
 |none=>rw[h0]at h;cases h
 |some p0=>
  obtain ⟨n',t0⟩:=p0
  rw[h0]at h;dsimp only at h
  cases h1:rd1 t0 with
  |none=>rw[h1]at h;cases h
  |some p1=>
   obtain ⟨k,t1⟩:=p1
   rw[h1]at h;dsimp only at h
   by_cases hk:12<k
   ·rw[if_pos hk]at h;cases h
   ·rw[if_neg hk]at h
    cases h2:rdLs k.toNat t1 with
    |none=>rw[h2]at h;cases h
    |some p2=>
     obtain ⟨ys,t2⟩:=p2
     rw[h2]at h;dsimp only at h
     obtain ⟨g1,g2⟩:=Prod.mk.inj (Option.some.inj h)
     obtain ⟨g3,g4⟩:=Prod.mk.inj g1
     subst g2 g3 g4
     exact ⟨t0,k,t1,rfl,h1,hk,h2⟩
theorem rdH_of{b t0 t1 t:List Int}{n k:Int}{xs:List (Ly×(Mx×Mx))}(h0:rd1 b=some (n,t0))(h1:rd1 t0=some (k,t1))(hk:¬12<k)(h2:rdLs k.toNat t1=some (xs,t)):rdH b=some ((n,xs),t):=by
 unfold rdH
 rw[h0];dsimp only
 rw[h1];dsimp only
 rw[if_neg hk,h2]
theorem rdH_canon:Canon rdH (fun x=>stN x.1 x.2):=by
 rintro b ⟨n,xs⟩ t hb h
 obtain ⟨t0,k,t1,h0,h1,hk,h2⟩:=rdH_some h
 obtain ⟨a0,c0⟩:=rd1_canon b _ t0 hb h0
 have b0:∀d∈t0,0≤d∧d<256:=by rw[a0]at hb;exact byte_tail hb
 obtain ⟨a1,c1⟩:=rd1_canon t0 _ t1 b0 h1
 have b1:∀d∈t1,0≤d∧d<256:=by rw[a1]at b0;exact byte_tail b0
 obtain ⟨a2,c2⟩:=rdLs_canon _ t1 _ t b1 h2
 have hkn:=(rd1_nn b0 h1).1
 have hl:=rdLs_len h2
 have ew:∀r:List Int,wrNs (stN n xs)++r=wrNs [n.toNat]++(wrNs [k.toNat]++(wrNs (lysN xs)++r)):=fun r=>by
  unfold stN
  rw[hl]
  simp[wrNs]
 dsimp only
 refine ⟨by rw[ew,←a2,←a1,←a0],fun t'=>?_⟩
 rw[ew]
 exact rdH_of (c0 _) (c1 _) hk (c2 _)
def rdS (b:List Int):Option ((Int×List (Ly×(Mx×Mx)))×List Int):=
 match b with
 |71::1::t=>rdH t
 |_=>none
def stF (x:Int×List (Ly×(Mx×Mx))):Int:=stateE (x.2.map (·.1)) (x.2.map (·.2)) x.1
def rdK (b:List Int):Option (Int×List (Ly×(Mx×Mx))):=
 match rdS b with
 |none=>none
 |some (x,t)=>if t=sumsG 0 0 (b.take (b.length - t.length))∧stF x=0 then some x else none
def rdD (b:List Int):Option (Int×List (Ly×(Mx×Mx))):=
 if b.length<6∨100000<b.length then none else
 let c:=b.take (b.length - 2)
 if sumsG 0 0 c≠b.drop (b.length - 2) then none else
 match rdS c with
 |none=>none
 |some (x,t)=>if t=[]∧stF x=0 then some x else none
theorem sev_le{n k:Nat}(h:n<128 ^ k)(hk:0<k)(h9:k≤9):(sev n).length≤k:=by
 unfold sev
 rw[sevF_ge h hk h9]
 exact sevF_len k n
theorem sev_pos(n:Nat):1≤(sev n).length:=by
 unfold sev sevF
 split<;>simp
theorem wr_le{l:List Nat}{k:Nat}(h:∀n∈l,n<128 ^ k)(hk:0<k)(h9:k≤9):(wrNs l).length≤k*l.length:=by
 induction l with
 |nil=>simp[wrNs]
 |cons a t ih=>
  rw[wr_cons,List.length_append,List.length_cons]
  have h1:=sev_le (h a (by simp)) hk h9
  have h2:=ih (fun n hn=>h n (List.mem_cons_of_mem _ hn))
  rw[Nat.mul_add]
  omega
theorem mxN_le{m:Mx}(h:q_ m=0):(wrNs (mxN m)).length≤1450:=by
 obtain ⟨⟨r1,r2,r3,r4⟩,hl,hc⟩:=fault_zero h
 have hrc:=rc_bd m.rows m.cols ⟨r1,r2,r3,r4⟩
 have h1:(wrNs (mxN m)).length≤5*(mxN m).length:=by
  refine wr_le (fun n hn=>?_) (by decide) (by decide)
  rw[show 128 ^ 5=34359738368 by decide]
  unfold mxN at hn
  rcases List.mem_cons.1 hn with e|hn
  ·omega
  rcases List.mem_cons.1 hn with e|hn
  ·omega
  obtain ⟨x,hx,rfl⟩:=List.mem_map.1 hn
  have:=hc x hx
  unfold zig
  split<;>omega
 have h2:(mxN m).length=m.cells.length+2:=by unfold mxN;simp
 omega
theorem stt_zero{l:Ly}{p:Mx×Mx}(h:stt1E l p=0):l_ l=0∧q_ p.1=0∧q_ p.2=0:=by
 unfold stt1E at h
 by_cases a:l_ l=0
 ·rw[if_neg (by simp[a])]at h
  by_cases b:q_ p.1=0
  ·rw[if_neg (by simp[b])]at h
   by_cases c:q_ p.2=0
   ·exact ⟨a,b,c⟩
   ·rw[if_pos c]at h;exact absurd h c
  ·rw[if_pos b]at h;exact absurd h b
 ·rw[if_pos a]at h;exact absurd h a
theorem sttE_zero:∀{xs:List (Ly×(Mx×Mx))},sttE (xs.map (·.1)) (xs.map (·.2))=0→∀x∈xs,l_ x.1=0∧q_ x.2.1=0∧q_ x.2.2=0
 |[],_=>by simp
 |x::t,h=>by
  rw[List.map_cons,List.map_cons,sttE]at h
  by_cases a:stt1E x.1 x.2=0
  ·rw[if_neg (by simp[a])]at h
   intro y hy
   rcases List.mem_cons.1 hy with e|e
   ·rw[e];exact stt_zero a
   ·exact sttE_zero h y e
  ·rw[if_pos a]at h;exact absurd h a
theorem stF_zero{n:Int}{xs:List (Ly×(Mx×Mx))}(h:stF (n,xs)=0):xs.length≤12∧0≤n∧n≤1000000000∧∀x∈xs,l_ x.1=0∧q_ x.2.1=0∧q_ x.2.2=0:=by
 unfold stF stateE at h
 dsimp only at h
 rw[List.length_map,List.length_map]at h
 by_cases a:12<xs.length
 ·rw[if_pos a]at h;cases h
 ·rw[if_neg a,if_neg (by simp)]at h
  by_cases b:n<0∨1000000000<n
  ·rw[if_pos b]at h;cases h
  ·rw[if_neg b]at h
   exact ⟨by omega,by omega,by omega,sttE_zero h⟩
theorem lyN_le{x:Ly×(Mx×Mx)}(h:l_ x.1=0∧q_ x.2.1=0∧q_ x.2.2=0):(wrNs (lyN x)).length≤5801:=by
 obtain ⟨k1,k2,hw,hb,_⟩:=lgood_of h.1
 have h1:=mxN_le hw
 have h2:=mxN_le hb
 have h3:=mxN_le h.2.1
 have h4:=mxN_le h.2.2
 have h5:(sev x.1.k.toNat).length≤1:=sev_le (by omega) (by decide) (by decide)
 unfold lyN
 rw[wr_cons,wr_app,wr_app,wr_app]
 simp only[List.length_append]
 omega
theorem lysN_le:∀{xs:List (Ly×(Mx×Mx))},(∀x∈xs,l_ x.1=0∧q_ x.2.1=0∧q_ x.2.2=0)→(wrNs (lysN xs)).length≤5801*xs.length
 |[],_=>by simp[lysN,wrNs]
 |x::t,h=>by
  have h1:=lyN_le (h x (by simp))
  have h2:=lysN_le (xs:=t) (fun y hy=>h y (List.mem_cons_of_mem _ hy))
  have e:wrNs (lysN (x::t))=wrNs (lyN x)++wrNs (lysN t):=by unfold lysN;rw[List.flatMap_cons,wr_app]
  rw[e,List.length_append,List.length_cons,Nat.mul_add]
  omega
theorem stB_len{n:Int}{xs:List (Ly×(Mx×Mx))}(h:stF (n,xs)=0):4≤(stB n xs).length∧(stB n xs).length≤70000:=by
 obtain ⟨h1,h2,h3,h4⟩:=stF_zero h
 have h5:=lysN_le h4
 have h6:(sev n.toNat).length≤5:=sev_le (by omega) (by decide) (by decide)
 have h7:(sev xs.length).length≤1:=sev_le (by omega) (by decide) (by decide)
 have h8:=sev_pos n.toNat
 have h9:=sev_pos xs.length
 unfold stB stN
 rw[wr_cons,wr_cons]
 simp only[List.length_cons,List.length_append]
 omega
theorem savB_len(n:Int)(xs:List (Ly×(Mx×Mx))):(savB n xs).length=(stB n xs).length+2:=by
 unfold savB
 rw[List.length_append,sumsG_len]
theorem rdS_some{b t:List Int}{x:Int×List (Ly×(Mx×Mx))}(h:rdS b=some (x,t)):∃u,b=71::1::u∧rdH u=some (x,t):=by
 unfold rdS at h
 split at h
 ·exact ⟨_,rfl,h⟩
 ·cases h
theorem rdS_canon{b t:List Int}{x:Int×List (Ly×(Mx×Mx))}(hb:∀d∈b,0≤d∧d<256)(h:rdS b=some (x,t)):b=stB x.1 x.2++t∧∀t',rdS (stB x.1 x.2++t')=some (x,t'):=by
 obtain ⟨u,rfl,hu⟩:=rdS_some h
 obtain ⟨e1,e2⟩:=rdH_canon u x t (fun d hd=>hb d (by simp[hd])) hu
 dsimp only at e1 e2
 refine ⟨by unfold stB;rw[e1];rfl,fun t'=>?_⟩
 show rdH (wrNs (stN x.1 x.2)++t')=_
 exact e2 t'
theorem rdK_some{b:List Int}{x:Int×List (Ly×(Mx×Mx))}(hb:∀d∈b,0≤d∧d<256)(h:rdK b=some x):b=savB x.1 x.2∧stF x=0∧∀t',rdS (stB x.1 x.2++t')=some (x,t'):=by
 unfold rdK at h
 cases h1:rdS b with
 |none=>rw[h1]at h;cases h
 |some p=>
  obtain ⟨y,t⟩:=p
  rw[h1]at h
  dsimp only at h
  by_cases c:t=sumsG 0 0 (b.take (b.length - t.length))∧stF y=0
  ·rw[if_pos c]at h
   obtain rfl:=Option.some.inj h
   obtain ⟨e1,e2⟩:=rdS_canon hb h1
   have hl:b.take (b.length - t.length)=stB y.1 y.2:=by
    rw[e1,List.length_append,Nat.add_sub_cancel,List.take_append_of_le_length (Nat.le_refl _),List.take_length]
   refine ⟨?_,c.2,e2⟩
   unfold savB
   rw[←hl,←c.1,hl]
   exact e1
  ·rw[if_neg c]at h;cases h
theorem rdK_of{x:Int×List (Ly×(Mx×Mx))}(h0:stF x=0)(h:∀t',rdS (stB x.1 x.2++t')=some (x,t')):rdK (savB x.1 x.2)=some x:=by
 unfold rdK
 have e:(savB x.1 x.2).take ((savB x.1 x.2).length - (sumsG 0 0 (stB x.1 x.2)).length)=stB x.1 x.2:=by
  unfold savB
  rw[List.length_append,Nat.add_sub_cancel,List.take_append_of_le_length (Nat.le_refl _),List.take_length]
 rw[show rdS (savB x.1 x.2)=_ from h (sumsG 0 0 (stB x.1 x.2))]
 dsimp only
 rw[e,if_pos ⟨rfl,h0⟩]
theorem rdD_some{b:List Int}{x:Int×List (Ly×(Mx×Mx))}(hb:∀d∈b,0≤d∧d<256)(h:rdD b=some x):b=savB x.1 x.2∧stF x=0∧∀t',rdS (stB x.1 x.2++t')=some (x,t'):=by
 unfold rdD at h
 by_cases c1:b.length<6∨100000<b.length
 ·rw[if_pos c1]at h;cases h
 ·rw[if_neg c1]at h
  dsimp only at h
  by_cases c2:sumsG 0 0 (b.take (b.length - 2))≠b.drop (b.length - 2)
  ·rw[if_pos c2]at h;cases h
  ·rw[if_neg c2]at h
   have c2:sumsG 0 0 (b.take (b.length - 2))=b.drop (b.length - 2):=Decidable.not_not.1 c2
   cases h1:rdS (b.take (b.length - 2)) with
   |none=>rw[h1]at h;cases h
   |some p=>
    obtain ⟨y,t⟩:=p
    rw[h1]at h
    dsimp only at h
    by_cases c:t=[]∧stF y=0
    ·rw[if_pos c]at h
     obtain rfl:=Option.some.inj h
     obtain ⟨e1,e2⟩:=rdS_canon (fun d hd=>hb d (List.mem_of_mem_take hd)) h1
     rw[c.1,List.append_nil]at e1
     refine ⟨?_,c.2,e2⟩
     unfold savB
     rw[←e1,c2,List.take_append_drop]
    ·rw[if_neg c]at h;cases h
theorem rdD_of{x:Int×List (Ly×(Mx×Mx))}(h0:stF x=0)(h:∀t',rdS (stB x.1 x.2++t')=some (x,t')):rdD (savB x.1 x.2)=some x:=by
 have hl:=savB_len x.1 x.2
 have hb:=stB_len (n:=x.1) (xs:=x.2) h0
 have e1:(savB x.1 x.2).take ((savB x.1 x.2).length - 2)=stB x.1 x.2:=by
  rw[hl,Nat.add_sub_cancel]
  unfold savB
  rw[List.take_append_of_le_length (Nat.le_refl _),List.take_length]
 have e2:(savB x.1 x.2).drop ((savB x.1 x.2).length - 2)=sumsG 0 0 (stB x.1 x.2):=by
  rw[hl,Nat.add_sub_cancel]
  unfold savB
  rw[List.drop_append_of_le_length (Nat.le_refl _),List.drop_length,List.nil_append]
 have h3:=h []
 rw[List.append_nil]at h3
 unfold rdD
 rw[if_neg (by omega)]
 dsimp only
 rw[e1,e2,if_neg (by simp),h3]
 dsimp only
 rw[if_pos ⟨rfl,h0⟩]
theorem rdD_eq{b:List Int}(hb:∀d∈b,0≤d∧d<256):rdD b=rdK b:=by
 cases h1:rdK b with
 |some x=>
  obtain ⟨e,e0,e1⟩:=rdK_some hb h1
  rw[e]
  exact rdD_of e0 e1
 |none=>
  cases h2:rdD b with
  |none=>rfl
  |some x=>
   obtain ⟨e,e0,e1⟩:=rdD_some hb h2
   rw[e,rdK_of e0 e1]at h1
   cases h1
end Go.Proofs.YtaajlggpjholeajDoor
