/- How package keep reads a state, step by step: plain facts. -/
import Derived.Test.YtaajlggpjholeajDoorKpT
namespace Go.Proofs.YtaajlggpjholeajDoor
theorem nxN_some{st:Option (List Int)}{t':List Int}(h:(nxN st).2=some t'):∃t,st=some t∧rd1 t=some ((nxN st).1,t'):=by
 cases st with
 |none=>cases h
 |some t=>
  refine ⟨t,rfl,?_⟩
  cases hr:rd1 t with
  |none=>rw[nxN_no hr]at h;cases h
  |some p=>
   obtain ⟨x,u⟩:=p
   rw[nxN_yes hr]at h ⊢
   rw[Option.some.inj h]
theorem nxM_some{st:Option (List Int)}{t':List Int}(h:(nxM st).2=some t'):∃t,st=some t∧rdM t=some ((nxM st).1,t'):=by
 cases st with
 |none=>cases h
 |some t=>
  refine ⟨t,rfl,?_⟩
  cases hr:rdM t with
  |none=>rw[nxM_no hr]at h;cases h
  |some p=>
   obtain ⟨x,u⟩:=p
   rw[nxM_yes hr]at h ⊢
   rw[Option.some.inj h]
theorem chain_some{t t':List Int}{s1 s2 s3 s4:Option (List Int)}(h1:s1=(nxN (some t)).2)(h2:s2=(nxM s1).2)(h3:s3=(nxM s2).2)(h4:s4=(nxM s3).2)(h5:(nxM s4).2=some t'):rdL t=some ((⟨(nxN (some t)).1,(nxM s1).1,(nxM s2).1⟩,((nxM s3).1,(nxM s4).1)),t'):=by
 obtain ⟨t4,e4,r4⟩:=nxM_some h5
 obtain ⟨t3,e3,r3⟩:=nxM_some (h4▸e4)
 obtain ⟨t2,e2,r2⟩:=nxM_some (h3▸e3)
 obtain ⟨t1,e1,r1⟩:=nxM_some (h2▸e2)
 obtain ⟨t0,e0,r0⟩:=nxN_some (h1▸e1)
 obtain rfl:=Option.some.inj e0
 exact rdL_of (x:=(⟨(nxN (some t)).1,(nxM s1).1,(nxM s2).1⟩,((nxM s3).1,(nxM s4).1))) r0 r1 r2 r3 r4
theorem chain_none{t:List Int}{s1 s2 s3 s4:Option (List Int)}(h1:s1=(nxN (some t)).2)(h2:s2=(nxM s1).2)(h3:s3=(nxM s2).2)(h4:s4=(nxM s3).2)(h5:(nxM s4).2=none):rdL t=none:=by
 cases hr:rdL t with
 |none=>rfl
 |some p=>
  obtain ⟨x,t'⟩:=p
  obtain ⟨t0,t1,t2,t3,r0,r1,r2,r3,r4⟩:=rdL_some hr
  rw[nxN_yes r0]at h1
  subst h1
  rw[nxM_yes r1]at h2
  subst h2
  rw[nxM_yes r2]at h3
  subst h3
  rw[nxM_yes r3]at h4
  subst h4
  rw[nxM_yes r4]at h5
  cases h5
def KInv (E:Option (List (Ly×(Mx×Mx))×List Int)) (K i:Nat) (xs:List (Ly×(Mx×Mx))):Option (List Int)→Prop
 |none=>E=none
 |some t=>xs.length=i∧E=match rdLs (K - i) t with|none=>none|some (ys,t')=>some (xs++ys,t')
theorem KInv.next{E:Option (List (Ly×(Mx×Mx))×List Int)}{K i:Nat}{xs:List (Ly×(Mx×Mx))}{t:List Int}(h:KInv E K i xs (some t))(hi:i<K){s1 s2 s3 s4 s5:Option (List Int)}(h1:s1=(nxN (some t)).2)(h2:s2=(nxM s1).2)(h3:s3=(nxM s2).2)(h4:s4=(nxM s3).2)(h5:s5=(nxM s4).2):KInv E K (i+1) (xs++[(⟨(nxN (some t)).1,(nxM s1).1,(nxM s2).1⟩,((nxM s3).1,(nxM s4).1))]) s5:=by
 obtain ⟨hl,he⟩:=h
 rw[show K - i=(K - (i+1))+1 by omega]at he
 cases hs:s5 with
 |none=>
  rw[rdLs_no (chain_none h1 h2 h3 h4 (h5▸hs))]at he
  exact he
 |some t'=>
  rw[rdLs_yes (chain_some h1 h2 h3 h4 (h5▸hs))]at he
  refine ⟨by simp[hl],?_⟩
  rw[he]
  cases rdLs (K - (i+1)) t' with
  |none=>rfl
  |some p=>obtain ⟨ys,u⟩:=p;simp
theorem KInv.done{E:Option (List (Ly×(Mx×Mx))×List Int)}{K i:Nat}{xs:List (Ly×(Mx×Mx))}{t:List Int}(h:KInv E K i xs (some t))(hi:K≤i):E=some (xs,t):=by
 obtain ⟨hl,he⟩:=h
 rw[he,show K - i=0 by omega]
 simp[rdLs]
def stE3 (K:Nat):Option (List Int)→Option (List (Ly×(Mx×Mx))×List Int)
 |none=>none
 |some t=>rdLs K t
theorem KInv.first(K:Nat)(st:Option (List Int)):KInv (stE3 K st) K 0 [] st:=by
 cases st with
 |none=>rfl
 |some t=>
  refine ⟨rfl,?_⟩
  show rdLs K t=_
  rw[Nat.sub_zero]
  cases rdLs K t with
  |none=>rfl
  |some p=>rfl
theorem rdS_head(l:List Int):rdS l=match hdS l with|none=>none|some u=>rdH u:=by
 unfold hdS
 by_cases h:2≤l.length∧l.take 2=[71,1]
 ·rw[if_pos h]
  obtain ⟨h1,h2⟩:=h
  match l,h1,h2 with
  |a::b::t,_,h2=>
   simp at h2
   obtain ⟨rfl,rfl⟩:=h2
   rfl
 ·rw[if_neg h]
  unfold rdS
  split
  ·next t=>exact absurd ⟨by simp,rfl⟩ h
  ·rfl
def rdF (l:List Int):Option (Int×List (Ly×(Mx×Mx))):=
 match rdS l with
 |none=>none
 |some (x,t)=>if t=sumsG 0 0 (l.take (l.length - t.length)) then some x else none
theorem rdK_F(l:List Int):rdK l=match rdF l with|none=>none|some x=>if stF x=0 then some x else none:=by
 unfold rdK rdF
 cases rdS l with
 |none=>rfl
 |some p=>
  obtain ⟨x,t⟩:=p
  dsimp only
  by_cases h1:t=sumsG 0 0 (l.take (l.length - t.length))
  ·rw[if_pos h1]
   dsimp only
   by_cases h2:stF x=0
   ·rw[if_pos ⟨h1,h2⟩,if_pos h2]
   ·rw[if_neg (fun h=>h2 h.2),if_neg h2]
  ·rw[if_neg h1,if_neg (fun h=>h1 h.1)]
theorem rdS_steps{l:List Int}{s1 s2 s3:Option (List Int)}(h1:s1=(nxN (hdS l)).2)(h2:s2=(nxN s1).2)(h3:s3=dmS (decide ((nxN s1).1≤12)) s2):rdS l=match stE3 (nxN s1).1.toNat s3 with|none=>none|some (xs,t)=>some (((nxN (hdS l)).1,xs),t):=by
 rw[rdS_head]
 cases h0:hdS l with
 |none=>
  rw[h0]at h1
  subst h1
  subst h2
  subst h3
  rfl
 |some u=>
  rw[h0]at h1
  dsimp only
  unfold rdH
  cases r0:rd1 u with
  |none=>
   rw[nxN_no r0]at h1
   subst h1
   subst h2
   subst h3
   rfl
  |some p=>
   obtain ⟨n,t0⟩:=p
   rw[nxN_yes r0]at h1 ⊢
   subst h1
   dsimp only
   cases r1:rd1 t0 with
   |none=>
    rw[nxN_no r1]at h2 h3 ⊢
    subst h2
    subst h3
    rfl
   |some p=>
    obtain ⟨k,t1⟩:=p
    rw[nxN_yes r1]at h2 h3 ⊢
    dsimp only at h2 h3 ⊢
    subst h2
    by_cases hk:12<k
    ·rw[if_pos hk]
     rw[decide_eq_false (by omega)]at h3
     subst h3
     rfl
    ·rw[if_neg hk]
     rw[decide_eq_true (by omega)]at h3
     subst h3
     rfl
theorem rdF_tail{l t:List Int}{x:Int×List (Ly×(Mx×Mx))}{a:Nat}(h:rdS l=some (x,t))(ht:t=l.drop a)(ha:a≤l.length):rdF l=if decide (l.drop a=sumsG 0 0 (l.take a))=true then some x else none:=by
 unfold rdF
 rw[h]
 dsimp only
 rw[ht,List.length_drop,show l.length - (l.length - a)=a by omega]
 simp
end Go.Proofs.YtaajlggpjholeajDoor
