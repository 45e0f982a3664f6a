/- What the bytes of a state are, and what is read of bytes: plain facts. No program in sight. -/
import Derived.Test.YtaajlggpjholeajDoorPkWrQ
import Derived.Test.YtaajlggpjholeajDoorPkNetP
namespace Go.Proofs.YtaajlggpjholeajDoor
def lyN (x:Ly×(Mx×Mx)):List Nat:=x.1.k.toNat::(mxN x.1.w++(mxN x.1.b++(mxN x.2.1++mxN x.2.2)))
def lysN:List (Ly×(Mx×Mx))→List Nat:=List.flatMap lyN
def stN (n:Int) (xs:List (Ly×(Mx×Mx))):List Nat:=n.toNat::xs.length::lysN xs
def stB (n:Int) (xs:List (Ly×(Mx×Mx))):List Int:=71::1::wrNs (stN n xs)
def savB (n:Int) (xs:List (Ly×(Mx×Mx))):List Int:=stB n xs++sumsG 0 0 (stB n xs)
def stF (x:Int×List (Ly×(Mx×Mx))):Int:=stateE (x.2.map (·.1)) (x.2.map (·.2)) x.1
theorem sev_le{n k:Nat}(h:n<128 ^ k)(hk:0<k)(h9:k≤9):(sev n).length≤k:=by
 unfold sev
 rw[sevF_ge h hk h9]
 exact sevF_len k n
theorem sev_pos(n:Nat):1≤(sev n).length:=by
 unfold sev sevF
 split<;>simp
theorem wr_le{l:List Nat}{k:Nat}(h:∀n∈l,n<128 ^ k)(hk:0<k)(h9:k≤9):(wrNs l).length≤k*l.length:=by
 induction l with
 |nil=>simp[wrNs]
 |cons a t ih=>
  rw[wr_cons,List.length_append,List.length_cons]
  have h1:=sev_le (h a (by simp)) hk h9
  have h2:=ih (fun n hn=>h n (List.mem_cons_of_mem _ hn))
  rw[Nat.mul_add]
  omega
theorem mxN_le{m:Mx}(h:q_ m=0):(wrNs (mxN m)).length≤1450:=by
 obtain ⟨⟨r1,r2,r3,r4⟩,hl,hc⟩:=fault_zero h
 have hrc:=rc_bd m.rows m.cols ⟨r1,r2,r3,r4⟩
 have h1:(wrNs (mxN m)).length≤5*(mxN m).length:=by
  refine wr_le (fun n hn=>?_) (by decide) (by decide)
  rw[show 128 ^ 5=34359738368 by decide]
  unfold mxN at hn
  rcases List.mem_cons.1 hn with e|hn
  ·omega
  rcases List.mem_cons.1 hn with e|hn
  ·omega
  obtain ⟨x,hx,rfl⟩:=List.mem_map.1 hn
  have:=hc x hx
  unfold zig
  split<;>omega
 have h2:(mxN m).length=m.cells.length+2:=by unfold mxN;simp
 omega
theorem stt_zero{l:Ly}{p:Mx×Mx}(h:stt1E l p=0):l_ l=0∧q_ p.1=0∧q_ p.2=0:=by
 unfold stt1E at h
 by_cases a:l_ l=0
 ·rw[if_neg (by simp[a])]at h
  by_cases b:q_ p.1=0
  ·rw[if_neg (by simp[b])]at h
   by_cases c:q_ p.2=0
   ·exact ⟨a,b,c⟩
   ·rw[if_pos c]at h;exact absurd h c
  ·rw[if_pos b]at h;exact absurd h b
 ·rw[if_pos a]at h;exact absurd h a
theorem sttE_zero:∀{xs:List (Ly×(Mx×Mx))},sttE (xs.map (·.1)) (xs.map (·.2))=0→∀x∈xs,l_ x.1=0∧q_ x.2.1=0∧q_ x.2.2=0
 |[],_=>by simp
 |x::t,h=>by
  rw[List.map_cons,List.map_cons,sttE]at h
  by_cases a:stt1E x.1 x.2=0
  ·rw[if_neg (by simp[a])]at h
   intro y hy
   rcases List.mem_cons.1 hy with e|e
   ·rw[e];exact stt_zero a
   ·exact sttE_zero h y e
  ·rw[if_pos a]at h;exact absurd h a
theorem stF_zero{n:Int}{xs:List (Ly×(Mx×Mx))}(h:stF (n,xs)=0):xs.length≤12∧0≤n∧n≤1000000000∧∀x∈xs,l_ x.1=0∧q_ x.2.1=0∧q_ x.2.2=0:=by
 unfold stF stateE at h
 dsimp only at h
 rw[List.length_map,List.length_map]at h
 by_cases a:12<xs.length
 ·rw[if_pos a]at h;cases h
 ·rw[if_neg a,if_neg (by simp)]at h
  by_cases b:n<0∨1000000000<n
  ·rw[if_pos b]at h;cases h
  ·rw[if_neg b]at h
   exact ⟨by omega,by omega,by omega,sttE_zero h⟩
theorem lyN_le{x:Ly×(Mx×Mx)}(h:l_ x.1=0∧q_ x.2.1=0∧q_ x.2.2=0):(wrNs (lyN x)).length≤5801:=by
 obtain ⟨k1,k2,hw,hb,_⟩:=lgood_of h.1
 have h1:=mxN_le hw
 have h2:=mxN_le hb
 have h3:=mxN_le h.2.1
 have h4:=mxN_le h.2.2
 have h5:(sev x.1.k.toNat).length≤1:=sev_le (by omega) (by decide) (by decide)
 unfold lyN
 rw[wr_cons,wr_app,wr_app,wr_app]
 simp only[List.length_append]
 omega
theorem lysN_le:∀{xs:List (Ly×(Mx×Mx))},(∀x∈xs,l_ x.1=0∧q_ x.2.1=0∧q_ x.2.2=0)→(wrNs (lysN xs)).length≤5801*xs.length
 |[],_=>by simp[lysN,wrNs]
 |x::t,h=>by
  have h1:=lyN_le (h x (by simp))
  have h2:=lysN_le (xs:=t) (fun y hy=>h y (List.mem_cons_of_mem _ hy))
  have e:wrNs (lysN (x::t))=wrNs (lyN x)++wrNs (lysN t):=by unfold lysN;rw[List.flatMap_cons,wr_app]
  rw[e,List.length_append,List.length_cons,Nat.mul_add]
  omega
theorem stB_len{n:Int}{xs:List (Ly×(Mx×Mx))}(h:stF (n,xs)=0):4≤(stB n xs).length∧(stB n xs).length≤70000:=by
 obtain ⟨h1,h2,h3,h4⟩:=stF_zero h
 have h5:=lysN_le h4
 have h6:(sev n.toNat).length≤5:=sev_le (by omega) (by decide) (by decide)
 have h7:(sev xs.length).length≤1:=sev_le (by omega) (by decide) (by decide)
 have h8:=sev_pos n.toNat
 have h9:=sev_pos xs.length
 unfold stB stN
 rw[wr_cons,wr_cons]
 simp only[List.length_cons,List.length_append]
 omega
theorem savB_len(n:Int)(xs:List (Ly×(Mx×Mx))):(savB n xs).length=(stB n xs).length+2:=by
 unfold savB
 rw[List.length_append,sumsG_len]
end Go.Proofs.YtaajlggpjholeajDoor
