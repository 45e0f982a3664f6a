/- Messages as bytes: how they are written and read, as plain data; what is written is read, whatever stands behind it, and of a shorter beginning nothing is. No program in sight. -/
import Derived.Test.YtaajlggpjholeahDoorRFault
namespace Go.Proofs.YtaajlggpjholeahDoor
def sevF:Nat→Nat→List Int
 |0,_=>[]
 |k+1,n=>if n<128 then [(n:Int)] else ((128+n % 128:Nat):Int)::sevF k (n / 128)
def sev (n:Nat):List Int:=sevF 9 n
def rdB:Nat→Bool→Int→Int→List Int→Option (Int×List Int)
 |0,_,_,_,_=>none
 |_+1,_,_,_,[]=>none
 |k+1,f,P,acc,d::t=>if d<128 then (if d=0∧f=false then none else some (acc+d % 128*P,t)) else rdB k false (P*128) (acc+d % 128*P) t
def rd1 (b:List Int):Option (Int×List Int):=rdB 9 true 1 0 b
theorem sevF_len:∀(k n:Nat),(sevF k n).length≤k
 |0,_=>by simp[sevF]
 |k+1,n=>by
  have:=sevF_len k (n / 128)
  unfold sevF
  split<;>simp<;>omega
theorem div_pow{n k:Nat}(h:n<128 ^ (k+1)):n / 128<128 ^ k:=Nat.div_lt_of_lt_mul (by rw[Nat.pow_succ]at h;rw[Nat.mul_comm];exact h)
theorem rd_sev:∀{k n j:Nat} {f:Bool} {P acc:Int} {rest:List Int},n<128 ^ k→0<k→k≤j→(f=true∨n≠0)→rdB j f P acc (sevF k n++rest)=some (acc+(n:Int)*P,rest)
 |0,n,j,f,P,acc,rest,_,h,_,_=>by omega
 |k+1,n,0,f,P,acc,rest,_,_,h,_=>by omega
 |k+1,n,j+1,f,P,acc,rest,h,_,hj,hf=>by
  unfold sevF
  by_cases c:n<128
  ·rw[if_pos c,List.singleton_append]
   unfold rdB
   rw[if_pos (by omega),if_neg (by
    rintro ⟨e1,e2⟩
    rcases hf with q|q
    ·rw[q]at e2;cases e2
    ·omega),show (n:Int) % 128=n by omega]
  ·rw[if_neg c,List.cons_append]
   unfold rdB
   have h1:=div_pow h
   have hk:0<k:=by
    rcases Nat.eq_zero_or_pos k with e|e
    ·rw[e]at h1;simp at h1;omega
    ·exact e
   rw[if_neg (by omega),rd_sev h1 hk (by omega) (.inr (by omega))]
   have e1:((128+n % 128:Nat):Int) % 128=((n % 128:Nat):Int):=by omega
   have e2:(n:Int)=((n % 128:Nat):Int)+128*((n / 128:Nat):Int):=by omega
   rw[e1]
   congr 2
   rw[e2,Int.add_mul,Int.add_assoc]
   congr 1
   rw[show P*128=128*P from Int.mul_comm _ _,←Int.mul_assoc,Int.mul_comm ((n / 128:Nat):Int) 128]
def rdNs:Nat→List Int→Option (List Int×List Int)
 |0,b=>some ([],b)
 |k+1,b=>match rd1 b with
  |none=>none
  |some (x,t)=>match rdNs k t with
   |none=>none
   |some (l,t')=>some (x::l,t')
def wrNs (l:List Nat):List Int:=l.flatMap sev
def okN (n:Nat):Prop:=n<128 ^ 9
theorem rd1_sev{n:Nat}(h:okN n)(rest:List Int):rd1 (sev n++rest)=some ((n:Int),rest):=by
 unfold rd1 sev
 rw[rd_sev h (by decide) (Nat.le_refl _) (.inl rfl)]
 simp
theorem wr_app(l k:List Nat):wrNs (l++k)=wrNs l++wrNs k:=by simp[wrNs]
def sumsG:Int→Int→List Int→List Int
 |x,y,[]=>[x % 255,y % 255]
 |x,y,d::t=>sumsG (x+d) (y+(x+d) % 255) t
theorem sumsG_len:∀(x y:Int) (l:List Int),(sumsG x y l).length=2
 |_,_,[]=>rfl
 |x,y,d::t=>by unfold sumsG;exact sumsG_len _ _ t
def zig (x:Int):Nat:=if 0≤x then (2*x).toNat else (-2*x - 1).toNat
def unz (n:Int):Int:=if n % 2=1 then -(n / 2) - 1 else n / 2
def msgF (k mi:Int) (b:Mx):Int:=if k<1∨2<k∨mi<0∨11<mi then 1 else q_ b
def headN (k mi:Int) (b:Mx):List Nat:=[k.toNat,mi.toNat,b.rows.toNat,b.cols.toNat]
def cellN (b:Mx):List Nat:=b.cells.map zig
def bodyB (k mi:Int) (b:Mx):List Int:=wrNs (headN k mi b++cellN b)
def msgB (k mi:Int) (b:Mx):List Int:=bodyB k mi b++sumsG 0 0 (bodyB k mi b)
def rdEnd (b:List Int) (k mi:Int) (m:Mx) (t:List Int):Option ((Int×Int×Mx)×Nat):=
 if msgF k mi m≠0 then none else match t with
  |s0::s1::_=>if sumsG 0 0 (b.take (b.length - t.length))=[s0,s1] then some ((k,mi,m),b.length - t.length+2) else none
  |_=>none
def rdMid (b:List Int) (h t:List Int):Option ((Int×Int×Mx)×Nat):=
 match h with
 |[k,mi,r,c]=>if 24<r∨12<c then none else match rdNs (r*c).toNat t with
  |none=>none
  |some (zs,t')=>rdEnd b k mi ⟨r,c,zs.map unz⟩ t'
 |_=>none
def rdMsg (b:List Int):Option ((Int×Int×Mx)×Nat):=
 match rdNs 4 b with
 |none=>none
 |some (h,t)=>rdMid b h t
theorem msgF_in{k mi:Int}{b:Mx}(h:msgF k mi b=0):1≤k∧k≤2∧0≤mi∧mi≤11∧q_ b=0:=by
 unfold msgF at h
 split at h
 ·cases h
 ·exact ⟨by omega,by omega,by omega,by omega,h⟩
theorem fault_zero{m:Mx}(h:q_ m=0):(0≤m.rows∧m.rows≤24∧0≤m.cols∧m.cols≤12)∧(m.cells.length:Int)=m.rows*m.cols∧∀x∈m.cells,-2147483647≤x∧x≤2147483647:=by
 unfold q_ at h
 by_cases c1:okSides m=false
 ·rw[if_pos c1]at h;cases h
 ·rw[if_neg c1]at h
  by_cases c2:(m.cells.length:Int)≠m.rows*m.cols
  ·rw[if_pos c2]at h;cases h
  ·rw[if_neg c2]at h
   by_cases c3:m.cells.all inEnds=false
   ·rw[if_pos c3]at h;cases h
   ·refine ⟨?_,by omega,fun x hx=>?_⟩
    ·have:okSides m=true:=by simpa using c1
     simp[okSides]at this
     omega
    ·have:m.cells.all inEnds=true:=by simpa using c3
     have:=List.all_eq_true.1 this x hx
     simpa [inEnds] using this
theorem msg_okN{k mi:Int}{b:Mx}(h:msgF k mi b=0):(∀n∈headN k mi b,okN n)∧(∀n∈cellN b,okN n):=by
 obtain ⟨h1,h2,h3,h4,h5⟩:=msgF_in h
 obtain ⟨⟨r1,r2,r3,r4⟩,_,hc⟩:=fault_zero h5
 constructor
 ·intro n hn
  unfold okN
  simp[headN]at hn
  have:n≤1000:=by omega
  exact Nat.lt_of_le_of_lt this (by decide)
 ·intro n hn
  obtain ⟨x,hx,rfl⟩:=List.mem_map.1 hn
  have:=hc x hx
  have hz:zig x≤5000000000:=by unfold zig;split<;>omega
  unfold okN
  exact Nat.lt_of_le_of_lt hz (by decide)
theorem head_cast{k mi:Int}{b:Mx}(h:msgF k mi b=0):(headN k mi b).map (fun (n:Nat)=>(n:Int))=[k,mi,b.rows,b.cols]:=by
 obtain ⟨h1,h2,h3,h4,h5⟩:=msgF_in h
 obtain ⟨⟨r1,r2,r3,r4⟩,_,_⟩:=fault_zero h5
 simp[headN]
 omega
end Go.Proofs.YtaajlggpjholeahDoor
