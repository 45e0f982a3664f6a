/- Small facts for regions whose order is drawn and that hold a call, a box that is made, and a store into it. No program in sight. -/
import Derived.Test.YtniloklglpchfafLists
import Derived.Test.YtniloklglpchfafLBack
import Derived.Deep.CutRange
import Derived.Deep.RegionHeld3
import Derived.Test.YtniloklglpchfafPkLBox
import Derived.Test.YtniloklglpchfafPkStep
namespace Go.Proofs.Ytniloklglpchfaf
open Go.RowKit
theorem szd1(w:World)(a:Obj):w.heap.size+1≤(w.alloc a).drew.heap.size:=by show _≤(w.alloc a).heap.size;rw[World.size_alloc];exact Nat.le_refl _
theorem abv_alloc{n:Nat}{w u:World}{o:Obj}(h:Above n w u):Above n w (u.alloc o):=fun p x hp hx=>p_ (h p x hp hx) o
theorem v_{n B q:Nat}{w u:World}{x:Value}(h:Above n w u)(hB:B<n):Above n w (u.setCell ⟨B,q,none⟩ x):=h.set hB q x
theorem t_{V u:World}{B q:Nat}{x:Value}(h:Below V.heap.size V u)(hB:V.heap.size≤B):Below V.heap.size V (u.setCell ⟨B,q,none⟩ x):=h.setCell hB _
theorem a_{V u:World}{o:Obj}(h:Below V.heap.size V u):Below V.heap.size V (u.alloc o):=b_ h (o_ _ _)
theorem d_{V u:World}(h:Below V.heap.size V u):Below V.heap.size V u.drew:=r_ h
def Cells6 (u:World) (B:Nat) (x y z x' y' z':Value):Prop:=u.cell? ⟨B,0,none⟩=some x∧u.cell? ⟨B,1,none⟩=some y∧u.cell? ⟨B,2,none⟩=some z∧u.cell? ⟨B,3,none⟩=some x'∧u.cell? ⟨B,4,none⟩=some y'∧u.cell? ⟨B,5,none⟩=some z'
theorem cells6_of{u:World}{B:Nat}{x y z x' y' z':Value}(h:Box u B [x,y,z,x',y',z']):Cells6 u B x y z x' y' z':=⟨h 0 _ rfl,h 1 _ rfl,h 2 _ rfl,h 3 _ rfl,h 4 _ rfl,h 5 _ rfl⟩
theorem Box.put{w:World}{B:Nat}{cs:List Value}(h:Box w B cs)(q:Nat)(x:Value):Box (w.setCell ⟨B,q,none⟩ x) B (cs.set q x):=by
 intro j v hv
 rw[List.getElem?_set]at hv
 by_cases hj:q=j
 ·subst hj
  rw[if_pos rfl]at hv
  split at hv
  ·rename_i hlt
   obtain rfl:=Option.some.inj hv
   exact World.cell?_setCell_same _ _ _ (h q _ (List.getElem?_eq_getElem hlt))
  ·cases hv
 ·rw[if_neg hj]at hv
  rw[cell_at_other w B q j x hj]
  exact h j v hv
theorem set_six{w:World}{B:Nat}{a0 a1 a2 a3 a4 a5:Value}(h:Box w B [a0,a1,a2,a3,a4,a5])(y0 y1 y2 y3 y4 y5:Value):Box ((((((w.setCell ⟨B,0,none⟩ y0).setCell ⟨B,1,none⟩ y1).setCell ⟨B,2,none⟩ y2).setCell ⟨B,3,none⟩ y3).setCell ⟨B,4,none⟩ y4).setCell ⟨B,5,none⟩ y5) B [y0,y1,y2,y3,y4,y5]:=(((((h.put 0 y0).put 1 y1).put 2 y2).put 3 y3).put 4 y4).put 5 y5
theorem I_.aboveF{n:Nat}{w u:World}{r c s:Value}{zs:List Int}(h:I_ w s zs)(hf:F_ n (.agg #[r,c,s]))(ha:Above n w u):I_ u s zs:=h.above hf ha
def bkE:List Ly→List Mx→Mx→Int
 |l::ls,x::xs,g=>if backE l x g≠0 then backE l x g else bkE ls xs (backX l x g)
 |_,_,_=>0
def bkX:List Ly→List Mx→Mx→Mx
 |l::ls,x::xs,g=>bkX ls xs (backX l x g)
 |_,_,g=>g
def bkD:List Ly→List Mx→Mx→List (Mx×Mx)
 |l::ls,x::xs,g=>bkD ls xs (backX l x g)++[(gradW l x g,gradB l x g)]
 |_,_,_=>[]
def nbE (ls:List Ly) (ms:List Mx) (g:Mx):Int:=if 12<ls.length then 3 else if ms.length≠ls.length+1 then 2 else if ls=[] then q_ g else bkE ls.reverse (ms.take ls.length).reverse g
def nbX (ls:List Ly) (ms:List Mx) (g:Mx):Mx:=if nbE ls ms g=0 then bkX ls.reverse (ms.take ls.length).reverse g else noMx
def nbD (ls:List Ly) (ms:List Mx) (g:Mx):List (Mx×Mx):=if nbE ls ms g=0 then bkD ls.reverse (ms.take ls.length).reverse g else []
theorem take_end{α:Type}{xs:List α}{k:Nat}{x:α}(h:xs[k]?=some x):xs.take (k+1)=xs.take k++[x]:=by
 obtain ⟨hk,rfl⟩:=List.getElem?_eq_some_iff.1 h
 rw[List.take_succ_eq_append_getElem hk]
section
variable {ls:List Ly} {ms:List Mx} {g:Mx} {k:Nat} {l:Ly} {x:Mx}
end
theorem nbX_no{ls:List Ly}{ms:List Mx}{g:Mx}(h:nbE ls ms g≠0):nbX ls ms g=noMx∧nbD ls ms g=[]:=by unfold nbX nbD;rw[if_neg h,if_neg h];exact ⟨rfl,rfl⟩
theorem part_mid{w w':World}{n:Nat}{r c s:Value}{zs:List Int}(h:I_ w s zs)(hb:Below w.heap.size w w')(hf:F_ n (.agg #[r,c,s])){G:Nat→Prop}(hG:∀b,G b→b<n∨w.heap.size≤b):P_ w' G (.inr zs) s:=by
 refine ⟨h.u_ hb,?_⟩
 by_cases h0:zs=[]
 ·exact .inl h0
 ·obtain ⟨b,hb',hlt⟩:=h.lt h0
  refine .inr fun k hk hg=>?_
  rw[hb']at hk
  obtain rfl:=Option.some.inj hk
  obtain ⟨a,cap,rfl,_,_,h4⟩:=h
  obtain ⟨b2,off,rfl,_⟩:=h4.resolve_left h0
  obtain rfl:b2=b:=by simpa [Value.ownBlock] using hb'
  rcases hf r c ⟨b2,off,none⟩ zs.length cap rfl with h1|h1
  ·exact absurd (List.eq_nil_of_length_eq_zero h1) h0
  ·have h2:n≤b2:=h1
   rcases hG b2 hg with h3|h3<;>omega
theorem Owns.weaken{lo base lo' base':Nat}{w:World}{e:TypeId}{size n:Nat}{v:Value}{sp:List (Int⊕List Int)}(h:Owns lo base w e size v n sp)(hb:base'≤base)(hl:lo≤lo'):Owns lo' base' w e size v n sp:=by
 obtain ⟨cs,h1,h2⟩:=h
 refine ⟨cs,⟨h1.1,?_⟩,h2.map (fun p u hp=>hp.mono (fun b _ hg=>hg.imp id (fun h=>⟨by omega,by omega⟩)))⟩
 rcases h1.2 with h|⟨g,cap,cur,e1,hbg,rest⟩
 ·exact .inl h
 ·exact .inr ⟨g,cap,cur,e1,by omega,rest⟩
section
variable {P:Program} {w:World}
theorem wp_append_owns{o:Oper}{a:Act}{K:Act→World→Prop}{Q:Exit→Act→World→Prop}(s x:Operand)(t:TypeId)
  (ho:o.op=.call { callee:=.builtin .append,args:=#[s,x],argTypes:=#[t,t] })
  (base:Nat) (e:TypeId) (i:TypeInfo) (z:Value) (size bytes:Nat) (ht:P.underlying t=some (.slice e)) (hi:P.info? e=some i) (hz:i.zero=some z)
  (hsize:i.size=size) (hby:i.bytes=bytes) (hzs:z.cells.size=size) (hsz:0<size)
  (lo:Nat) (v:Value) (n:Nat) (sp:List (Int⊕List Int)) (hs:a.eval s=v) (hown:Owns lo base w e size v n sp)
  (ad:Addr) (m c:Nat) (news:List Value) (hx:a.eval x=.slice (some ad) m c) (hl:news.length=m*size) (hnews:∀j u,news[j]?=some u→w.cell? (ad.add j)=some u)
  (sn:List (Int⊕List Int)) (hen:Enc w (fun b=>v.ownBlock=some b∨(lo≤b∧b<base)) sn news)
  (h63:n+m≤maxLen) (hbytes:(n+m)*bytes≤140737488355328) (hbase:base≤w.heap.size)
  (h:∀v' w',Owns lo base w' e size v' (n+m) (sp++sn)→w.grownBy w' v.ownBlock→(v'.ownBlock=v.ownBlock∨v'.ownBlock=some w.heap.size)→K (a.put o.dst v') w'):o.wp P a w K Q:=by
 obtain ⟨cs,h1,h2⟩:=hown
 obtain ⟨v',w',hr,h3,h4,h5⟩:=append_where (P:=P) base t o.type e i z size bytes ht hi hz hsize hby hzs hsz v n cs h1 ad m c news hl hnews hen.one h63 hbytes hbase
 unfold Oper.wp execOp
 simp only[ho,resolve,invoke,builtin,Sem.run_bind,Sem.run_pure,Result.andThen_ok,List.map_toArray,List.map_cons,List.map_nil,hs,hx,hr]
 refine h v' w' ⟨_,h3,(h2.append hen).map (fun p u hp=>hp.grown h4 (fun b hb=>.inl hb) (fun b hlt hg=>?_))⟩ h4 h5
 rcases hg with hg|hg
 ·rcases h5 with h5|h5
  ·exact .inl (h5▸hg)
  ·rw[h5]at hg
   have:=Option.some.inj hg
   omega
 ·exact .inr hg
end
def Keep (p:Nat→Prop) (w u:World):Prop:=∀(a:Addr) x,p a.block→w.cell? a=some x→u.cell? a=some x
theorem Keep.refl(p:Nat→Prop)(w:World):Keep p w w:=fun _ _ _ h=>h
theorem keep_drew{p:Nat→Prop}{w u:World}(h:Keep p w u):Keep p w u.drew:=h
theorem keep_set{p:Nat→Prop}{w u:World}{B q:Nat}{y:Value}(h:Keep p w u)(hB:¬p B):Keep p w (u.setCell ⟨B,q,none⟩ y):=fun a x ha hx=>cell_other (h a x ha hx) (fun (e:a.block=B)=>hB (e▸ha)) q y
end Go.Proofs.Ytniloklglpchfaf
/- Two nets, one behind the other, are one net, there and back: plain facts. No program in sight. -/
namespace Go.Proofs.Ytniloklglpchfaf
def endX:List Ly→Mx→Mx
 |[],x=>x
 |l::ls,x=>endX ls (goX l x)
theorem runE_cons(l:Ly)(ls:List Ly)(x:Mx):runE (l::ls) x=if goE l x≠0 then goE l x else runE ls (goX l x):=rfl
theorem runE_zero{l:Ly}{ls:List Ly}{x:Mx}(h:runE (l::ls) x=0):goE l x=0∧runE ls (goX l x)=0:=by
 by_cases h0:goE l x=0
 ·rw[runE_cons,if_neg (by simp[h0])]at h;exact ⟨h0,h⟩
 ·rw[runE_cons,if_pos h0]at h;exact absurd h h0
theorem runT_len:∀(a:List Ly) (x:Mx),(runT a x).length=a.length
 |[],_=>rfl
 |l::a,x=>by show (goX l x::runT a (goX l x)).length=_;rw[List.length_cons,runT_len a];rfl
theorem endX_at:∀(a:List Ly) (x:Mx),(x::runT a x)[a.length]?=some (endX a x)
 |[],_=>rfl
 |l::a,x=>by
  show (x::goX l x::runT a (goX l x))[a.length+1]?=_
  rw[List.getElem?_cons_succ];exact endX_at a (goX l x)
theorem ngE_iff(a:List Ly)(x:Mx):ngE a x=0↔¬12<a.length∧q_ x=0∧runE a x=0:=by
 unfold ngE
 by_cases h1:12<a.length
 ·rw[if_pos h1];exact ⟨fun h=>by simp at h,fun h=>absurd h1 h.1⟩
 ·rw[if_neg h1]
  by_cases h2:q_ x=0
  ·rw[if_neg (by simp[h2])];exact ⟨fun h=>⟨h1,h2,h⟩,fun h=>h.2.2⟩
  ·rw[if_pos h2];exact ⟨fun h=>absurd h h2,fun h=>absurd h.2.1 h2⟩
theorem bkE_cons(l:Ly)(ls:List Ly)(x:Mx)(xs:List Mx)(g:Mx):bkE (l::ls) (x::xs) g=if backE l x g≠0 then backE l x g else bkE ls xs (backX l x g):=rfl
theorem bkE_zero{l:Ly}{ls:List Ly}{x:Mx}{xs:List Mx}{g:Mx}(h:bkE (l::ls) (x::xs) g=0):backE l x g=0∧bkE ls xs (backX l x g)=0:=by
 by_cases h0:backE l x g=0
 ·rw[bkE_cons,if_neg (by simp[h0])]at h;exact ⟨h0,h⟩
 ·rw[bkE_cons,if_pos h0]at h;exact absurd h h0
theorem bk_app:∀(r1:List Ly) (s1:List Mx) (r2:List Ly) (s2:List Mx) (g:Mx),r1.length=s1.length→
  (bkE (r1++r2) (s1++s2) g=0→bkE r1 s1 g=0∧bkE r2 s2 (bkX r1 s1 g)=0)∧bkX (r1++r2) (s1++s2) g=bkX r2 s2 (bkX r1 s1 g)∧bkD (r1++r2) (s1++s2) g=bkD r2 s2 (bkX r1 s1 g)++bkD r1 s1 g
 |[],[],r2,s2,g,_=>⟨fun h=>⟨rfl,h⟩,rfl,by simp[bkD,bkX]⟩
 |[],_::_,_,_,_,h=>by simp at h
 |_::_,[],_,_,_,h=>by simp at h
 |l::r1,x::s1,r2,s2,g,h=>by
  obtain ⟨i1,i2,i3⟩:=bk_app r1 s1 r2 s2 (backX l x g) (by simpa using h)
  refine ⟨fun he=>?_,i2,?_⟩
  ·obtain ⟨h0,h1⟩:=bkE_zero (ls:=r1++r2) (xs:=s1++s2) he
   obtain ⟨h2,h3⟩:=i1 h1
   exact ⟨by rw[bkE_cons,if_neg (by simp[h0])];exact h2,h3⟩
  ·show bkD (r1++r2) (s1++s2) (backX l x g)++[(gradW l x g,gradB l x g)]=_
   rw[i3,List.append_assoc];rfl
theorem bk_fault{r:List Ly}{s:List Mx}{g:Mx}(h:bkE r s g=0)(h0:r≠[])(hl:r.length=s.length):q_ g=0:=by
 match r,s,hl with
 |[],_,_=>exact absurd rfl h0
 |l::r,x::s,_=>exact (backE_zero (bkE_zero h).1).2.1
 |_::_,[],hl=>simp at hl
theorem nbE_iff(ls:List Ly)(ms:List Mx)(g:Mx):nbE ls ms g=0↔¬12<ls.length∧ms.length=ls.length+1∧q_ g=0∧bkE ls.reverse (ms.take ls.length).reverse g=0:=by
 unfold nbE
 by_cases h1:12<ls.length
 ·rw[if_pos h1];exact ⟨fun h=>by simp at h,fun h=>absurd h1 h.1⟩
 ·rw[if_neg h1]
  by_cases h2:ms.length=ls.length+1
  ·rw[if_neg (by simp[h2])]
   by_cases h3:ls=[]
   ·subst h3
    rw[if_pos rfl]
    exact ⟨fun h=>⟨h1,h2,h,by simp[bkE]⟩,fun h=>h.2.2.1⟩
   ·rw[if_neg h3]
    exact ⟨fun h=>⟨h1,h2,bk_fault h (by simpa using h3) (by simp;omega),h⟩,fun h=>h.2.2.2⟩
  ·rw[if_pos h2];exact ⟨fun h=>by simp at h,fun h=>absurd h.2.1 h2⟩
end Go.Proofs.Ytniloklglpchfaf
/- Batches as plain data: what is wrong with one, how many rows each part has, the parts. No program in sight. -/
namespace Go.Proofs.Ytniloklglpchfaf
open Go.RowKit
def batE (b:Mx×Mx):Int:=if q_ b.1≠0 then q_ b.1 else if q_ b.2≠0 then q_ b.2 else if b.1.rows≠b.2.rows∨b.1.rows=0 then 2 else 0
def cnt (p j:Nat):Nat→Int
 |0=>0
 |i+1=>cnt p j i+if i % p=j then 1 else 0
def szE (rows parts:Int):Int:=if rows<1∨24<rows∨parts<1∨12<parts then 1 else if rows<parts then 2 else 0
def szX (rows parts:Int):List Int:=if szE rows parts=0 then tab parts.toNat (fun j=>cnt parts.toNat j rows.toNat) else []
def begAt (p r:Nat):Nat→Int
 |0=>0
 |j+1=>begAt p r j+cnt p j r
theorem cnt_nonneg(p j:Nat):∀i,0≤cnt p j i
 |0=>Int.le_refl _
 |i+1=>by have:=cnt_nonneg p j i;show 0≤cnt p j i+_;split<;>omega
theorem cnt_le(p j:Nat):∀i,cnt p j i≤(i:Int)
 |0=>Int.le_refl _
 |i+1=>by have:=cnt_le p j i;show cnt p j i+_≤_;split<;>omega
theorem begAt_zero(p:Nat):∀j,begAt p 0 j=0
 |0=>rfl
 |j+1=>by show begAt p 0 j+0=0;rw[begAt_zero p j];rfl
theorem begAt_succ(p r:Nat):∀j,begAt p (r+1) j=begAt p r j+if r % p<j then 1 else 0
 |0=>by simp[begAt]
 |j+1=>by
  show begAt p (r+1) j+(cnt p j r+if r % p=j then 1 else 0)=(begAt p r j+cnt p j r)+_
  rw[begAt_succ p r j]
  by_cases h1:r % p<j
  ·rw[if_pos h1,if_neg (by omega),if_pos (by omega)];omega
  ·by_cases h2:r % p=j
   ·rw[if_neg h1,if_pos h2,if_pos (by omega)];omega
   ·rw[if_neg h1,if_neg h2,if_neg (by omega)];omega
theorem begAt_nonneg(p r:Nat):∀j,0≤begAt p r j
 |0=>Int.le_refl _
 |j+1=>by have:=begAt_nonneg p r j;have:=cnt_nonneg p j r;show 0≤begAt p r j+cnt p j r;omega
theorem begAt_le(p j:Nat):∀r,begAt p r j≤(r:Int)
 |0=>by rw[begAt_zero];exact Int.le_refl _
 |r+1=>by have:=begAt_le p j r;rw[begAt_succ];split<;>omega
theorem cnt_eq(p j:Nat)(hp:0<p)(hj:j<p):∀r,cnt p j r=((r / p:Nat):Int)+if j<r % p then 1 else 0
 |0=>by simp[cnt]
 |r+1=>by
  show cnt p j r+(if r % p=j then 1 else 0)=_
  rw[cnt_eq p j hp hj r]
  have hlt:=Nat.mod_lt r hp
  have hdm:=Nat.div_add_mod r p
  by_cases h:r % p+1<p
  ·have e1:(r+1) / p=r / p:=by
    apply Nat.div_eq_of_lt_le
    ·rw[Nat.mul_comm];omega
    ·rw[Nat.succ_mul,Nat.mul_comm];omega
   have e2:(r+1) % p=r % p+1:=by have h2:=Nat.div_add_mod (r+1) p;rw[e1]at h2;omega
   rw[e1,e2]
   by_cases h1:j<r % p
   ·rw[if_pos h1,if_neg (by omega),if_pos (by omega)];omega
   ·by_cases h2:r % p=j
    ·rw[if_neg h1,if_pos h2,if_pos (by omega)];omega
    ·rw[if_neg h1,if_neg h2,if_neg (by omega)];omega
  ·have e0:r+1=p*(r / p+1):=by rw[Nat.mul_succ];omega
   have e1:(r+1) / p=r / p+1:=by rw[e0,Nat.mul_div_cancel_left _ hp]
   have e2:(r+1) % p=0:=by rw[e0,Nat.mul_mod_right]
   rw[e1,e2]
   by_cases h1:j<r % p
   ·rw[if_pos h1,if_neg (by omega),if_neg (by omega)];omega
   ·rw[if_neg h1,if_pos (by omega),if_neg (by omega)];omega
def partX (b:Mx×Mx) (p r j:Nat):Mx×Mx:=(rowsX b.1 (begAt p r j) (begAt p r (j+1)),rowsX b.2 (begAt p r j) (begAt p r (j+1)))
def splE (b:Mx×Mx) (parts:Int):Int:=if batE b≠0 then batE b else szE b.1.rows parts
def splX (b:Mx×Mx) (parts:Int):List (Mx×Mx):=if splE b parts=0 then (List.range parts.toNat).map (partX b parts.toNat b.1.rows.toNat) else []
theorem bat_good{b:Mx×Mx}(h:batE b=0):q_ b.1=0∧q_ b.2=0∧b.1.rows=b.2.rows∧b.1.rows≠0:=by
 unfold batE at h
 by_cases h1:q_ b.1=0
 ·rw[if_neg (by simp[h1])]at h
  by_cases h2:q_ b.2=0
  ·rw[if_neg (by simp[h2])]at h
   by_cases h3:b.1.rows≠b.2.rows∨b.1.rows=0
   ·rw[if_pos h3]at h;cases h
   ·exact ⟨h1,h2,Classical.byContradiction fun e=>h3 (.inl e),fun e=>h3 (.inr e)⟩
  ·rw[if_pos h2]at h;exact absurd h h2
 ·rw[if_pos h1]at h;exact absurd h h1
def prtG (ls:List Ly) (b:Mx×Mx):Mx:=offX (endX ls b.1) b.2
def prtD (ls:List Ly) (b:Mx×Mx):List (Mx×Mx):=nbD ls (ngX ls b.1) (prtG ls b)
def prtX (ls:List Ly) (b:Mx×Mx):Int:=lossX (endX ls b.1) b.2
def headR (b:Mx×Mx) (parts:Int):Int:=(((splX b parts)[0]?).map (fun d=>d.1.rows)).getD 0
def oneE (ls:List Ly) (ps:List (Mx×Mx)) (n:Int) (b:Mx×Mx) (parts le ke:Int):Int:=
 if stateE ls ps n≠0 then stateE ls ps n else if splE b parts≠0 then splE b parts else if nwE ls b.1.cols≠0 then nwE ls b.1.cols else if nwX ls b.1.cols≠b.2.cols then 2 else if 12<headR b parts∨le<0∨256<le∨ke<0∨256<ke then 1 else 0
end Go.Proofs.Ytniloklglpchfaf
