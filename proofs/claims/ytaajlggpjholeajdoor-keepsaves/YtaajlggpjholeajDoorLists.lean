/- Lists of structs in memory: what stands in their cells (numbers, and slices of ints); a list that is grown by append, whose block is none of its slices' own. No program in sight. -/
import Derived.Test.YtaajlggpjholeajDoorLy
import Derived.Test.YtaajlggpjholeajDoorThree
import Derived.Laws.AppendOwn
namespace Go.Proofs.YtaajlggpjholeajDoor
open Go.RowKit
def P_ (w:World) (G:Nat→Prop):Int⊕List Int→Value→Prop
 |.inl i,u=>u=.int .i64 i
 |.inr zs,u=>I_ w u zs∧(zs=[]∨∀b,u.ownBlock=some b→¬G b)
theorem P_.u_{w w':World}{G:Nat→Prop}{p:Int⊕List Int}{u:Value}(h:P_ w G p u)(hb:Below w.heap.size w w'):P_ w' G p u:=by
 cases p with
 |inl i=>exact h
 |inr zs=>exact ⟨h.1.u_ hb,h.2⟩
def Enc (w:World) (G:Nat→Prop) (sp:List (Int⊕List Int)) (cs:List Value):Prop:=cs.length=sp.length∧∀(j:Nat) p,sp[j]?=some p→∃u,cs[j]?=some u∧P_ w G p u
theorem Enc.nil(w:World)(G:Nat→Prop):Enc w G [] []:=⟨rfl,fun j p h=>by simp at h⟩
theorem Enc.cons{w:World}{G:Nat→Prop}{p:Int⊕List Int}{u:Value}{sp:List (Int⊕List Int)}{cs:List Value}(h:P_ w G p u)(ht:Enc w G sp cs):Enc w G (p::sp) (u::cs):=by
 refine ⟨by simp[ht.1],fun j q hq=>?_⟩
 cases j with
 |zero=>simp at hq;subst hq;exact ⟨u,rfl,h⟩
 |succ j=>simpa using ht.2 j q (by simpa using hq)
def Reads (w:World) (v:Value) (n:Nat) (sp:List (Int⊕List Int)):Prop:=
 ∃(a:Option Addr) (cap:Nat),v=.slice a n cap∧n≤cap∧cap≤maxLen∧(n=0∨∃b off,a=some ⟨b,off,none⟩∧∀(j:Nat) p,sp[j]?=some p→∃u,w.cell? ⟨b,off+j,none⟩=some u∧P_ w (fun _=>False) p u)
theorem Reads.u_{w w':World}{v:Value}{n:Nat}{sp:List (Int⊕List Int)}(h:Reads w v n sp)(hb:Below w.heap.size w w'):Reads w' v n sp:=by
 obtain ⟨a,cap,h1,h2,h3,h4⟩:=h
 refine ⟨a,cap,h1,h2,h3,h4.imp id ?_⟩
 rintro ⟨b,off,ha,hc⟩
 refine ⟨b,off,ha,fun j p hp=>?_⟩
 obtain ⟨u,hu,hp'⟩:=hc j p hp
 exact ⟨u,c_ hb hu,hp'.u_ hb⟩
section
variable {P:Program} {w:World}
end
def mxS (m:Mx):List (Int⊕List Int):=[.inl m.rows,.inl m.cols,.inr m.cells]
def gdS (d:Mx×Mx):List (Int⊕List Int):=mxS d.1++mxS d.2
def lyS (l:Ly):List (Int⊕List Int):=.inl l.k::(mxS l.w++mxS l.b)
theorem flat_at{α β:Type}(f:α→List β)(k:Nat)(hk:∀x,(f x).length=k):∀(xs:List α) (i j:Nat) (x:α),xs[i]?=some x→j<k→(xs.flatMap f)[i*k+j]?=(f x)[j]?:=by
 intro xs
 induction xs with
 |nil=>intro i j x h;simp at h
 |cons y l ih=>
  intro i j x h hj
  rw[List.flatMap_cons]
  cases i with
  |zero=>
   simp at h;subst h
   rw[List.getElem?_append_left (by rw[hk];omega)];simp
  |succ i=>
   rw[List.getElem?_append_right (by rw[hk,Nat.succ_mul];omega),hk,show (i+1)*k+j - k=i*k+j by rw[Nat.succ_mul];omega]
   exact ih i j x (by simpa using h) hj
theorem Reads.at{w:World}{v:Value}{α:Type}{f:α→List (Int⊕List Int)}{k:Nat}(hk:∀x,(f x).length=k){xs:List α}(h:Reads w v xs.length (xs.flatMap f)){i:Nat}{x:α}(hx:xs[i]?=some x):
  ∃b off cap,v=.slice (some ⟨b,off,none⟩) xs.length cap∧∀(j:Nat) p,(f x)[j]?=some p→∃u,w.cell? ⟨b,off+i*k+j,none⟩=some u∧P_ w (fun _=>False) p u:=by
 obtain ⟨a,cap,rfl,_,_,h4⟩:=h
 have hi:i<xs.length:=by
  rcases Nat.lt_or_ge i xs.length with h|h
  ·exact h
  ·rw[List.getElem?_eq_none h]at hx;cases hx
 obtain ⟨b,off,rfl,hc⟩:=h4.resolve_left (by omega)
 refine ⟨b,off,cap,rfl,fun j p hp=>?_⟩
 have hj:j<k:=by
  rw[←hk x]
  rcases Nat.lt_or_ge j (f x).length with h|h
  ·exact h
  ·rw[List.getElem?_eq_none h]at hp;cases hp
 obtain ⟨u,hu,hp'⟩:=hc (i*k+j) p (by rw[flat_at f k hk xs i j x hx hj];exact hp)
 exact ⟨u,by rw[Nat.add_assoc];exact hu,hp'⟩
def Y_ (w:World) (v:Value) (ls:List Ly):Prop:=Reads w v ls.length (ls.flatMap lyS)
def D_ (w:World) (v:Value) (ds:List (Mx×Mx)):Prop:=Reads w v ds.length (ds.flatMap gdS)
theorem Y_.u_{w w':World}{v:Value}{ls:List Ly}(h:Y_ w v ls)(hb:Below w.heap.size w w'):Y_ w' v ls:=Reads.u_ h hb
theorem D_.u_{w w':World}{v:Value}{ds:List (Mx×Mx)}(h:D_ w v ds)(hb:Below w.heap.size w w'):D_ w' v ds:=Reads.u_ h hb
theorem Y_.shape{w:World}{v:Value}{ls:List Ly}(h:Y_ w v ls):∃a cap,v=.slice a ls.length cap∧ls.length≤cap∧cap≤maxLen:=by obtain ⟨a,cap,h1,h2,h3,_⟩:=h;exact ⟨a,cap,h1,h2,h3⟩
theorem D_.shape{w:World}{v:Value}{ds:List (Mx×Mx)}(h:D_ w v ds):∃a cap,v=.slice a ds.length cap∧ds.length≤cap∧cap≤maxLen:=by obtain ⟨a,cap,h1,h2,h3,_⟩:=h;exact ⟨a,cap,h1,h2,h3⟩
theorem Y_.at{w:World}{v:Value}{ls:List Ly}(h:Y_ w v ls){i:Nat}{l:Ly}(hl:ls[i]?=some l):∃b off cap sa sn sk ta tn tk,v=.slice (some ⟨b,off,none⟩) ls.length cap∧
  w.cell? ⟨b,off+i*7,none⟩=some (.int .i64 l.k)∧w.cell? ⟨b,off+i*7+1,none⟩=some (.int .i64 l.w.rows)∧w.cell? ⟨b,off+i*7+2,none⟩=some (.int .i64 l.w.cols)∧w.cell? ⟨b,off+i*7+3,none⟩=some (.slice sa sn sk)∧
  w.cell? ⟨b,off+i*7+4,none⟩=some (.int .i64 l.b.rows)∧w.cell? ⟨b,off+i*7+5,none⟩=some (.int .i64 l.b.cols)∧w.cell? ⟨b,off+i*7+6,none⟩=some (.slice ta tn tk)∧
  IsLy w (.agg #[.int .i64 l.k,.int .i64 l.w.rows,.int .i64 l.w.cols,.slice sa sn sk,.int .i64 l.b.rows,.int .i64 l.b.cols,.slice ta tn tk]) l:=by
 obtain ⟨b,off,cap,hv,hc⟩:=Reads.at (f:=lyS) (k:=7) (fun _=>rfl) h hl
 obtain ⟨_,c0,rfl⟩:=hc 0 _ rfl
 obtain ⟨_,c1,rfl⟩:=hc 1 _ rfl
 obtain ⟨_,c2,rfl⟩:=hc 2 _ rfl
 obtain ⟨s,c3,hs,_⟩:=hc 3 _ rfl
 obtain ⟨_,c4,rfl⟩:=hc 4 _ rfl
 obtain ⟨_,c5,rfl⟩:=hc 5 _ rfl
 obtain ⟨t,c6,ht,_⟩:=hc 6 _ rfl
 obtain ⟨sa,sn,sk,rfl⟩:=hs.shape
 obtain ⟨ta,tn,tk,rfl⟩:=ht.shape
 exact ⟨b,off,cap,sa,sn,sk,ta,tn,tk,hv,c0,c1,c2,c3,c4,c5,c6,⟨_,_,rfl,hs,ht⟩⟩
theorem Y_.ints{w:World}{l:Ly}{k r c s r' c' t:Value}(h:IsLy w (.agg #[k,r,c,s,r',c',t]) l):I_ w s l.w.cells∧I_ w t l.b.cells:=by
 obtain ⟨s',t',e,hs,ht⟩:=h
 have e2:=Array.mk.inj (Value.agg.inj e)
 simp at e2
 obtain ⟨_,_,_,rfl,_,_,rfl⟩:=e2
 exact ⟨hs,ht⟩
theorem D_.at{w:World}{v:Value}{ds:List (Mx×Mx)}(h:D_ w v ds){i:Nat}{d:Mx×Mx}(hd:ds[i]?=some d):∃b off cap sa sn sk ta tn tk,v=.slice (some ⟨b,off,none⟩) ds.length cap∧
  w.cell? ⟨b,off+i*6,none⟩=some (.int .i64 d.1.rows)∧w.cell? ⟨b,off+i*6+1,none⟩=some (.int .i64 d.1.cols)∧w.cell? ⟨b,off+i*6+2,none⟩=some (.slice sa sn sk)∧
  w.cell? ⟨b,off+i*6+3,none⟩=some (.int .i64 d.2.rows)∧w.cell? ⟨b,off+i*6+4,none⟩=some (.int .i64 d.2.cols)∧w.cell? ⟨b,off+i*6+5,none⟩=some (.slice ta tn tk)∧
  I_ w (.slice sa sn sk) d.1.cells∧I_ w (.slice ta tn tk) d.2.cells:=by
 obtain ⟨b,off,cap,hv,hc⟩:=Reads.at (f:=gdS) (k:=6) (fun _=>rfl) h hd
 obtain ⟨_,c0,rfl⟩:=hc 0 _ rfl
 obtain ⟨_,c1,rfl⟩:=hc 1 _ rfl
 obtain ⟨s,c2,hs,_⟩:=hc 2 _ rfl
 obtain ⟨_,c3,rfl⟩:=hc 3 _ rfl
 obtain ⟨_,c4,rfl⟩:=hc 4 _ rfl
 obtain ⟨t,c5,ht,_⟩:=hc 5 _ rfl
 obtain ⟨sa,sn,sk,rfl⟩:=hs.shape
 obtain ⟨ta,tn,tk,rfl⟩:=ht.shape
 exact ⟨b,off,cap,sa,sn,sk,ta,tn,tk,hv,c0,c1,c2,c3,c4,c5,hs,ht⟩
end Go.Proofs.YtaajlggpjholeajDoor
