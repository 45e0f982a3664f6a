/- Lists of one's own that grow side by side: none of their slices lies in the block of either. No program in sight. -/
import Derived.Test.YtniloklglpchfafPkReg
namespace Go.Proofs.Ytniloklglpchfaf
open Go.RowKit
def OwnsX (X:Nat→Prop) (base:Nat) (w:World) (e:TypeId) (size:Nat) (v:Value) (n:Nat) (sp:List (Int⊕List Int)):Prop:=∃cs,w.ownsRow base e size v n cs∧Enc w (fun b=>v.ownBlock=some b∨X b) sp cs
theorem OwnsX.room{X:Nat→Prop}{base:Nat}{w:World}{e:TypeId}{size cap:Nat}(cs:Array Value)(hb:base≤w.heap.size)(hc:cap≤maxLen)(hs:cs.size=cap*size):OwnsX X base (w.alloc (.cells cs e)) e size (.slice (some ⟨w.heap.size,0,none⟩) 0 cap) 0 []:=
 ⟨[],⟨by simp,.inr ⟨w.heap.size,cap,cs,rfl,hb,heap_alloc_new w _,Nat.zero_le _,hc,hs,by simp⟩⟩,Enc.nil _ _⟩
theorem OwnsX.u_{X:Nat→Prop}{base:Nat}{w w':World}{e:TypeId}{size n:Nat}{v:Value}{sp:List (Int⊕List Int)}(h:OwnsX X base w e size v n sp)(hb:Below w.heap.size w w'):OwnsX X base w' e size v n sp:=by
 obtain ⟨cs,h1,h2⟩:=h
 exact ⟨cs,h1.kept (below_grown hb) (by cases hv:v.ownBlock<;>simp),h2.map (fun p u hp=>hp.u_ hb)⟩
theorem OwnsX.lt{X:Nat→Prop}{base:Nat}{w:World}{e:TypeId}{size n:Nat}{v:Value}{sp:List (Int⊕List Int)}(h:OwnsX X base w e size v n sp):∀k,v.ownBlock=some k→base≤k∧k<w.heap.size:=by
 obtain ⟨cs,h1,_⟩:=h;exact World.ownsRow.lt h1
theorem OwnsX.low{P:Nat→Prop}{base m:Nat}{w:World}{e:TypeId}{size n:Nat}{v:Value}{sp:List (Int⊕List Int)}(h:OwnsX (fun b=>P b∨b<m) base w e size v n sp)(hm:m≤base):Owns 0 m w e size v n sp:=by
 obtain ⟨cs,h1,h2⟩:=h
 refine ⟨cs,⟨h1.1,?_⟩,h2.map (fun p u hp=>hp.mono (fun b _ hg=>hg.imp id (fun h=>.inr h.2)))⟩
 rcases h1.2 with h|⟨g,cap,cur,e1,hbg,rest⟩
 ·exact .inl h
 ·exact .inr ⟨g,cap,cur,e1,by omega,rest⟩
theorem OwnsX.kept{X X':Nat→Prop}{base:Nat}{w w':World}{g:Option Nat}{e:TypeId}{size n:Nat}{v:Value}{sp:List (Int⊕List Int)}(h:OwnsX X base w e size v n sp)(hg:w.grownBy w' g)(hne:∀b,v.ownBlock=some b→g≠some b)(hX:∀b,g=some b→X b)(hX':∀b,b<w.heap.size→X' b→X b):OwnsX X' base w' e size v n sp:=by
 obtain ⟨cs,h1,h2⟩:=h
 refine ⟨cs,h1.kept hg ?_,h2.map (fun p u hp=>hp.grown hg (fun b hb=>.inr (hX b hb)) (fun b hlt hb=>hb.imp id (hX' b hlt)))⟩
 cases hv:v.ownBlock with
 |none=>exact .inl rfl
 |some b=>exact .inr (fun e=>hne b hv e.symm)
section
variable {P:Program} {w:World}
theorem run_append_ownsX(base:Nat)(t ty e:TypeId)(i:TypeInfo)(z:Value)(size bytes:Nat)(ht:P.underlying t=some (.slice e))(hi:P.info? e=some i)(hz:i.zero=some z)
  (hsize:i.size=size) (hby:i.bytes=bytes) (hzs:z.cells.size=size) (hsz:0<size)
  (X:Nat→Prop) (v:Value) (n:Nat) (sp:List (Int⊕List Int)) (hown:OwnsX X base w e size v n sp)
  (ad:Addr) (m c:Nat) (news:List Value) (hl:news.length=m*size) (hnews:∀j u,news[j]?=some u→w.cell? (ad.add j)=some u)
  (sn:List (Int⊕List Int)) (hen:Enc w (fun b=>v.ownBlock=some b∨X b) sn news)
  (h63:n+m≤maxLen) (hbytes:(n+m)*bytes≤140737488355328) (hbase:base≤w.heap.size) (hXl:∀b,X b→b<w.heap.size):
  ∃v' w',(Builtin.append_ #[t,t] ty #[v,.slice (some ad) m c]).run P w=.ok v' w'∧OwnsX X base w' e size v' (n+m) (sp++sn)∧w.grownBy w' v.ownBlock∧(v'.ownBlock=v.ownBlock∨v'.ownBlock=some w.heap.size)∧(∀b,X b→v.ownBlock≠some b→v'.ownBlock≠some b):=by
 obtain ⟨cs,h1,h2⟩:=hown
 obtain ⟨v',w',hr,h3,h4,h5⟩:=append_where (P:=P) base t ty e i z size bytes ht hi hz hsize hby hzs hsz v n cs h1 ad m c news hl hnews hen.one h63 hbytes hbase
 refine ⟨v',w',hr,⟨_,h3,(h2.append hen).map (fun p u hp=>hp.grown h4 (fun b hb=>.inl hb) (fun b hlt hg=>?_))⟩,h4,h5,fun b hX hne he=>?_⟩
 ·rcases hg with hg|hg
  ·rcases h5 with h5|h5
   ·exact .inl (h5▸hg)
   ·rw[h5]at hg
    have:=Option.some.inj hg
    omega
  ·exact .inr hg
 ·rcases h5 with h5|h5
  ·exact hne (h5▸he)
  ·rw[h5]at he
   have:=Option.some.inj he
   have:=hXl b hX
   omega
theorem wp_append_ownsX{o:Oper}{a:Act}{K:Act→World→Prop}{Q:Exit→Act→World→Prop}(s x:Operand)(t:TypeId)
  (ho:o.op=.call { callee:=.builtin .append,args:=#[s,x],argTypes:=#[t,t] })
  (base:Nat) (e:TypeId) (i:TypeInfo) (z:Value) (size bytes:Nat) (ht:P.underlying t=some (.slice e)) (hi:P.info? e=some i) (hz:i.zero=some z)
  (hsize:i.size=size) (hby:i.bytes=bytes) (hzs:z.cells.size=size) (hsz:0<size)
  (X:Nat→Prop) (v:Value) (n:Nat) (sp:List (Int⊕List Int)) (hs:a.eval s=v) (hown:OwnsX X base w e size v n sp)
  (ad:Addr) (m c:Nat) (news:List Value) (hx:a.eval x=.slice (some ad) m c) (hl:news.length=m*size) (hnews:∀j u,news[j]?=some u→w.cell? (ad.add j)=some u)
  (sn:List (Int⊕List Int)) (hen:Enc w (fun b=>v.ownBlock=some b∨X b) sn news)
  (h63:n+m≤maxLen) (hbytes:(n+m)*bytes≤140737488355328) (hbase:base≤w.heap.size) (hXl:∀b,X b→b<w.heap.size)
  (h:∀v' w',OwnsX X base w' e size v' (n+m) (sp++sn)→w.grownBy w' v.ownBlock→(v'.ownBlock=v.ownBlock∨v'.ownBlock=some w.heap.size)→(∀b,X b→v.ownBlock≠some b→v'.ownBlock≠some b)→K (a.put o.dst v') w'):o.wp P a w K Q:=by
 obtain ⟨v',w',hr,h1,h2,h3,h4⟩:=run_append_ownsX (P:=P) base t o.type e i z size bytes ht hi hz hsize hby hzs hsz X v n sp hown ad m c news hl hnews sn hen h63 hbytes hbase hXl
 unfold Oper.wp execOp
 simp only[ho,resolve,invoke,builtin,Sem.run_bind,Sem.run_pure,Result.andThen_ok,List.map_toArray,List.map_cons,List.map_nil,hs,hx,hr]
 exact h v' w' h1 h2 h3 h4
theorem wpList_append_ownsX{ops:Array Oper}{rest:List Oper}{o:Oper}{a:Act}{Q:Exit→Act→World→Prop}(hgd:o.guard=none)(s x:Operand)(t:TypeId)
  (ho:o.op=.call { callee:=.builtin .append,args:=#[s,x],argTypes:=#[t,t] })
  (base:Nat) (e:TypeId) (i:TypeInfo) (z:Value) (size bytes:Nat) (ht:P.underlying t=some (.slice e)) (hi:P.info? e=some i) (hz:i.zero=some z)
  (hsize:i.size=size) (hby:i.bytes=bytes) (hzs:z.cells.size=size) (hsz:0<size)
  (X:Nat→Prop) (v:Value) (n:Nat) (sp:List (Int⊕List Int)) (hs:a.eval s=v) (hown:OwnsX X base w e size v n sp)
  (ad:Addr) (m c:Nat) (news:List Value) (hx:a.eval x=.slice (some ad) m c) (hl:news.length=m*size) (hnews:∀j u,news[j]?=some u→w.cell? (ad.add j)=some u)
  (sn:List (Int⊕List Int)) (hen:Enc w (fun b=>v.ownBlock=some b∨X b) sn news)
  (h63:n+m≤maxLen) (hbytes:(n+m)*bytes≤140737488355328) (hbase:base≤w.heap.size) (hXl:∀b,X b→b<w.heap.size)
  (h:∀v' w',OwnsX X base w' e size v' (n+m) (sp++sn)→w.grownBy w' v.ownBlock→(v'.ownBlock=v.ownBlock∨v'.ownBlock=some w.heap.size)→(∀b,X b→v.ownBlock≠some b→v'.ownBlock≠some b)→wpList P ops Q rest (a.put o.dst v') w'):wpList P ops Q (o::rest) a w:=
 wpList_plain hgd fun _ hK=>wp_append_ownsX s x t ho base e i z size bytes ht hi hz hsize hby hzs hsz X v n sp hs hown ad m c news hx hl hnews sn hen h63 hbytes hbase hXl (fun v' w' h1 h2 h3 h4=>hK _ _ (h v' w' h1 h2 h3 h4))
end
end Go.Proofs.Ytniloklglpchfaf
