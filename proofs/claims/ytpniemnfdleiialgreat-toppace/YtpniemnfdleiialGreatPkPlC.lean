/- Lists of acts, and plans, that grow by append. -/
import Derived.Test.YtpniemnfdleiialGreatPkPlB
import Derived.Laws.AppendOwn
import Derived.Maps.Keyed
import Derived.Maps.OwnSet
import Derived.DeepKeys4
namespace Go.Proofs.YtpniemnfdleiialGreat
open Go.RowKit
theorem append_wh{P:Program}{w:World}(base:Nat)(t ty e:TypeId)(i:TypeInfo)(z:Value)(size bytes:Nat)(ht:P.underlying t=some (.slice e))(hi:P.info? e=some i)(hz:i.zero=some z)
  (hsize:i.size=size) (hby:i.bytes=bytes) (hzs:z.cells.size=size) (hsz:0<size) (v:Value) (n:Nat) (xs:List Value) (hown:w.ownsRow base e size v n xs)
  (a:Addr) (m c:Nat) (news:List Value) (hl:news.length=m*size) (hnews:∀j u,news[j]?=some u→w.cell? (a.add j)=some u) (h1:∀u∈news,u.oneCell'=true)
  (h63:n+m≤maxLen) (hbytes:(n+m)*bytes≤140737488355328) (hbase:base≤w.heap.size):
  ∃v' w',(Builtin.append_ #[t,t] ty #[v,.slice (some a) m c]).run P w=.ok v' w'∧w'.ownsRow base e size v' (n+m) (xs++news)∧w.grownBy w' v.ownBlock∧(v'.ownBlock=v.ownBlock∨v'.ownBlock=some w.heap.size):=by
 obtain ⟨v',w',hr,h2,h3,h4⟩:=run_append_own (P:=P) w base t ty e i z size bytes ht hi hz hsize hby hzs hsz v n xs hown a m c news hl hnews h1 h63 hbytes hbase
 refine ⟨v',w',hr,h2,h3,?_⟩
 subst hsize hby
 have hsmall:n+m≤9223372036854775807:=by simp only[maxLen]at h63;omega
 rcases hown.2 with ⟨rfl,rfl⟩|⟨g,cap,cur,rfl,hbg,hg,hnc,hcm,hcs,htake⟩
 ·by_cases hm:m=0
  ·rw[h4.2 ⟨rfl,hm⟩];exact .inl rfl
  ·have hr':=run_append_nil (P:=P) w t ty e i z ht hi hz a m c news hl hnews (by omega) (by omega) (by have hb:=hbytes;simp only[Nat.zero_add]at hb;omega)
   have e:=hr.symm.trans hr'
   injection e with e1 _
   rw[e1];exact .inr rfl
 ·by_cases hroom:n+m≤cap
  ·have hfit:n*i.size+news.length≤cur.size:=by rw[hl,hcs,←Nat.add_mul];exact Nat.mul_le_mul_right _ hroom
   have hr':=run_append_room (P:=P) w t ty e i ht hi g n cap cur hg a m c news hl hnews h1 hroom hfit
   have e:=hr.symm.trans hr'
   injection e with e1 _
   rw[e1];exact .inl rfl
  ·have hr':=run_append_grow (P:=P) w t ty e i z ht hi hz ⟨g,0,none⟩ n cap xs hown.1 (hown.cells (g:=g) rfl) a m c news hl hnews (by omega) (by omega) (growslice_fits (by omega) hbytes)
   have e:=hr.symm.trans hr'
   injection e with e1 _
   rw[e1];exact .inr rfl
theorem wpList_append_wh{P:Program}{w:World}{ops:Array Oper}{rest:List Oper}{o:Oper}{a:Act}{Q:Exit→Act→World→Prop}(hgd:o.guard=none)(s x:Operand)(t:TypeId)
  (ho:o.op=.call { callee:=.builtin .append,args:=#[s,x],argTypes:=#[t,t] })
  (base:Nat) (e:TypeId) (i:TypeInfo) (z:Value) (size bytes:Nat) (ht:P.underlying t=some (.slice e)) (hi:P.info? e=some i) (hz:i.zero=some z)
  (hsize:i.size=size) (hby:i.bytes=bytes) (hzs:z.cells.size=size) (hsz:0<size)
  (v:Value) (n:Nat) (xs:List Value) (hs:a.eval s=v) (hown:w.ownsRow base e size v n xs)
  (ad:Addr) (m c:Nat) (news:List Value) (hx:a.eval x=.slice (some ad) m c) (hl:news.length=m*size) (hnews:∀j u,news[j]?=some u→w.cell? (ad.add j)=some u) (h1:∀u∈news,u.oneCell'=true)
  (h63:n+m≤maxLen) (hbytes:(n+m)*bytes≤140737488355328) (hbase:base≤w.heap.size)
  (h:∀v' w',w'.ownsRow base e size v' (n+m) (xs++news)→w.grownBy w' v.ownBlock→(v'.ownBlock=v.ownBlock∨v'.ownBlock=some w.heap.size)→wpList P ops Q rest (a.put o.dst v') w'):wpList P ops Q (o::rest) a w:=by
 obtain ⟨v',w',hr,h3,h4,h5⟩:=append_wh (P:=P) base t o.type e i z size bytes ht hi hz hsize hby hzs hsz v n xs hown ad m c news hl hnews h1 h63 hbytes hbase
 refine wpList_plain hgd fun K hK=>?_
 unfold Oper.wp execOp
 simp only[ho,resolve,invoke,builtin,Sem.run_bind,Sem.run_pure,Result.andThen_ok,List.map_toArray,List.map_cons,List.map_nil,hs,hx,hr]
 exact hK _ _ (h v' w' h3 h4 h5)
theorem infoAct:(Tryz.prog.info? 105).map (fun i=>(i.zero,i.size,i.bytes))=some (some (.agg #[.int .i64 0,.int .i64 0]),2,16):=by kernel_rfl
theorem infoActs:(Tryz.prog.info? 97).map (fun i=>(i.zero,i.size,i.bytes))=some (some (.slice none 0 0),1,24):=by kernel_rfl
def cellsA (l:List (Int×Int)):List Value:=l.flatMap (fun a=>[Value.int .i64 a.1,Value.int .i64 a.2])
theorem cellsA_at:∀{l:List (Int×Int)} {i:Nat} {x:Int×Int},l[i]?=some x→(cellsA l)[i*2]?=some (.int .i64 x.1)∧(cellsA l)[i*2+1]?=some (.int .i64 x.2)
 |[],i,x,h=>by simp at h
 |y::t,0,x,h=>by
  have:y=x:=by simpa using h
  subst this;exact ⟨rfl,rfl⟩
 |y::t,i+1,x,h=>by
  have:=cellsA_at (l:=t) (i:=i) (x:=x) (by simpa using h)
  have e:cellsA (y::t)=Value.int .i64 y.1::Value.int .i64 y.2::cellsA t:=rfl
  rw[e,show (i+1)*2=i*2+1+1 by omega]
  exact this
theorem cellsA_snoc(l:List (Int×Int))(x:Int×Int):cellsA (l++[x])=cellsA l++[.int .i64 x.1,.int .i64 x.2]:=by simp[cellsA]
def OwnA (w:World) (base:Nat) (v:Value) (l:List (Int×Int)):Prop:=w.ownsRow base 105 2 v l.length (cellsA l)
theorem OwnA.alloc{w:World}{base:Nat}{v:Value}{l:List (Int×Int)}(h:OwnA w base v l)(o:Obj):OwnA (w.alloc o) base v l:=World.ownsRow.alloc h o
theorem OwnA.isActs{w:World}{base:Nat}{v:Value}{l:List (Int×Int)}(h:OwnA w base v l):IsActs w v l:=by
 have hc:=fun g e=>World.ownsRow.cells h (g:=g) e
 obtain ⟨h1,h2⟩:=h
 rcases h2 with ⟨rfl,e⟩|⟨g,cap,cur,rfl,_,_,h3,h4,_,_⟩
 ·obtain rfl:l=[]:=List.eq_nil_of_length_eq_zero e
  exact IsActs.nil w
 ·refine ⟨some ⟨g,0,none⟩,cap,rfl,h3,h4,.inr ⟨g,0,rfl,fun i x hx=>?_⟩⟩
  obtain ⟨q1,q2⟩:=cellsA_at hx
  have c1:=hc g rfl _ _ q1
  have c2:=hc g rfl _ _ q2
  rw[Addr.add_lit]at c1 c2
  exact ⟨c1,by rw[Nat.add_assoc];exact c2⟩
theorem OwnA.shape{w:World}{base:Nat}{v:Value}{l:List (Int×Int)}(h:OwnA w base v l):∃a k,v=.slice a l.length k:=h.isActs.shape
theorem OwnA.room{w w0 w':World}{base:Nat}{v:Value}{l:List (Int×Int)}(h:OwnA w base v l)(hg:w.grownBy w' v.ownBlock)(hb:Below w0.heap.size w0 w)(hle:w0.heap.size≤base):Below w0.heap.size w0 w':=
 hb.grown hg hb.size (fun k hk=>Nat.le_trans hle (World.ownsRow.lt h k hk).1)
theorem app_act{w:World}{ops:Array Oper}{rest:List Oper}{o:Oper}{a:Act}{Q:Exit→Act→World→Prop}(hgd:o.guard=none)(s x:Operand)
  (ho:o.op=.call { callee:=.builtin .append,args:=#[s,x],argTypes:=#[97,97] }) (base:Nat) (v:Value) (l:List (Int×Int)) (kd mi:Int) (hs:a.eval s=v) (hown:OwnA (w.alloc (.cells #[.int .i64 kd,.int .i64 mi] 105)) base v l) (hx:a.eval x=.slice (some ⟨w.heap.size,0,none⟩) 1 1)
  (hsm:l.length≤1000) (hbase:base≤w.heap.size)
  (h:∀v' w',OwnA w' base v' (l++[(kd,mi)])→(∀w0:World,Below w0.heap.size w0 (w.alloc (.cells #[.int .i64 kd,.int .i64 mi] 105))→w0.heap.size≤base→Below w0.heap.size w0 w')→wpList Tryz.prog ops Q rest (a.put o.dst v') w'):wpList Tryz.prog ops Q (o::rest) a (w.alloc (.cells #[.int .i64 kd,.int .i64 mi] 105)):=by
 obtain ⟨e0,ei,hz0,hz1,hz2⟩:=info_parts infoAct
 refine wpList_append_own _ hgd s x 97 ho base 105 e0 (.agg #[.int .i64 0,.int .i64 0]) 2 16 Tryz.underlying97 ei hz0 hz1 hz2 rfl (by decide) v _ _ hs hown ⟨w.heap.size,0,none⟩ 1 1 [.int .i64 kd,.int .i64 mi] hx rfl ?_ ?_ (by unfold maxLen;omega) (by omega) (by rw[World.size_alloc];omega) ?_
 ·intro j u hj
  match j,hj with
  |0,hj=>simp at hj;subst hj;simp[Addr.add]
  |1,hj=>simp at hj;subst hj;simp[Addr.add]
 ·intro u hu;simp at hu;rcases hu with rfl|rfl<;>rfl
 ·intro v' w' ho' hg _
  refine h v' w' ?_ (fun w0 hb hle=>hown.room hg hb hle)
  unfold OwnA
  rw[List.length_append,cellsA_snoc]
  exact ho'
def OffB (s:Value) (l:List (Int×Int)) (B:Option Nat):Prop:=l=[]∨∀a n k,s=.slice (some a) n k→some a.block≠B
theorem IsActs.grown{w w':World}{s:Value}{l:List (Int×Int)}{B:Option Nat}(h:IsActs w s l)(ho:OffB s l B)(hg:w.grownBy w' B):IsActs w' s l:=by
 obtain ⟨a,cap,h1,h2,h3,h4⟩:=h
 refine ⟨a,cap,h1,h2,h3,?_⟩
 rcases h4 with h4|⟨b,off,ha,hc⟩
 ·exact .inl h4
 ·rcases ho with ho|ho
  ·exact .inl ho
  ·subst ha
   have hne:=ho ⟨b,off,none⟩ _ _ h1
   exact .inr ⟨b,off,rfl,fun i x hx=>⟨hg.cell (hc i x hx).1 hne,hg.cell (hc i x hx).2 hne⟩⟩
theorem IsActs.lt{w:World}{a:Addr}{n k:Nat}{l:List (Int×Int)}(h:IsActs w (.slice (some a) n k) l):l=[]∨a.block<w.heap.size:=by
 obtain ⟨a',cap,h1,h2,h3,h4⟩:=h
 rcases h4 with h4|⟨b,off,ha,hc⟩
 ·exact .inl h4
 ·have h1:=(Value.slice.inj h1).1
  rw[ha]at h1
  have h1:=Option.some.inj h1
  subst h1
  cases l with
  |nil=>exact .inl rfl
  |cons x t=>exact .inr (World.block_lt_of_cell? w _ (hc 0 x rfl).1)
def OwnP (w:World) (base:Nat) (v:Value) (p:List (List (Int×Int))):Prop:=∃xs,w.ownsRow base 97 1 v p.length xs∧∀(i:Nat) (l:List (Int×Int)),p[i]?=some l→∃s,xs[i]?=some s∧IsActs w s l∧OffB s l v.ownBlock
theorem OwnP.u_{w w':World}{base:Nat}{v:Value}{p:List (List (Int×Int))}(h:OwnP w base v p)(hb:Below w.heap.size w w'):OwnP w' base v p:=by
 obtain ⟨xs,h1,h2⟩:=h
 refine ⟨xs,World.ownsRow.kept (row:=none) h1 ⟨hb.os,hb.tape,hb.output,hb.size,fun k hk _=>hb.block k hk⟩ ?_,fun i l hl=>?_⟩
 ·cases e:v.ownBlock with
  |none=>exact .inl rfl
  |some k=>exact .inr (by simp)
 ·obtain ⟨s,q1,q2,q3⟩:=h2 i l hl
  exact ⟨s,q1,q2.u_ hb,q3⟩
theorem OwnP.isPlan{w:World}{base:Nat}{v:Value}{p:List (List (Int×Int))}(h:OwnP w base v p):IsPlan w v p:=by
 obtain ⟨xs,h1,h2⟩:=h
 have hc:=fun g e=>World.ownsRow.cells h1 (g:=g) e
 obtain ⟨q1,q2⟩:=h1
 rcases q2 with ⟨rfl,e⟩|⟨g,cap,cur,rfl,_,_,h3,h4,_,_⟩
 ·obtain rfl:p=[]:=List.eq_nil_of_length_eq_zero e
  exact IsPlan.nil w
 ·refine ⟨some ⟨g,0,none⟩,cap,rfl,h3,h4,.inr ⟨g,0,rfl,fun i l hl=>?_⟩⟩
  obtain ⟨s,a1,a2,_⟩:=h2 i l hl
  have:=hc g rfl i s a1
  rw[Addr.add_lit]at this
  exact ⟨s,this,a2⟩
theorem OwnP.shape{w:World}{base:Nat}{v:Value}{p:List (List (Int×Int))}(h:OwnP w base v p):∃a k,v=.slice a p.length k:=h.isPlan.shape
theorem OwnP.lt{w:World}{base:Nat}{v:Value}{p:List (List (Int×Int))}(h:OwnP w base v p):∀k,v.ownBlock=some k→base≤k∧k<w.heap.size:=by obtain ⟨xs,h1,_⟩:=h;exact World.ownsRow.lt h1
theorem OwnA.off{w:World}{base:Nat}{s:Value}{l:List (Int×Int)}(h:OwnA w base s l){B:Option Nat}(hB:∀k,B=some k→k<base):OffB s l B:=by
 right
 intro a n k e hb
 have:=(World.ownsRow.lt h a.block (by rw[e];rfl)).1
 have:=hB a.block hb.symm
 omega
def fwdL (n:Nat):List (Int×Int):=(List.range n).map (fun (i:Nat)=>((1:Int),(i:Int)))
theorem fwdL_succ(n:Nat):fwdL (n+1)=fwdL n++[(1,(n:Int))]:=by simp[fwdL,List.range_succ]
theorem fwdL_len(n:Nat):(fwdL n).length=n:=by simp[fwdL]
def turnL (first M:Nat):Nat→List (Int×Int)
 |0=>[]
 |i+1=>turnL first M i++(if first+i<M then [((1:Int),((first+i:Nat):Int))] else [])++[(2,(i:Int))]
theorem turnL_len(first M:Nat):∀i,(turnL first M i).length≤2*i
 |0=>by simp[turnL]
 |i+1=>by
  have:=turnL_len first M i
  unfold turnL
  split<;>simp<;>omega
def firstN (S M:Nat) (wave:Bool) (s:Nat):Nat:=if wave=true∨M<S - 1 - s then M else S - 1 - s
def stageX (S M:Nat) (wave:Bool) (s:Nat):List (Int×Int):=fwdL (firstN S M wave s)++turnL (firstN S M wave s) M M
def planX (S M:Nat) (wave:Bool):List (List (Int×Int)):=(List.range S).map (stageX S M wave)
def planN (S M:Nat) (wave:Bool) (k:Nat):List (List (Int×Int)):=(List.range k).map (stageX S M wave)
theorem planN_succ(S M:Nat)(wave:Bool)(k:Nat):planN S M wave (k+1)=planN S M wave k++[stageX S M wave k]:=by simp[planN,List.range_succ]
theorem planN_len(S M:Nat)(wave:Bool)(k:Nat):(planN S M wave k).length=k:=by simp[planN]
def makeE (S M:Int):Int:=if S<1∨6<S∨M<1∨12<M then 1 else 0
def makeX (S M:Int) (wave:Bool):List (List (Int×Int)):=if S<1∨6<S∨M<1∨12<M then [] else planX S.toNat M.toNat wave
def keyD (d:Int×Int×Int):Value:=.agg #[.int .i64 d.1,.int .i64 d.2.1,.int .i64 d.2.2]
def okD (d:Int×Int×Int):Prop:=0≤d.1∧d.1≤100∧0≤d.2.1∧d.2.1≤100∧0≤d.2.2∧d.2.2≤100
theorem keyD_inj{a b:Int×Int×Int}(h:keyD a=keyD b):a=b:=by
 obtain ⟨a1,a2,a3⟩:=a
 obtain ⟨b1,b2,b3⟩:=b
 simpa [keyD] using h
theorem laidD:laidOutB Tryz.prog=true:=by kernel_rfl
theorem rowD:(184:TypeId)<Tryz.prog.types.size:=of_decide_eq_true (by kernel_rfl)
theorem wideD:(match Tryz.prog.underlying 184 with|some (.array _ _)|some (.struct _)=>true|_=>false)=true:=by kernel_rfl
set_option maxRecDepth 100000 in
theorem lawD:Maps.Keyed Tryz.prog 184:=Maps.Keyed.of_law (deep_law_laid laidD (m:=3) (by omega) rowD (by kernel_rfl) wideD)
theorem typesD:∃n,Tryz.prog.types.size=n+2:=⟨Tryz.prog.types.size - 2,by kernel_rfl⟩
theorem ktypeD:Tryz.prog.keyType 184=true:=by kernel_rfl
theorem cellsD:Tryz.prog.cellsOf 184=3:=by kernel_rfl
theorem cellsD2:Tryz.prog.cellsOf 105=2:=by kernel_rfl
theorem cellsD1:Tryz.prog.cellsOf 3=1:=by kernel_rfl
theorem keyD_of{d:Int×Int×Int}(h:okD d):∃l,keyOf Tryz.prog 184 (keyD d)=some l:=by
 obtain ⟨a,b,c⟩:=d
 obtain ⟨h1,h2,h3,h4,h5,h6⟩:=h
 dsimp only at h1 h2 h3 h4 h5 h6
 have wa:(Lit.int .i64 a).wf=true:=WalkArith.wf_i64 (by omega)
 have wb:(Lit.int .i64 b).wf=true:=WalkArith.wf_i64 (by omega)
 have wc:(Lit.int .i64 c).wf=true:=WalkArith.wf_i64 (by omega)
 obtain ⟨n,hn⟩:=typesD
 have hf:(keyD (a,b,c)).formed Tryz.prog 184=true:=by
  simp[Value.formed,keyD,Tryz.underlying184,cellsD]
 have e:∃ls,Tryz.prog.keyLits (Tryz.prog.types.size+1) 184 (keyD (a,b,c)).cells.toList=some ls:=by
  rw[hn]
  simp[Program.keyLits,keyD,Value.cells,Tryz.underlying184,Tryz.underlying105,Tryz.underlying3,cellsD,cellsD2,cellsD1,wa,wb,wc]
  rw[if_pos (by decide)]
  exact ⟨_,rfl⟩
 obtain ⟨ls,hls⟩:=e
 unfold keyOf
 rw[Tryz.underlying184]
 dsimp only
 rw[ktypeD,hf,hls]
 exact ⟨_,rfl⟩
def Deeds (w:World) (b:Nat) (L:List (Int×Int×Int)):Prop:=
 ∃es clock,w.heap[b]?=some (.map es clock)∧L.Nodup∧(∀d∈L,okD d)∧es.size=L.length∧∀(i:Nat) (e:MapEntry),es[i]?=some e→∃d,L[i]?=some d∧e.key=keyD d∧e.val=.int .i64 (i:Int)
def posD (d:Int×Int×Int) (L:List (Int×Int×Int)):Int:=if d∈L then (L.idxOf d:Int) else 0
theorem idx_at{L:List (Int×Int×Int)}(hn:L.Nodup){i:Nat}{d:Int×Int×Int}(h:L[i]?=some d):L.idxOf d=i:=by
 obtain ⟨hi,rfl⟩:=List.getElem?_eq_some_iff.1 h
 exact List.Nodup.idxOf_getElem hn i hi
theorem posD_at{L:List (Int×Int×Int)}(hn:L.Nodup){i:Nat}{d:Int×Int×Int}(h:L[i]?=some d):posD d L=i:=by
 unfold posD
 rw[if_pos (List.mem_of_getElem? h),idx_at hn h]
theorem Deeds.new(w:World):Deeds (w.alloc (.map #[] 0)) w.heap.size []:=⟨#[],0,(MapKept.heap_alloc w _).1,List.nodup_nil,fun d h=>by simp at h,rfl,fun i e h=>by simp at h⟩
theorem Deeds.lt{w:World}{b:Nat}{L:List (Int×Int×Int)}(h:Deeds w b L):b<w.heap.size:=by
 obtain ⟨es,clock,hb,_⟩:=h
 exact (Array.getElem?_eq_some_iff.1 hb).1
theorem Deeds.nodup{w:World}{b:Nat}{L:List (Int×Int×Int)}(h:Deeds w b L):L.Nodup:=by obtain ⟨_,_,_,h2,_⟩:=h;exact h2
theorem Deeds.u_{w w':World}{b:Nat}{L:List (Int×Int×Int)}(h:Deeds w b L)(hb:Below w.heap.size w w'):Deeds w' b L:=by
 have hl:=h.lt
 obtain ⟨es,clock,h1,h2⟩:=h
 exact ⟨es,clock,(hb.block b hl).trans h1,h2⟩
theorem Deeds.find{w:World}{b:Nat}{L:List (Int×Int×Int)}(h:Deeds w b L){d:Int×Int×Int}(hd:okD d)(w2:World):∃es clock,w.heap[b]?=some (.map es clock)∧es.size=L.length∧
  ((d ∉ L∧(Instr.findKey 184 (keyD d) es.toList).run Tryz.prog w2=.ok none w2)∨(∃i:Nat,L[i]?=some d∧(Instr.findKey 184 (keyD d) es.toList).run Tryz.prog w2=.ok (some (i,.int .i64 (i:Int))) w2)):=by
 obtain ⟨es,clock,h1,h2,h3,h4,h5⟩:=h
 refine ⟨es,clock,h1,h4,?_⟩
 obtain ⟨l,hl⟩:=keyD_of hd
 have hall:∀e∈es.toList,∃l,keyOf Tryz.prog 184 e.key=some l:=by
  intro e he
  obtain ⟨i,hi⟩:=List.getElem?_of_mem he
  obtain ⟨d',q1,q2,_⟩:=h5 i e (by simpa using hi)
  rw[q2]
  exact keyD_of (h3 d' (List.mem_of_getElem? q1))
 rcases lawD.find w2 hl es.toList hall with ⟨f1,f2⟩|⟨j,e,f1,f2,f3⟩
 ·left
  refine ⟨fun hm=>?_,f1⟩
  obtain ⟨i,hi⟩:=List.getElem?_of_mem hm
  have hlt:i<es.size:=by rw[h4];exact (List.getElem?_eq_some_iff.1 hi).1
  obtain ⟨d',q1,q2,_⟩:=h5 i es[i] (Array.getElem?_eq_getElem hlt)
  rw[hi]at q1
  rw[←Option.some.inj q1]at q2
  exact f2 es[i] (by simp) q2
 ·right
  obtain ⟨d',q1,q2,q3⟩:=h5 j e (by simpa using f2)
  have:d'=d:=keyD_inj (q2.symm.trans f3)
  subst this
  exact ⟨j,q1,by rw[f1,q3]⟩
theorem Deeds.look{w:World}{b:Nat}{L:List (Int×Int×Int)}(h:Deeds w b L){d:Int×Int×Int}(hd:okD d)(c:Bool):
  (Instr.lookup 169 (.map (some b)) (keyD d) c).run Tryz.prog w=.ok (if c then .tuple #[.int .i64 (posD d L),.bool (decide (d∈L))] else .int .i64 (posD d L)) w:=by
 obtain ⟨es,clock,hb,_,hf⟩:=h.find hd w
 obtain ⟨l,hl⟩:=keyD_of hd
 rcases hf with ⟨q1,q2⟩|⟨i,q1,q2⟩
 ·have:posD d L=0:=by unfold posD;rw[if_neg q1]
  simp[Instr.lookup,run_underlying Tryz.underlying169,MapKept.run_getObj_map hb,lawD.check w _ hl,q2,Result.andThen,this,q1]
 ·have hp:=posD_at h.nodup q1
  have hm:=List.mem_of_getElem? q1
  simp[Instr.lookup,run_underlying Tryz.underlying169,MapKept.run_getObj_map hb,lawD.check w _ hl,q2,Result.andThen,hp,hm]
theorem Deeds.add{w:World}{b:Nat}{L:List (Int×Int×Int)}(h:Deeds w b L){d:Int×Int×Int}(hd:okD d)(hn:d ∉ L):
  ∃w',(Instr.mapUpdate 169 (.map (some b)) (keyD d) (.int .i64 (L.length:Int))).run Tryz.prog w=.ok () w'∧Deeds w' b (L++[d])∧w.grownBy w' (some b):=by
 obtain ⟨es,clock,hb,hs,hf⟩:=h.find hd w
 obtain ⟨l,hl⟩:=keyD_of hd
 rcases hf with ⟨q1,q2⟩|⟨i,q1,q2⟩
 ·refine ⟨ChangeMaps.setBlock w b (.map (es.push ⟨keyD d,.int .i64 (L.length:Int),clock⟩) (clock+1)),?_,?_,⟨rfl,rfl,rfl,by simp[ChangeMaps.setBlock],fun i _ hi=>ChangeMaps.heap_setBlock_other hb _ (fun e=>hi (by rw[e]))⟩⟩
  ·simp[Instr.mapUpdate,run_underlying Tryz.underlying169,MapKept.run_getObj_map hb,lawD.check w false hl,q2,MapKept.run_setObj_map _ hb,Result.andThen,ChangeMaps.setBlock]
  ·obtain ⟨es',clock',hb',h2,h3,h4,h5⟩:=h
   rw[hb]at hb'
   have hb':=Option.some.inj hb'
   injection hb' with e1 e2
   subst e1
   refine ⟨_,_,ChangeMaps.heap_setBlock_same hb _,?_,?_,by simp[h4],?_⟩
   ·rw[List.nodup_append]
    exact ⟨h2,by simp,fun a ha c hc e=>by simp at hc;subst hc;exact hn (e▸ha)⟩
   ·intro x hx
    rw[List.mem_append]at hx
    rcases hx with hx|hx
    ·exact h3 x hx
    ·simp at hx;subst hx;exact hd
   ·intro i e he
    rw[Array.getElem?_push]at he
    by_cases hi:i=es.size
    ·rw[if_pos hi]at he
     have he:=Option.some.inj he
     subst he
     exact ⟨d,by rw[List.getElem?_append_right (by omega),hi,h4];simp,rfl,by rw[hi,h4]⟩
    ·rw[if_neg hi]at he
     obtain ⟨d',k1,k2⟩:=h5 i e he
     exact ⟨d',by rw[List.getElem?_append_left (List.getElem?_eq_some_iff.1 k1).1];exact k1,k2⟩
 ·exact absurd (List.mem_of_getElem? q1) hn
theorem Deeds.len{w:World}{b:Nat}{L:List (Int×Int×Int)}(h:Deeds w b L)(ty:TypeId):(Builtin.len_ #[169] ty #[.map (some b)]).run Tryz.prog w=.ok (.int .i64 (L.length:Int)) w:=by
 obtain ⟨es,clock,hb,_,_,h4,_⟩:=h
 simp[Builtin.len_,run_underlying Tryz.underlying169,MapKept.run_getObj_map hb,goInt,Result.andThen,h4]
theorem Deeds.clear{w:World}{b:Nat}{L:List (Int×Int×Int)}(h:Deeds w b L):∃w',(∀ty:TypeId,(Builtin.clear_ #[169] ty #[.map (some b)]).run Tryz.prog w=.ok (.tuple #[]) w')∧Deeds w' b []∧w.grownBy w' (some b):=by
 obtain ⟨es,clock,hb,_⟩:=h
 refine ⟨ChangeMaps.setBlock w b (.map #[] clock),?_,⟨#[],clock,ChangeMaps.heap_setBlock_same hb _,List.nodup_nil,fun d h=>by simp at h,rfl,fun i e h=>by simp at h⟩,⟨rfl,rfl,rfl,by simp[ChangeMaps.setBlock],fun i _ hi=>ChangeMaps.heap_setBlock_other hb _ (fun e=>hi (by rw[e]))⟩⟩
 intro ty
 simp[Builtin.clear_,run_underlying Tryz.underlying169,MapKept.run_getObj_map hb,MapKept.run_setObj_map _ hb,Result.andThen,ChangeMaps.setBlock]
end Go.Proofs.YtpniemnfdleiialGreat
