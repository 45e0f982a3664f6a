/- What package rings looks at ahead of a round: good parts are let by. -/
import Derived.Test.YtniloklglpchfaiPkPlain
import Derived.Shelf.Abstract
import Derived.Conc.Script
import Derived.Conc.RingWorld
import Derived.Conc.Events
import Derived.Calls
namespace Go.Proofs.Ytniloklglpchfai
open Go.RowKit
set_option maxRecDepth 100000 in
set_option maxHeartbeats 1600000 in
theorem isb_any(x:Int)(w:World)(h1:-2147483647≤x)(h2:x≤2147483647):Calls Try.prog 12 #[.int .i64 x] w fun e w'=>e=.returned (.bool false)∧w'=w:=by
 have n1:¬x < -2147483647:=by omega
 have n2:¬2147483647<x:=by omega
 go_enter Try.func12,Try.ntmps12
 go_wp2
 go_ret
 exact ⟨rfl,rfl⟩
set_option maxRecDepth 100000 in
set_option maxHeartbeats 1600000 in
theorem idx_any(K:Nat)(cpt:Array Value)(eg:∀args w,(callFunc K args).run Try.prog w=.ok (.enter K args) w)(v:Value)(xs:List Int)(w:World)(hv:I_ w v xs)(hf:∀x,x∈xs→Calls Try.prog K (#[.int .i64 x]++cpt) w fun e w'=>e=.returned (.bool false)∧w'=w):
  Calls Try.prog 21 #[v,.func (.func K) #[] cpt] w fun e w'=>e=.returned (.int .i64 (-1))∧w'=w:=by
 have hm:=hv.len
 unfold maxLen at hm
 obtain ⟨a',cap',rfl,h2',h3',h4'⟩:=hv
 obtain ⟨n,hn⟩:=gN (xs.length)
 rw[hn]at h2' hm ⊢
 have HN:=h_ hn
 have HF:=h_ hf
 have H4:=h_ h4'
 clear hn hf h4'
 go_enter Try.func21,Try.ntmps21
 go_wp2
 go_loopw [8] (fun i wr=>∃(k:Nat),k≤n∧i=.int .i64 k∧wr=w) (fun i _=>n - (intOf i).toNat)
 case atStart=>exact ⟨0,Nat.zero_le _,rfl,rfl⟩
 case round=>
  obtain ⟨k,hk,rfl,rfl⟩:=hrel
  by_cases hlt:k<n
  ·obtain ⟨y,hy⟩:∃y,xs[k]?=some y:=⟨xs[k]'(by have:=HN.out;omega),List.getElem?_eq_getElem _⟩
   obtain ⟨b',off',rfl,hc'⟩:=H4.out.resolve_left (fun e=>by rw[e]at hy;simp at hy)
   have c2:=hc' k y hy
   have hcall:=HF.out y (List.mem_of_getElem? hy)
   have hlt':(k:Int)<(n:Int):=by omega
   clear hc' hy
   go_wp2_with (go_at_fn K;refine hcall.mono ?_;rintro e w' ⟨rfl,rfl⟩)
   refine ⟨⟨k+1,by omega,by go_num,trivial⟩,by simp[intOf];omega⟩
  ·obtain rfl:k=n:=by omega
   go_wp2
   go_ret
   exact ⟨rfl,rfl⟩
set_option maxRecDepth 100000 in
set_option maxHeartbeats 1600000 in
theorem cont_any(K:Nat)(cpt:Array Value)(eg:∀args w,(callFunc K args).run Try.prog w=.ok (.enter K args) w)(v:Value)(xs:List Int)(w:World)(hv:I_ w v xs)(hf:∀x,x∈xs→Calls Try.prog K (#[.int .i64 x]++cpt) w fun e w'=>e=.returned (.bool false)∧w'=w):
  Calls Try.prog 11 #[v,.func (.func K) #[] cpt] w fun e w'=>e=.returned (.bool false)∧w'=w:=by
 have hcall:=idx_any K cpt eg v xs w hv hf
 clear hv hf
 go_enter Try.func11,Try.ntmps11
 go_wp2_with (go_at_call 21;refine hcall.mono ?_;rintro e w' ⟨rfl,rfl⟩)
 go_ret
 exact ⟨rfl,rfl⟩
set_option maxRecDepth 100000 in
set_option maxHeartbeats 1600000 in
theorem rcheck_any(Pb po cap c n:Nat)(us:Nat→Value)(ps:Nat→List Int)(w:World)(hc1:1≤c)(hc6:c≤6)(hn:n≤60)(hr:∀i,i<c→w.cell? ⟨Pb,po+i,none⟩=some (us i))(hu:∀i,i<c→I_ w (us i) (ps i))(hl:∀i,i<c→(ps i).length=n)(hB:∀i,i<c→∀x,x∈ps i→-2147483647≤x∧x≤2147483647):
  Calls Try.prog 8 #[.slice (some ⟨Pb,po,none⟩) c cap] w fun e w'=>e=.returned .nilIface∧w'=w:=by
 have hc0:¬(c:Int)<1:=by omega
 have hc7:¬(6:Int)<(c:Int):=by omega
 have hn0:¬(60:Int)<(n:Int):=by omega
 have HCL:=h_ (fun i (hi:i<c)=>cont_any 12 #[] (enters_of Try.func12 (by kernel_rfl) rfl) (us i) (ps i) w (hu i hi) fun x hx=>isb_any x w (hB i hi x hx).1 (hB i hi x hx).2)
 have HS:Hid (∀i,i<c→∃a k,us i=.slice a n k):=h_ fun i hi=>by
  obtain ⟨a,k,e,-⟩:=hu i hi
  exact ⟨a,k,by rw[e,hl i hi]⟩
 have HR:=h_ hr
 have c0:=hr 0 (by omega)
 rw[Nat.add_zero]at c0
 obtain ⟨a0,k0,e0⟩:=HS.out 0 (by omega)
 rw[e0]at c0
 clear hu hl hB hr e0
 go_enter Try.func8,Try.ntmps8
 go_wp2
 go_loopw [16] (fun i wr=>∃(k:Nat),k≤c∧i=.int .i64 k∧wr=w) (fun i _=>c - (intOf i).toNat)
 case atStart=>exact ⟨0,Nat.zero_le _,rfl,rfl⟩
 case round=>
  obtain ⟨k,hk,rfl,rfl⟩:=hrel
  by_cases hlt:k<c
  ·have c2:=HR.out k hlt
   obtain ⟨a,q,e⟩:=HS.out k hlt
   have hcall:=HCL.out k hlt
   rw[e]at c2 hcall
   have hlt':(k:Int)<(c:Int):=by omega
   clear e
   go_wp2_with (go_at_call 11;refine hcall.mono ?_;rintro e w' ⟨rfl,rfl⟩)
   refine ⟨⟨k+1,by omega,by go_num,trivial⟩,by simp[intOf];omega⟩
  ·obtain rfl:k=c:=by omega
   go_wp2_with fail
   go_ret
   exact ⟨rfl,rfl⟩
def RowR (w:World) (b:Nat) (zs:List Int) (rest:List Value):Prop:=∃z:Nat×Nat,z.2≤z.1∧w.heap[b]?=some (.cells (zs.map (Value.int .i64)++rest).toArray 3 z)
theorem RowR.cell{w:World}{b:Nat}{zs:List Int}{rest:List Value}(h:RowR w b zs rest){i:Nat}{x:Int}(hx:zs[i]?=some x):w.cell? ⟨b,i,none⟩=some (.int .i64 x):=by
 obtain ⟨z,-,h⟩:=h
 have hi:=(List.getElem?_eq_some_iff.1 hx).1
 rw[Joins.cell_of_block h]
 simp only[List.getElem?_toArray]
 rw[List.getElem?_append_left (by simpa using hi)]
 simp[hx]
theorem RowR.frozen{w:World}{b:Nat}{zs:List Int}{rest:List Value}(h:RowR w b zs rest)(i:Nat):w.frozen? ⟨b,i,none⟩=false:=by
 obtain ⟨⟨lo,hi⟩,hz,h⟩:=h
 unfold World.frozen?
 simp only[h]
 have hz:hi≤lo:=hz
 by_cases q:lo≤i
 ·simp[q];omega
 ·simp[q]
theorem RowR.set{w:World}{b:Nat}{zs:List Int}{rest:List Value}(h:RowR w b zs rest){p:Nat}(hp:p<zs.length)(x:Int):RowR (w.setCell ⟨b,p,none⟩ (.int .i64 x)) b (zs.set p x) rest:=by
 obtain ⟨z,hz,h⟩:=h
 refine ⟨z,hz,?_⟩
 rw[Joins.block_setCell h]
 congr 2
 simp only[List.setIfInBounds_toArray]
 rw[List.set_append_left _ _ (by simpa using hp),List.map_set]
def addK (zs ys:List Int) (k:Nat):List Int:=List.zipWith ad (zs.take k) (ys.take k)++zs.drop k
theorem addK_len(zs ys:List Int)(hl:zs.length=ys.length)(k:Nat)(hk:k≤zs.length):(addK zs ys k).length=zs.length:=by
 unfold addK
 simp
 omega
theorem addK_at(zs ys:List Int)(hl:zs.length=ys.length)(k:Nat)(hk:k<zs.length):(addK zs ys k)[k]?=zs[k]?:=by
 unfold addK
 have:(List.zipWith ad (zs.take k) (ys.take k)).length=k:=by simp;omega
 rw[List.getElem?_append_right (by omega),this,Nat.sub_self,List.getElem?_drop]
 simp
theorem addK_next(zs ys:List Int)(hl:zs.length=ys.length)(k:Nat){x y:Int}(hx:zs[k]?=some x)(hy:ys[k]?=some y):(addK zs ys k).set k (ad x y)=addK zs ys (k+1):=by
 have hk:=(List.getElem?_eq_some_iff.1 hx).1
 have hlen:(List.zipWith ad (zs.take k) (ys.take k)).length=k:=by simp;omega
 unfold addK
 rw[List.set_append_right _ _ (by omega),hlen,Nat.sub_self,List.drop_eq_getElem_cons hk,List.set_cons_zero,List.take_add_one,List.take_add_one,hx,hy]
 rw[List.zipWith_append (by simp;omega)]
 simp
theorem addK_all(zs ys:List Int)(hl:zs.length=ys.length):addK zs ys zs.length=List.zipWith ad zs ys:=by
 unfold addK
 rw[List.take_length,hl,List.take_length,←hl,List.drop_length,List.append_nil]
set_option maxRecDepth 100000 in
set_option maxHeartbeats 1600000 in
theorem addto_any(b cap:Nat)(zs ys:List Int)(rest:List Value)(u:Value)(w:World)(hr:RowR w b zs rest)(hu:I_ w u ys)(hl:zs.length=ys.length)(hub:∀x n k,u=.slice (some x) n k→x.block≠b)(h60:zs.length≤60):
  Calls Try.prog 20 #[.slice (some ⟨b,0,none⟩) zs.length cap,u] w fun e w'=>e=.returned (.tuple #[])∧RowR w' b (List.zipWith ad zs ys) rest∧Conc.Aside b w w':=by
 have hly:=hu.len
 obtain ⟨a',cap',rfl,h2',h3',h4'⟩:=hu
 obtain ⟨n,hn⟩:=gN (zs.length)
 have hn':ys.length=n:=by omega
 rw[hn]at h60 ⊢
 rw[hn']at h2' hub ⊢
 have HN:=h_ hn
 have HN':=h_ hn'
 have HR:=h_ hr
 have HU:=h_ hub
 have HL:=h_ hl
 clear hn hn' hl hr hub hly
 go_enter Try.func20,Try.ntmps20
 go_wp2
 go_loopw [8] (fun i wr=>∃(k:Nat),k≤n∧i=.int .i64 k∧RowR wr b (addK zs ys k) rest∧Conc.Aside b w wr) (fun i _=>n - (intOf i).toNat)
 case atStart=>exact ⟨0,Nat.zero_le _,rfl,by unfold addK;simpa using HR.out,Conc.Aside.refl _ _⟩
 case round=>
  obtain ⟨k,hk,rfl,hrow,hasd⟩:=hrel
  have HROW:=h_ hrow
  have HA:=h_ hasd
  clear hrow hasd
  by_cases hlt:k<n
  ·obtain ⟨x,hx⟩:∃x,zs[k]?=some x:=⟨zs[k]'(by have:=HN.out;omega),List.getElem?_eq_getElem _⟩
   obtain ⟨y,hy⟩:∃y,ys[k]?=some y:=⟨ys[k]'(by have:=HN'.out;omega),List.getElem?_eq_getElem _⟩
   obtain ⟨b',off',rfl,hc'⟩:∃b off,a'=some ⟨b,off,none⟩∧∀i x,ys[i]?=some x→w.cell? ⟨b,off+i,none⟩=some (.int .i64 x):=h4'.resolve_left (fun e=>by rw[e]at hy;simp at hy)
   have hne:=HU.out _ _ _ rfl
   have c2:wr.cell? ⟨b',off'+k,none⟩=some (.int .i64 y):=by
    have:=hc' k y hy
    unfold World.cell? at this ⊢
    rw[HA.out.block b' hne]
    exact this
   have c1:wr.cell? ⟨b,k,none⟩=some (.int .i64 x):=HROW.out.cell (by rw[addK_at zs ys HL.out k (by have:=HN.out;omega)];exact hx)
   have f1:=HROW.out.frozen k
   have HX:=h_ hx
   have HY:=h_ hy
   have hlt':(k:Int)<(n:Int):=by omega
   clear h4' hc' hx hy hne
   go_wp2_with (go_at_call 43;refine (add_any _ _ _).mono ?_;rintro e w' ⟨rfl,rfl⟩)
   refine ⟨⟨k+1,by omega,by go_num,?_,?_⟩,by simp[intOf];omega⟩
   ·have hset:=HROW.out.set (p:=k) (by rw[addK_len zs ys HL.out k (by have:=HN.out;omega)];have:=HN.out;omega) (ad x y)
    rw[addK_next zs ys HL.out k HX.out HY.out]at hset
    exact hset
   ·exact HA.out.trans (Conc.aside_setCell w' ⟨b,k,none⟩ _)
  ·obtain rfl:k=n:=by omega
   have hfin:RowR wr b (List.zipWith ad zs ys) rest:=by
    have:=HROW.out
    rw[←HN.out,addK_all zs ys HL.out]at this
    exact this
   have HFIN:=h_ hfin
   clear hfin
   go_wp2
   exact bodyPost_end (v:=.tuple #[]) (by simp[results,Try.results20,go_sem]) rfl ⟨rfl,HFIN.out,HA.out⟩
end Go.Proofs.Ytniloklglpchfai
/- A ring of workers: sums piece by piece, and where they are plain sums. No program in sight. -/
namespace Go.Proofs.Ytniloklglpchfai
def stN (n c p:Nat):Nat:=(stX n c p).toNat
theorem stN_in{n c p:Nat}(hc6:c≤6)(hp:p<c):stN n c p≤stN n c (p+1)∧stN n c (p+1)≤n:=by
 have:=stX_in n c p (by omega) (by omega) (by omega) (by omega)
 unfold stN
 have e:((p+1:Nat):Int)=(p:Int)+1:=by omega
 rw[e]
 omega
theorem stN_0{n c:Nat}(hc:1≤c)(hc6:c≤6):stN n c 0=0:=by
 have:=stX_0 n c (by omega) (by omega)
 unfold stN
 simp only[Int.natCast_zero] at*
 omega
theorem stN_c{n c:Nat}(hc:1≤c)(hc6:c≤6):stN n c c=n:=by
 have:=stX_c n c (by omega) (by omega)
 unfold stN
 omega
def pcL (n c p:Nat) (l:List Int):List Int:=(l.drop (stN n c p)).take (stN n c (p+1) - stN n c p)
theorem pcL_len{n c p:Nat}(hc6:c≤6)(hp:p<c){l:List Int}(hl:l.length=n):(pcL n c p l).length=stN n c (p+1) - stN n c p:=by
 have:=stN_in (n:=n) hc6 hp
 unfold pcL
 simp
 omega
theorem pcL_at{n c p:Nat}{l:List Int}{y:Nat}(hy:y<stN n c (p+1) - stN n c p):(pcL n c p l)[y]?=l[stN n c p+y]?:=by
 unfold pcL
 rw[List.getElem?_take,if_pos hy,List.getElem?_drop]
def partX (n c:Nat) (ps:Nat→List Int) (q:Nat):Nat→List Int
 |0=>pcL n c q (ps ((q+1) % c))
 |k+1=>List.zipWith ad (partX n c ps q k) (pcL n c q (ps ((q+k+2) % c)))
theorem partX_len{n c q:Nat}{ps:Nat→List Int}(hc6:c≤6)(hq:q<c)(hl:∀i,i<c→(ps i).length=n):∀k,(partX n c ps q k).length=stN n c (q+1) - stN n c q
 |0=>pcL_len hc6 hq (hl _ (Nat.mod_lt _ (by omega)))
 |k+1=>by
  unfold partX
  rw[List.length_zipWith,partX_len hc6 hq hl k,pcL_len hc6 hq (hl _ (Nat.mod_lt _ (by omega)))]
  omega
def runS (c:Nat) (f:Nat→Int) (q:Nat):Nat→Int
 |0=>f ((q+1) % c)
 |k+1=>runS c f q k+f ((q+k+2) % c)
theorem runS_bd{c:Nat}{f:Nat→Int}{B:Int}(q:Nat)(hc:0<c)(hf:∀i,i<c→-B≤f i∧f i≤B):∀k:Nat,-((k+1:Int)*B)≤runS c f q k∧runS c f q k≤(k+1:Int)*B
 |0=>by have:=hf ((q+1) % c) (Nat.mod_lt _ hc);unfold runS;simp;omega
 |k+1=>by
  have h1:=runS_bd q hc hf k
  have h2:=hf ((q+k+2) % c) (Nat.mod_lt _ hc)
  unfold runS
  have e:((k+1:Nat)+1:Int)*B=(k+1:Int)*B+B:=by rw[Int.add_mul,Int.one_mul];rfl
  rw[e]
  omega
theorem ad_plain{a b:Int}(h1:-2147483647≤a)(h2:a≤2147483647)(h3:-2147483647≤b)(h4:b≤2147483647)(h5:-2147483647≤a+b)(h6:a+b≤2147483647):ad a b=a+b:=by
 unfold ad
 rw[cl_in a h1 h2,cl_in b h3 h4,cl_in (a+b) h5 h6]
theorem partX_at{n c q:Nat}{ps:Nat→List Int}(hc6:c≤6)(hq:q<c)(hl:∀i,i<c→(ps i).length=n)(hB:∀i,i<c→∀x,x∈ps i→-268435455≤x∧x≤268435455){y:Nat}(hy:y<stN n c (q+1) - stN n c q):∀k,k<6→(partX n c ps q k)[y]?=some (runS c (fun i=>(ps i).getD (stN n c q+y) 0) q k):=by
 have hin:=stN_in (n:=n) hc6 hq
 have hat:∀i,i<c→(pcL n c q (ps i))[y]?=some ((ps i).getD (stN n c q+y) 0):=fun i hi=>by
  rw[pcL_at hy,List.getD_eq_getElem?_getD,List.getElem?_eq_getElem (by rw[hl i hi];omega)]
  rfl
 have hbd:∀i,i<c→-268435455≤(ps i).getD (stN n c q+y) 0∧(ps i).getD (stN n c q+y) 0≤268435455:=fun i hi=>by
  rw[List.getD_eq_getElem?_getD,List.getElem?_eq_getElem (by rw[hl i hi];omega)]
  exact hB i hi _ (List.getElem_mem _)
 intro k
 induction k with
 |zero=>intro _;exact hat _ (Nat.mod_lt _ (by omega))
 |succ k ih=>
  intro hk
  have h1:=ih (by omega)
  have h2:=hat ((q+k+2) % c) (Nat.mod_lt _ (by omega))
  have h3:=runS_bd (f:=fun i=>(ps i).getD (stN n c q+y) 0) (B:=268435455) q (by omega) hbd k
  have h4:=hbd ((q+k+2) % c) (Nat.mod_lt _ (by omega))
  unfold partX runS
  rw[List.getElem?_zipWith,h1,h2]
  show some (ad _ _)=_
  rw[ad_plain (by omega) (by omega) (by omega) (by omega) (by omega) (by omega)]
def plainS (f:Nat→Int):Nat→Int
 |0=>0
 |n+1=>plainS f n+f n
theorem runS_all{c:Nat}(f:Nat→Int)(q:Nat)(hc:1≤c)(hc6:c≤6)(hq:q<c):runS c f q (c - 1)=plainS f c:=by
 have h1:c=1∨c=2∨c=3∨c=4∨c=5∨c=6:=by omega
 have h2:q=0∨q=1∨q=2∨q=3∨q=4∨q=5:=by omega
 rcases h1 with rfl|rfl|rfl|rfl|rfl|rfl<;>rcases h2 with rfl|rfl|rfl|rfl|rfl|rfl<;>first|omega|(simp[runS,plainS];done)|(simp[runS,plainS];omega)
def sumX (n c:Nat) (ps:Nat→List Int):List Int:=(List.range n).map fun x=>plainS (fun i=>(ps i).getD x 0) c
theorem partX_sum{n c q:Nat}{ps:Nat→List Int}(hc:1≤c)(hc6:c≤6)(hq:q<c)(hl:∀i,i<c→(ps i).length=n)(hB:∀i,i<c→∀x,x∈ps i→-268435455≤x∧x≤268435455):partX n c ps q (c - 1)=pcL n c q (sumX n c ps):=by
 have hin:=stN_in (n:=n) hc6 hq
 have hsl:(sumX n c ps).length=n:=by unfold sumX;simp
 refine List.ext_getElem? fun y=>?_
 by_cases hy:y<stN n c (q+1) - stN n c q
 ·rw[partX_at hc6 hq hl hB hy (c - 1) (by omega),pcL_at hy,runS_all _ q hc hc6 hq]
  unfold sumX
  rw[List.getElem?_map,List.getElem?_range (by omega)]
  rfl
 ·rw[List.getElem?_eq_none (by rw[partX_len hc6 hq hl];omega),List.getElem?_eq_none (by rw[pcL_len hc6 hq hsl];omega)]
end Go.Proofs.Ytniloklglpchfai
/- Blocks of memory numbered otherwise: memory only grows, and the tape goes on. No program in sight. -/
namespace Go.Proofs.Ytniloklglpchfai
open Go
structure Mo (w w':World):Prop where
 size:w.heap.size≤w'.heap.size
 tape:w'.tape=w.tape
 drawn:w.drawn≤w'.drawn
theorem Mo.refl(w:World):Mo w w:=⟨Nat.le_refl _,rfl,Nat.le_refl _⟩
theorem Mo.trans{a b c:World}(h:Mo a b)(k:Mo b c):Mo a c:=⟨Nat.le_trans h.1 k.1,k.2.trans h.2,Nat.le_trans h.3 k.3⟩
theorem mo_ask{α:Type}:∀(t:Ask α) (w:World),Mo w (w.ask t).2
 |.done a,w=>Mo.refl w
 |.ask s n k,w=>by
  unfold World.ask
  by_cases hq:(Question.extern s n).forced=true
  ·simp only[hq,if_true];exact mo_ask (k 0) w
  ·simp only[hq]
   have h:=mo_ask (k ((Question.extern s n).cut (w.tape w.drawn (.extern s n)))) { w with drawn:=w.drawn+1 }
   exact ⟨h.1,h.2,Nat.le_of_succ_le h.3⟩
theorem mo_sys(w:World)(s:Sys):Mo w (w.sys s).2:=by
 have h:=mo_ask (Kernel.perform s w.os) w
 unfold World.sys
 split
 ·exact Mo.refl w
 ·rename_i e
  rw[e]at h
  exact ⟨h.1,h.2,h.3⟩
theorem mo_store{p:Program}{w w':World}{a:Addr}{v:Value}{m:Bool}{l:List Addr}(h:w.farStore p a v m=.ok (w',l)):Mo w w':=by
 unfold World.farStore at h
 split at h
 ·split at h
  ·rename_i r hr
   cases h
   unfold World.viewStore at hr
   simp only[bind,Except.bind,pure,Except.pure]at hr
   repeat' split at hr
   all_goals first|(cases hr;done)|(cases hr;exact ⟨by simp,rfl,Nat.le_refl _⟩)
  ·cases h
 ·cases h
def Result.wld {α:Type}:Result α→World
 |.ok _ w=>w
 |.halt _ w=>w
theorem mo_run{P:Program}{α:Type}:∀(t:Sem α) (w:World),Mo w (Result.wld (t.run P w))
 |.pure a,w=>Mo.refl w
 |.load m a k,w=>by
  simp only[Sem.run]
  split
  ·exact mo_run (k _) w
  ·split
   ·exact mo_run (k _) w
   ·exact Mo.refl w
 |.store m a v k,w=>by
  by_cases k1:∃cs,v=.agg cs
  ·obtain ⟨cs,rfl⟩:=k1;exact Mo.refl w
  by_cases k2:∃cs,v=.tuple cs
  ·obtain ⟨cs,rfl⟩:=k2;exact Mo.refl w
  rw[Sem.run.eq_5 _ _ _ _ _ _ (fun cs e=>k1 ⟨cs,e⟩) (fun cs e=>k2 ⟨cs,e⟩)]
  split
  ·split
   ·exact Mo.refl w
   ·refine Mo.trans (b:=w.setCell a v) ⟨?_,rfl,Nat.le_refl _⟩ (mo_run k (w.setCell a v))
    unfold World.setCell
    simp
  ·split
   ·rename_i h
    exact (mo_store h).trans (mo_run k _)
   ·exact Mo.refl w
 |.new o k,w=>by
  simp only[Sem.run]
  exact Mo.trans (b:={ w with heap:=w.heap.push o }) ⟨by simp,rfl,Nat.le_refl _⟩ (mo_run (k w.heap.size) { w with heap:=w.heap.push o })
 |.shape r k,w=>by simp only[Sem.run];exact mo_run (k _) w
 |.freeze a n k,w=>by
  simp only[Sem.run]
  refine Mo.trans (b:=w.freeze a n) ⟨?_,?_,?_⟩ (mo_run k (w.freeze a n))<;>(unfold World.freeze;split<;>simp)
 |.frozen a k,w=>by simp only[Sem.run];exact mo_run (k _) w
 |.getObj r k,w=>by
  simp only[Sem.run]
  split
  ·exact Mo.refl w
  ·exact mo_run (k _) w
  ·exact Mo.refl w
 |.setObj r o k,w=>by
  simp only[Sem.run]
  split
  ·exact Mo.refl w
  ·exact Mo.trans (b:={ w with heap:=w.heap.setIfInBounds r o }) ⟨by simp,rfl,Nat.le_refl _⟩ (mo_run k { w with heap:=w.heap.setIfInBounds r o })
  ·exact Mo.refl w
 |.choose q k,w=>by
  simp only[Sem.run]
  split
  ·exact mo_run (k 0) w
  ·exact Mo.trans (b:={ w with drawn:=w.drawn+1 }) ⟨Nat.le_refl _,rfl,Nat.le_succ _⟩ (mo_run (k _) { w with drawn:=w.drawn+1 })
 |.sys c k,w=>by
  simp only[Sem.run]
  exact (mo_sys w c).trans (mo_run (k _) _)
 |.program k,w=>by simp only[Sem.run];exact mo_run (k P) w
 |.mark m k,w=>by simp only[Sem.run];exact mo_run k w
 |.halt h,w=>Mo.refl w
theorem mo_ok{P:Program}{α:Type}{t:Sem α}{w w':World}{a:α}(h:t.run P w=.ok a w'):Mo w w':=by
 have:=mo_run (P:=P) t w
 rw[h]at this
 exact this
theorem mo_halt{P:Program}{α:Type}{t:Sem α}{w w':World}{q:Halt}(h:t.run P w=.halt q w'):Mo w w':=by
 have:=mo_run (P:=P) t w
 rw[h]at this
 exact this
end Go.Proofs.Ytniloklglpchfai
