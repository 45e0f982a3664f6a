/- Where a list that append has grown lies. No program in sight. -/
import Derived.WalkKit
import Derived.RowKitTokens
import Derived.Laws.AppendOwn
import Derived.Test.YtniloklglpchfaiPkEqCo
import Derived.Test.YtniloklglpchfaiPkPlain
namespace Go.Proofs.Ytniloklglpchfai
open Go.RowKit
theorem append_wh{P:Program}{w:World}(base:Nat)(t ty e:TypeId)(i:TypeInfo)(z:Value)(size bytes:Nat)(ht:P.underlying t=some (.slice e))(hi:P.info? e=some i)(hz:i.zero=some z)
  (hsize:i.size=size) (hby:i.bytes=bytes) (hzs:z.cells.size=size) (hsz:0<size) (v:Value) (n:Nat) (xs:List Value) (hown:w.ownsRow base e size v n xs)
  (a:Addr) (m c:Nat) (news:List Value) (hl:news.length=m*size) (hnews:∀j u,news[j]?=some u→w.cell? (a.add j)=some u) (h1:∀u∈news,u.oneCell'=true)
  (h63:n+m≤maxLen) (hbytes:(n+m)*bytes≤140737488355328) (hbase:base≤w.heap.size):
  ∃v' w',(Builtin.append_ #[t,t] ty #[v,.slice (some a) m c]).run P w=.ok v' w'∧w'.ownsRow base e size v' (n+m) (xs++news)∧w.grownBy w' v.ownBlock∧(v'.ownBlock=v.ownBlock∨v'.ownBlock=some w.heap.size):=by
 obtain ⟨v',w',hr,h2,h3,h4⟩:=run_append_own (P:=P) w base t ty e i z size bytes ht hi hz hsize hby hzs hsz v n xs hown a m c news hl hnews h1 h63 hbytes hbase
 refine ⟨v',w',hr,h2,h3,?_⟩
 subst hsize hby
 have hsmall:n+m≤9223372036854775807:=by simp only[maxLen]at h63;omega
 rcases hown.2 with ⟨rfl,rfl⟩|⟨g,cap,cur,rfl,hbg,hg,hnc,hcm,hcs,htake⟩
 ·by_cases hm:m=0
  ·rw[h4.2 ⟨rfl,hm⟩];exact .inl rfl
  ·have hr':=run_append_nil (P:=P) w t ty e i z ht hi hz a m c news hl hnews (by omega) (by omega) (by have hb:=hbytes;simp only[Nat.zero_add]at hb;omega)
   have e:=hr.symm.trans hr'
   injection e with e1 _
   rw[e1];exact .inr rfl
 ·by_cases hroom:n+m≤cap
  ·have hfit:n*i.size+news.length≤cur.size:=by rw[hl,hcs,←Nat.add_mul];exact Nat.mul_le_mul_right _ hroom
   have hr':=run_append_room (P:=P) w t ty e i ht hi g n cap cur hg a m c news hl hnews h1 hroom hfit
   have e:=hr.symm.trans hr'
   injection e with e1 _
   rw[e1];exact .inl rfl
  ·have hr':=run_append_grow (P:=P) w t ty e i z ht hi hz ⟨g,0,none⟩ n cap xs hown.1 (hown.cells (g:=g) rfl) a m c news hl hnews (by omega) (by omega) (growslice_fits (by omega) hbytes)
   have e:=hr.symm.trans hr'
   injection e with e1 _
   rw[e1];exact .inr rfl
theorem wpList_append_wh{P:Program}{w:World}{ops:Array Oper}{rest:List Oper}{o:Oper}{a:Act}{Q:Exit→Act→World→Prop}(hgd:o.guard=none)(s x:Operand)(t:TypeId)
  (ho:o.op=.call { callee:=.builtin .append,args:=#[s,x],argTypes:=#[t,t] })
  (base:Nat) (e:TypeId) (i:TypeInfo) (z:Value) (size bytes:Nat) (ht:P.underlying t=some (.slice e)) (hi:P.info? e=some i) (hz:i.zero=some z)
  (hsize:i.size=size) (hby:i.bytes=bytes) (hzs:z.cells.size=size) (hsz:0<size)
  (v:Value) (n:Nat) (xs:List Value) (hs:a.eval s=v) (hown:w.ownsRow base e size v n xs)
  (ad:Addr) (m c:Nat) (news:List Value) (hx:a.eval x=.slice (some ad) m c) (hl:news.length=m*size) (hnews:∀j u,news[j]?=some u→w.cell? (ad.add j)=some u) (h1:∀u∈news,u.oneCell'=true)
  (h63:n+m≤maxLen) (hbytes:(n+m)*bytes≤140737488355328) (hbase:base≤w.heap.size)
  (h:∀v' w',w'.ownsRow base e size v' (n+m) (xs++news)→w.grownBy w' v.ownBlock→(v'.ownBlock=v.ownBlock∨v'.ownBlock=some w.heap.size)→wpList P ops Q rest (a.put o.dst v') w'):wpList P ops Q (o::rest) a w:=by
 obtain ⟨v',w',hr,h3,h4,h5⟩:=append_wh (P:=P) base t o.type e i z size bytes ht hi hz hsize hby hzs hsz v n xs hown ad m c news hl hnews h1 h63 hbytes hbase
 refine wpList_plain hgd fun K hK=>?_
 unfold Oper.wp execOp
 simp only[ho,resolve,invoke,builtin,Sem.run_bind,Sem.run_pure,Result.andThen_ok,List.map_toArray,List.map_cons,List.map_nil,hs,hx,hr]
 exact hK _ _ (h v' w' h3 h4 h5)
theorem infoRows:((Try.prog).info? 27).map (fun i=>(i.zero,i.size,i.bytes))=some (some (.slice none 0 0),1,24):=by kernel_rfl
def OwnR (w:World) (base:Nat) (v:Value) (i:Nat) (qs:Nat→List Int):Prop:=∃xs,w.ownsRow base 27 1 v i xs∧∀j,j<i→∃t,xs[j]?=some t∧FrZ w base t (qs j)∧∀g n k,t=.slice (some ⟨g,0,none⟩) n k→v.ownBlock≠some g
theorem OwnR.nil(w:World)(base:Nat)(qs:Nat→List Int):OwnR w base (.slice none 0 0) 0 qs:=⟨[],World.ownsRow_nil _ _ _ _,fun j h=>by omega⟩
theorem OwnR.u_{w w':World}{base:Nat}{v:Value}{i:Nat}{qs:Nat→List Int}(h:OwnR w base v i qs)(hb:Below w.heap.size w w'):OwnR w' base v i qs:=by
 obtain ⟨xs,h1,h2⟩:=h
 refine ⟨xs,World.ownsRow.kept (row:=none) h1 ⟨hb.os,hb.tape,hb.output,hb.size,fun k hk _=>hb.block k hk⟩ ?_,fun j hj=>?_⟩
 ·cases e:v.ownBlock with
  |none=>exact .inl rfl
  |some k=>exact .inr (by simp)
 ·obtain ⟨s,q1,q2,q3⟩:=h2 j hj
  exact ⟨s,q1,q2.keep fun g n k e=>hb.block g (by rw[e]at q2;exact q2.lt.2),q3⟩
theorem OwnR.shape{w:World}{base:Nat}{v:Value}{i:Nat}{qs:Nat→List Int}(h:OwnR w base v i qs):∃a k,v=.slice a i k:=by
 obtain ⟨xs,h1,-⟩:=h
 rcases h1.2 with ⟨rfl,rfl⟩|⟨g,cap,cur,rfl,-⟩
 ·exact ⟨_,_,rfl⟩
 ·exact ⟨_,_,rfl⟩
theorem app_rows{w:World}{ops:Array Oper}{rest:List Oper}{o:Oper}{a:Act}{Q:Exit→Act→World→Prop}(hgd:o.guard=none)(s x:Operand)
  (ho:o.op=.call { callee:=.builtin .append,args:=#[s,x],argTypes:=#[22,22] }) (base:Nat) (v u:Value) (i:Nat) (qs:Nat→List Int) (N:Nat) (hs:a.eval s=v) (hown:OwnR w base v i qs) (hu:FrZ w N u (qs i)) (hN:base≤N) (hoff:∀k,v.ownBlock=some k→k<N) (hx:a.eval x=.slice (some ⟨w.heap.size,0,none⟩) 1 1)
  (hsm:i≤1000) (hbase:base≤w.heap.size)
  (h:∀v' w',OwnR w' base v' (i+1) qs→(∀w0:World,Below w0.heap.size w0 (w.alloc (.cells #[u] 27))→w0.heap.size≤base→Below w0.heap.size w0 w')→wpList Try.prog ops Q rest (a.put o.dst v') w'):wpList Try.prog ops Q (o::rest) a (w.alloc (.cells #[u] 27)):=by
 obtain ⟨e0,ei,hz0,hz1,hz2⟩:=info_parts infoRows
 have hal:=hown.u_ (o_ w (.cells #[u] 27))
 obtain ⟨xs,q1,q2⟩:=hal
 obtain ⟨ua,uc,hus⟩:∃a c,u=.slice a (qs i).length c:=by obtain ⟨a,c,e,-⟩:=hu.ints;exact ⟨a,c,e⟩
 have hvlt:=World.ownsRow.lt q1
 refine wpList_append_wh hgd s x 22 ho base 27 e0 (.slice none 0 0) 1 24 Try.underlying22 ei hz0 hz1 hz2 rfl (by decide) v _ _ hs q1 ⟨w.heap.size,0,none⟩ 1 1 [u] hx rfl ?_ ?_ (by unfold maxLen;omega) (by omega) (by rw[World.size_alloc];omega) ?_
 ·intro j z hj
  match j,hj with
  |0,hj=>simp at hj;subst hj;simp[Addr.add]
 ·intro z hz
  simp at hz;subst hz
  rw[hus]
  rfl
 ·intro v' w' ho' hg hwh
  have hu':FrZ (w.alloc (.cells #[u] 27)) N u (qs i):=hu.keep fun g n k e=>(o_ w _).block g (by rw[e]at hu;exact hu.lt.2)
  have key:∀(z:Value) (N':Nat) (m:List Int),FrZ (w.alloc (.cells #[u] 27)) N' z m→(∀g n k,z=.slice (some ⟨g,0,none⟩) n k→v.ownBlock≠some g)→FrZ w' N' z m∧∀g n k,z=.slice (some ⟨g,0,none⟩) n k→v'.ownBlock≠some g:=fun z N' m hz hf=>by
   have hlt:∀g n k,z=.slice (some ⟨g,0,none⟩) n k→g<(w.alloc (.cells #[u] 27)).heap.size:=fun g n k e=>by rw[e]at hz;exact hz.lt.2
   refine ⟨hz.keep fun g n k e=>hg.block g (hlt g n k e) fun q=>hf g n k e q.symm,fun g n k e=>?_⟩
   rcases hwh with q|q
   ·rw[q];exact hf g n k e
   ·rw[q]
    intro q2
    have:=Option.some.inj q2
    have:=hlt g n k e
    omega
  refine h v' w' ⟨xs++[u],ho',fun j hj=>?_⟩ (fun w0 hb hle=>hb.grown hg hb.size (fun k hk=>Nat.le_trans hle (hvlt k hk).1))
  have hxl:xs.length=i:=by have:=q1.1;omega
  by_cases hji:j<i
  ·obtain ⟨z,a1,a2,a3⟩:=q2 j hji
   obtain ⟨b1,b2⟩:=key z _ _ a2 a3
   exact ⟨z,by rw[List.getElem?_append_left (by omega)];exact a1,b1,b2⟩
  ·obtain rfl:j=i:=by omega
   obtain ⟨b1,b2⟩:=key u _ _ hu' (fun g n k e q=>by
    have:=hoff g q
    rw[e]at hu
    have:=hu.lt.1
    omega)
   refine ⟨u,by rw[List.getElem?_append_right (by omega),show j - xs.length=0 by omega];rfl,?_,b2⟩
   rcases b1 with b1|⟨g,cap,more,z,c1,c2,c3⟩
   ·exact .inl b1
   ·exact .inr ⟨g,cap,more,z,c1,by omega,c3⟩
theorem pf_none(a:Option Addr)(cap:Nat)(w:World):Calls Try.prog 5 #[.slice a 0 cap] w fun e w'=>e=.returned (.int .i64 1)∧w'=w:=by
 go_enter Try.func5,Try.ntmps5
 go_wp2_with fail
 go_ret
 exact ⟨rfl,rfl⟩
theorem drew_add(w:World)(a b:Nat):(w.drewN a).drewN b=w.drewN (a+b):=by simp[World.drewN,Nat.add_assoc]
set_option maxRecDepth 100000 in
set_option maxHeartbeats 3200000 in
theorem pf_any(Pb po cap c:Nat)(us:Nat→Value)(ps:Nat→List Int)(w:World)(hc1:1≤c)(hcm:c≤maxLen)(hr:∀i,i<c→w.cell? ⟨Pb,po+i,none⟩=some (us i))(hu:∀i,i<c→I_ w (us i) (ps i)):
  Calls Try.prog 5 #[.slice (some ⟨Pb,po,none⟩) c cap] w fun e w'=>∃E:Int,e=.returned (.int .i64 E)∧(E=0→c≤6∧∀i,i<c→(ps i).length=(ps 0).length∧(ps i).length≤60∧∀x∈ps i,-2147483647≤x∧x≤2147483647)∧∃q,w'=w.drewN q:=by
 unfold maxLen at hcm
 have HR:=h_ hr
 have HU:=h_ hu
 have HS:Hid (∀i,i<c→∃a k,us i=.slice a (ps i).length k∧(ps i).length≤9223372036854775807):=h_ fun i hi=>by
  have hl:=(hu i hi).len
  unfold maxLen at hl
  obtain ⟨a,k,e,-⟩:=hu i hi
  exact ⟨a,k,e,by omega⟩
 obtain ⟨n0,hn0⟩:=gN ((ps 0).length)
 have HN0:=h_ hn0
 have c0:=hr 0 (by omega)
 rw[Nat.add_zero]at c0
 obtain ⟨a0,k0,e0,hb0⟩:=HS.out 0 (by omega)
 rw[e0,hn0]at c0
 rw[hn0]at hb0
 clear hu hr e0 hn0
 obtain ⟨GD,hGD⟩:∃P:Prop,P=(c≤6∧∀i,i<c→(ps i).length=n0∧(ps i).length≤60∧∀x∈ps i,-2147483647≤x∧x≤2147483647):=⟨_,rfl⟩
 have HGD:=h_ hGD
 rw[HN0.out,←hGD]
 clear hGD
 go_enter Try.func5,Try.ntmps5
 by_cases hc6:c≤6
 case neg=>
  have hb:¬(c:Int)<1:=by omega
  have hb2:(6:Int)<c:=by omega
  go_wp2_with fail
  go_ret
  exact ⟨1,rfl,(fun e=>by cases e),0,rfl⟩
 have hb:¬(c:Int)<1:=by omega
 have hb2:¬(6:Int)<c:=by omega
 go_wp2_with fail
 go_loopw [3,4] (fun iv _ wr=>∃(i:Nat) (xi:Int),i≤c∧xi=(i:Int)∧iv=.int .i64 xi∧(∀j,j<i→(ps j).length=n0∧n0≤60∧∀x∈ps j,-2147483647≤x∧x≤2147483647)∧∃q,wr=w.drewN q) (fun iv _ _=>c - (intOf iv).toNat)
 case atStart=>exact ⟨0,0,Nat.zero_le _,rfl,rfl,(fun j q=>by omega),0,rfl⟩
 case round=>
  obtain ⟨i,xi,hi,hxi,rfl,hg,q,rfl⟩:=hrel
  have HG:=h_ hg
  have HXI:=h_ hxi
  have hx0:0≤xi:=by omega
  have hx6:xi≤6:=by omega
  have hti:xi.toNat=i:=by omega
  clear hg hxi
  by_cases hlt:xi<(c:Int)
  ·have hic:i<c:=by omega
   have c2:=HR.out i hic
   obtain ⟨a,k,e,hbl⟩:=HS.out i hic
   obtain ⟨n,hn⟩:=gN ((ps i).length)
   have HN:=h_ hn
   rw[e,hn]at c2
   rw[hn]at hbl
   have HE:=h_ e
   clear e hn
   by_cases hne:(n:Int)=n0
   case neg=>
    go_wp2
    go_quiet (fail)
    go_wp2_with fail
    go_ret
    first
     |exact ⟨2,rfl,(fun e=>by cases e),q+nq,rfl⟩
     |exact ⟨2,rfl,(fun e=>by cases e),_,drew_add _ _ _⟩
   by_cases h60:(60:Int)<n
   ·go_wp2
    go_quiet (fail)
    go_wp2_with fail
    go_ret
    first
     |exact ⟨3,rfl,(fun e=>by cases e),q+nq,rfl⟩
     |exact ⟨3,rfl,(fun e=>by cases e),_,drew_add _ _ _⟩
   go_wp2
   go_quiet (fail)
   go_wp2_with fail
   have HIS:=h_ (HU.out i hic)
   obtain ⟨V,hV⟩:=gN (w.drewN (q+nq))
   rw[hV]
   have HV:=h_ hV
   have c3:V.cell? ⟨Pb,po+i,none⟩=some (.slice a n k):=by rw[←hV];exact c2
   go_loopw [4] (fun kv wr=>∃(x:Nat) (xx:Int),x≤n∧xx=(x:Int)∧kv=.int .i64 xx∧(∀y∈(ps i).take x,-2147483647≤y∧y≤2147483647)∧wr=V) (fun kv _=>n - (intOf kv).toNat)
   case atStart=>exact ⟨0,0,Nat.zero_le _,rfl,rfl,(fun y hy=>by simp at hy),rfl⟩
   case round=>
    obtain ⟨x,xx,hx,hxx,rfl,hy,rfl⟩:=hrel
    have HY:=h_ hy
    have HXX:=h_ hxx
    have hxx0:0≤xx:=by omega
    have hxx6:xx≤60:=by omega
    have htx:xx.toNat=x:=by omega
    clear hy hxx
    by_cases hl2:xx<(n:Int)
    ·have hxn:x<n:=by omega
     obtain ⟨ab,ac,ae,h4,h5,h6⟩:=HIS.out
     rw[HE.out]at ae
     cases ae
     obtain ⟨B,off,rfl,hc⟩:=h6.resolve_left (fun e=>by have:=HN.out;rw[e]at this;simp at this;omega)
     obtain ⟨z,hz⟩:∃z,(ps i)[x]?=some z:=⟨_,List.getElem?_eq_getElem (by rw[HN.out];exact hxn)⟩
     have c4:=(show (w.drewN (q+nq)).cell? ⟨B,off+x,none⟩=some (Value.int .i64 z) from hc x z hz)
     rw[HV.out]at c4
     have HTK:=h_ (show (ps i).take (x+1)=(ps i).take x++[z] by
      obtain ⟨h1,h2⟩:=List.getElem?_eq_some_iff.1 hz
      rw[List.take_succ_eq_append_getElem h1,h2])
     clear hc hz h4 h5
     by_cases hz1:z < -2147483647
     ·go_wp2_with fail
      go_ret
      exact ⟨1,rfl,(fun e=>by cases e),q+nq,HV.out.symm⟩
     by_cases hz2:2147483647<z
     ·go_wp2_with fail
      go_ret
      exact ⟨1,rfl,(fun e=>by cases e),q+nq,HV.out.symm⟩
     go_wp2_with fail
     go_roundw
     case rel=>exact ⟨x+1,_,by omega,by have:=HXX.out;omega,rfl,(fun y hy=>by
      rw[HTK.out]at hy
      rcases List.mem_append.1 hy with hy|hy
      ·exact HY.out y hy
      ·simp at hy;omega),by first|rfl|trivial⟩
     case measure=>simp[intOf];omega
    ·have HALL:=h_ (show ∀y∈ps i,-2147483647≤y∧y≤2147483647 by
      have:=HY.out
      rw[List.take_of_length_le (by rw[HN.out];have:=HXX.out;omega)]at this
      exact this)
     go_wp2_with fail
     go_roundw
     case rel=>exact ⟨i+1,_,by omega,by have:=HXI.out;omega,rfl,fun j hj=>by
      rcases Nat.lt_or_ge j i with hj'|hj'
      ·exact HG.out j hj'
      ·obtain rfl:j=i:=by omega
       exact ⟨by rw[HN.out];omega,by omega,HALL.out⟩,q+nq,HV.out.symm⟩
     case measure=>simp[intOf];omega
  ·go_wp2_with fail
   go_ret
   exact ⟨0,rfl,(fun _=>by rw[HGD.out];exact ⟨hc6,fun j hj=>by have:=HG.out j (by omega);exact ⟨this.1,by omega,this.2.2⟩⟩),q,rfl⟩
def stepC:Code→Nat→Code
 |.seq a _,0=>a
 |.seq _ b,_=>b
 |.cond _ a _,0=>a
 |.cond _ _ b,_=>b
 |.block _ c,_=>c
 |.loop c,_=>c
 |c,_=>c
end Go.Proofs.Ytniloklglpchfai
