/- A call that stays in its one goroutine is good where a row also speaks of others. No program in sight. -/
import Derived.Conc.HoldsTime
import Derived.Conc.LeavingOf
import Derived.WalkKit
import Derived.WalkSpells
import Derived.WalkLawsBesides
import Derived.Outline
import Derived.Deep.QuietTactic
import Derived.Lib.SmallJoins
import Derived.Test.YtniloklglpchfakGreatRows
import Derived.BigQuiet
namespace Go.Proofs.YtniloklglpchfakGreat
open Go Go.Conc
end Go.Proofs.YtniloklglpchfakGreat
/- Plain facts on numbers that end somewhere: the clamp, sums, differences and products of clamped numbers. No Go in sight, no condition but those that stand in each row. -/
namespace Go.Proofs.YtniloklglpchfakGreat
theorem gN{α:Type}(a:α):∃x,a=x:=⟨_,rfl⟩
theorem gM{α:Type}(a:α):∃x,x=a:=⟨_,rfl⟩
def cl (x:Int):Int:=if x < -2147483647 then -2147483647 else if 2147483647<x then 2147483647 else x
theorem cl_bd(x:Int):-2147483647≤cl x∧cl x≤2147483647:=by unfold cl;split<;>(try split)<;>omega
theorem cl_lo(x:Int)(h:x < -2147483647):cl x=-2147483647:=by unfold cl;rw[if_pos h]
theorem cl_hi(x:Int)(h:2147483647<x):cl x=2147483647:=by unfold cl;rw[if_neg (by omega),if_pos h]
theorem cl_in(x:Int)(h0:-2147483647≤x)(h1:x≤2147483647):cl x=x:=by unfold cl;rw[if_neg (by omega),if_neg (by omega)]
theorem mul_bd0(x y M:Int)(h0:-M≤x)(h1:x≤M)(h2:-M≤y)(h3:y≤M):-(M*M)≤x*y∧x*y≤M*M:=by
 have e1:0≤(M - x)*(M+y):=Int.mul_nonneg (by omega) (by omega)
 have e2:0≤(M+x)*(M - y):=Int.mul_nonneg (by omega) (by omega)
 have e3:0≤(M - x)*(M - y):=Int.mul_nonneg (by omega) (by omega)
 have e4:0≤(M+x)*(M+y):=Int.mul_nonneg (by omega) (by omega)
 simp only[Int.sub_mul,Int.add_mul,Int.mul_sub,Int.mul_add]at e1 e2 e3 e4
 have c1:x*M=M*x:=Int.mul_comm _ _
 have c2:y*M=M*y:=Int.mul_comm _ _
 omega
theorem mul_bd(a b:Int):-4611686014132420609≤cl a*cl b∧cl a*cl b≤4611686014132420609:=by
 have h:=mul_bd0 (cl a) (cl b) 2147483647 (by have:=cl_bd a;omega) (by have:=cl_bd a;omega) (by have:=cl_bd b;omega) (by have:=cl_bd b;omega)
 omega
def ad (a b:Int):Int:=cl (cl a+cl b)
def sb (a b:Int):Int:=cl (cl a - cl b)
def ml (a b:Int):Int:=cl (cl a*cl b / 256)
theorem ad_bd(a b:Int):-2147483647≤ad a b∧ad a b≤2147483647:=cl_bd _
theorem ml_bd(a b:Int):-2147483647≤ml a b∧ml a b≤2147483647:=cl_bd _
end Go.Proofs.YtniloklglpchfakGreat
/- Small facts that the walks share: endings that are equal, facts kept from the walk, worlds of which nothing old has turned; division that rounds towards 0. No program in sight. -/
namespace Go.Proofs.YtniloklglpchfakGreat
open Go.RowKit
theorem h_{p:Prop}(h:p):Hid p:=h
theorem i_{k:IntKind}{a b:Int}(h:a=b):Ending.returned (.int k a)=.returned (.int k b):=by rw[h]
theorem ret_bool{p q:Bool}(h:p=q):Ending.returned (.bool p)=.returned (.bool q):=by rw[h]
theorem below_drewN(w:World)(n:Nat):Below w.heap.size w (w.drewN n):=⟨rfl,rfl,rfl,Nat.le_refl _,fun _ _=>rfl⟩
theorem o_(w:World)(o:Obj):Below w.heap.size w (w.alloc o):=(Below.refl _ _).alloc (Nat.le_refl _) o
theorem tdiv_256(x:Int):x.tdiv 256=if 0≤x then x / 256 else -(-x / 256):=by
 split
 ·exact Int.tdiv_eq_ediv_of_nonneg (by assumption)
 ·have e:x.tdiv 256=-((-x).tdiv 256):=by rw[Int.neg_tdiv];omega
  rw[e,Int.tdiv_eq_ediv_of_nonneg (by omega)]
theorem tmod_256(x:Int):x.tmod 256=if 0≤x then x % 256 else -(-x % 256):=by
 split
 ·exact Int.tmod_eq_emod_of_nonneg (by assumption)
 ·have e:x.tmod 256=-((-x).tmod 256):=by rw[Int.neg_tmod];omega
  rw[e,Int.tmod_eq_emod_of_nonneg (by omega)]
theorem down_up(x:Int)(h:0≤x.tmod 256):x.tdiv 256=x / 256:=by
 rw[tmod_256]at h;rw[tdiv_256];split at h<;>split<;>omega
theorem down_lo(x:Int)(h0:-4611686014132420609≤x)(h1:x≤4611686014132420609)(h:x.tmod 256<0):wrap64 (x.tdiv 256 - 1)=x / 256:=by
 rw[tmod_256]at h;rw[tdiv_256];unfold wrap64;split at h<;>split<;>omega
end Go.Proofs.YtniloklglpchfakGreat
/- Lists of ints and matrices as they lie in memory: what is read there stays as it is where nothing old turns. No program in sight. -/
namespace Go.Proofs.YtniloklglpchfakGreat
open Go.RowKit
def I_ (w:World) (v:Value) (zs:List Int):Prop:=
 ∃(a:Option Addr) (cap:Nat),v=.slice a zs.length cap∧zs.length≤cap∧cap≤maxLen∧(zs=[]∨∃b off,a=some ⟨b,off,none⟩∧∀i x,zs[i]?=some x→w.cell? ⟨b,off+i,none⟩=some (.int .i64 x))
theorem I_.u_{w w':World}{v:Value}{zs:List Int}(h:I_ w v zs)(hb:Below w.heap.size w w'):I_ w' v zs:=by
 obtain ⟨a,cap,h1,h2,h3,h4⟩:=h
 refine ⟨a,cap,h1,h2,h3,h4.imp id ?_⟩
 rintro ⟨b,off,ha,hc⟩
 refine ⟨b,off,ha,fun i x hx=>?_⟩
 have:=hc i x hx
 rw[hb.cell (p:=⟨b,off+i,none⟩) (World.block_lt_of_cell? w _ this)];exact this
theorem I_.len{w:World}{v:Value}{zs:List Int}(h:I_ w v zs):zs.length≤maxLen:=by
 obtain ⟨_,_,_,h2,h3,_⟩:=h;omega
theorem I_.nil(w:World):I_ w (.slice none 0 0) []:=⟨none,0,rfl,Nat.le_refl _,Nat.zero_le _,.inl rfl⟩
structure Mx where
 rows:Int
 cols:Int
 cells:List Int
def M_ (w:World) (v:Value) (m:Mx):Prop:=∃s,v=.agg #[.int .i64 m.rows,.int .i64 m.cols,s]∧I_ w s m.cells
theorem M_.u_{w w':World}{v:Value}{m:Mx}(h:M_ w v m)(hb:Below w.heap.size w w'):M_ w' v m:=by
 obtain ⟨s,h1,h2⟩:=h;exact ⟨s,h1,h2.u_ hb⟩
theorem p_{w:World}{p:Addr}{v:Value}(h:w.cell? p=some v)(o:Obj):(w.alloc o).cell? p=some v:=by
 rw[World.cell?_alloc_lt _ _ p (World.block_lt_of_cell? w p h)];exact h
end Go.Proofs.YtniloklglpchfakGreat
/- A block of ints of the call's own: read, written, kept. No program in sight. -/
namespace Go.Proofs.YtniloklglpchfakGreat
open Go.RowKit
def RowAt (e:TypeId) (w:World) (g:Nat) (zs:List Int):Prop:=w.heap[g]?=some (.cells (zs.map (Value.int .i64)).toArray e (0,0))
theorem RowAt.lt{e:TypeId}{w:World}{g:Nat}{zs:List Int}(h:RowAt e w g zs):g<w.heap.size:=by
 unfold RowAt at h
 rcases Nat.lt_or_ge g w.heap.size with h'|h'
 ·exact h'
 ·rw[Array.getElem?_eq_none h']at h;cases h
theorem RowAt.cell{e:TypeId}{w:World}{g:Nat}{zs:List Int}(h:RowAt e w g zs){i:Nat}{x:Int}(hx:zs[i]?=some x):w.cell? ⟨g,i,none⟩=some (.int .i64 x):=by
 rw[Joins.cell_of_block h];simp[hx]
theorem RowAt.frozen{e:TypeId}{w:World}{g:Nat}{zs:List Int}(h:RowAt e w g zs)(i:Nat):w.frozen? ⟨g,i,none⟩=false:=Joins.unfrozen_of_block h i
theorem RowAt.set{e:TypeId}{w:World}{g:Nat}{zs:List Int}(h:RowAt e w g zs)(p:Nat)(x:Int):RowAt e (w.setCell ⟨g,p,none⟩ (.int .i64 x)) g (zs.set p x):=by
 unfold RowAt
 rw[Joins.block_setCell h]
 congr 2
 rw[←Array.toList_inj]
 simp[List.map_set]
theorem RowAt.u_{e:TypeId}{w w':World}{B g:Nat}{zs:List Int}(h:RowAt e w g zs)(hb:Below B w w')(hg:g<B):RowAt e w' g zs:=by
 unfold RowAt;rw[hb.block g hg];exact h
theorem RowAt.other{e:TypeId}{w:World}{g:Nat}{zs:List Int}(h:RowAt e w g zs)(a:Addr)(u:Value)(hne:g≠a.block):RowAt e (w.setCell a u) g zs:=by
 unfold RowAt;rw[Below.heap_setCell w a u g hne];exact h
theorem cell_other{w:World}{p:Addr}{x:Value}(h:w.cell? p=some x){g:Nat}(hne:p.block≠g)(q:Nat)(u:Value):(w.setCell ⟨g,q,none⟩ u).cell? p=some x:=
 (World.cell?_of_block (Below.heap_setCell w ⟨g,q,none⟩ u p.block hne)).trans h
theorem w_{w w':World}{g:Nat}(h:w.grownBy w' (some g))(q:Nat)(u:Value):w.grownBy (w'.setCell ⟨g,q,none⟩ u) (some g):=
 ⟨h.os,h.tape,h.output,by simp[World.setCell];exact h.size,fun k hk hne=>(Below.heap_setCell w' ⟨g,q,none⟩ u k (fun e=>hne (by rw[e]))).trans (h.block k hk hne)⟩
theorem grown_drew{w w':World}{row:Option Nat}(h:w.grownBy w' row):w.grownBy w'.drew row:=⟨h.os,h.tape,h.output,h.size,h.block⟩
theorem RowAt.isInts{e:TypeId}{w:World}{g:Nat}{zs:List Int}(h:RowAt e w g zs)(hm:zs.length≤maxLen):I_ w (.slice (some ⟨g,0,none⟩) zs.length zs.length) zs:=
 ⟨_,_,rfl,Nat.le_refl _,hm,.inr ⟨g,0,rfl,fun i x hx=>by rw[Nat.zero_add];exact h.cell hx⟩⟩
def tab (n:Nat) (f:Nat→Int):List Int:=(List.range n).map f
theorem tab_len(n:Nat)(f:Nat→Int):(tab n f).length=n:=by simp[tab]
theorem tab_at{n:Nat}{f:Nat→Int}{i:Nat}(h:i<n):(tab n f)[i]?=some (f i):=by simp[tab,h]
theorem RowAt.isTab{e:TypeId}{w:World}{g n:Nat}{f:Nat→Int}(h:RowAt e w g (tab n f))(hm:n≤maxLen):I_ w (.slice (some ⟨g,0,none⟩) n n) (tab n f):=by
 have:=h.isInts (by rw[tab_len];exact hm)
 rw[tab_len]at this;exact this
theorem tab_congr{n:Nat}{f h:Nat→Int}(e:∀i,i<n→f i=h i):tab n f=tab n h:=by
 unfold tab;exact List.map_congr_left (fun i hi=>e i (List.mem_range.1 hi))
theorem tab_zero(n:Nat):tab n (fun _=>0)=List.replicate n 0:=by
 unfold tab;apply List.ext_getElem?;intro i;by_cases hi:i<n<;>simp[hi]
def F_ (B:Nat) (v:Value):Prop:=∀r c x n k,v=.agg #[r,c,.slice (some x) n k]→n=0∨B≤x.block
theorem y_(B:Nat)(r c:Value):F_ B (.agg #[r,c,.slice none 0 0]):=by intro r' c' x n k e;simp at e
theorem fresh_at{B g n k:Nat}(h:B≤g)(r c:Value)(off:Nat):F_ B (.agg #[r,c,.slice (some ⟨g,off,none⟩) n k]):=by
 intro r' c' x n' k' e
 simp at e
 right;rw[←e.2.2.1];exact h
end Go.Proofs.YtniloklglpchfakGreat
/- Numbers of cells: row, column and place; bounds. No program in sight. -/
namespace Go.Proofs.YtniloklglpchfakGreat
open Go.RowKit
theorem at_div{R i j:Nat}(h:i<R):(j*R+i) % R=i∧(j*R+i) / R=j:=by
 constructor
 ·rw[Nat.add_comm,Nat.add_mul_mod_self_right,Nat.mod_eq_of_lt h]
 ·rw[Nat.add_comm,Nat.add_mul_div_right _ _ (by omega),Nat.div_eq_of_lt h,Nat.zero_add]
theorem idx_lt{R C i j:Nat}(hi:i<R)(hj:j<C):i*C+j<R*C:=by
 have:=Nat.mul_le_mul_right C (show i+1≤R by omega)
 rw[Nat.add_mul]at this;omega
theorem mul_cast_idx{i j C:Nat}{xi xj c:Int}(h1:xi=(i:Int))(h2:xj=(j:Int))(h3:c=(C:Int)):xi*c+xj=((i*C+j:Nat):Int):=by subst h1 h2 h3;simp
theorem idx_nat{i j C:Nat}{xi xj c:Int}(h1:xi=(i:Int))(h2:xj=(j:Int))(h3:c=(C:Int)):(xi*c+xj).toNat=i*C+j:=by rw[mul_cast_idx h1 h2 h3];exact Int.toNat_natCast _
theorem mul_bds{i C:Nat}{xi c:Int}(h1:xi=(i:Int))(h3:c=(C:Int))(hi:i≤24)(hC:C≤24):0≤xi*c∧xi*c≤576:=by
 subst h1 h3
 have h:=Nat.mul_le_mul hi hC
 have e:((i*C:Nat):Int)=(i:Int)*(C:Int):=by simp
 refine ⟨Int.mul_nonneg (by omega) (by omega),?_⟩
 rw[←e];omega
theorem wrap_in{x:Int}(h0:-1000000≤x)(h1:x≤1000000):IntKind.i64.wrap x=x:=by rw[IntKind.wrap_i64];omega
theorem cell_num{C q:Nat}:q / C*C+q % C=q:=by rw[Nat.mul_comm,Nat.div_add_mod]
end Go.Proofs.YtniloklglpchfakGreat
/- Plain facts on products of matrices: what stands in the product behind so many rounds. No Go in sight. -/
namespace Go.Proofs.YtniloklglpchfakGreat
def dot (al bs:List Int) (Ca Cb i j:Nat):Nat→Int
 |0=>0
 |k+1=>ad (dot al bs Ca Cb i j k) (ml ((al[i*Ca+k]?).getD 0) ((bs[k*Cb+j]?).getD 0))
end Go.Proofs.YtniloklglpchfakGreat
/- The sum of a column. No program in sight. -/
namespace Go.Proofs.YtniloklglpchfakGreat
def colS (cs:List Int) (C q:Nat):Nat→Int
 |0=>0
 |k+1=>ad (colS cs C q k) ((cs[k*C+q]?).getD 0)
end Go.Proofs.YtniloklglpchfakGreat
/- A nil slice has no room: of what came in. No program in sight. -/
namespace Go.Proofs.YtniloklglpchfakGreat
open Go.RowKit
def NilOk (v:Value):Prop:=∀n k,v=.slice none n k→n=0∧k=0
end Go.Proofs.YtniloklglpchfakGreat
/- Plain facts on lists of rows: what is laid one behind the other, by its numbers. No program in sight. -/
namespace Go.Proofs.YtniloklglpchfakGreat
theorem tab_list(zs:List Int):tab zs.length (fun q=>(zs[q]?).getD 0)=zs:=by
 apply List.ext_getElem?
 intro i
 by_cases hi:i<zs.length
 ·rw[tab_at hi,List.getElem?_eq_getElem hi];rfl
 ·rw[List.getElem?_eq_none (by rw[tab_len];omega),List.getElem?_eq_none (by omega)]
theorem RowAt.drew{e:TypeId}{w:World}{g:Nat}{zs:List Int}(h:RowAt e w g zs):RowAt e w.drew g zs:=h
theorem r_{n:Nat}{w u:World}(h:Go.RowKit.Below n w u):Go.RowKit.Below n w u.drew:=⟨h.os,h.tape,h.output,h.size,h.block⟩
end Go.Proofs.YtniloklglpchfakGreat
/- What Ints of package galleysame comes to: whether two lists of ints are the same. -/
namespace Go.Proofs.YtniloklglpchfakGreat
open Go.RowKit
theorem eq_at(zs ys:List Int)(hl:zs.length=ys.length)(h:∀i,i<zs.length→zs[i]?=ys[i]?):zs=ys:=by
 apply List.ext_getElem?
 intro i
 by_cases hi:i<zs.length
 ·exact h i hi
 ·rw[List.getElem?_eq_none (by omega),List.getElem?_eq_none (by omega)]
def sameI (zs ys:List Int):Bool:=decide (zs=ys)
set_option maxHeartbeats 800000 in
set_option maxRecDepth 100000 in
theorem ints_any(v u:Value)(zs ys:List Int)(w:World)(hv:I_ w v zs)(hu:I_ w u ys):Calls Tryz.prog 105 #[v,u] w fun e w'=>e=.returned (.bool (sameI zs ys))∧∃n,w'=w.drewN n:=by
 have hlz:=hv.len
 have hly:=hu.len
 unfold maxLen at hlz hly
 obtain ⟨a,cap,rfl,h2,h3,h4⟩:=hv
 obtain ⟨a',cap',rfl,h2',h3',h4'⟩:=hu
 by_cases hl:zs.length=ys.length
 ·have hb:((zs.length:Int) !=(ys.length:Int))=false:=by rw[hl];simp
  have HL:=h_ hl
  obtain ⟨n,hn⟩:=gN (zs.length)
  have hn':ys.length=n:=by omega
  rw[hn,hn']at hb
  rw[hn]at hlz h2 ⊢
  rw[hn']at h2' ⊢
  have HN:=h_ hn
  have HN':=h_ hn'
  clear hn hn' hl hly
  go_enter Tryz.func105,Tryz.ntmps105
  go_wp2
  go_loopw [5] (fun i wr=>∃(k q:Nat),k≤n∧i=.int .i64 k∧wr=w.drewN q∧∀j,j<k→zs[j]?=ys[j]?) (fun i _=>n - (intOf i).toNat)
  case atStart=>exact ⟨0,0,Nat.zero_le _,rfl,rfl,fun j hj=>by omega⟩
  case round=>
   obtain ⟨k,q,hk,rfl,rfl,he⟩:=hrel
   have HE:=h_ he
   clear he
   by_cases hlt:k<n
   ·obtain ⟨x,hx⟩:∃x,zs[k]?=some x:=⟨zs[k]'(by have:=HN.out;omega),List.getElem?_eq_getElem _⟩
    obtain ⟨y,hy⟩:∃y,ys[k]?=some y:=⟨ys[k]'(by have:=HN'.out;omega),List.getElem?_eq_getElem _⟩
    obtain ⟨b,off,rfl,hc⟩:∃b off,a=some ⟨b,off,none⟩∧∀i x,zs[i]?=some x→w.cell? ⟨b,off+i,none⟩=some (.int .i64 x):=h4.resolve_left (fun e=>by rw[e]at hx;simp at hx)
    obtain ⟨b',off',rfl,hc'⟩:∃b off,a'=some ⟨b,off,none⟩∧∀i x,ys[i]?=some x→w.cell? ⟨b,off+i,none⟩=some (.int .i64 x):=h4'.resolve_left (fun e=>by rw[e]at hy;simp at hy)
    have c1:=hc k x hx
    have c2:=hc' k y hy
    have HX:=h_ hx
    have HY:=h_ hy
    have hlt':(k:Int)<(n:Int):=by omega
    clear h4 h4' hc hc' hx hy
    by_cases hxy:x=y
    ·have ht:(x !=y)=false:=by simp[hxy]
     have HXY:=h_ hxy
     clear hxy
     go_wp2
     go_quiet (fail)
     go_wp2
     exact ⟨⟨k+1,_,by omega,by go_num,rfl,fun j hj=>by
      rcases Nat.lt_or_ge j k with h|h
      ·exact HE.out j h
      ·rw[show j=k by omega,HX.out,HY.out,HXY.out]⟩,by simp[intOf];omega⟩
    ·have ht:(x !=y)=true:=by simp[hxy]
     have HXY:=h_ hxy
     clear hxy
     go_wp2
     go_quiet (fail)
     go_wp2
     go_ret
     exact ⟨ret_bool (by unfold sameI;rw[eq_comm,decide_eq_false_iff_not];exact fun e=>HXY.out (Option.some.inj (by rw[←HX.out,←HY.out,e]))),_,World.drewN_drewN _ _ _⟩
   ·go_wp2
    go_ret
    exact ⟨ret_bool (by unfold sameI;rw[eq_comm,decide_eq_true_iff];exact eq_at zs ys HL.out (fun i hi=>HE.out i (by have:=HN.out;omega))),_,rfl⟩
 ·have hb:((zs.length:Int) !=(ys.length:Int))=true:=by rw[bne_iff_ne];omega
  go_enter Tryz.func105,Tryz.ntmps105
  go_wp2
  go_ret
  exact ⟨ret_bool (by unfold sameI;rw[eq_comm,decide_eq_false_iff_not];exact fun e=>hl (by rw[e])),0,rfl⟩
def sameM (m k:Mx):Bool:=decide (m.rows=k.rows∧m.cols=k.cols∧m.cells=k.cells)
theorem sameM_no{m k:Mx}(h:¬(m.rows=k.rows∧m.cols=k.cols)):false=sameM m k:=by
 unfold sameM;rw[eq_comm,decide_eq_false_iff_not];exact fun e=>h ⟨e.1,e.2.1⟩
theorem sameM_yes{m k:Mx}(h1:m.rows=k.rows)(h2:m.cols=k.cols):sameI m.cells k.cells=sameM m k:=by
 unfold sameM sameI;rw[decide_eq_decide];exact ⟨fun h=>⟨h1,h2,h⟩,fun h=>h.2.2⟩
set_option maxHeartbeats 800000 in
theorem matrices_any(v u:Value)(m k:Mx)(w:World)(hv:M_ w v m)(hu:M_ w u k):Calls Tryz.prog 83 #[v,u] w fun e w'=>e=.returned (.bool (sameM m k))∧Below w.heap.size w w':=by
 obtain ⟨s,rfl,hs⟩:=hv
 obtain ⟨t,rfl,ht⟩:=hu
 have bb:Below w.heap.size w ((w.alloc (.cells #[.int .i64 m.rows,.int .i64 m.cols,s] 28)).alloc (.cells #[.int .i64 k.rows,.int .i64 k.cols,t] 28)):=((Below.refl _ _).alloc (Nat.le_refl _) _).alloc (by simp) _
 have hs2:=hs.u_ bb
 have ht2:=ht.u_ bb
 by_cases h1:m.rows=k.rows
 ·have g1:(m.rows !=k.rows)=false:=by simp[h1]
  by_cases h2:m.cols=k.cols
  ·have g2:(m.cols !=k.cols)=false:=by simp[h2]
   have HE:=h_ (sameM_yes h1 h2)
   clear h1 h2
   go_enter Tryz.func83,Tryz.ntmps83
   go_wp2_with fail
   refine (ints_any _ _ _ _ _ hs2 ht2).mono ?_
   rintro e w' ⟨rfl,n,rfl⟩
   go_wp2
   go_ret
   exact ⟨ret_bool HE.out,bb.trans ((below_drewN _ _).mono bb.size)⟩
  ·have g2:(m.cols !=k.cols)=true:=by simp[h2]
   have HE:=h_ (sameM_no (m:=m) (k:=k) (fun e=>h2 e.2))
   clear h1 h2
   go_enter Tryz.func83,Tryz.ntmps83
   go_wp2
   go_ret
   exact ⟨ret_bool HE.out,bb⟩
 ·have g1:(m.rows !=k.rows)=true:=by simp[h1]
  have HE:=h_ (sameM_no (m:=m) (k:=k) (fun e=>h1 e.1))
  clear h1
  go_enter Tryz.func83,Tryz.ntmps83
  go_wp2
  go_ret
  exact ⟨ret_bool HE.out,bb⟩
def inEnds (x:Int):Bool:=decide (-2147483647≤x)&&decide (x≤2147483647)
def okSides (m:Mx):Bool:=decide (0≤m.rows)&&decide (m.rows≤24)&&decide (0≤m.cols)&&decide (m.cols≤12)
def q_ (m:Mx):Int:=if okSides m=false then 1 else if (m.cells.length:Int)≠m.rows*m.cols then 2 else if m.cells.all inEnds=false then 1 else 0
theorem fault_side{m:Mx}(h:m.rows<0∨24<m.rows∨m.cols<0∨12<m.cols):1=q_ m:=by
 unfold q_;rw[if_pos (by simp[okSides];omega)]
theorem fault_in{m:Mx}(h:0≤m.rows∧m.rows≤24∧0≤m.cols∧m.cols≤12):okSides m=true:=by simp[okSides];omega
theorem fault_len{m:Mx}(h:okSides m=true)(hl:(m.cells.length:Int)≠m.rows*m.cols):2=q_ m:=by
 unfold q_;rw[if_neg (by simp[h]),if_pos hl]
theorem fault_cell{m:Mx}(h:okSides m=true)(hl:(m.cells.length:Int)=m.rows*m.cols)(hc:m.cells.all inEnds=false):1=q_ m:=by
 unfold q_;rw[if_neg (by simp[h]),if_neg (by simp[hl]),if_pos hc]
theorem fault_none{m:Mx}(h:okSides m=true)(hl:(m.cells.length:Int)=m.rows*m.cols)(hc:m.cells.all inEnds=true):0=q_ m:=by
 unfold q_;rw[if_neg (by simp[h]),if_neg (by simp[hl]),if_neg (by simp[hc])]
theorem all_no{zs:List Int}{k:Nat}{x:Int}(h:zs[k]?=some x)(hx:inEnds x=false):zs.all inEnds=false:=by
 rw[List.all_eq_false];exact ⟨x,List.mem_of_getElem? h,by simp[hx]⟩
theorem all_yes{zs:List Int}(h:∀k x,k<zs.length→zs[k]?=some x→inEnds x=true):zs.all inEnds=true:=by
 rw[List.all_eq_true];intro x hx
 obtain ⟨k,hk,rfl⟩:=List.getElem_of_mem hx
 exact h k _ hk (List.getElem?_eq_getElem hk)
theorem rc_bd(r c:Int)(h:0≤r∧r≤24∧0≤c∧c≤12):0≤r*c∧r*c≤288:=by
 refine ⟨Int.mul_nonneg h.1 h.2.2.1,?_⟩
 have h1:r*c≤24*c:=Int.mul_le_mul_of_nonneg_right h.2.1 h.2.2.1
 omega
end Go.Proofs.YtniloklglpchfakGreat
/- Messages as bytes: how they are written and read, as plain data; what is written is read, whatever stands behind it, and of a shorter beginning nothing is. No program in sight. -/
namespace Go.Proofs.YtniloklglpchfakGreat
def sevF:Nat→Nat→List Int
 |0,_=>[]
 |k+1,n=>if n<128 then [(n:Int)] else ((128+n % 128:Nat):Int)::sevF k (n / 128)
def sev (n:Nat):List Int:=sevF 9 n
def rdB:Nat→Bool→Int→Int→List Int→Option (Int×List Int)
 |0,_,_,_,_=>none
 |_+1,_,_,_,[]=>none
 |k+1,f,P,acc,d::t=>if d<128 then (if d=0∧f=false then none else some (acc+d % 128*P,t)) else rdB k false (P*128) (acc+d % 128*P) t
def rd1 (b:List Int):Option (Int×List Int):=rdB 9 true 1 0 b
theorem sevF_more:∀{k n:Nat},n<128 ^ k→0<k→sevF (k+1) n=sevF k n
 |0,n,_,h=>by omega
 |k+1,n,h,_=>by
  unfold sevF
  by_cases c:n<128
  ·rw[if_pos c,if_pos c]
  ·rw[if_neg c,if_neg c]
   have hk:0<k:=by
    rcases Nat.eq_zero_or_pos k with e|e
    ·rw[e]at h;simp at h;omega
    ·exact e
   rw[sevF_more (k:=k) (n:=n / 128) (by rw[Nat.pow_succ]at h;exact Nat.div_lt_of_lt_mul (by rw[Nat.mul_comm];exact h)) hk]
theorem sevF_len:∀(k n:Nat),(sevF k n).length≤k
 |0,_=>by simp[sevF]
 |k+1,n=>by
  have:=sevF_len k (n / 128)
  unfold sevF
  split<;>simp<;>omega
theorem div_pow{n k:Nat}(h:n<128 ^ (k+1)):n / 128<128 ^ k:=Nat.div_lt_of_lt_mul (by rw[Nat.pow_succ]at h;rw[Nat.mul_comm];exact h)
theorem rd_sev:∀{k n j:Nat} {f:Bool} {P acc:Int} {rest:List Int},n<128 ^ k→0<k→k≤j→(f=true∨n≠0)→rdB j f P acc (sevF k n++rest)=some (acc+(n:Int)*P,rest)
 |0,n,j,f,P,acc,rest,_,h,_,_=>by omega
 |k+1,n,0,f,P,acc,rest,_,_,h,_=>by omega
 |k+1,n,j+1,f,P,acc,rest,h,_,hj,hf=>by
  unfold sevF
  by_cases c:n<128
  ·rw[if_pos c,List.singleton_append]
   unfold rdB
   rw[if_pos (by omega),if_neg (by
    rintro ⟨e1,e2⟩
    rcases hf with q|q
    ·rw[q]at e2;cases e2
    ·omega),show (n:Int) % 128=n by omega]
  ·rw[if_neg c,List.cons_append]
   unfold rdB
   have h1:=div_pow h
   have hk:0<k:=by
    rcases Nat.eq_zero_or_pos k with e|e
    ·rw[e]at h1;simp at h1;omega
    ·exact e
   rw[if_neg (by omega),rd_sev h1 hk (by omega) (.inr (by omega))]
   have e1:((128+n % 128:Nat):Int) % 128=((n % 128:Nat):Int):=by omega
   have e2:(n:Int)=((n % 128:Nat):Int)+128*((n / 128:Nat):Int):=by omega
   rw[e1]
   congr 2
   rw[e2,Int.add_mul,Int.add_assoc]
   congr 1
   rw[show P*128=128*P from Int.mul_comm _ _,←Int.mul_assoc,Int.mul_comm ((n / 128:Nat):Int) 128]
def rdNs:Nat→List Int→Option (List Int×List Int)
 |0,b=>some ([],b)
 |k+1,b=>match rd1 b with
  |none=>none
  |some (x,t)=>match rdNs k t with
   |none=>none
   |some (l,t')=>some (x::l,t')
def wrNs (l:List Nat):List Int:=l.flatMap sev
def okN (n:Nat):Prop:=n<128 ^ 9
theorem rd1_sev{n:Nat}(h:okN n)(rest:List Int):rd1 (sev n++rest)=some ((n:Int),rest):=by
 unfold rd1 sev
 rw[rd_sev h (by decide) (Nat.le_refl _) (.inl rfl)]
 simp
theorem rdNs_wr:∀{l:List Nat},(∀n∈l,okN n)→∀rest,rdNs l.length (wrNs l++rest)=some (l.map (fun (n:Nat)=>(n:Int)),rest)
 |[],_,rest=>rfl
 |n::t,h,rest=>by
  have e:wrNs (n::t)++rest=sev n++(wrNs t++rest):=by simp[wrNs]
  rw[e,List.length_cons,rdNs,rd1_sev (h n (by simp))]
  dsimp only
  rw[rdNs_wr (fun m hm=>h m (List.mem_cons_of_mem _ hm)) rest]
  rfl
theorem wr_app(l k:List Nat):wrNs (l++k)=wrNs l++wrNs k:=by simp[wrNs]
def sumsG:Int→Int→List Int→List Int
 |x,y,[]=>[x % 255,y % 255]
 |x,y,d::t=>sumsG (x+d) (y+(x+d) % 255) t
theorem sumsG_len:∀(x y:Int) (l:List Int),(sumsG x y l).length=2
 |_,_,[]=>rfl
 |x,y,d::t=>by unfold sumsG;exact sumsG_len _ _ t
def zig (x:Int):Nat:=if 0≤x then (2*x).toNat else (-2*x - 1).toNat
def unz (n:Int):Int:=if n % 2=1 then -(n / 2) - 1 else n / 2
theorem unz_zig(x:Int):unz (zig x:Int)=x:=by
 unfold unz zig
 by_cases c:0≤x
 ·rw[if_pos c,if_neg (by omega)];omega
 ·rw[if_neg c,if_pos (by omega)];omega
def msgF (k mi:Int) (b:Mx):Int:=if k<1∨2<k∨mi<0∨11<mi then 1 else q_ b
def headN (k mi:Int) (b:Mx):List Nat:=[k.toNat,mi.toNat,b.rows.toNat,b.cols.toNat]
def cellN (b:Mx):List Nat:=b.cells.map zig
def bodyB (k mi:Int) (b:Mx):List Int:=wrNs (headN k mi b++cellN b)
def msgB (k mi:Int) (b:Mx):List Int:=bodyB k mi b++sumsG 0 0 (bodyB k mi b)
def rdEnd (b:List Int) (k mi:Int) (m:Mx) (t:List Int):Option ((Int×Int×Mx)×Nat):=
 if msgF k mi m≠0 then none else match t with
  |s0::s1::_=>if sumsG 0 0 (b.take (b.length - t.length))=[s0,s1] then some ((k,mi,m),b.length - t.length+2) else none
  |_=>none
def rdMid (b:List Int) (h t:List Int):Option ((Int×Int×Mx)×Nat):=
 match h with
 |[k,mi,r,c]=>if 24<r∨12<c then none else match rdNs (r*c).toNat t with
  |none=>none
  |some (zs,t')=>rdEnd b k mi ⟨r,c,zs.map unz⟩ t'
 |_=>none
def rdMsg (b:List Int):Option ((Int×Int×Mx)×Nat):=
 match rdNs 4 b with
 |none=>none
 |some (h,t)=>rdMid b h t
theorem msgF_in{k mi:Int}{b:Mx}(h:msgF k mi b=0):1≤k∧k≤2∧0≤mi∧mi≤11∧q_ b=0:=by
 unfold msgF at h
 split at h
 ·cases h
 ·exact ⟨by omega,by omega,by omega,by omega,h⟩
theorem fault_zero{m:Mx}(h:q_ m=0):(0≤m.rows∧m.rows≤24∧0≤m.cols∧m.cols≤12)∧(m.cells.length:Int)=m.rows*m.cols∧∀x∈m.cells,-2147483647≤x∧x≤2147483647:=by
 unfold q_ at h
 by_cases c1:okSides m=false
 ·rw[if_pos c1]at h;cases h
 ·rw[if_neg c1]at h
  by_cases c2:(m.cells.length:Int)≠m.rows*m.cols
  ·rw[if_pos c2]at h;cases h
  ·rw[if_neg c2]at h
   by_cases c3:m.cells.all inEnds=false
   ·rw[if_pos c3]at h;cases h
   ·refine ⟨?_,by omega,fun x hx=>?_⟩
    ·have:okSides m=true:=by simpa using c1
     simp[okSides]at this
     omega
    ·have:m.cells.all inEnds=true:=by simpa using c3
     have:=List.all_eq_true.1 this x hx
     simpa [inEnds] using this
theorem msg_okN{k mi:Int}{b:Mx}(h:msgF k mi b=0):(∀n∈headN k mi b,okN n)∧(∀n∈cellN b,okN n):=by
 obtain ⟨h1,h2,h3,h4,h5⟩:=msgF_in h
 obtain ⟨⟨r1,r2,r3,r4⟩,_,hc⟩:=fault_zero h5
 constructor
 ·intro n hn
  unfold okN
  simp[headN]at hn
  have:n≤1000:=by omega
  exact Nat.lt_of_le_of_lt this (by decide)
 ·intro n hn
  obtain ⟨x,hx,rfl⟩:=List.mem_map.1 hn
  have:=hc x hx
  have hz:zig x≤5000000000:=by unfold zig;split<;>omega
  unfold okN
  exact Nat.lt_of_le_of_lt hz (by decide)
theorem head_cast{k mi:Int}{b:Mx}(h:msgF k mi b=0):(headN k mi b).map (fun (n:Nat)=>(n:Int))=[k,mi,b.rows,b.cols]:=by
 obtain ⟨h1,h2,h3,h4,h5⟩:=msgF_in h
 obtain ⟨⟨r1,r2,r3,r4⟩,_,_⟩:=fault_zero h5
 simp[headN]
 omega
theorem cell_cast(b:Mx):((cellN b).map (fun (n:Nat)=>(n:Int))).map unz=b.cells:=by
 unfold cellN
 rw[List.map_map,List.map_map]
 apply List.ext_getElem?
 intro i
 rw[List.getElem?_map]
 cases h:b.cells[i]? with
 |none=>rfl
 |some x=>simp[unz_zig]
theorem cell_len{k mi:Int}{b:Mx}(h:msgF k mi b=0):(b.rows*b.cols).toNat=(cellN b).length:=by
 obtain ⟨_,_,_,_,h5⟩:=msgF_in h
 obtain ⟨_,hl,_⟩:=fault_zero h5
 unfold cellN
 rw[List.length_map]
 omega
theorem rd_head{k mi:Int}{b:Mx}(h:msgF k mi b=0)(rest:List Int):rdNs 4 (wrNs (headN k mi b)++rest)=some ([k,mi,b.rows,b.cols],rest):=by
 have:=rdNs_wr (msg_okN h).1 rest
 rw[head_cast h]at this
 exact this
theorem rd_cells{k mi:Int}{b:Mx}(h:msgF k mi b=0)(rest:List Int):rdNs (b.rows*b.cols).toNat (wrNs (cellN b)++rest)=some ((cellN b).map (fun (n:Nat)=>(n:Int)),rest):=by
 rw[cell_len h]
 exact rdNs_wr (msg_okN h).2 rest
theorem rd_mid{k mi:Int}{b:Mx}(h:msgF k mi b=0)(B t:List Int):rdMid B [k,mi,b.rows,b.cols] t=match rdNs (b.rows*b.cols).toNat t with|none=>none|some (zs,t')=>rdEnd B k mi ⟨b.rows,b.cols,zs.map unz⟩ t':=by
 obtain ⟨_,_,_,_,h5⟩:=msgF_in h
 obtain ⟨⟨r1,r2,r3,r4⟩,_,_⟩:=fault_zero h5
 unfold rdMid
 dsimp only
 rw[if_neg (by omega)]
theorem msg_back{k mi:Int}{b:Mx}(h:msgF k mi b=0)(more:List Int):rdMsg (msgB k mi b++more)=some ((k,mi,b),(msgB k mi b).length):=by
 have e:msgB k mi b++more=wrNs (headN k mi b)++(wrNs (cellN b)++(sumsG 0 0 (bodyB k mi b)++more)):=by
  unfold msgB bodyB
  rw[wr_app]
  simp[List.append_assoc]
 unfold rdMsg
 have hl:(msgB k mi b).length=(bodyB k mi b).length+2:=by unfold msgB;rw[List.length_append,sumsG_len]
 obtain ⟨s0,s1,hs⟩:∃s0 s1,sumsG 0 0 (bodyB k mi b)=[s0,s1]:=by
  have:=sumsG_len 0 0 (bodyB k mi b)
  match hq:sumsG 0 0 (bodyB k mi b),this with
  |[x,y],_=>exact ⟨x,y,rfl⟩
 have htk:(msgB k mi b++more).take (bodyB k mi b).length=bodyB k mi b:=by
  unfold msgB
  rw[List.append_assoc,List.take_append_of_le_length (Nat.le_refl _),List.take_length]
 have hsub:(msgB k mi b++more).length - (s0::s1::more).length=(bodyB k mi b).length:=by
  rw[List.length_append,hl]
  simp
  omega
 rw[show rdNs 4 (msgB k mi b++more)=some ([k,mi,b.rows,b.cols],wrNs (cellN b)++(sumsG 0 0 (bodyB k mi b)++more)) by rw[e];exact rd_head h _]
 dsimp only
 rw[rd_mid h,rd_cells h]
 dsimp only
 rw[cell_cast,hs]
 show rdEnd _ k mi ⟨b.rows,b.cols,b.cells⟩ (s0::s1::more)=_
 unfold rdEnd
 rw[if_neg (by rw[show (⟨b.rows,b.cols,b.cells⟩:Mx)=b from rfl,h];simp)]
 dsimp only
 rw[hsub,htk,if_pos hs,hl]
end Go.Proofs.YtniloklglpchfakGreat
