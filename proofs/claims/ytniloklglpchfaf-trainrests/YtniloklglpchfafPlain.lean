/- Plain facts on numbers that end somewhere: the clamp, sums, differences and products of clamped numbers. No Go in sight, no condition but those that stand in each row. -/
import Derived.WalkKit
import Derived.WalkSpells
import Derived.WalkLawsBesides
import Derived.Outline
import Derived.Deep.QuietTactic
import Derived.Lib.SmallJoins
namespace Go.Proofs.Ytniloklglpchfaf
theorem gN{α:Type}(a:α):∃x,a=x:=⟨_,rfl⟩
theorem gM{α:Type}(a:α):∃x,x=a:=⟨_,rfl⟩
def cl (x:Int):Int:=if x < -2147483647 then -2147483647 else if 2147483647<x then 2147483647 else x
theorem cl_bd(x:Int):-2147483647≤cl x∧cl x≤2147483647:=by unfold cl;split<;>(try split)<;>omega
theorem cl_lo(x:Int)(h:x < -2147483647):cl x=-2147483647:=by unfold cl;rw[if_pos h]
theorem cl_hi(x:Int)(h:2147483647<x):cl x=2147483647:=by unfold cl;rw[if_neg (by omega),if_pos h]
theorem cl_in(x:Int)(h0:-2147483647≤x)(h1:x≤2147483647):cl x=x:=by unfold cl;rw[if_neg (by omega),if_neg (by omega)]
theorem cl_cl(x:Int):cl (cl x)=cl x:=cl_in _ (cl_bd x).1 (cl_bd x).2
theorem cl_mono(x y:Int)(h:x≤y):cl x≤cl y:=by unfold cl;split<;>split<;>(try split)<;>(try split)<;>omega
theorem mul_bd0(x y M:Int)(h0:-M≤x)(h1:x≤M)(h2:-M≤y)(h3:y≤M):-(M*M)≤x*y∧x*y≤M*M:=by
 have e1:0≤(M - x)*(M+y):=Int.mul_nonneg (by omega) (by omega)
 have e2:0≤(M+x)*(M - y):=Int.mul_nonneg (by omega) (by omega)
 have e3:0≤(M - x)*(M - y):=Int.mul_nonneg (by omega) (by omega)
 have e4:0≤(M+x)*(M+y):=Int.mul_nonneg (by omega) (by omega)
 simp only[Int.sub_mul,Int.add_mul,Int.mul_sub,Int.mul_add]at e1 e2 e3 e4
 have c1:x*M=M*x:=Int.mul_comm _ _
 have c2:y*M=M*y:=Int.mul_comm _ _
 omega
theorem mul_bd(a b:Int):-4611686014132420609≤cl a*cl b∧cl a*cl b≤4611686014132420609:=by
 have h:=mul_bd0 (cl a) (cl b) 2147483647 (by have:=cl_bd a;omega) (by have:=cl_bd a;omega) (by have:=cl_bd b;omega) (by have:=cl_bd b;omega)
 omega
def ad (a b:Int):Int:=cl (cl a+cl b)
def sb (a b:Int):Int:=cl (cl a - cl b)
def ml (a b:Int):Int:=cl (cl a*cl b / 256)
theorem ad_bd(a b:Int):-2147483647≤ad a b∧ad a b≤2147483647:=cl_bd _
theorem ml_bd(a b:Int):-2147483647≤ml a b∧ml a b≤2147483647:=cl_bd _
theorem ml_comm(a b:Int):ml a b=ml b a:=by unfold ml;rw[Int.mul_comm]
theorem ad_zero(a:Int):ad a 0=cl a:=by
 unfold ad;rw[cl_in 0 (by omega) (by omega),Int.add_zero,cl_cl]
theorem ml_zero(a:Int):ml a 0=0:=by
 unfold ml;rw[cl_in 0 (by omega) (by omega)];simp[cl]
end Go.Proofs.Ytniloklglpchfaf
/- Small facts that the walks share: endings that are equal, facts kept from the walk, worlds of which nothing old has turned; division that rounds towards 0. No program in sight. -/
namespace Go.Proofs.Ytniloklglpchfaf
open Go.RowKit
theorem h_{p:Prop}(h:p):Hid p:=h
theorem i_{k:IntKind}{a b:Int}(h:a=b):Ending.returned (.int k a)=.returned (.int k b):=by rw[h]
theorem ret_bool{p q:Bool}(h:p=q):Ending.returned (.bool p)=.returned (.bool q):=by rw[h]
theorem below_drewN(w:World)(n:Nat):Below w.heap.size w (w.drewN n):=⟨rfl,rfl,rfl,Nat.le_refl _,fun _ _=>rfl⟩
theorem o_(w:World)(o:Obj):Below w.heap.size w (w.alloc o):=(Below.refl _ _).alloc (Nat.le_refl _) o
theorem tdiv_256(x:Int):x.tdiv 256=if 0≤x then x / 256 else -(-x / 256):=by
 split
 ·exact Int.tdiv_eq_ediv_of_nonneg (by assumption)
 ·have e:x.tdiv 256=-((-x).tdiv 256):=by rw[Int.neg_tdiv];omega
  rw[e,Int.tdiv_eq_ediv_of_nonneg (by omega)]
theorem tmod_256(x:Int):x.tmod 256=if 0≤x then x % 256 else -(-x % 256):=by
 split
 ·exact Int.tmod_eq_emod_of_nonneg (by assumption)
 ·have e:x.tmod 256=-((-x).tmod 256):=by rw[Int.neg_tmod];omega
  rw[e,Int.tmod_eq_emod_of_nonneg (by omega)]
theorem down_up(x:Int)(h:0≤x.tmod 256):x.tdiv 256=x / 256:=by
 rw[tmod_256]at h;rw[tdiv_256];split at h<;>split<;>omega
theorem down_lo(x:Int)(h0:-4611686014132420609≤x)(h1:x≤4611686014132420609)(h:x.tmod 256<0):wrap64 (x.tdiv 256 - 1)=x / 256:=by
 rw[tmod_256]at h;rw[tdiv_256];unfold wrap64;split at h<;>split<;>omega
end Go.Proofs.Ytniloklglpchfaf
/- Lists of ints and matrices as they lie in memory: what is read there stays as it is where nothing old turns. No program in sight. -/
namespace Go.Proofs.Ytniloklglpchfaf
open Go.RowKit
def I_ (w:World) (v:Value) (zs:List Int):Prop:=
 ∃(a:Option Addr) (cap:Nat),v=.slice a zs.length cap∧zs.length≤cap∧cap≤maxLen∧(zs=[]∨∃b off,a=some ⟨b,off,none⟩∧∀i x,zs[i]?=some x→w.cell? ⟨b,off+i,none⟩=some (.int .i64 x))
theorem I_.u_{w w':World}{v:Value}{zs:List Int}(h:I_ w v zs)(hb:Below w.heap.size w w'):I_ w' v zs:=by
 obtain ⟨a,cap,h1,h2,h3,h4⟩:=h
 refine ⟨a,cap,h1,h2,h3,h4.imp id ?_⟩
 rintro ⟨b,off,ha,hc⟩
 refine ⟨b,off,ha,fun i x hx=>?_⟩
 have:=hc i x hx
 rw[hb.cell (p:=⟨b,off+i,none⟩) (World.block_lt_of_cell? w _ this)];exact this
theorem I_.len{w:World}{v:Value}{zs:List Int}(h:I_ w v zs):zs.length≤maxLen:=by
 obtain ⟨_,_,_,h2,h3,_⟩:=h;omega
theorem I_.nil(w:World):I_ w (.slice none 0 0) []:=⟨none,0,rfl,Nat.le_refl _,Nat.zero_le _,.inl rfl⟩
structure Mx where
 rows:Int
 cols:Int
 cells:List Int
def M_ (w:World) (v:Value) (m:Mx):Prop:=∃s,v=.agg #[.int .i64 m.rows,.int .i64 m.cols,s]∧I_ w s m.cells
theorem M_.u_{w w':World}{v:Value}{m:Mx}(h:M_ w v m)(hb:Below w.heap.size w w'):M_ w' v m:=by
 obtain ⟨s,h1,h2⟩:=h;exact ⟨s,h1,h2.u_ hb⟩
theorem p_{w:World}{p:Addr}{v:Value}(h:w.cell? p=some v)(o:Obj):(w.alloc o).cell? p=some v:=by
 rw[World.cell?_alloc_lt _ _ p (World.block_lt_of_cell? w p h)];exact h
end Go.Proofs.Ytniloklglpchfaf
/- A block of ints of the call's own: read, written, kept. No program in sight. -/
namespace Go.Proofs.Ytniloklglpchfaf
open Go.RowKit
def RowAt (e:TypeId) (w:World) (g:Nat) (zs:List Int):Prop:=w.heap[g]?=some (.cells (zs.map (Value.int .i64)).toArray e (0,0))
theorem RowAt.cell{e:TypeId}{w:World}{g:Nat}{zs:List Int}(h:RowAt e w g zs){i:Nat}{x:Int}(hx:zs[i]?=some x):w.cell? ⟨g,i,none⟩=some (.int .i64 x):=by
 rw[Joins.cell_of_block h];simp[hx]
theorem RowAt.other{e:TypeId}{w:World}{g:Nat}{zs:List Int}(h:RowAt e w g zs)(a:Addr)(u:Value)(hne:g≠a.block):RowAt e (w.setCell a u) g zs:=by
 unfold RowAt;rw[Below.heap_setCell w a u g hne];exact h
theorem cell_other{w:World}{p:Addr}{x:Value}(h:w.cell? p=some x){g:Nat}(hne:p.block≠g)(q:Nat)(u:Value):(w.setCell ⟨g,q,none⟩ u).cell? p=some x:=
 (World.cell?_of_block (Below.heap_setCell w ⟨g,q,none⟩ u p.block hne)).trans h
theorem w_{w w':World}{g:Nat}(h:w.grownBy w' (some g))(q:Nat)(u:Value):w.grownBy (w'.setCell ⟨g,q,none⟩ u) (some g):=
 ⟨h.os,h.tape,h.output,by simp[World.setCell];exact h.size,fun k hk hne=>(Below.heap_setCell w' ⟨g,q,none⟩ u k (fun e=>hne (by rw[e]))).trans (h.block k hk hne)⟩
theorem grown_drew{w w':World}{row:Option Nat}(h:w.grownBy w' row):w.grownBy w'.drew row:=⟨h.os,h.tape,h.output,h.size,h.block⟩
theorem RowAt.isInts{e:TypeId}{w:World}{g:Nat}{zs:List Int}(h:RowAt e w g zs)(hm:zs.length≤maxLen):I_ w (.slice (some ⟨g,0,none⟩) zs.length zs.length) zs:=
 ⟨_,_,rfl,Nat.le_refl _,hm,.inr ⟨g,0,rfl,fun i x hx=>by rw[Nat.zero_add];exact h.cell hx⟩⟩
def tab (n:Nat) (f:Nat→Int):List Int:=(List.range n).map f
theorem tab_len(n:Nat)(f:Nat→Int):(tab n f).length=n:=by simp[tab]
theorem tab_at{n:Nat}{f:Nat→Int}{i:Nat}(h:i<n):(tab n f)[i]?=some (f i):=by simp[tab,h]
theorem RowAt.isTab{e:TypeId}{w:World}{g n:Nat}{f:Nat→Int}(h:RowAt e w g (tab n f))(hm:n≤maxLen):I_ w (.slice (some ⟨g,0,none⟩) n n) (tab n f):=by
 have:=h.isInts (by rw[tab_len];exact hm)
 rw[tab_len]at this;exact this
theorem tab_congr{n:Nat}{f h:Nat→Int}(e:∀i,i<n→f i=h i):tab n f=tab n h:=by
 unfold tab;exact List.map_congr_left (fun i hi=>e i (List.mem_range.1 hi))
theorem tab_zero(n:Nat):tab n (fun _=>0)=List.replicate n 0:=by
 unfold tab;apply List.ext_getElem?;intro i;by_cases hi:i<n<;>simp[hi]
def F_ (B:Nat) (v:Value):Prop:=∀r c x n k,v=.agg #[r,c,.slice (some x) n k]→n=0∨B≤x.block
theorem y_(B:Nat)(r c:Value):F_ B (.agg #[r,c,.slice none 0 0]):=by intro r' c' x n k e;simp at e
theorem fresh_at{B g n k:Nat}(h:B≤g)(r c:Value)(off:Nat):F_ B (.agg #[r,c,.slice (some ⟨g,off,none⟩) n k]):=by
 intro r' c' x n' k' e
 simp at e
 right;rw[←e.2.2.1];exact h
end Go.Proofs.Ytniloklglpchfaf
/- Numbers of cells: row, column and place; bounds. No program in sight. -/
namespace Go.Proofs.Ytniloklglpchfaf
open Go.RowKit
theorem at_div{R i j:Nat}(h:i<R):(j*R+i) % R=i∧(j*R+i) / R=j:=by
 constructor
 ·rw[Nat.add_comm,Nat.add_mul_mod_self_right,Nat.mod_eq_of_lt h]
 ·rw[Nat.add_comm,Nat.add_mul_div_right _ _ (by omega),Nat.div_eq_of_lt h,Nat.zero_add]
theorem idx_lt{R C i j:Nat}(hi:i<R)(hj:j<C):i*C+j<R*C:=by
 have:=Nat.mul_le_mul_right C (show i+1≤R by omega)
 rw[Nat.add_mul]at this;omega
theorem mul_cast_idx{i j C:Nat}{xi xj c:Int}(h1:xi=(i:Int))(h2:xj=(j:Int))(h3:c=(C:Int)):xi*c+xj=((i*C+j:Nat):Int):=by subst h1 h2 h3;simp
theorem idx_nat{i j C:Nat}{xi xj c:Int}(h1:xi=(i:Int))(h2:xj=(j:Int))(h3:c=(C:Int)):(xi*c+xj).toNat=i*C+j:=by rw[mul_cast_idx h1 h2 h3];exact Int.toNat_natCast _
theorem mul_bds{i C:Nat}{xi c:Int}(h1:xi=(i:Int))(h3:c=(C:Int))(hi:i≤24)(hC:C≤24):0≤xi*c∧xi*c≤576:=by
 subst h1 h3
 have h:=Nat.mul_le_mul hi hC
 have e:((i*C:Nat):Int)=(i:Int)*(C:Int):=by simp
 refine ⟨Int.mul_nonneg (by omega) (by omega),?_⟩
 rw[←e];omega
theorem wrap_in{x:Int}(h0:-1000000≤x)(h1:x≤1000000):IntKind.i64.wrap x=x:=by rw[IntKind.wrap_i64];omega
theorem cell_num{C q:Nat}:q / C*C+q % C=q:=by rw[Nat.mul_comm,Nat.div_add_mod]
end Go.Proofs.Ytniloklglpchfaf
/- Plain facts on products of matrices: what stands in the product behind so many rounds. No Go in sight. -/
namespace Go.Proofs.Ytniloklglpchfaf
def dot (al bs:List Int) (Ca Cb i j:Nat):Nat→Int
 |0=>0
 |k+1=>ad (dot al bs Ca Cb i j k) (ml ((al[i*Ca+k]?).getD 0) ((bs[k*Cb+j]?).getD 0))
theorem at_row{C i j:Nat}(h:j<C):(i*C+j) / C=i∧(i*C+j) % C=j:=by
 constructor
 ·rw[Nat.add_comm,Nat.add_mul_div_right _ _ (by omega),Nat.div_eq_of_lt h,Nat.zero_add]
 ·rw[Nat.add_comm,Nat.add_mul_mod_self_right,Nat.mod_eq_of_lt h]
end Go.Proofs.Ytniloklglpchfaf
/- The sum of a column. No program in sight. -/
namespace Go.Proofs.Ytniloklglpchfaf
def colS (cs:List Int) (C q:Nat):Nat→Int
 |0=>0
 |k+1=>ad (colS cs C q k) ((cs[k*C+q]?).getD 0)
end Go.Proofs.Ytniloklglpchfaf
/- A nil slice has no room: of what came in. No program in sight. -/
namespace Go.Proofs.Ytniloklglpchfaf
open Go.RowKit
def NilOk (v:Value):Prop:=∀n k,v=.slice none n k→n=0∧k=0
end Go.Proofs.Ytniloklglpchfaf
/- Plain facts on lists of rows: what is laid one behind the other, by its numbers. No program in sight. -/
namespace Go.Proofs.Ytniloklglpchfaf
theorem tab_list(zs:List Int):tab zs.length (fun q=>(zs[q]?).getD 0)=zs:=by
 apply List.ext_getElem?
 intro i
 by_cases hi:i<zs.length
 ·rw[tab_at hi,List.getElem?_eq_getElem hi];rfl
 ·rw[List.getElem?_eq_none (by rw[tab_len];omega),List.getElem?_eq_none (by omega)]
theorem RowAt.drew{e:TypeId}{w:World}{g:Nat}{zs:List Int}(h:RowAt e w g zs):RowAt e w.drew g zs:=h
theorem r_{n:Nat}{w u:World}(h:Go.RowKit.Below n w u):Go.RowKit.Below n w u.drew:=⟨h.os,h.tape,h.output,h.size,h.block⟩
end Go.Proofs.Ytniloklglpchfaf
