/- Plain facts on numbers that end somewhere: the clamp, sums, differences and products of clamped numbers. No Go in sight, no condition but those that stand in each row. -/
import Derived.WalkKit
import Derived.WalkSpells
import Derived.WalkLawsBesides
import Derived.Outline
import Derived.Deep.QuietTactic
import Derived.Lib.SmallJoins
import Derived.Test.YtniloklglpchfaiRows
import Derived.ProofKit
import Derived.OpenShut
import Derived.BigQuiet
import Derived.Deep.Slices
namespace Go.Proofs.Ytniloklglpchfai
theorem gN{α:Type}(a:α):∃x,a=x:=⟨_,rfl⟩
theorem gM{α:Type}(a:α):∃x,x=a:=⟨_,rfl⟩
def cl (x:Int):Int:=if x < -2147483647 then -2147483647 else if 2147483647<x then 2147483647 else x
theorem cl_bd(x:Int):-2147483647≤cl x∧cl x≤2147483647:=by unfold cl;split<;>(try split)<;>omega
theorem cl_lo(x:Int)(h:x < -2147483647):cl x=-2147483647:=by unfold cl;rw[if_pos h]
theorem cl_hi(x:Int)(h:2147483647<x):cl x=2147483647:=by unfold cl;rw[if_neg (by omega),if_pos h]
theorem cl_in(x:Int)(h0:-2147483647≤x)(h1:x≤2147483647):cl x=x:=by unfold cl;rw[if_neg (by omega),if_neg (by omega)]
def ad (a b:Int):Int:=cl (cl a+cl b)
def ml (a b:Int):Int:=cl (cl a*cl b / 256)
end Go.Proofs.Ytniloklglpchfai
/- Small facts that the walks share: endings that are equal, facts kept from the walk, worlds of which nothing old has turned; division that rounds towards 0. No program in sight. -/
namespace Go.Proofs.Ytniloklglpchfai
open Go.RowKit
theorem h_{p:Prop}(h:p):Hid p:=h
theorem i_{k:IntKind}{a b:Int}(h:a=b):Ending.returned (.int k a)=.returned (.int k b):=by rw[h]
theorem ret_bool{p q:Bool}(h:p=q):Ending.returned (.bool p)=.returned (.bool q):=by rw[h]
theorem o_(w:World)(o:Obj):Below w.heap.size w (w.alloc o):=(Below.refl _ _).alloc (Nat.le_refl _) o
end Go.Proofs.Ytniloklglpchfai
/- Lists of ints and matrices as they lie in memory: what is read there stays as it is where nothing old turns. No program in sight. -/
namespace Go.Proofs.Ytniloklglpchfai
open Go.RowKit
def I_ (w:World) (v:Value) (zs:List Int):Prop:=
 ∃(a:Option Addr) (cap:Nat),v=.slice a zs.length cap∧zs.length≤cap∧cap≤maxLen∧(zs=[]∨∃b off,a=some ⟨b,off,none⟩∧∀i x,zs[i]?=some x→w.cell? ⟨b,off+i,none⟩=some (.int .i64 x))
theorem I_.u_{w w':World}{v:Value}{zs:List Int}(h:I_ w v zs)(hb:Below w.heap.size w w'):I_ w' v zs:=by
 obtain ⟨a,cap,h1,h2,h3,h4⟩:=h
 refine ⟨a,cap,h1,h2,h3,h4.imp id ?_⟩
 rintro ⟨b,off,ha,hc⟩
 refine ⟨b,off,ha,fun i x hx=>?_⟩
 have:=hc i x hx
 rw[hb.cell (p:=⟨b,off+i,none⟩) (World.block_lt_of_cell? w _ this)];exact this
theorem I_.len{w:World}{v:Value}{zs:List Int}(h:I_ w v zs):zs.length≤maxLen:=by
 obtain ⟨_,_,_,h2,h3,_⟩:=h;omega
theorem I_.nil(w:World):I_ w (.slice none 0 0) []:=⟨none,0,rfl,Nat.le_refl _,Nat.zero_le _,.inl rfl⟩
theorem p_{w:World}{p:Addr}{v:Value}(h:w.cell? p=some v)(o:Obj):(w.alloc o).cell? p=some v:=by
 rw[World.cell?_alloc_lt _ _ p (World.block_lt_of_cell? w p h)];exact h
end Go.Proofs.Ytniloklglpchfai
/- A block of ints of the call's own: read, written, kept. No program in sight. -/
namespace Go.Proofs.Ytniloklglpchfai
open Go.RowKit
end Go.Proofs.Ytniloklglpchfai
/- Numbers of cells: row, column and place; bounds. No program in sight. -/
namespace Go.Proofs.Ytniloklglpchfai
open Go.RowKit
end Go.Proofs.Ytniloklglpchfai
/- Plain facts on products of matrices: what stands in the product behind so many rounds. No Go in sight. -/
namespace Go.Proofs.Ytniloklglpchfai
end Go.Proofs.Ytniloklglpchfai
/- The sum of a column. No program in sight. -/
namespace Go.Proofs.Ytniloklglpchfai
end Go.Proofs.Ytniloklglpchfai
/- A nil slice has no room: of what came in. No program in sight. -/
namespace Go.Proofs.Ytniloklglpchfai
open Go.RowKit
def NilOk (v:Value):Prop:=∀n k,v=.slice none n k→n=0∧k=0
end Go.Proofs.Ytniloklglpchfai
/- Plain facts on lists of rows: what is laid one behind the other, by its numbers. No program in sight. -/
namespace Go.Proofs.Ytniloklglpchfai
end Go.Proofs.Ytniloklglpchfai
/- A matrix that came in, opened: a struct by value with a list of ints in it. -/
namespace Go.Proofs.Ytniloklglpchfai
open Go.ChangeShapes Go.WideShapes Go.ChangeAt Go.RowKit Go.Joins
theorem laidOut:laidOutB Try.prog=true:=by kernel_rfl
theorem cellsInt:Try.prog.cellsOf 3=1:=by kernel_rfl
theorem ints_open{H:Type}{enc:TypeId×Value→H}{w:World}{held:Bool}{base fuel:Nat}{v:Value}{x:DataW H×List MemPlace}(h:DataW.trod enc Try.prog w base (fun _=>true) held fuel 27 [v]=some x):∃zs,I_ w v zs:=by
 rcases open_ints Try.underlying27 Try.underlying3 cellsInt h with ⟨hcs,_⟩|⟨a,len,cap,zs,hcs,_,hl,hm,hz,_,hcell,_⟩
 ·obtain rfl:v=.slice none 0 0:=by simpa using hcs
  exact ⟨[],I_.nil w⟩
 ·obtain rfl:v=.slice (some a) len cap:=by simpa using hcs
  have hz':zs.length=cap:=by simpa using hz
  have hlen:(zs.take len).length=len:=by simp;omega
  refine ⟨zs.take len,some a,cap,by rw[hlen],by omega,hm,?_⟩
  by_cases h0:len=0
  ·exact .inl (by subst h0;simp)
  ·obtain ⟨b,off,rfl,hc⟩:=ints_at hcell (by omega)
   refine .inr ⟨b,off,rfl,fun i y hy=>?_⟩
   have hi:i<len:=by
    rcases Nat.lt_or_ge i len with h|h
    ·exact h
    ·rw[List.getElem?_eq_none (by omega)]at hy;cases hy
   rw[List.getElem?_take_of_lt hi]at hy
   rw[hc i (by omega)]
   simp[List.getD,hy]
end Go.Proofs.Ytniloklglpchfai
/- What package fix and its document's answer come to on numbers: Clamp, Add, Sub, Mul, as the plain functions cl, ad, sb, ml; the world is as it was. For every int. -/
namespace Go.Proofs.Ytniloklglpchfai
open Go.RowKit
set_option maxHeartbeats 400000 in
theorem clamp_any(x:Int)(w:World):Calls Try.prog 50 #[.int .i64 x] w fun e w'=>e=.returned (.int .i64 (cl x))∧w'=w:=by
 by_cases h1:x < -2147483647
 ·rw[cl_lo x h1]
  go_enter Try.func50,Try.ntmps50
  go_wp2
  go_ret
  exact ⟨rfl,rfl⟩
 ·by_cases h2:2147483647<x
  ·rw[cl_hi x h2]
   go_enter Try.func50,Try.ntmps50
   go_wp2
   go_ret
   exact ⟨rfl,rfl⟩
  ·rw[cl_in x (by omega) (by omega)]
   go_enter Try.func50,Try.ntmps50
   go_wp2
   all_goals
    go_ret
    exact ⟨i_ (by omega),rfl⟩
set_option maxHeartbeats 400000 in
theorem add_any(a b:Int)(w:World):Calls Try.prog 43 #[.int .i64 a,.int .i64 b] w fun e w'=>e=.returned (.int .i64 (ad a b))∧w'=w:=by
 have ha:=cl_bd a
 have hb:=cl_bd b
 unfold ad
 go_enter Try.func43,Try.ntmps43
 go_wp2_with (go_at_call 50;refine (clamp_any _ _).mono ?_;rintro e w' ⟨rfl,rfl⟩)
 go_ret
 exact ⟨rfl,rfl⟩
def stX (n c p:Int):Int:=p*(n.tdiv c)+min p (n.tmod c)
set_option maxRecDepth 100000 in
set_option maxHeartbeats 1600000 in
theorem start_any(S:Nat)(c p:Int)(a:Option Addr)(n k:Nat)(w:World)(h1:w.cell? ⟨S,1,none⟩=some (.int .i64 c))(h2:w.cell? ⟨S,2,none⟩=some (.slice a n k))(hc:1≤c)(hc6:c≤6)(hn:(n:Int)≤60)(hp:0≤p)(hp6:p≤6):
  Calls Try.prog 48 #[.pointer (some ⟨S,0,none⟩),.int .i64 p] w fun e w'=>e=.returned (.int .i64 (stX n c p))∧∃q,w'=w.drewN q:=by
 obtain ⟨x,hx⟩:=gN ((n:Int).tdiv c)
 obtain ⟨y,hy⟩:=gN ((n:Int).tmod c)
 have hx0:0≤x:=by rw[←hx];exact Int.tdiv_nonneg (by omega) (by omega)
 have hx1:x≤60:=by rw[←hx];exact Int.le_trans (Int.tdiv_le_self _ (by omega)) hn
 have hy0:0≤y:=by rw[←hy];exact Int.tmod_nonneg _ (by omega)
 have hy1:y<6:=by rw[←hy];exact Int.lt_of_lt_of_le (Int.tmod_lt_of_pos _ (by omega)) hc6
 have hne:¬c=0:=by omega
 obtain ⟨z,hz⟩:=gN (p*x)
 have hz0:0≤z:=by rw[←hz];exact Int.mul_nonneg hp hx0
 have hz1:z≤360:=by rw[←hz];exact Int.le_trans (Int.mul_le_mul_of_nonneg_right hp6 hx0) (by omega)
 have HX:=h_ hx
 have HY:=h_ hy
 have HZ:=h_ hz
 go_enter Try.func48,Try.ntmps48
 go_wp2
 go_quiet (fail)
 go_wp2
 all_goals
  go_ret
  refine ⟨i_ ?_,_,rfl⟩
  unfold stX
  rw[HX.out,HY.out,HZ.out]
  first
   |rw[Int.min_eq_left (by omega)]
   |rw[Int.min_eq_right (by omega)]
theorem stX_e(n:Nat)(c p:Int):stX n c p=p*((n:Int) / c)+min p ((n:Int) % c):=by
 unfold stX
 rw[Int.tdiv_eq_ediv_of_nonneg (by omega),Int.tmod_eq_emod_of_nonneg (by omega)]
theorem six{c:Int}(h:1≤c)(h6:c≤6):c=1∨c=2∨c=3∨c=4∨c=5∨c=6:=by omega
theorem stX_in(n:Nat)(c p:Int)(hc:1≤c)(hc6:c≤6)(hp:0≤p)(hpc:p<c):0≤stX n c p∧stX n c p≤stX n c (p+1)∧stX n c (p+1)≤n:=by
 rw[stX_e n c p,stX_e n c (p+1)]
 have hp':p=0∨p=1∨p=2∨p=3∨p=4∨p=5:=by omega
 rcases six hc hc6 with rfl|rfl|rfl|rfl|rfl|rfl<;>rcases hp' with rfl|rfl|rfl|rfl|rfl|rfl<;>first|omega|(refine ⟨?_,?_,?_⟩<;>omega)
theorem stX_0(n:Nat)(c:Int)(hc:1≤c)(hc6:c≤6):stX n c 0=0:=by
 rw[stX_e n c 0]
 rcases six hc hc6 with rfl|rfl|rfl|rfl|rfl|rfl<;>omega
theorem stX_c(n:Nat)(c:Int)(hc:1≤c)(hc6:c≤6):stX n c c=n:=by
 rw[stX_e n c c]
 rcases six hc hc6 with rfl|rfl|rfl|rfl|rfl|rfl<;>omega
def ahX (c x:Int):Int:=(x+c - 1) % c
set_option maxRecDepth 100000 in
set_option maxHeartbeats 1600000 in
theorem ahead_any(S:Nat)(c x:Int)(w:World)(h1:w.cell? ⟨S,1,none⟩=some (.int .i64 c))(hc:1≤c)(hc6:c≤6)(hx:0≤x)(hx6:x≤6):
  Calls Try.prog 35 #[.pointer (some ⟨S,0,none⟩),.int .i64 x] w fun e w'=>e=.returned (.int .i64 (ahX c x))∧∃q,w'=w.drewN q:=by
 have hne:¬c=0:=by omega
 go_enter Try.func35,Try.ntmps35
 go_wp2
 go_quiet (fail)
 go_wp2
 go_ret
 exact ⟨i_ (by unfold ahX;rfl),_,rfl⟩
def cutV (b off cap s e:Nat):Value:=if cap=s then .slice (some ⟨b,off,none⟩) (e - s) 0 else .slice (some ⟨b,off+s,none⟩) (e - s) (cap - s)
set_option maxRecDepth 100000 in
set_option maxHeartbeats 1600000 in
theorem piece_any(S:Nat)(c p:Int)(a:Option Addr)(n k:Nat)(b off cap:Nat)(w:World)(h1:w.cell? ⟨S,1,none⟩=some (.int .i64 c))(h2:w.cell? ⟨S,2,none⟩=some (.slice a n k))(hc:1≤c)(hc6:c≤6)(hn:(n:Int)≤60)(hp:0≤p)(hpc:p<c)(hcap:(n:Int)≤cap):
  Calls Try.prog 36 #[.pointer (some ⟨S,0,none⟩),.slice (some ⟨b,off,none⟩) n cap,.int .i64 p] w fun e w'=>e=.returned (cutV b off cap (stX n c p).toNat (stX n c (p+1)).toNat)∧∃q,w'=w.drewN q:=by
 obtain ⟨s,hs⟩:=gN (stX n c p)
 obtain ⟨e,he⟩:=gN (stX n c (p+1))
 obtain ⟨q0,q1,q2⟩:=stX_in n c p hc hc6 hp hpc
 rw[hs]at q0 q1
 rw[he]at q1 q2
 rw[hs,he]
 have HS:=h_ hs
 have HE:=h_ he
 have hp6:p≤6:=by omega
 have hp1:0≤p+1:=by omega
 have hp7:p+1≤6:=by omega
 clear hs he
 go_enter Try.func36,Try.ntmps36
 go_wp2_with (first
  |(go_at_call 48;guard_target=Calls _ _ #[_,.int .i64 p] _ _;refine (start_any S c p a n k _ h1 h2 hc hc6 hn hp hp6).mono ?_;rw[HS.out];rintro ee w' ⟨rfl,q,rfl⟩)
  |(go_at_call 48;refine (start_any S c (p+1) a n k (World.drewN w _) h1 h2 hc hc6 hn hp1 hp7).mono ?_;rw[HE.out];rintro ee w' ⟨rfl,q',rfl⟩))
 ·exact bodyPost_ret (v:=cutV b off _ s.toNat e.toNat) (by unfold cutV;rw[if_pos rfl];simp[results,Try.results36,go_sem]) rfl ⟨rfl,_,rfl⟩
 ·have hcs:=h
  refine bodyPost_ret (v:=cutV b off cap s.toNat e.toNat) (by unfold cutV;rw[if_neg hcs];simp[results,Try.results36,go_sem]) rfl ⟨rfl,_,rfl⟩
set_option maxRecDepth 100000 in
set_option maxHeartbeats 1600000 in
theorem piece_nil(S:Nat)(c p:Int)(a:Option Addr)(k:Nat)(w:World)(h1:w.cell? ⟨S,1,none⟩=some (.int .i64 c))(h2:w.cell? ⟨S,2,none⟩=some (.slice a 0 k))(hc:1≤c)(hc6:c≤6)(hp:0≤p)(hpc:p<c):
  Calls Try.prog 36 #[.pointer (some ⟨S,0,none⟩),.slice none 0 0,.int .i64 p] w fun e w'=>e=.returned (.slice none 0 0)∧∃q,w'=w.drewN q:=by
 have q1:stX (0:Nat) c p=0:=by have:=stX_in 0 c p hc hc6 hp hpc;omega
 have q2:stX (0:Nat) c (p+1)=0:=by have:=stX_in 0 c p hc hc6 hp hpc;omega
 have HS:=h_ q1
 have HE:=h_ q2
 have hp6:p≤6:=by omega
 have hp1:0≤p+1:=by omega
 have hp7:p+1≤6:=by omega
 have hn:((0:Nat):Int)≤60:=by omega
 clear q1 q2
 go_enter Try.func36,Try.ntmps36
 go_wp2_with (first
  |(go_at_call 48;guard_target=Calls _ _ #[_,.int .i64 p] _ _;refine (start_any S c p a 0 k _ h1 h2 hc hc6 hn hp hp6).mono ?_;rw[HS.out];rintro ee w' ⟨rfl,q,rfl⟩)
  |(go_at_call 48;refine (start_any S c (p+1) a 0 k (World.drewN w _) h1 h2 hc hc6 hn hp1 hp7).mono ?_;rw[HE.out];rintro ee w' ⟨rfl,q',rfl⟩))
 all_goals
  go_ret
  exact ⟨rfl,_,rfl⟩
end Go.Proofs.Ytniloklglpchfai
