/- Plain facts on numbers that end somewhere: the clamp, sums, differences and products of clamped numbers. No Go in sight, no condition but those that stand in each row. -/
import Derived.WalkKit
import Derived.WalkSpells
import Derived.WalkLawsBesides
import Derived.Outline
import Derived.Deep.QuietTactic
import Derived.Lib.SmallJoins
namespace Go.Proofs.YtaajlggpjholeahDoor
theorem gN{α:Type}(a:α):∃x,a=x:=⟨_,rfl⟩
theorem gM{α:Type}(a:α):∃x,x=a:=⟨_,rfl⟩
def cl (x:Int):Int:=if x < -2147483647 then -2147483647 else if 2147483647<x then 2147483647 else x
theorem cl_bd(x:Int):-2147483647≤cl x∧cl x≤2147483647:=by unfold cl;split<;>(try split)<;>omega
theorem cl_lo(x:Int)(h:x < -2147483647):cl x=-2147483647:=by unfold cl;rw[if_pos h]
theorem cl_hi(x:Int)(h:2147483647<x):cl x=2147483647:=by unfold cl;rw[if_neg (by omega),if_pos h]
theorem cl_in(x:Int)(h0:-2147483647≤x)(h1:x≤2147483647):cl x=x:=by unfold cl;rw[if_neg (by omega),if_neg (by omega)]
def ad (a b:Int):Int:=cl (cl a+cl b)
end Go.Proofs.YtaajlggpjholeahDoor
/- Small facts that the walks share: endings that are equal, facts kept from the walk, worlds of which nothing old has turned; division that rounds towards 0. No program in sight. -/
namespace Go.Proofs.YtaajlggpjholeahDoor
open Go.RowKit
theorem h_{p:Prop}(h:p):Hid p:=h
theorem i_{k:IntKind}{a b:Int}(h:a=b):Ending.returned (.int k a)=.returned (.int k b):=by rw[h]
theorem ret_bool{p q:Bool}(h:p=q):Ending.returned (.bool p)=.returned (.bool q):=by rw[h]
theorem below_drewN(w:World)(n:Nat):Below w.heap.size w (w.drewN n):=⟨rfl,rfl,rfl,Nat.le_refl _,fun _ _=>rfl⟩
theorem o_(w:World)(o:Obj):Below w.heap.size w (w.alloc o):=(Below.refl _ _).alloc (Nat.le_refl _) o
end Go.Proofs.YtaajlggpjholeahDoor
/- Lists of ints and matrices as they lie in memory: what is read there stays as it is where nothing old turns. No program in sight. -/
namespace Go.Proofs.YtaajlggpjholeahDoor
open Go.RowKit
def I_ (w:World) (v:Value) (zs:List Int):Prop:=
 ∃(a:Option Addr) (cap:Nat),v=.slice a zs.length cap∧zs.length≤cap∧cap≤maxLen∧(zs=[]∨∃b off,a=some ⟨b,off,none⟩∧∀i x,zs[i]?=some x→w.cell? ⟨b,off+i,none⟩=some (.int .i64 x))
theorem I_.u_{w w':World}{v:Value}{zs:List Int}(h:I_ w v zs)(hb:Below w.heap.size w w'):I_ w' v zs:=by
 obtain ⟨a,cap,h1,h2,h3,h4⟩:=h
 refine ⟨a,cap,h1,h2,h3,h4.imp id ?_⟩
 rintro ⟨b,off,ha,hc⟩
 refine ⟨b,off,ha,fun i x hx=>?_⟩
 have:=hc i x hx
 rw[hb.cell (p:=⟨b,off+i,none⟩) (World.block_lt_of_cell? w _ this)];exact this
theorem I_.len{w:World}{v:Value}{zs:List Int}(h:I_ w v zs):zs.length≤maxLen:=by
 obtain ⟨_,_,_,h2,h3,_⟩:=h;omega
theorem I_.nil(w:World):I_ w (.slice none 0 0) []:=⟨none,0,rfl,Nat.le_refl _,Nat.zero_le _,.inl rfl⟩
structure Mx where
 rows:Int
 cols:Int
 cells:List Int
def M_ (w:World) (v:Value) (m:Mx):Prop:=∃s,v=.agg #[.int .i64 m.rows,.int .i64 m.cols,s]∧I_ w s m.cells
theorem p_{w:World}{p:Addr}{v:Value}(h:w.cell? p=some v)(o:Obj):(w.alloc o).cell? p=some v:=by
 rw[World.cell?_alloc_lt _ _ p (World.block_lt_of_cell? w p h)];exact h
end Go.Proofs.YtaajlggpjholeahDoor
/- A block of ints of the call's own: read, written, kept. No program in sight. -/
namespace Go.Proofs.YtaajlggpjholeahDoor
open Go.RowKit
theorem grown_drew{w w':World}{row:Option Nat}(h:w.grownBy w' row):w.grownBy w'.drew row:=⟨h.os,h.tape,h.output,h.size,h.block⟩
end Go.Proofs.YtaajlggpjholeahDoor
/- Numbers of cells: row, column and place; bounds. No program in sight. -/
namespace Go.Proofs.YtaajlggpjholeahDoor
open Go.RowKit
end Go.Proofs.YtaajlggpjholeahDoor
/- Plain facts on products of matrices: what stands in the product behind so many rounds. No Go in sight. -/
namespace Go.Proofs.YtaajlggpjholeahDoor
end Go.Proofs.YtaajlggpjholeahDoor
/- The sum of a column. No program in sight. -/
namespace Go.Proofs.YtaajlggpjholeahDoor
end Go.Proofs.YtaajlggpjholeahDoor
/- A nil slice has no room: of what came in. No program in sight. -/
namespace Go.Proofs.YtaajlggpjholeahDoor
open Go.RowKit
def NilOk (v:Value):Prop:=∀n k,v=.slice none n k→n=0∧k=0
end Go.Proofs.YtaajlggpjholeahDoor
/- Plain facts on lists of rows: what is laid one behind the other, by its numbers. No program in sight. -/
namespace Go.Proofs.YtaajlggpjholeahDoor
end Go.Proofs.YtaajlggpjholeahDoor
