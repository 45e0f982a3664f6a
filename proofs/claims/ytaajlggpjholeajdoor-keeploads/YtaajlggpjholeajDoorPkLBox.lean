/- Boxes of any size: what a variable holds, cell by cell; a box that is written again. No program in sight. -/
import Derived.Test.YtaajlggpjholeajDoorPkMAt
import Derived.Test.YtaajlggpjholeajDoorLists
import Derived.Test.YtaajlggpjholeajDoorPlain
namespace Go.Proofs.YtaajlggpjholeajDoor
open Go.RowKit
def Box (w:World) (B:Nat) (cs:List Value):Prop:=∀(j:Nat) x,cs[j]?=some x→w.cell? ⟨B,j,none⟩=some x
theorem Box.u_{w w':World}{B:Nat}{cs:List Value}(h:Box w B cs)(hb:Below w.heap.size w w'):Box w' B cs:=fun j x hx=>c_ hb (h j x hx)
theorem Box.new(V:World)(cs:List Value)(t:TypeId){B:Nat}(hB:V.heap.size=B):Box (V.alloc (.cells cs.toArray t)) B cs:=fun j x hx=>box_new V _ t hB (by simpa using hx)
def Free (w:World) (B:Nat):Prop:=∀j,w.frozen? ⟨B,j,none⟩=false
theorem below_sets{V u:World}(h:Below V.heap.size V u){B:Nat}(hB:V.heap.size≤B)(q:Nat)(x:Value):Below V.heap.size V (u.setCell ⟨B,q,none⟩ x):=h.setCell hB _
theorem Box.c2{w:World}{B:Nat}{x0 x1:Value}{cs:List Value}(h:Box w B (x0::x1::cs)):w.cell? ⟨B,0,none⟩=some x0∧w.cell? ⟨B,1,none⟩=some x1:=⟨h 0 _ rfl,h 1 _ rfl⟩
theorem Box.c3{w:World}{B:Nat}{x0 x1 x2:Value}{cs:List Value}(h:Box w B (x0::x1::x2::cs)):w.cell? ⟨B,0,none⟩=some x0∧w.cell? ⟨B,1,none⟩=some x1∧w.cell? ⟨B,2,none⟩=some x2:=⟨h 0 _ rfl,h 1 _ rfl,h 2 _ rfl⟩
theorem Box.c35{w:World}{B:Nat}{x0 x1 x2 x3 x4 x5:Value}{cs:List Value}(h:Box w B (x0::x1::x2::x3::x4::x5::cs)):w.cell? ⟨B,3,none⟩=some x3∧w.cell? ⟨B,4,none⟩=some x4∧w.cell? ⟨B,5,none⟩=some x5:=⟨h 3 _ rfl,h 4 _ rfl,h 5 _ rfl⟩
theorem Box.c6{w:World}{B:Nat}{x0 x1 x2 x3 x4 x5:Value}{cs:List Value}(h:Box w B (x0::x1::x2::x3::x4::x5::cs)):w.cell? ⟨B,0,none⟩=some x0∧w.cell? ⟨B,1,none⟩=some x1∧w.cell? ⟨B,2,none⟩=some x2∧w.cell? ⟨B,3,none⟩=some x3∧w.cell? ⟨B,4,none⟩=some x4∧w.cell? ⟨B,5,none⟩=some x5:=⟨h 0 _ rfl,h 1 _ rfl,h 2 _ rfl,h 3 _ rfl,h 4 _ rfl,h 5 _ rfl⟩
theorem Box.c7{w:World}{B:Nat}{x0 x1 x2 x3 x4 x5 x6:Value}{cs:List Value}(h:Box w B (x0::x1::x2::x3::x4::x5::x6::cs)):w.cell? ⟨B,0,none⟩=some x0∧w.cell? ⟨B,1,none⟩=some x1∧w.cell? ⟨B,2,none⟩=some x2∧w.cell? ⟨B,3,none⟩=some x3∧w.cell? ⟨B,4,none⟩=some x4∧w.cell? ⟨B,5,none⟩=some x5∧w.cell? ⟨B,6,none⟩=some x6:=⟨h 0 _ rfl,h 1 _ rfl,h 2 _ rfl,h 3 _ rfl,h 4 _ rfl,h 5 _ rfl,h 6 _ rfl⟩
theorem Free.f3{w:World}{B:Nat}(h:Free w B):w.frozen? ⟨B,0,none⟩=false∧w.frozen? ⟨B,1,none⟩=false∧w.frozen? ⟨B,2,none⟩=false:=⟨h 0,h 1,h 2⟩
theorem Free.f6{w:World}{B:Nat}(h:Free w B):w.frozen? ⟨B,0,none⟩=false∧w.frozen? ⟨B,1,none⟩=false∧w.frozen? ⟨B,2,none⟩=false∧w.frozen? ⟨B,3,none⟩=false∧w.frozen? ⟨B,4,none⟩=false∧w.frozen? ⟨B,5,none⟩=false:=⟨h 0,h 1,h 2,h 3,h 4,h 5⟩
theorem drop_at{α:Type}{xs:List α}{i:Nat}{x:α}(h:xs[i]?=some x):xs.drop i=x::xs.drop (i+1):=by
 obtain ⟨hi,rfl⟩:=List.getElem?_eq_some_iff.1 h
 exact List.drop_eq_getElem_cons hi
theorem infoGd:(Tryd.prog.info? 56).map (fun i=>(i.zero,i.size,i.bytes))=some (some (.agg #[.int .i64 0,.int .i64 0,.slice none 0 0,.int .i64 0,.int .i64 0,.slice none 0 0]),6,80):=by kernel_rfl
theorem enc_gd{w:World}{G:Nat→Prop}{d:Mx×Mx}{s t:Value}(h:P_ w G (.inr d.1.cells) s)(h':P_ w G (.inr d.2.cells) t):Enc w G (gdS d) [.int .i64 d.1.rows,.int .i64 d.1.cols,s,.int .i64 d.2.rows,.int .i64 d.2.cols,t]:=.cons rfl (.cons rfl (.cons h (.cons rfl (.cons rfl (.cons h' (.nil _ _))))))
end Go.Proofs.YtaajlggpjholeajDoor
/- Plain facts on what layers give: what Check takes. No program in sight. -/
namespace Go.Proofs.YtaajlggpjholeajDoor
end Go.Proofs.YtaajlggpjholeajDoor
/- A step, as plain data: what is wrong, what comes of a net and of its speed. No program in sight. -/
namespace Go.Proofs.YtaajlggpjholeajDoor
open Go.RowKit
def H_ (a b:Mx):Bool:=decide (a.rows=b.rows∧a.cols=b.cols)
theorem infoLy2:(Tryd.prog.info? 53).map (fun i=>(i.zero,i.size,i.bytes))=some (some (.agg #[.int .i64 0,.int .i64 0,.int .i64 0,.slice none 0 0,.int .i64 0,.int .i64 0,.slice none 0 0]),7,88):=by kernel_rfl
theorem enc_ly2{w:World}{G:Nat→Prop}{l:Ly}{s t:Value}(h:P_ w G (.inr l.w.cells) s)(h':P_ w G (.inr l.b.cells) t):Enc w G (lyS l) [.int .i64 l.k,.int .i64 l.w.rows,.int .i64 l.w.cols,s,.int .i64 l.b.rows,.int .i64 l.b.cols,t]:=.cons rfl (.cons rfl (.cons rfl (.cons h (.cons rfl (.cons rfl (.cons h' (.nil _ _)))))))
def stt1E (l:Ly) (p:Mx×Mx):Int:=if l_ l≠0 then l_ l else if q_ p.1≠0 then q_ p.1 else if q_ p.2≠0 then q_ p.2 else if H_ p.1 l.w=false∨H_ p.2 l.b=false then 2 else 0
def sttE:List Ly→List (Mx×Mx)→Int
 |l::ls,p::ps=>if stt1E l p≠0 then stt1E l p else sttE ls ps
 |_,_=>0
def stateE (ls:List Ly) (ps:List (Mx×Mx)) (n:Int):Int:=if 12<ls.length then 3 else if ps.length≠ls.length then 2 else if n<0∨1000000000<n then 1 else sttE ls ps
end Go.Proofs.YtaajlggpjholeajDoor
