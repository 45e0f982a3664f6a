/- What stands in memory while the document's answer reads a state. -/
import Derived.Test.YtaajlggpjholeajDoorKpD
import Derived.Test.YtaajlggpjholeajDoorKpR3
namespace Go.Proofs.YtaajlggpjholeajDoor
open Go.RowKit
structure KN (w:World) (n:Int) (W:World) (o t:Value) (i j:Nat) (L:List Ly) (D:List (Mx×Mx)):Prop where
 ls:LstX (w.heap.size+3) W o t i j L D
 sb:WBk W (w.heap.size+1) #[o,t,.int .i64 n] 25
 rb:WBk W w.heap.size #[.slice none 0 0,.slice none 0 0,.int .i64 0] 25
 zb:WBk W (w.heap.size+2) #[.slice none 0 0,.slice none 0 0,.int .i64 0] 25
 be:Below w.heap.size w W
 ba:w.heap.size+3≤W.heap.size
section
variable {w W W' V:World} {n:Int} {o t:Value} {i j:Nat} {L:List Ly} {D:List (Mx×Mx)}
theorem KN.on(h:KN w n W o t i j L D)(hb:Below W.heap.size W W'):KN w n W' o t i j L D:=⟨h.ls.u_ hb,h.sb.kept hb,h.rb.kept hb,h.zb.kept hb,bel_on h.be hb,Nat.le_trans h.ba hb.size⟩
theorem KN.lay(h:KN w n W o t i j L D)(hb:Below W.heap.size W V){row:Option Nat}(hr:∀b,row=some b→w.heap.size+3≤b)(hg:V.grownBy W' row):WBk W' (w.heap.size+1) #[o,t,.int .i64 n] 25∧WBk W' w.heap.size #[.slice none 0 0,.slice none 0 0,.int .i64 0] 25∧WBk W' (w.heap.size+2) #[.slice none 0 0,.slice none 0 0,.int .i64 0] 25∧Below w.heap.size w W'∧w.heap.size+3≤W'.heap.size:=by
 have k:=h.on hb
 exact ⟨(hg.block _ k.sb.lt (fun e=>by have:=hr _ e.symm;omega)).trans k.sb,(hg.block _ k.rb.lt (fun e=>by have:=hr _ e.symm;omega)).trans k.rb,(hg.block _ k.zb.lt (fun e=>by have:=hr _ e.symm;omega)).trans k.zb,k.be.grown hg k.be.size (fun q e=>by have:=hr q e;omega),Nat.le_trans k.ba hg.size⟩
theorem KN.put1(h:KN w n W o t i j L D)(hb:Below W.heap.size W V){o':Value}{i':Nat}{L':List Ly}(hl:LstX (w.heap.size+3) W' o' t i' j L' D)(hg:V.grownBy W' o.ownBlock):KN w n (W'.setCell ⟨w.heap.size+1,0,none⟩ o') o' t i' j L' D:=by
 obtain ⟨q1,q2,q3,q4,q5⟩:=h.lay hb (fun b e=>(h.ls.1.lt b e).1) hg
 exact ⟨hl.low (grw_set W' (w.heap.size+1) 0 o') (by omega),q1.set 0 o',q2.other (by omega) o',q3.other (by omega) o',below_sets q4 (Nat.le_succ _) 0 o',Nat.le_trans q5 (grw_set W' (w.heap.size+1) 0 o').size⟩
theorem KN.put2(h:KN w n W o t i j L D)(hb:Below W.heap.size W V){t':Value}{j':Nat}{D':List (Mx×Mx)}(hl:LstX (w.heap.size+3) W' o t' i j' L D')(hg:V.grownBy W' t.ownBlock):KN w n (W'.setCell ⟨w.heap.size+1,1,none⟩ t') o t' i j' L D':=by
 obtain ⟨q1,q2,q3,q4,q5⟩:=h.lay hb (fun b e=>(h.ls.2.1.lt b e).1) hg
 exact ⟨hl.low (grw_set W' (w.heap.size+1) 1 t') (by omega),q1.set 1 t',q2.other (by omega) t',q3.other (by omega) t',below_sets q4 (Nat.le_succ _) 1 t',Nat.le_trans q5 (grw_set W' (w.heap.size+1) 1 t').size⟩
theorem KN.setn(h:KN w n W o t i j L D)(n':Int):KN w n' (W.setCell ⟨w.heap.size+1,2,none⟩ (.int .i64 n')) o t i j L D:=
 ⟨h.ls.low (grw_set W (w.heap.size+1) 2 (.int .i64 n')) (by omega),h.sb.set 2 _,h.rb.other (by omega) _,h.zb.other (by omega) _,below_sets h.be (Nat.le_succ _) 2 _,Nat.le_trans h.ba (grw_set W (w.heap.size+1) 2 (.int .i64 n')).size⟩
end
theorem wpList_app_lyW{w:World}{ops:Array Oper}{rest:List Oper}{o:Oper}{a:Act}{Q:Exit→Act→World→Prop}(hgd:o.guard=none)(s x:Operand)(ho:o.op=.call { callee:=.builtin .append,args:=#[s,x],argTypes:=#[22,22] })
  (base:Nat) (ov tv:Value) (i j:Nat) (L:List Ly) (D:List (Mx×Mx)) (hs:a.eval s=ov) (h:LstX base w ov tv i j L D) (C:Nat) (l:Ly) (p q:Value) (hx:a.eval x=.slice (some ⟨C,0,none⟩) 1 1) (hc:WBk w C #[.int .i64 l.k,.int .i64 l.w.rows,.int .i64 l.w.cols,p,.int .i64 l.b.rows,.int .i64 l.b.cols,q] 53)
  (hp:P_ w (fun b=>ov.ownBlock=some b∨(tv.ownBlock=some b∨b<base)) (.inr l.w.cells) p) (hq:P_ w (fun b=>ov.ownBlock=some b∨(tv.ownBlock=some b∨b<base)) (.inr l.b.cells) q) (hi:i≤1000) (hb:base≤w.heap.size)
  (hk:∀v' w',LstX base w' v' tv (i+1) j (L++[l]) D→w.grownBy w' ov.ownBlock→(v'.ownBlock=ov.ownBlock∨v'.ownBlock=some w.heap.size)→wpList Tryd.prog ops Q rest (a.put o.dst v') w'):wpList Tryd.prog ops Q (o::rest) a w:=by
 obtain ⟨e0,ei,hz0,hz1,hz2⟩:=info_parts infoLy2
 refine wpList_append_ownsX hgd s x 22 ho base 53 e0 _ 7 88 Tryd.underlying22 ei hz0 hz1 hz2 rfl (by decide) (fun b=>tv.ownBlock=some b∨b<base) ov i _ hs h.1 ⟨C,0,none⟩ 1 1 [.int .i64 l.k,.int .i64 l.w.rows,.int .i64 l.w.cols,p,.int .i64 l.b.rows,.int .i64 l.b.cols,q] hx rfl (fun j u hj=>?_) (lyS l) (enc_ly2 hp hq) (by unfold maxLen;omega) (by omega) hb (fun b hb'=>?_) fun v' w' h1 h2 h3 h4=>hk v' w' (h.push1 h1 h2 h3 h4) h2 h3
 ·rw[addr_add]
  exact hc.c (by simpa using hj)
 ·rcases hb' with q|q
  ·exact (h.2.1.lt b q).2
  ·omega
theorem grw3a(w:World)(R a b c:Nat)(y0 y1 y2:Value):w.grownBy (((w.setCell ⟨R,a,none⟩ y0).setCell ⟨R,b,none⟩ y1).setCell ⟨R,c,none⟩ y2) (some R):=by
 have q:∀k,some R=some k→w.heap.size≤k∨k=R:=fun k e=>.inr (Option.some.inj e).symm
 exact grw_trans (grw_trans (grw_set w R a y0) (grw_set _ R b y1) q) (grw_set _ R c y2) q
theorem bel3a{V u:World}(h:Below V.heap.size V u){R:Nat}(hR:V.heap.size≤R)(a b c:Nat)(y0 y1 y2:Value):Below V.heap.size V (((u.setCell ⟨R,a,none⟩ y0).setCell ⟨R,b,none⟩ y1).setCell ⟨R,c,none⟩ y2):=below_sets (below_sets (below_sets h hR a y0) hR b y1) hR c y2
theorem WBk.other3{w:World}{B R:Nat}{cs:Array Value}{t:TypeId}(h:WBk w B cs t)(hne:B≠R)(a b c:Nat)(y0 y1 y2:Value):WBk (((w.setCell ⟨R,a,none⟩ y0).setCell ⟨R,b,none⟩ y1).setCell ⟨R,c,none⟩ y2) B cs t:=((h.other hne y0).other hne y1).other hne y2
theorem WBk.d6{w:World}{R:Nat}{x0 x1 x2 x3 x4 x5:Value}{t:TypeId}(h:WBk w R #[x0,x1,x2,x3,x4,x5] t):w.cell? ⟨R,0,none⟩=some x0∧w.cell? ⟨R,1,none⟩=some x1∧w.cell? ⟨R,2,none⟩=some x2∧w.cell? ⟨R,3,none⟩=some x3∧w.cell? ⟨R,4,none⟩=some x4∧w.cell? ⟨R,5,none⟩=some x5:=⟨h.c rfl,h.c rfl,h.c rfl,h.c rfl,h.c rfl,h.c rfl⟩
theorem WBk.d7{w:World}{R:Nat}{x0 x1 x2 x3 x4 x5 x6:Value}{t:TypeId}(h:WBk w R #[x0,x1,x2,x3,x4,x5,x6] t):w.cell? ⟨R,0,none⟩=some x0∧w.cell? ⟨R,1,none⟩=some x1∧w.cell? ⟨R,2,none⟩=some x2∧w.cell? ⟨R,3,none⟩=some x3∧w.cell? ⟨R,4,none⟩=some x4∧w.cell? ⟨R,5,none⟩=some x5∧w.cell? ⟨R,6,none⟩=some x6:=⟨h.c rfl,h.c rfl,h.c rfl,h.c rfl,h.c rfl,h.c rfl,h.c rfl⟩
theorem WBk.g7{w:World}{R:Nat}{cs:Array Value}{t:TypeId}(h:WBk w R cs t):w.frozen? ⟨R,0,none⟩=false∧w.frozen? ⟨R,1,none⟩=false∧w.frozen? ⟨R,2,none⟩=false∧w.frozen? ⟨R,3,none⟩=false∧w.frozen? ⟨R,4,none⟩=false∧w.frozen? ⟨R,5,none⟩=false∧w.frozen? ⟨R,6,none⟩=false:=⟨h.f 0,h.f 1,h.f 2,h.f 3,h.f 4,h.f 5,h.f 6⟩
def LoEnd (w w':World) (l:List Int) (e:Ending):Prop:=Below w.heap.size w w'∧match rdD l with
 |none=>e=.returned (.tuple #[.agg #[.slice none 0 0,.slice none 0 0,.int .i64 0],.bool false])
 |some (n,xs)=>∃o t,e=.returned (.tuple #[.agg #[o,t,.int .i64 n],.bool true])∧Y_ w' o (xs.map (·.1))∧D_ w' t (xs.map (·.2))
theorem LoEnd.mk_no{w w':World}{l:List Int}(hb:Below w.heap.size w w')(h:rdD l=none):LoEnd w w' l (.returned (.tuple #[.agg #[.slice none 0 0,.slice none 0 0,.int .i64 0],.bool false])):=⟨hb,by rw[h]⟩
theorem LoEnd.mk_yes{w w':World}{l:List Int}{o t:Value}{n:Int}{xs:List (Ly×(Mx×Mx))}(hb:Below w.heap.size w w')(h:rdD l=some (n,xs))(ho:Y_ w' o (xs.map (·.1)))(ht:D_ w' t (xs.map (·.2))):LoEnd w w' l (.returned (.tuple #[.agg #[o,t,.int .i64 n],.bool true])):=⟨hb,by rw[h];exact ⟨o,t,rfl,ho,ht⟩⟩
end Go.Proofs.YtaajlggpjholeajDoor
