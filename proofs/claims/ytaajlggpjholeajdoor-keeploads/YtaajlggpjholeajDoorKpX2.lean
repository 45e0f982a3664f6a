/- What stands in memory while package keep's reader reads a state's layers. -/
import Derived.Test.YtaajlggpjholeajDoorKpX
namespace Go.Proofs.YtaajlggpjholeajDoor
open Go.RowKit
structure KC (w0 w:World) (B S base:Nat):Prop where
 b0:w0.heap.size≤B
 bw:B<w.heap.size
 ws:w.heap.size<S
 sb:S<base
structure KM (w0 w:World) (B S base:Nat) (v:Value) (l:List Int) (n:Int) (W:World) (o t:Value) (i j:Nat) (L:List Ly) (D:List (Mx×Mx)) (st:Option (List Int)):Prop where
 ls:LstX base W o t i j L D
 rd:KRd W B v l st
 sb:WBk W S #[o,t,.int .i64 n] 26
 rb:WBk W w.heap.size #[.slice none 0 0,.slice none 0 0,.int .i64 0] 26
 gr:w.grownBy W (some B)
 ba:base≤W.heap.size
 be:Below w0.heap.size w0 W
section
variable {w0 w W W':World} {B S base:Nat} {v o t:Value} {l:List Int} {n:Int} {i j:Nat} {L:List Ly} {D:List (Mx×Mx)} {st st':Option (List Int)}
theorem KM.drew(h:KM w0 w B S base v l n W o t i j L D st):KM w0 w B S base v l n W.drew o t i j L D st:=
 ⟨h.ls.u_ (r_ (Below.refl _ _)),h.rd.kept (r_ (Below.refl _ _)),h.sb,h.rb,grown_drew h.gr,h.ba,r_ h.be⟩
theorem KM.read(c:KC w0 w B S base)(h:KM w0 w B S base v l n W o t i j L D st)(hg:W.grownBy W' (some B))(hk:KRd W' B v l st'):KM w0 w B S base v l n W' o t i j L D st':=by
 have h1:=c.bw
 have h2:=c.ws
 have h3:=c.sb
 exact ⟨h.ls.low hg (by omega),hk,(hg.block _ h.sb.lt (fun e=>by have:=Option.some.inj e;omega)).trans h.sb,(hg.block _ h.rb.lt (fun e=>by have:=Option.some.inj e;omega)).trans h.rb,grw_trans h.gr hg (fun k e=>.inr (Option.some.inj e).symm),Nat.le_trans h.ba hg.size,h.be.grown hg h.be.size (fun k e=>by rw[←Option.some.inj e];exact c.b0)⟩
theorem KM.cells(h:KM w0 w B S base v l n W o t i j L D st):W.cell? ⟨S,0,none⟩=some o∧W.cell? ⟨S,1,none⟩=some t∧W.cell? ⟨S,2,none⟩=some (.int .i64 n):=h.sb.q3
theorem KM.lay(c:KC w0 w B S base)(h:KM w0 w B S base v l n W o t i j L D st){V:World}(hb:Below W.heap.size W V){row:Option Nat}(hr:∀b,row=some b→base≤b)(hg:V.grownBy W' row):KRd W' B v l st∧WBk W' S #[o,t,.int .i64 n] 26∧WBk W' w.heap.size #[.slice none 0 0,.slice none 0 0,.int .i64 0] 26∧w.grownBy W' (some B)∧base≤W'.heap.size∧Below w0.heap.size w0 W':=by
 have h1:=c.bw
 have h2:=c.ws
 have h3:=c.sb
 have h4:=c.b0
 have hbase:=h.ba
 have hwb:w.heap.size≤W.heap.size:=h.gr.size
 refine ⟨?_,(hg.block _ (Nat.lt_of_lt_of_le h.sb.lt hb.size) (fun e=>by have:=hr _ e.symm;omega)).trans (h.sb.kept hb),(hg.block _ (Nat.lt_of_lt_of_le h.rb.lt hb.size) (fun e=>by have:=hr _ e.symm;omega)).trans (h.rb.kept hb),grw_trans (grw_bel h.gr hb h.gr.size) hg (fun k e=>.inl (by have:=hr k e;omega)),Nat.le_trans h.ba (Nat.le_trans hb.size hg.size),(bel_on h.be hb).grown hg (Nat.le_trans h.be.size hb.size) (fun k e=>by have:=hr k e;omega)⟩
 obtain ⟨a,ha,hk,hst⟩:=(h.rd.kept hb).cells
 exact KRd.of ha ((hg.block _ hk.lt (fun e=>by have:=hr _ e.symm;omega)).trans hk) hst
theorem KM.put1(c:KC w0 w B S base)(h:KM w0 w B S base v l n W o t i j L D st){V:World}(hb:Below W.heap.size W V){o':Value}{i':Nat}{L':List Ly}(hl:LstX base W' o' t i' j L' D)(hg:V.grownBy W' o.ownBlock):KM w0 w B S base v l n (W'.setCell ⟨S,0,none⟩ o') o' t i' j L' D st:=by
 have h1:=c.bw
 have h2:=c.ws
 have h3:=c.sb
 obtain ⟨q1,q2,q3,q4,q5,q6⟩:=h.lay c hb (fun b e=>(h.ls.1.lt b e).1) hg
 have hs:=grw_set W' S 0 o'
 exact ⟨hl.low hs h3,q1.other (by omega) 0 o',q2.set 0 o',q3.other (by omega) o',grw_trans q4 hs (fun k e=>.inl (by have:=Option.some.inj e;omega)),Nat.le_trans q5 hs.size,q6.grown hs q6.size (fun k e=>by have:=Option.some.inj e;have:=c.b0;omega)⟩
theorem KM.put2(c:KC w0 w B S base)(h:KM w0 w B S base v l n W o t i j L D st){V:World}(hb:Below W.heap.size W V){t':Value}{j':Nat}{D':List (Mx×Mx)}(hl:LstX base W' o t' i j' L D')(hg:V.grownBy W' t.ownBlock):KM w0 w B S base v l n (W'.setCell ⟨S,1,none⟩ t') o t' i j' L D' st:=by
 have h1:=c.bw
 have h2:=c.ws
 have h3:=c.sb
 obtain ⟨q1,q2,q3,q4,q5,q6⟩:=h.lay c hb (fun b e=>(h.ls.2.1.lt b e).1) hg
 have hs:=grw_set W' S 1 t'
 exact ⟨hl.low hs h3,q1.other (by omega) 1 t',q2.set 1 t',q3.other (by omega) t',grw_trans q4 hs (fun k e=>.inl (by have:=Option.some.inj e;omega)),Nat.le_trans q5 hs.size,q6.grown hs q6.size (fun k e=>by have:=Option.some.inj e;have:=c.b0;omega)⟩
end
end Go.Proofs.YtaajlggpjholeajDoor
