/- Closing facts: what lies in new memory is there behind writes into older boxes. No program in sight. -/
import Derived.Test.YtpniemnfdleiiajLForth
namespace Go.Proofs.Ytpniemnfdleiiaj
open Go.RowKit
def Above (n:Nat) (w w':World):Prop:=∀(p:Addr) x,n≤p.block→w.cell? p=some x→w'.cell? p=some x
theorem Above.refl(n:Nat)(w:World):Above n w w:=fun _ _ _ h=>h
theorem Above.set{n:Nat}{w u:World}(h:Above n w u){B:Nat}(hB:B<n)(q:Nat)(x:Value):Above n w (u.setCell ⟨B,q,none⟩ x):=fun p y hp hy=>cell_other (h p y hp hy) (by omega) q x
theorem I_.above{n:Nat}{w u:World}{s r c:Value}{zs:List Int}(h:I_ w s zs)(hf:F_ n (.agg #[r,c,s]))(ha:Above n w u):I_ u s zs:=by
 obtain ⟨a,cap,rfl,h2,h3,h4⟩:=h
 refine ⟨a,cap,rfl,h2,h3,?_⟩
 rcases h4 with h0|⟨b',off,rfl,hc⟩
 ·exact .inl h0
 ·rcases hf _ _ _ _ _ rfl with hz|hz
  ·exact .inl (List.eq_nil_of_length_eq_zero hz)
  ·exact .inr ⟨b',off,rfl,fun i x hx=>ha _ _ hz (hc i x hx)⟩
theorem M_.above{n:Nat}{w u:World}{v:Value}{m:Mx}(h:M_ w v m)(hf:F_ n v)(ha:Above n w u):M_ u v m:=by
 obtain ⟨s,rfl,hs⟩:=h;exact ⟨s,rfl,hs.above hf ha⟩
theorem fresh2_of{B:Nat}{r c s r' c' t:Value}(h1:F_ B (.agg #[r,c,s]))(h2:F_ B (.agg #[r',c',t])):Fresh2 B (.agg #[r,c,s,r',c',t]):=by
 intro a b x n k a' b' x' n' k' e
 simp at e
 obtain ⟨rfl,rfl,rfl,rfl,rfl,rfl⟩:=e
 exact ⟨h1,h2⟩
theorem two_of{w:World}{a b:Mx}{s t:Value}(hs:I_ w s a.cells)(ht:I_ w t b.cells):IsTwo w (.agg #[.int .i64 a.rows,.int .i64 a.cols,s,.int .i64 b.rows,.int .i64 b.cols,t]) a b:=⟨s,t,rfl,hs,ht⟩
theorem above3{n B:Nat}(hB:B<n)(u:World)(x0 x1 x2:Value):Above n u (((u.setCell ⟨B,0,none⟩ x0).setCell ⟨B,1,none⟩ x1).setCell ⟨B,2,none⟩ x2):=(((Above.refl n u).set hB 0 x0).set hB 1 x1).set hB 2 x2
theorem above6{n B:Nat}(hB:B<n){u0 u:World}(h:Above n u0 u)(y0 y1 y2 y3 y4 y5:Value):Above n u0 ((((((u.setCell ⟨B,0,none⟩ y0).setCell ⟨B,1,none⟩ y1).setCell ⟨B,2,none⟩ y2).setCell ⟨B,3,none⟩ y3).setCell ⟨B,4,none⟩ y4).setCell ⟨B,5,none⟩ y5):=(((((h.set hB 0 y0).set hB 1 y1).set hB 2 y2).set hB 3 y3).set hB 4 y4).set hB 5 y5
theorem below6{V u:World}{B:Nat}(h:Below V.heap.size V u)(hB:V.heap.size≤B)(y0 y1 y2 y3 y4 y5:Value):Below V.heap.size V ((((((u.setCell ⟨B,0,none⟩ y0).setCell ⟨B,1,none⟩ y1).setCell ⟨B,2,none⟩ y2).setCell ⟨B,3,none⟩ y3).setCell ⟨B,4,none⟩ y4).setCell ⟨B,5,none⟩ y5):=(((((h.setCell hB _).setCell hB _).setCell hB _).setCell hB _).setCell hB _).setCell hB _
theorem isTwo_no(w:World):IsTwo w (.agg #[.int .i64 0,.int .i64 0,.slice none 0 0,.int .i64 0,.int .i64 0,.slice none 0 0]) noMx noMx:=⟨_,_,rfl,I_.nil w,I_.nil w⟩
theorem fresh2_no(B:Nat)(r c r' c':Value):Fresh2 B (.agg #[r,c,.slice none 0 0,r',c',.slice none 0 0]):=fresh2_of (y_ _ _ _) (y_ _ _ _)
end Go.Proofs.Ytpniemnfdleiiaj
