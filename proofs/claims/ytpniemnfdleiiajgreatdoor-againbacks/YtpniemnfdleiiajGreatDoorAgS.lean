/- The memory of backGroup of package again while a group goes back. No program in sight, but for the numbers of types. -/
import Derived.Test.YtpniemnfdleiiajGreatDoorAgC2
namespace Go.Proofs.YtpniemnfdleiiajGreatDoor
open Go.RowKit
def kJ (e N f j:Nat):List Nat:=if f<j then keyK e N f j else hdK e f++[N]
theorem kJ_in{e N f j:Nat}(h:f<j):kJ e N f j=keyK e N f j:=if_pos h
theorem kJ_end{e N f:Nat}:kJ e N f f=hdK e f++[N]:=if_neg (Nat.lt_irrefl f)
theorem kJ_less{e N f j:Nat}(h1:f≤j)(h2:j<N):(keyK e N f (j+1)).erase j=kJ e N f j:=by
 by_cases h:f<j
 ·rw[kJ_in h];exact keyK_less h h2
 ·obtain rfl:f=j:=by omega
  rw[kJ_end];exact keyK_last
theorem Blk.apart{W:World}{b b':Nat}{cs cs':Array Value}{t t':TypeId}(h:Blk W b cs t)(h':Blk W b' cs' t')(ht:t≠t'):b≠b':=by
 rintro rfl
 have h1:W.heap[b]?=_:=h
 rw[show W.heap[b]?=_ from h']at h1
 injection h1 with h1
 injection h1 with _ h1 _
 exact ht h1.symm
def bX (S M D B:Nat) (b:Nat):Prop:=b=S∨b=M∨b=D∨b=B∨b=B+1
structure BgSt (A:Nat→Prop) (w0 W:World) (S M D B N:Nat) (ms:List Mx) (K:List Nat) (q:Nat) (T:Mx) (ts:Value) (gs:List (Mx×Mx)) (cs:List Value):Prop where
 sh:Shelf A W S M ms K q
 dat:Blk W D cs.toArray 65
 enc:Enc W A (gs.flatMap gdS) cs
 len:gs.length=N
 cur:Blk W B #[.int .i64 T.rows,.int .i64 T.cols,ts] 25
 res:Blk W (B+1) #[.int .i64 0,.int .i64 0,.slice none 0 0] 25
 prt:P_ W A (.inr T.cells) ts
 kp:Kept (bX S M D B) w0 W
 aD:A D
 aB:A B
 aR:A (B+1)
 lt:∀b,A b→b<W.heap.size
theorem Enc.kept{A X:Nat→Prop}{w w':World}{sp:List (Int⊕List Int)}{cs:List Value}(h:Enc w A sp cs)(hk:Kept X w w')(hx:∀b,X b→A b):Enc w' A sp cs:=h.map (fun _ _ hp=>hp.kept hk hx)
theorem Blk.keep{X:Nat→Prop}{W W':World}{b:Nat}{cs:Array Value}{t:TypeId}(h:Blk W b cs t)(hk:Kept X W W')(hx:¬X b):Blk W' b cs t:=(hk.block b h.lt hx).trans h
section
variable {A:Nat→Prop} {w0 W W':World} {S M D B N:Nat} {ms:List Mx} {K:List Nat} {q:Nat} {T:Mx} {ts:Value} {gs:List (Mx×Mx)} {cs:List Value}
theorem BgSt.u_(h:BgSt A w0 W S M D B N ms K q T ts gs cs)(hb:Below W.heap.size W W'):BgSt A w0 W' S M D B N ms K q T ts gs cs:=
 ⟨h.sh.u_ hb,h.dat.u_ hb,h.enc.map (fun _ _ hp=>hp.u_ hb),h.len,h.cur.u_ hb,h.res.u_ hb,h.prt.u_ hb,h.kp.trans (Kept.of (X:=fun _=>False) hb) (fun _ _ e=>e.elim),h.aD,h.aB,h.aR,fun b hb'=>Nat.lt_of_lt_of_le (h.lt b hb') hb.size⟩
theorem BgSt.neM(h:BgSt A w0 W S M D B N ms K q T ts gs cs):D≠M∧B≠M∧B+1≠M:=by
 obtain ⟨es,c,hb,_⟩:=h.sh.mp
 have key:∀{b:Nat} {cs:Array Value} {t:TypeId},Blk W b cs t→b≠M:=fun {b cs t} h1 e=>by
  subst e
  have h2:W.heap[b]?=_:=h1
  rw[hb]at h2;cases h2
 exact ⟨key h.dat,key h.cur,key h.res⟩
theorem BgSt.map{K':List Nat}{q':Nat}(h:BgSt A w0 W S M D B N ms K q T ts gs cs)(hk:Kept (fun b=>b=M) W W')(hs:Shelf A W' S M ms K' q'):BgSt A w0 W' S M D B N ms K' q' T ts gs cs:=by
 have hx:∀b,b=M→A b:=fun b e=>by rw[e];exact h.sh.aM
 obtain ⟨n1,n2,n3⟩:=h.neM
 exact ⟨hs,h.dat.keep hk n1,h.enc.kept hk hx,h.len,h.cur.keep hk n2,h.res.keep hk n3,h.prt.kept hk hx,h.kp.trans hk (fun b _ e=>.inr (.inl e)),h.aD,h.aB,h.aR,fun b hb=>Nat.lt_of_lt_of_le (h.lt b hb) hk.size⟩
theorem kept_put3{X:Nat→Prop}(W:World){b:Nat}(hb:X b)(x y z:Value):Kept X W (put3 W b x y z):=
 ((Kept.set W hb 0 x).trans (Kept.set _ hb 1 y) (fun _ _ e=>e)).trans (Kept.set _ hb 2 z) (fun _ _ e=>e)
theorem kept_put6{X:Nat→Prop}(W:World){b:Nat}(hb:X b)(p:Nat)(x y z x' y' z':Value):Kept X W (put6 W b p x y z x' y' z'):=
 (((((Kept.set W hb p x).trans (Kept.set _ hb (p+1) y) (fun _ _ e=>e)).trans (Kept.set _ hb (p+2) z) (fun _ _ e=>e)).trans (Kept.set _ hb (p+3) x') (fun _ _ e=>e)).trans (Kept.set _ hb (p+4) y') (fun _ _ e=>e)).trans (Kept.set _ hb (p+5) z') (fun _ _ e=>e)
theorem BgSt.turn{i:Nat}{T':Mx}{ts':Value}{d:Mx×Mx}{s1 s2:Value}(h:BgSt A w0 W S M D B N ms K q T ts gs cs)(hi:i<N)(hT:P_ W A (.inr T'.cells) ts')(h1:P_ W A (.inr d.1.cells) s1)(h2:P_ W A (.inr d.2.cells) s2):
  BgSt A w0 (put6 (put3 W B (.int .i64 T'.rows) (.int .i64 T'.cols) ts') D (i*6) (.int .i64 d.1.rows) (.int .i64 d.1.cols) s1 (.int .i64 d.2.rows) (.int .i64 d.2.cols) s2) S M D B N ms K q T' ts' (gs.set i d) (set6 cs (i*6) (.int .i64 d.1.rows) (.int .i64 d.1.cols) s1 (.int .i64 d.2.rows) (.int .i64 d.2.cols) s2):=by
 have hk1:=kept_put3 (X:=fun b=>b=B) W rfl (.int .i64 T'.rows) (.int .i64 T'.cols) ts'
 have hk2:=kept_put6 (X:=fun b=>b=D) (put3 W B (.int .i64 T'.rows) (.int .i64 T'.cols) ts') rfl (i*6) (.int .i64 d.1.rows) (.int .i64 d.1.cols) s1 (.int .i64 d.2.rows) (.int .i64 d.2.cols) s2
 have x1:∀b,b=B→A b:=fun b e=>by rw[e];exact h.aB
 have x2:∀b,b=D→A b:=fun b e=>by rw[e];exact h.aD
 obtain ⟨m1,m2,m3⟩:=h.neM
 have nBS:B≠S:=h.cur.apart h.sh.st (by decide)
 have nDS:D≠S:=h.dat.apart h.sh.st (by decide)
 have nBD:B≠D:=h.cur.apart h.dat (by decide)
 have nRD:B+1≠D:=h.res.apart h.dat (by decide)
 have hp:∀{p:Int⊕List Int} {u:Value},P_ W A p u→P_ (put6 (put3 W B (.int .i64 T'.rows) (.int .i64 T'.cols) ts') D (i*6) (.int .i64 d.1.rows) (.int .i64 d.1.cols) s1 (.int .i64 d.2.rows) (.int .i64 d.2.cols) s2) A p u:=fun hq=>(hq.kept hk1 x1).kept hk2 x2
 refine ⟨(h.sh.kept hk1 x1 (fun e=>nBS e.symm) (fun e=>m2 e.symm)).kept hk2 x2 (fun e=>nDS e.symm) (fun e=>m1 e.symm),?_,enc_set6 (h.enc.map (fun _ _ hq=>hp hq)) (by rw[h.len];exact hi) (enc_gd (hp h1) (hp h2)),by rw[List.length_set];exact h.len,?_,?_,hp hT,(h.kp.trans hk1 (fun b _ e=>.inr (.inr (.inr (.inl e))))).trans hk2 (fun b _ e=>.inr (.inr (.inl e))),h.aD,h.aB,h.aR,fun b hb=>Nat.lt_of_lt_of_le (h.lt b hb) (Nat.le_trans hk1.size hk2.size)⟩
 ·have hd:=h.dat.keep hk1 (fun e=>nBD e.symm)
  have:=(((((hd.set (i*6) (.int .i64 d.1.rows)).set (i*6+1) (.int .i64 d.1.cols)).set (i*6+2) s1).set (i*6+3) (.int .i64 d.2.rows)).set (i*6+4) (.int .i64 d.2.cols)).set (i*6+5) s2
  simpa [set6,put6] using this
 ·exact ((((h.cur.set 0 (.int .i64 T'.rows)).set 1 (.int .i64 T'.cols)).set 2 ts')).keep hk2 nBD
 ·exact (h.res.keep hk1 (fun e=>by have e:B+1=B:=e;omega)).keep hk2 nRD
end
end Go.Proofs.YtpniemnfdleiiajGreatDoor
