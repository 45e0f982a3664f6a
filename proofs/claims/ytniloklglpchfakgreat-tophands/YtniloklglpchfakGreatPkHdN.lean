/- The law's own rows as they are made, ahead of the loop; what stays as it is. -/
import Derived.Test.YtniloklglpchfakGreatPkHdT
import Derived.Test.YtniloklglpchfakGreatLists
import Derived.Test.YtniloklglpchfakGreatLBack
import Derived.Test.YtniloklglpchfakGreatPkLsBoth
import Derived.Test.YtniloklglpchfakGreatPkReg
import Derived.Test.YtniloklglpchfakGreatPkTrC4
import Derived.Test.YtniloklglpchfakGreatPkTrainQ
import Derived.Test.YtniloklglpchfakGreatPkLBox
import Derived.Test.YtniloklglpchfakGreatPkLWide
namespace Go.Proofs.YtniloklglpchfakGreat
open Go.RowKit
def handW (U:World) (y0 y1:Value) (P:Nat):World:=(((((((((((U.alloc (.cells #[y0,y1] 23)).alloc (.cells #[.slice (some ⟨U.heap.size+1+1,0,none⟩) P P,.slice (some ⟨U.heap.size+1+1+1,0,none⟩) P P] 54)).alloc (.cells (rawCells (.slice none 0 0) P) 55)).alloc (.cells (rawCells (.slice none 0 0) P) 55)).alloc (.cells #[.slice (some ⟨U.heap.size+1+1+1+1+1,0,none⟩) P P,.slice (some ⟨U.heap.size+1+1+1+1+1+1,0,none⟩) P P] 56)).alloc (.cells (rawCells (.agg #[.int .i64 0,.int .i64 0,.slice none 0 0]) (P*3)) 28)).alloc (.cells (rawCells (.agg #[.int .i64 0,.int .i64 0,.slice none 0 0]) (P*3)) 28)).alloc (.cells #[.slice (some ⟨U.heap.size+1+1+1+1+1+1+1+1,0,none⟩) P P,.slice (some ⟨U.heap.size+1+1+1+1+1+1+1+1+1,0,none⟩) P P] 58)).alloc (.cells (rawCells (.bool false) P) 4)).alloc (.cells (rawCells (.bool false) P) 4)).alloc (.cells #[.int .i64 0,.int .i64 0] 3))
theorem WBk.past{w:World}{B:Nat}{cs:Array Value}{t:TypeId}(h:WBk w B cs t)(o:Obj):WBk (w.alloc o) B cs t:=h.kept (o_ _ _)
theorem WBk.newAt(w:World)(cs:Array Value)(t:TypeId){B:Nat}(hB:w.heap.size=B):WBk (w.alloc (.cells cs t)) B cs t:=by subst hB;exact WBk.new w cs t
theorem hand_blk(U:World)(y0 y1:Value)(P:Nat):WBk (handW U y0 y1 P) (U.heap.size) #[y0,y1] 23∧WBk (handW U y0 y1 P) (U.heap.size+1) #[.slice (some ⟨U.heap.size+1+1,0,none⟩) P P,.slice (some ⟨U.heap.size+1+1+1,0,none⟩) P P] 54∧WBk (handW U y0 y1 P) (U.heap.size+1+1) (rawCells (.slice none 0 0) P) 55∧WBk (handW U y0 y1 P) (U.heap.size+1+1+1) (rawCells (.slice none 0 0) P) 55∧WBk (handW U y0 y1 P) (U.heap.size+1+1+1+1) #[.slice (some ⟨U.heap.size+1+1+1+1+1,0,none⟩) P P,.slice (some ⟨U.heap.size+1+1+1+1+1+1,0,none⟩) P P] 56∧WBk (handW U y0 y1 P) (U.heap.size+1+1+1+1+1) (rawCells (.agg #[.int .i64 0,.int .i64 0,.slice none 0 0]) (P*3)) 28∧WBk (handW U y0 y1 P) (U.heap.size+1+1+1+1+1+1) (rawCells (.agg #[.int .i64 0,.int .i64 0,.slice none 0 0]) (P*3)) 28∧WBk (handW U y0 y1 P) (U.heap.size+1+1+1+1+1+1+1) #[.slice (some ⟨U.heap.size+1+1+1+1+1+1+1+1,0,none⟩) P P,.slice (some ⟨U.heap.size+1+1+1+1+1+1+1+1+1,0,none⟩) P P] 58∧WBk (handW U y0 y1 P) (U.heap.size+1+1+1+1+1+1+1+1) (rawCells (.bool false) P) 4∧WBk (handW U y0 y1 P) (U.heap.size+1+1+1+1+1+1+1+1+1) (rawCells (.bool false) P) 4∧WBk (handW U y0 y1 P) (U.heap.size+1+1+1+1+1+1+1+1+1+1) #[.int .i64 0,.int .i64 0] 3:=by
 unfold handW
 refine ⟨?_,?_,?_,?_,?_,?_,?_,?_,?_,?_,?_⟩
 ·exact (((((((((((WBk.newAt _ _ _ (by first|rfl|simp)).past _).past _).past _).past _).past _).past _).past _).past _).past _).past _)
 ·exact ((((((((((WBk.newAt _ _ _ (by first|rfl|simp)).past _).past _).past _).past _).past _).past _).past _).past _).past _)
 ·exact (((((((((WBk.newAt _ _ _ (by first|rfl|simp)).past _).past _).past _).past _).past _).past _).past _).past _)
 ·exact ((((((((WBk.newAt _ _ _ (by first|rfl|simp)).past _).past _).past _).past _).past _).past _).past _)
 ·exact (((((((WBk.newAt _ _ _ (by first|rfl|simp)).past _).past _).past _).past _).past _).past _)
 ·exact ((((((WBk.newAt _ _ _ (by first|rfl|simp)).past _).past _).past _).past _).past _)
 ·exact (((((WBk.newAt _ _ _ (by first|rfl|simp)).past _).past _).past _).past _)
 ·exact ((((WBk.newAt _ _ _ (by first|rfl|simp)).past _).past _).past _)
 ·exact (((WBk.newAt _ _ _ (by first|rfl|simp)).past _).past _)
 ·exact ((WBk.newAt _ _ _ (by first|rfl|simp)).past _)
 ·exact (WBk.newAt _ _ _ (by first|rfl|simp))
theorem hand_bel(U:World)(y0 y1:Value)(P:Nat):Below U.heap.size U (handW U y0 y1 P):=by
 unfold handW
 exact (bel_on (bel_on (bel_on (bel_on (bel_on (bel_on (bel_on (bel_on (bel_on (bel_on (o_ _ _) (o_ _ _)) (o_ _ _)) (o_ _ _)) (o_ _ _)) (o_ _ _)) (o_ _ _)) (o_ _ _)) (o_ _ _)) (o_ _ _)) (o_ _ _))
theorem hand_size(U:World)(y0 y1:Value)(P:Nat):(handW U y0 y1 P).heap.size=U.heap.size+11:=by unfold handW;simp
def HBk.of (Y B1 C1 B0 C0:Nat):HBk:=⟨Y,Y+1+1,Y+1+1+1,Y+1+1+1+1+1,Y+1+1+1+1+1+1,Y+1+1+1+1+1+1+1+1,Y+1+1+1+1+1+1+1+1+1,Y+1+1+1+1+1+1+1+1+1+1,B1,C1,B0,C0⟩
theorem raw_one(z:Value)(hz:z.cells=#[z])(P:Nat){m:Nat}{v:Value}(h:(rawCells z P)[m]?=some v):v=z:=by
 unfold rawCells at h
 rw[hz]at h
 rw[←Array.getElem?_toList,toList_madeCells_one]at h
 exact (List.mem_replicate.1 (List.mem_of_getElem? h)).2
theorem raw_at(z:Value)(n j:Nat){v:Value}(h:(rawCells z n)[j]?=some v):v=z.cells[j % z.cells.size]!:=by
 unfold rawCells madeCells at h
 rw[Array.getElem?_map]at h
 cases hj:(Array.range n)[j]? with
 |none=>rw[hj]at h;cases h
 |some i=>
  rw[hj]at h
  obtain rfl:i=j:=by
   obtain ⟨h1,h2⟩:=Array.getElem?_eq_some_iff.1 hj
   rw[←h2,Array.getElem_range]
  exact (Option.some.inj h).symm
theorem raw_three{P m:Nat}{x y z:Value}(hx:(rawCells (.agg #[.int .i64 0,.int .i64 0,.slice none 0 0]) (P*3))[m*3]?=some x)(hy:(rawCells (.agg #[.int .i64 0,.int .i64 0,.slice none 0 0]) (P*3))[m*3+1]?=some y)(hz:(rawCells (.agg #[.int .i64 0,.int .i64 0,.slice none 0 0]) (P*3))[m*3+2]?=some z):∃r c a n k,x=.int .i64 r∧y=.int .i64 c∧z=.slice a n k:=by
 have e1:=raw_at _ _ _ hx
 have e2:=raw_at _ _ _ hy
 have e3:=raw_at _ _ _ hz
 have s3:(Value.agg #[.int .i64 0,.int .i64 0,.slice none 0 0]).cells=#[.int .i64 0,.int .i64 0,.slice none 0 0]:=rfl
 rw[s3]at e1 e2 e3
 rw[show m*3 % (#[Value.int .i64 0,.int .i64 0,.slice none 0 0]:Array Value).size=0 by show m*3 % 3=0;omega]at e1
 rw[show (m*3+1) % (#[Value.int .i64 0,.int .i64 0,.slice none 0 0]:Array Value).size=1 by show (m*3+1) % 3=1;omega]at e2
 rw[show (m*3+2) % (#[Value.int .i64 0,.int .i64 0,.slice none 0 0]:Array Value).size=2 by show (m*3+2) % 3=2;omega]at e3
 exact ⟨0,0,none,0,0,e1,e2,e3⟩
theorem IsActs.stay{w W:World}{v:Value}{l:List (Int×Int)}(h:IsActs w v l)(hW:∀(p:Addr) x,w.cell? p=some x→W.cell? p=some x):IsActs W v l:=by
 obtain ⟨a,cap,h1,h2,h3,h4⟩:=h
 refine ⟨a,cap,h1,h2,h3,h4.imp id ?_⟩
 rintro ⟨b,off,ha,hc⟩
 exact ⟨b,off,ha,fun i x hx=>⟨hW _ _ (hc i x hx).1,hW _ _ (hc i x hx).2⟩⟩
theorem IsPlan.stay{w W:World}{v:Value}{p:List (List (Int×Int))}(h:IsPlan w v p)(hW:∀(q:Addr) x,w.cell? q=some x→W.cell? q=some x):IsPlan W v p:=by
 obtain ⟨a,cap,h1,h2,h3,h4⟩:=h
 refine ⟨a,cap,h1,h2,h3,h4.imp id ?_⟩
 rintro ⟨b,off,ha,hc⟩
 refine ⟨b,off,ha,fun i l hl=>?_⟩
 obtain ⟨s,hs,hl⟩:=hc i l hl
 exact ⟨s,hW _ _ hs,hl.stay hW⟩
theorem hold_old{w V:World}(hb:Below w.heap.size w V){G:Nat→Prop}(hG:∀b,G b→w.heap.size≤b){F:World→Prop}(hF:∀W:World,(∀(q:Addr) x,w.cell? q=some x→W.cell? q=some x)→F W):Hold G V F:=fun W hW=>hF W (fun p x hx=>hW p x (fun hg=>by
 have:=World.block_lt_of_cell? w p hx
 have:=hG _ hg
 omega) (c_ hb hx))
structure HFix (D:HD) (h:HBk) (pv lv n0 n1:Value) (nb:Nat) (W:World):Prop where
 pl:IsPlan W pv [D.p0,D.p1]
 ll:IsBts W lv D.L
 c0:W.cell? ⟨nb,0,none⟩=some n0
 c1:W.cell? ⟨nb,1,none⟩=some n1
 l0:Y_ W n0 D.a
 l1:Y_ W n1 D.b
 sw0:W.cell? ⟨h.yb+1,0,none⟩=some (.slice (some ⟨h.s0,0,none⟩) D.P D.P)
 sw1:W.cell? ⟨h.yb+1,1,none⟩=some (.slice (some ⟨h.s1,0,none⟩) D.P D.P)
 in0:W.cell? ⟨h.yb+1+1+1+1,0,none⟩=some (.slice (some ⟨h.i0,0,none⟩) D.P D.P)
 in1:W.cell? ⟨h.yb+1+1+1+1,1,none⟩=some (.slice (some ⟨h.i1,0,none⟩) D.P D.P)
 cm0:W.cell? ⟨h.yb+1+1+1+1+1+1+1,0,none⟩=some (.slice (some ⟨h.k0,0,none⟩) D.P D.P)
 cm1:W.cell? ⟨h.yb+1+1+1+1+1+1+1,1,none⟩=some (.slice (some ⟨h.k1,0,none⟩) D.P D.P)
theorem grown_bel{w w':World}(h:Below w.heap.size w w'):w.grownBy w' none:=below_grown h
theorem hands_start{D:HD}{U5 U6 U7 U8:World}{B1 C1 B0 C0:Nat}{Q1 Q0:Nat→Prop}{y0 y1 pv lv n0 n1:Value}{nb:Nat}{t:TypeId}
  (hx1:BoxIs U6 Q1 B1 C1 16 false []) (hq1:∀b,Q1 b→U5.heap.size≤b) (hx0:BoxIs U7 Q0 B0 C0 16 false []) (hq0:∀b,Q0 b→U6.heap.size≤b) (h67:Below U6.heap.size U6 U7) (h78:Below U7.heap.size U7 U8) (h58:Below U5.heap.size U5 U8)
  (hpl:IsPlan U5 pv [D.p0,D.p1]) (hll:IsBts U5 lv D.L) (hl0:Y_ U5 n0 D.a) (hl1:Y_ U5 n1 D.b) (hnb:WBk U8 nb #[n0,n1] t) (hnb7:U7.heap.size≤nb)
  (hy0:Hold (fun b=>b<U7.heap.size) U8 (fun W=>D_ W y0 (zeroD D.a))) (hy1:Hold (fun b=>b<U7.heap.size) U8 (fun W=>D_ W y1 (zeroD D.b))):
  HInv D (HBk.of U8.heap.size B1 C1 B0 C0) (handW U8 y0 y1 D.P) (handW U8 y0 y1 D.P) 0 0 [] [] (fun _=>false) (fun _=>false)∧Hold (HBk.of U8.heap.size B1 C1 B0 C0).A (handW U8 y0 y1 D.P) (HFix D (HBk.of U8.heap.size B1 C1 B0 C0) pv lv n0 n1 nb):=by
 have hbb:=hand_bel U8 y0 y1 D.P
 have hsz:=hand_size U8 y0 y1 D.P
 have s67:=h67.size
 have s78:=h78.size
 have l1:=hx1.lt B1 hx1.pB
 have l2:=hx1.lt C1 hx1.pC
 have l3:=hx0.lt B0 hx0.pB
 have l4:=hx0.lt C0 hx0.pC
 have g1:=hq1 B1 hx1.pB
 have g2:=hq1 C1 hx1.pC
 have g3:=hq0 B0 hx0.pB
 have g4:=hq0 C0 hx0.pC
 have d1:=hx1.ne
 have d2:=hx0.ne
 obtain ⟨b0,b1,b2,b3,b4,b5,b6,b7,b8,b9,b10⟩:=hand_blk U8 y0 y1 D.P
 generalize handW U8 y0 y1 D.P=W0 at*
 have hA:∀b,(HBk.of U8.heap.size B1 C1 B0 C0).A b→(U8.heap.size≤b∧b<U8.heap.size+11∧b≠U8.heap.size+1∧b≠U8.heap.size+4∧b≠U8.heap.size+7)∨b=B1∨b=C1∨b=B0∨b=C0:=fun b q=>by
  unfold HBk.A HBk.of at q
  dsimp only at q
  omega
 have hge:∀b,(HBk.of U8.heap.size B1 C1 B0 C0).A b→U5.heap.size≤b:=fun b q=>by
  have s58:=h58.size
  have s56:=hq1 B1 hx1.pB
  rcases hA b q with h|h<;>omega
 have hOrd:(HBk.of U8.heap.size B1 C1 B0 C0).Ord:=by
  refine ⟨?_,?_,?_⟩<;>(unfold HBk.of;dsimp only;omega)
 have hY:∀{y:Value} {ds:List (Mx×Mx)},Hold (fun b=>b<U7.heap.size) U8 (fun W=>D_ W y ds)→Hold (HBk.of U8.heap.size B1 C1 B0 C0).A W0 (fun W=>D_ W y ds):=fun hy=>hy.grown (grown_bel hbb) (fun b e=>by cases e) (fun b hb q=>by
  rcases hA b q with h|h<;>omega)
 have h5W:Below U5.heap.size U5 W0:=h58.trans (hbb.mono h58.size)
 have hold5:∀{F:World→Prop},(∀W:World,(∀(q:Addr) x,U5.cell? q=some x→W.cell? q=some x)→F W)→Hold (HBk.of U8.heap.size B1 C1 B0 C0).A W0 F:=fun hF=>hold_old h5W hge hF
 have hkeep:∀{B:Nat} {cs:Array Value} {t:TypeId} {i:Nat} {x:Value},WBk W0 B cs t→cs[i]?=some x→¬(HBk.of U8.heap.size B1 C1 B0 C0).A B→Hold (HBk.of U8.heap.size B1 C1 B0 C0).A W0 (fun W=>W.cell? ⟨B,i,none⟩=some x):=fun hb hx hn W hW=>hW _ _ hn (hb.c hx)
 have hx1':BoxIs W0 Q1 B1 C1 16 false []:=hx1.keep (Kept.of (X:=fun _=>False) (bel_on h67 (bel_on h78 hbb))) (fun _ _ q=>q)
 have hx0':BoxIs W0 Q0 B0 C0 16 false []:=hx0.keep (Kept.of (X:=fun _=>False) (bel_on h78 hbb)) (fun _ _ q=>q)
 have no1:¬(HBk.of U8.heap.size B1 C1 B0 C0).A (U8.heap.size+1):=fun q=>by rcases hA _ q with h|h<;>omega
 have no4:¬(HBk.of U8.heap.size B1 C1 B0 C0).A (U8.heap.size+1+1+1+1):=fun q=>by rcases hA _ q with h|h<;>omega
 have no7:¬(HBk.of U8.heap.size B1 C1 B0 C0).A (U8.heap.size+1+1+1+1+1+1+1):=fun q=>by rcases hA _ q with h|h<;>omega
 have nbl:=hnb.lt
 have nonb:¬(HBk.of U8.heap.size B1 C1 B0 C0).A nb:=fun q=>by rcases hA _ q with h|h<;>omega
 have hnb':=hnb.kept hbb
 refine ⟨⟨⟨hOrd,fun b q=>?_,Kept.refl _ _,b10,?_,?_,?_,?_,?_,?_,?_,?_,?_⟩,⟨fun m _=>by simp,fun m _=>by simp,⟨by simp,by simp⟩,⟨by simp,by simp⟩,Nat.zero_le _,Nat.zero_le _,und_first _ _⟩⟩,fun W hW=>?_⟩
 ·rcases hA b q with h|h<;>omega
 ·refine ⟨_,b0,rfl,fun m v hm=>?_⟩
  rw[bks_zero,bks_zero,List.take_zero]
  match m,hm with
  |0,hm=>obtain rfl:=Option.some.inj hm;exact (hY hy0).imp (fun W q=>⟨fun _=>q,fun e=>absurd e (by decide)⟩)
  |1,hm=>obtain rfl:=Option.some.inj hm;exact (hY hy1).imp (fun W q=>⟨fun e=>absurd e (by decide),fun _=>q⟩)
 ·exact ⟨_,b2,rawCells_size _ _,fun m v _ W _ q=>by simp at q⟩
 ·exact ⟨_,b3,rawCells_size _ _,fun m v _ W _ q=>by simp at q⟩
 ·exact ⟨_,b5,rawCells_size _ _,fun m x y z hx hy hz W _=>⟨raw_three hx hy hz,fun q=>by cases q⟩⟩
 ·exact ⟨_,b6,rawCells_size _ _,fun m x y z hx hy hz W _=>⟨raw_three hx hy hz,fun q=>by cases q⟩⟩
 ·exact ⟨_,b8,rawCells_size _ _,fun m v hm=>Hold.pure (raw_one _ rfl _ hm)⟩
 ·exact ⟨_,b9,rawCells_size _ _,fun m v hm=>Hold.pure (raw_one _ rfl _ hm)⟩
 ·refine ⟨Q1,hx1',fun b hb=>?_⟩
  have h1:=hx1.lt b hb
  by_cases e1:b=B1
  ·exact .inl e1
  by_cases e2:b=C1
  ·exact .inr (.inl e2)
  exact .inr (.inr (fun q=>by rcases hA b q with h|h<;>omega))
 ·refine ⟨Q0,hx0',fun b hb=>?_⟩
  have h1:=hx0.lt b hb
  have h2:=hq0 b hb
  by_cases e1:b=B0
  ·exact .inl e1
  by_cases e2:b=C0
  ·exact .inr (.inl e2)
  exact .inr (.inr (fun q=>by rcases hA b q with h|h<;>omega))
 ·exact ⟨hold5 (fun W q=>hpl.stay q) W hW,Reads.hold hll h5W hge W hW,hkeep hnb' rfl nonb W hW,hkeep hnb' rfl nonb W hW,Reads.hold hl0 h5W hge W hW,Reads.hold hl1 h5W hge W hW,hkeep b1 rfl no1 W hW,hkeep b1 rfl no1 W hW,hkeep b4 rfl no4 W hW,hkeep b4 rfl no4 W hW,hkeep b7 rfl no7 W hW,hkeep b7 rfl no7 W hW⟩
set_option maxHeartbeats 4000000 in
set_option maxRecDepth 100000 in
theorem gds_same(v v':Value)(xs:List (Mx×Mx))(w:World)(h0:D_ w v xs)(h1:D_ w v' xs):
  Calls Tryz.prog 52 #[v,v'] w fun e w'=>e=.returned (.bool true)∧Below w.heap.size w w':=by
 obtain ⟨a,cap,rfl,hlc,hcm⟩:=h0.shape
 obtain ⟨a',cap',rfl,_,_⟩:=h1.shape
 have H0:=h_ h0
 have H1:=h_ h1
 obtain ⟨N,hN⟩:=gN (xs.length)
 have HN:=h_ hN
 have hNm:N≤9223372036854775807:=by unfold maxLen at hcm;omega
 rw[hN]at H0 H1 ⊢
 clear h0 h1 hlc hcm hN
 go_enter Tryz.func52,Tryz.ntmps52
 go_wp2
 go_loopw [5] (fun x wr=>∃(i:Nat) (xi:Int),i≤N∧xi=(i:Int)∧x=.int .i64 xi∧Below w.heap.size w wr) (fun x _=>N - (intOf x).toNat)
 case atStart=>exact ⟨0,0,Nat.zero_le _,rfl,rfl,Below.refl _ _⟩
 case round=>
  obtain ⟨i,xi,hi,hxi,rfl,hbw⟩:=hrel
  have HB:=h_ hbw
  have HXI:=h_ hxi
  have hxi0:0≤xi:=by omega
  have hxi1:xi≤9223372036854775807:=by omega
  clear hbw hxi
  by_cases hlt:xi<(N:Int)
  ·have hin:i<N:=by have:=HXI.out;omega
   have hxn:xi.toNat=i:=by have:=HXI.out;omega
   obtain ⟨x,hx⟩:∃x,xs[i]?=some x:=⟨xs[i]'(by have:=HN.out;omega),List.getElem?_eq_getElem _⟩
   obtain ⟨b,off,cp,s0a,s0n,s0k,s1a,s1n,s1k,ev,k0,k1,k2,k3,k4,k5,hs0,hs1⟩:=H0.out.at hx
   injection ev with ev1 ev2 ev3
   clear ev2 ev3
   subst ev1
   obtain ⟨b',off',cp',s0'a,s0'n,s0'k,s1'a,s1'n,s1'k,ev,y0,y1,y2,y3,y4,y5,hs0',hs1'⟩:=H1.out.at hx
   injection ev with ev1 ev2 ev3
   clear ev2 ev3
   subst ev1
   rw[←hxn]at k0 k1 k2 k3 k4 k5 y0 y1 y2 y3 y4 y5
   have HK:=h_ (fun W (h:Below w.heap.size w W)=>(And.intro (c_ h k0) (And.intro (c_ h k1) (And.intro (c_ h k2) (And.intro (c_ h k3) (And.intro (c_ h k4) (And.intro (c_ h k5) (And.intro (c_ h y0) (And.intro (c_ h y1) (And.intro (c_ h y2) (And.intro (c_ h y3) (And.intro (c_ h y4) (c_ h y5)))))))))))))
   have HM0:=h_ (fun W (h:Below w.heap.size w W)=>matrices_any _ _ x.1 x.1 W ⟨_,rfl,hs0.u_ h⟩ ⟨_,rfl,hs0'.u_ h⟩)
   rw[sameM_refl]at HM0
   have HM1:=h_ (fun W (h:Below w.heap.size w W)=>matrices_any _ _ x.2 x.2 W ⟨_,rfl,hs1.u_ h⟩ ⟨_,rfl,hs1'.u_ h⟩)
   rw[sameM_refl]at HM1
   clear k0 k1 k2 k3 k4 k5 y0 y1 y2 y3 y4 y5 hs0 hs0' hs1 hs1' hx hxn
   obtain ⟨k0,k1,k2,k3,k4,k5,y0,y1,y2,y3,y4,y5⟩:=HK.out wr HB.out
   go_wp2
   refine region_tail 10 (by kernel_rfl) (by kernel_rfl) ?_
   simp only[List.take_succ_cons,List.take_zero,List.drop_succ_cons,List.drop_zero]
   repeat still_step
   refine wpStill_nil ?_
   go_wp2_with fail
   refine (HM0.out _ (r_ HB.out)).mono ?_
   rintro e w1 ⟨rfl,hb1⟩
   have HB1:=h_ (b_ (r_ HB.out) hb1)
   clear hb1 k0 k1 k2 k3 k4 k5 y0 y1 y2 y3 y4 y5
   obtain ⟨k0,k1,k2,k3,k4,k5,y0,y1,y2,y3,y4,y5⟩:=HK.out w1 HB1.out
   have kz1:=k4
   have kz2:=k5
   have yz1:=y4
   have yz2:=y5
   go_wp2
   refine region_tail 10 (by kernel_rfl) (by kernel_rfl) ?_
   simp only[List.take_succ_cons,List.take_zero,List.drop_succ_cons,List.drop_zero]
   repeat still_step
   refine wpStill_nil ?_
   go_wp2_with fail
   refine (HM1.out _ (r_ HB1.out)).mono ?_
   rintro e w2 ⟨rfl,hb2⟩
   have HB2:=h_ (b_ (r_ HB1.out) hb2)
   clear hb2 k0 k1 k2 k3 k4 k5 y0 y1 y2 y3 y4 y5 kz1 kz2 yz1 yz2
   go_wp2
   go_roundw
   case rel=>exact ⟨i+1,_,by omega,by have:=HXI.out;omega,rfl,HB2.out⟩
   case measure=>have:=HXI.out;simp[intOf];omega
  ·go_wp2
   go_ret
   exact ⟨rfl,HB.out⟩
set_option maxHeartbeats 4000000 in
set_option maxRecDepth 100000 in
theorem lys_same(v v':Value)(xs:List Ly)(w:World)(h0:Y_ w v xs)(h1:Y_ w v' xs):
  Calls Tryz.prog 51 #[v,v'] w fun e w'=>e=.returned (.bool true)∧Below w.heap.size w w':=by
 obtain ⟨a,cap,rfl,hlc,hcm⟩:=h0.shape
 obtain ⟨a',cap',rfl,_,_⟩:=h1.shape
 have H0:=h_ h0
 have H1:=h_ h1
 obtain ⟨N,hN⟩:=gN (xs.length)
 have HN:=h_ hN
 have hNm:N≤9223372036854775807:=by unfold maxLen at hcm;omega
 rw[hN]at H0 H1 ⊢
 clear h0 h1 hlc hcm hN
 go_enter Tryz.func51,Tryz.ntmps51
 go_wp2
 go_loopw [5] (fun x wr=>∃(i:Nat) (xi:Int),i≤N∧xi=(i:Int)∧x=.int .i64 xi∧Below w.heap.size w wr) (fun x _=>N - (intOf x).toNat)
 case atStart=>exact ⟨0,0,Nat.zero_le _,rfl,rfl,Below.refl _ _⟩
 case round=>
  obtain ⟨i,xi,hi,hxi,rfl,hbw⟩:=hrel
  have HB:=h_ hbw
  have HXI:=h_ hxi
  have hxi0:0≤xi:=by omega
  have hxi1:xi≤9223372036854775807:=by omega
  clear hbw hxi
  by_cases hlt:xi<(N:Int)
  ·have hin:i<N:=by have:=HXI.out;omega
   have hxn:xi.toNat=i:=by have:=HXI.out;omega
   obtain ⟨x,hx⟩:∃x,xs[i]?=some x:=⟨xs[i]'(by have:=HN.out;omega),List.getElem?_eq_getElem _⟩
   obtain ⟨b,off,cp,s0a,s0n,s0k,s1a,s1n,s1k,ev,k0,k1,k2,k3,k4,k5,k6,hly⟩:=H0.out.at hx
   obtain ⟨hs0,hs1⟩:=Y_.ints hly
   clear hly
   injection ev with ev1 ev2 ev3
   clear ev2 ev3
   subst ev1
   obtain ⟨b',off',cp',s0'a,s0'n,s0'k,s1'a,s1'n,s1'k,ev,y0,y1,y2,y3,y4,y5,y6,hly'⟩:=H1.out.at hx
   obtain ⟨hs0',hs1'⟩:=Y_.ints hly'
   clear hly'
   injection ev with ev1 ev2 ev3
   clear ev2 ev3
   subst ev1
   rw[←hxn]at k0 k1 k2 k3 k4 k5 k6 y0 y1 y2 y3 y4 y5 y6
   have HK:=h_ (fun W (h:Below w.heap.size w W)=>(And.intro (c_ h k0) (And.intro (c_ h k1) (And.intro (c_ h k2) (And.intro (c_ h k3) (And.intro (c_ h k4) (And.intro (c_ h k5) (And.intro (c_ h k6) (And.intro (c_ h y0) (And.intro (c_ h y1) (And.intro (c_ h y2) (And.intro (c_ h y3) (And.intro (c_ h y4) (And.intro (c_ h y5) (c_ h y6)))))))))))))))
   have HM0:=h_ (fun W (h:Below w.heap.size w W)=>matrices_any _ _ x.w x.w W ⟨_,rfl,hs0.u_ h⟩ ⟨_,rfl,hs0'.u_ h⟩)
   rw[sameM_refl]at HM0
   have HM1:=h_ (fun W (h:Below w.heap.size w W)=>matrices_any _ _ x.b x.b W ⟨_,rfl,hs1.u_ h⟩ ⟨_,rfl,hs1'.u_ h⟩)
   rw[sameM_refl]at HM1
   clear k0 k1 k2 k3 k4 k5 k6 y0 y1 y2 y3 y4 y5 y6 hs0 hs0' hs1 hs1' hx hxn
   obtain ⟨k0,k1,k2,k3,k4,k5,k6,y0,y1,y2,y3,y4,y5,y6⟩:=HK.out wr HB.out
   have kz1:=k2
   have kz2:=k3
   have yz1:=y2
   have yz2:=y3
   go_wp2
   refine region_tail 10 (by kernel_rfl) (by kernel_rfl) ?_
   simp only[List.take_succ_cons,List.take_zero,List.drop_succ_cons,List.drop_zero]
   repeat still_step
   refine wpStill_nil ?_
   go_wp2_with fail
   refine (HM0.out _ (r_ HB.out)).mono ?_
   rintro e w1 ⟨rfl,hb1⟩
   have HB1:=h_ (b_ (r_ HB.out) hb1)
   clear hb1 k0 k1 k2 k3 k4 k5 k6 y0 y1 y2 y3 y4 y5 y6 kz1 kz2 yz1 yz2
   obtain ⟨k0,k1,k2,k3,k4,k5,k6,y0,y1,y2,y3,y4,y5,y6⟩:=HK.out w1 HB1.out
   have kz1:=k5
   have kz2:=k6
   have yz1:=y5
   have yz2:=y6
   go_wp2
   refine region_tail 10 (by kernel_rfl) (by kernel_rfl) ?_
   simp only[List.take_succ_cons,List.take_zero,List.drop_succ_cons,List.drop_zero]
   repeat still_step
   refine wpStill_nil ?_
   go_wp2_with fail
   refine (HM1.out _ (r_ HB1.out)).mono ?_
   rintro e w2 ⟨rfl,hb2⟩
   have HB2:=h_ (b_ (r_ HB1.out) hb2)
   clear hb2 k0 k1 k2 k3 k4 k5 k6 y0 y1 y2 y3 y4 y5 y6 kz1 kz2 yz1 yz2
   obtain ⟨k0,k1,k2,k3,k4,k5,k6,y0,y1,y2,y3,y4,y5,y6⟩:=HK.out w2 HB2.out
   clear k1 k2 k3 k4 k5 k6 y1 y2 y3 y4 y5 y6
   go_wp2
   go_region
   all_goals go_wp2
   all_goals go_roundw
   case rel=>exact ⟨i+1,_,by omega,by have:=HXI.out;omega,rfl,r_ HB2.out⟩
   case measure=>have:=HXI.out;simp[intOf];omega
  ·go_wp2
   go_ret
   exact ⟨rfl,HB.out⟩
set_option maxHeartbeats 4000000 in
set_option maxRecDepth 100000 in
theorem hstate_any(va:Option Addr)(vn vk:Nat)(xa:Option Addr)(xn xk:Nat)(n:Int)(w:World):Calls Tryz.prog 5 #[.agg #[.slice va vn vk,.slice xa xn xk,.int .i64 n]] w fun e w'=>e=.returned (.agg #[.slice va vn vk,.slice xa xn xk,.int .i64 n])∧Below w.heap.size w w':=by
 have HB0:=h_ (o_ w (.cells #[.slice va vn vk,.slice xa xn xk,.int .i64 n] 25))
 obtain ⟨W,hW⟩:=gM (w.alloc (.cells #[.slice va vn vk,.slice xa xn xk,.int .i64 n] 25))
 go_enter Tryz.func5,Tryz.ntmps5
 go_wp2
 refine bodyPost_ret (v:=.agg #[.slice va vn vk,.slice xa xn xk,.int .i64 n]) (by simp[results,Tryz.results5,go_sem]) rfl ⟨rfl,?_⟩
 exact a_ HB0.out
set_option maxHeartbeats 4000000 in
set_option maxRecDepth 100000 in
theorem hstates_any(u t u' t':Value)(ls:List Ly)(ds:List (Mx×Mx))(n:Int)(w:World)(h0:Y_ w u ls)(h1:Y_ w u' ls)(h2:D_ w t ds)(h3:D_ w t' ds):Calls Tryz.prog 21 #[.agg #[u,t,.int .i64 n],.agg #[u',t',.int .i64 n]] w fun e w'=>e=.returned (.bool true)∧Below w.heap.size w w':=by
 obtain ⟨ua,uk,rfl,_,_⟩:=h0.shape
 obtain ⟨ya,yk,rfl,_,_⟩:=h1.shape
 obtain ⟨ta,tk,rfl,_,_⟩:=h2.shape
 obtain ⟨za,zk,rfl,_,_⟩:=h3.shape
 obtain ⟨N,hN⟩:=gN (ls.length)
 obtain ⟨M,hM⟩:=gN (ds.length)
 rw[hN]at h0 h1 ⊢
 rw[hM]at h2 h3 ⊢
 have HB1:=h_ (o_ w (.cells #[.slice ua N uk,.slice ta M tk,.int .i64 n] 35))
 obtain ⟨W,hW⟩:=gM ((w.alloc (.cells #[.slice ua N uk,.slice ta M tk,.int .i64 n] 35)).alloc (.cells #[.slice ya N yk,.slice za M zk,.int .i64 n] 35))
 have HW:=h_ hW
 have HBW:=h_ (show Below w.heap.size w W by rw[hW];exact a_ HB1.out)
 have HK0:=h_ (show Blk W w.heap.size #[.slice ua N uk,.slice ta M tk,.int .i64 n] 35 by rw[hW];exact (Blk.new w _ _ rfl).alloc _)
 have HK1:=h_ (show Blk W (w.heap.size+1) #[.slice ya N yk,.slice za M zk,.int .i64 n] 35 by
  rw[hW]
  exact Blk.new _ _ _ (by simp))
 have HL:=h_ (lys_same _ _ ls W (h0.u_ HBW.out) (h1.u_ HBW.out))
 have HG:=h_ (fun (U:World) (hb:Below W.heap.size W U)=>gds_same (.slice ta M tk) (.slice za M zk) ds U ((h2.u_ HBW.out).u_ hb) ((h3.u_ HBW.out).u_ hb))
 clear h0 h1 h2 h3 hW hN hM
 go_enter Tryz.func21,Tryz.ntmps21
 go_wp2_with fail
 rw[←HW.out]
 refine HL.out.mono ?_
 rintro e w1 ⟨rfl,hb1⟩
 have c0:=(HK0.out.u_ hb1).cell (j:=1) rfl
 have c1:=(HK1.out.u_ hb1).cell (j:=1) rfl
 have HB1:=h_ hb1
 clear hb1
 go_wp2_with fail
 refine (HG.out w1 HB1.out).mono ?_
 rintro e w2 ⟨rfl,hb2⟩
 have c2:=(HK0.out.u_ (b_ HB1.out hb2)).cell (j:=2) rfl
 have c3:=(HK1.out.u_ (b_ HB1.out hb2)).cell (j:=2) rfl
 have HB2:=h_ (b_ HBW.out (b_ HB1.out hb2))
 clear hb2
 go_wp2
 go_ret
 exact ⟨rfl,HB2.out⟩
end Go.Proofs.YtniloklglpchfakGreat
/- The law's own state and states. -/
/- States, and all batches one behind the other, as plain data. No program in sight. -/
namespace Go.Proofs.YtniloklglpchfakGreat
open Go.RowKit
structure St where
 net:List Ly
 spd:List (Mx×Mx)
 n:Int
def noSt:St:=⟨[],[],0⟩
def nextE (s:St) (b:Mx×Mx) (parts le ke:Int):Int:=oneE s.net s.spd s.n b parts le ke
def nextS (s:St) (b:Mx×Mx) (parts le ke:Int):St:=⟨oneN s.net s.spd b parts le ke,oneV s.net s.spd b parts ke,s.n+1⟩
def nextK (s:St) (b:Mx×Mx) (parts:Int):Int:=sumAt s.net (splX b parts)
def stepS (s:St) (b:Mx×Mx) (parts le ke:Int):St:=if nextE s b parts le ke=0 then nextS s b parts le ke else noSt
def stepK (s:St) (b:Mx×Mx) (parts le ke:Int):Int:=if nextE s b parts le ke=0 then nextK s b parts else 0
theorem trshape_any(va vb:Value)(a b:Mx)(w:World)(hva:M_ w va a)(hvb:M_ w vb b):Calls Tryz.prog 106 #[va,vb] w fun e w'=>e=.returned (.bool (H_ a b))∧Below w.heap.size w w':=by
 obtain ⟨s,rfl,hs⟩:=hva
 obtain ⟨t,rfl,ht⟩:=hvb
 obtain ⟨sa,sn,sk,rfl⟩:=hs.shape
 obtain ⟨ta,tn,tk,rfl⟩:=ht.shape
 unfold H_
 by_cases h1:a.rows=b.rows
 ·by_cases h2:a.cols=b.cols
  ·rw[show decide (a.rows=b.rows∧a.cols=b.cols)=true from decide_eq_true ⟨h1,h2⟩]
   have h1':(a.rows==b.rows)=true:=by simpa using h1
   have h2':(a.cols==b.cols)=true:=by simpa using h2
   clear h1 h2 hs ht
   go_enter Tryz.func106,Tryz.ntmps106
   go_wp2
   go_ret
   exact ⟨rfl,a_ (o_ _ _)⟩
  ·rw[show decide (a.rows=b.rows∧a.cols=b.cols)=false from decide_eq_false (fun h=>h2 h.2)]
   have h1':(a.rows==b.rows)=true:=by simpa using h1
   have h2':(a.cols==b.cols)=false:=by simpa using h2
   clear h1 h2 hs ht
   go_enter Tryz.func106,Tryz.ntmps106
   go_wp2
   go_ret
   exact ⟨rfl,a_ (o_ _ _)⟩
 ·rw[show decide (a.rows=b.rows∧a.cols=b.cols)=false from decide_eq_false (fun h=>h1 h.1)]
  have h1':(a.rows==b.rows)=false:=by simpa using h1
  clear h1 hs ht
  go_enter Tryz.func106,Tryz.ntmps106
  go_wp2
  go_ret
  exact ⟨rfl,a_ (o_ _ _)⟩
set_option maxHeartbeats 4000000 in
set_option maxRecDepth 100000 in
theorem trchk_any(l:Ly)(p:Mx×Mx)(sa:Option Addr)(sn sk:Nat)(ta:Option Addr)(tn tk:Nat)(pa:Option Addr)(pn pk:Nat)(qa:Option Addr)(qn qk:Nat)(w:World)(hs:I_ w (.slice sa sn sk) l.w.cells)(ht:I_ w (.slice ta tn tk) l.b.cells)(h1:I_ w (.slice pa pn pk) p.1.cells)(h2:I_ w (.slice qa qn qk) p.2.cells):
  Calls Tryz.prog 85 #[.agg #[.int .i64 l.k,.int .i64 l.w.rows,.int .i64 l.w.cols,.slice sa sn sk,.int .i64 l.b.rows,.int .i64 l.b.cols,.slice ta tn tk],.agg #[.int .i64 p.1.rows,.int .i64 p.1.cols,.slice pa pn pk,.int .i64 p.2.rows,.int .i64 p.2.cols,.slice qa qn qk]] w fun e w'=>e=.returned (errV (stt1E l p))∧Below w.heap.size w w':=by
 obtain ⟨V,hV⟩:=gM ((w.alloc (.cells #[.int .i64 l.k,.int .i64 l.w.rows,.int .i64 l.w.cols,.slice sa sn sk,.int .i64 l.b.rows,.int .i64 l.b.cols,.slice ta tn tk] 83)).alloc (.cells #[.int .i64 p.1.rows,.int .i64 p.1.cols,.slice pa pn pk,.int .i64 p.2.rows,.int .i64 p.2.cols,.slice qa qn qk] 109))
 have HV:=h_ hV
 have HWV:Hid (Below w.heap.size w V):=by rw[hV];exact h_ (a_ (o_ _ _))
 have HX0:Hid (Box V w.heap.size [.int .i64 l.k,.int .i64 l.w.rows,.int .i64 l.w.cols,.slice sa sn sk,.int .i64 l.b.rows,.int .i64 l.b.cols,.slice ta tn tk]):=by rw[hV];exact h_ ((Box.new w [.int .i64 l.k,.int .i64 l.w.rows,.int .i64 l.w.cols,.slice sa sn sk,.int .i64 l.b.rows,.int .i64 l.b.cols,.slice ta tn tk] 83 rfl).u_ (o_ _ _))
 have HX1:Hid (Box V (w.heap.size+1) [.int .i64 p.1.rows,.int .i64 p.1.cols,.slice pa pn pk,.int .i64 p.2.rows,.int .i64 p.2.cols,.slice qa qn qk]):=by rw[hV];exact h_ (Box.new _ [.int .i64 p.1.rows,.int .i64 p.1.cols,.slice pa pn pk,.int .i64 p.2.rows,.int .i64 p.2.cols,.slice qa qn qk] 109 (by simp))
 obtain ⟨E,hE⟩:=gN (stt1E l p)
 have HE:=h_ hE
 rw[hE]
 have HF0:=h_ (lcheck_any (.agg #[.int .i64 l.k,.int .i64 l.w.rows,.int .i64 l.w.cols,.slice sa sn sk,.int .i64 l.b.rows,.int .i64 l.b.cols,.slice ta tn tk]) l V ⟨_,_,rfl,hs.u_ HWV.out,ht.u_ HWV.out⟩)
 have HF1:=h_ (fun W (h:Below w.heap.size w W)=>C_ (.agg #[.int .i64 p.1.rows,.int .i64 p.1.cols,.slice pa pn pk]) p.1 W ⟨_,rfl,h1.u_ h⟩)
 have HF2:=h_ (fun W (h:Below w.heap.size w W)=>C_ (.agg #[.int .i64 p.2.rows,.int .i64 p.2.cols,.slice qa qn qk]) p.2 W ⟨_,rfl,h2.u_ h⟩)
 have HS1:=h_ (fun W (h:Below w.heap.size w W)=>trshape_any (.agg #[.int .i64 p.1.rows,.int .i64 p.1.cols,.slice pa pn pk]) (.agg #[.int .i64 l.w.rows,.int .i64 l.w.cols,.slice sa sn sk]) p.1 l.w W ⟨_,rfl,h1.u_ h⟩ ⟨_,rfl,hs.u_ h⟩)
 have HS2:=h_ (fun W (h:Below w.heap.size w W)=>trshape_any (.agg #[.int .i64 p.2.rows,.int .i64 p.2.cols,.slice qa qn qk]) (.agg #[.int .i64 l.b.rows,.int .i64 l.b.cols,.slice ta tn tk]) p.2 l.b W ⟨_,rfl,h2.u_ h⟩ ⟨_,rfl,ht.u_ h⟩)
 obtain ⟨g0,hg0⟩:=gN (l_ l)
 obtain ⟨g1,hg1⟩:=gN (q_ p.1)
 obtain ⟨g2,hg2⟩:=gN (q_ p.2)
 obtain ⟨g3,hg3⟩:=gN (H_ p.1 l.w)
 obtain ⟨g4,hg4⟩:=gN (H_ p.2 l.b)
 rw[hg0]at HF0
 rw[hg1]at HF1
 rw[hg2]at HF2
 rw[hg3]at HS1
 rw[hg4]at HS2
 have HG:=h_ (And.intro hg0 (And.intro hg1 hg2))
 have HG3:=h_ (And.intro hg3 hg4)
 obtain ⟨d0,d1,d2,d3,d4,d5,d6⟩:=HX0.out.c7
 rw[HV.out]at d0 d1 d2 d3 d4 d5 d6
 clear hV hE hs ht h1 h2 hg0 hg1 hg2 hg3 hg4
 go_enter Tryz.func85,Tryz.ntmps85
 go_wp2_with fail
 rw[←HV.out]
 refine HF0.out.mono ?_
 rintro e w1 ⟨rfl,hb1⟩
 have HB1:=h_ hb1
 have HW1:=h_ (b_ HWV.out hb1)
 clear hb1 d0 d1 d2 d3 d4 d5 d6 HF0
 by_cases c0:g0=0
 case neg=>
  obtain rfl:g0=E:=by rw[←HE.out];unfold stt1E;rw[HG.out.1];simp[c0]
  rw[n_ c0]
  have HC:=h_ c0
  clear c0
  go_wp2
  go_ret
  exact ⟨R_ (err_of rfl HC.out),HW1.out⟩
 subst c0
 rw[e_ rfl]
 obtain ⟨d0,d1,d2⟩:=(HX1.out.u_ HB1.out).c3
 go_wp2_with fail
 refine (HF1.out _ HW1.out).mono ?_
 rintro e w2 ⟨rfl,hb2⟩
 have HB2:=h_ (b_ HB1.out hb2)
 have HW2:=h_ (b_ HW1.out hb2)
 clear hb2 d0 d1 d2
 by_cases c1:g1=0
 case neg=>
  obtain rfl:g1=E:=by rw[←HE.out];unfold stt1E;rw[HG.out.1,HG.out.2.1];simp[c1]
  rw[n_ c1]
  have HC:=h_ c1
  clear c1
  go_wp2
  go_ret
  exact ⟨R_ (err_of rfl HC.out),HW2.out⟩
 subst c1
 rw[e_ rfl]
 obtain ⟨d3,d4,d5⟩:=(HX1.out.u_ HB2.out).c35
 go_wp2_with fail
 refine (HF2.out _ HW2.out).mono ?_
 rintro e w3 ⟨rfl,hb3⟩
 have HB3:=h_ (b_ HB2.out hb3)
 have HW3:=h_ (b_ HW2.out hb3)
 clear hb3 d3 d4 d5
 by_cases c2:g2=0
 case neg=>
  obtain rfl:g2=E:=by rw[←HE.out];unfold stt1E;rw[HG.out.1,HG.out.2.1,HG.out.2.2];simp[c2]
  rw[n_ c2]
  have HC:=h_ c2
  clear c2
  go_wp2
  go_ret
  exact ⟨R_ (err_of rfl HC.out),HW3.out⟩
 subst c2
 rw[e_ rfl]
 have HE3:=h_ (show (if g3=false∨g4=false then 2 else 0)=E by rw[←HE.out,←HG3.out.1,←HG3.out.2];unfold stt1E;rw[HG.out.1,HG.out.2.1,HG.out.2.2];simp)
 obtain ⟨d0,d1,d2⟩:=(HX1.out.u_ HB3.out).c3
 have f1:=(HX0.out.u_ HB3.out) 1 _ rfl
 have f2:=(HX0.out.u_ HB3.out) 2 _ rfl
 have f3:=(HX0.out.u_ HB3.out) 3 _ rfl
 go_wp2_with fail
 refine (HS1.out _ HW3.out).mono ?_
 rintro e w4 ⟨rfl,hb4⟩
 have HB4:=h_ (b_ HB3.out hb4)
 have HW4:=h_ (b_ HW3.out hb4)
 clear hb4 d0 d1 d2 f1 f2 f3
 cases g3 with
 |false=>
  obtain rfl:E=2:=by rw[←HE3.out];simp
  go_wp2
  go_ret
  exact ⟨R_ (err_of rfl (by decide)),HW4.out⟩
 |true=>
  obtain ⟨d3,d4,d5⟩:=(HX1.out.u_ HB4.out).c35
  have f4:=(HX0.out.u_ HB4.out) 4 _ rfl
  have f5:=(HX0.out.u_ HB4.out) 5 _ rfl
  have f6:=(HX0.out.u_ HB4.out) 6 _ rfl
  go_wp2_with fail
  refine (HS2.out _ HW4.out).mono ?_
  rintro e w5 ⟨rfl,hb5⟩
  have HW5:=h_ (b_ HW4.out hb5)
  clear hb5 d3 d4 d5 f4 f5 f6
  cases g4 with
  |false=>
   obtain rfl:E=2:=by rw[←HE3.out];simp
   go_wp2
   go_ret
   exact ⟨R_ (err_of rfl (by decide)),HW5.out⟩
  |true=>
   obtain rfl:E=0:=by rw[←HE3.out];simp
   go_wp2
   go_ret
   exact ⟨R_ (err_no rfl),HW5.out⟩
set_option maxHeartbeats 8000000 in
set_option maxRecDepth 100000 in
theorem trcheck_any(v v1:Value)(ls:List Ly)(ps:List (Mx×Mx))(n:Int)(w:World)(hv:Y_ w v ls)(hp:D_ w v1 ps):
  Calls Tryz.prog 54 #[.agg #[v,v1,.int .i64 n]] w fun e w'=>e=.returned (errV (stateE ls ps n))∧Below w.heap.size w w':=by
 obtain ⟨a,cap,rfl,hlc,hcm⟩:=hv.shape
 obtain ⟨a1,cap1,rfl,hlc1,hcm1⟩:=hp.shape
 have HV:=h_ hv
 have HP:=h_ hp
 obtain ⟨N,hN⟩:=gN (ls.length)
 obtain ⟨N1,hN1⟩:=gN (ps.length)
 have HN:=h_ (And.intro hN hN1)
 obtain ⟨E,hE⟩:=gN (stateE ls ps n)
 have HE1:=h_ (show (if 12<N then 3 else if N1≠N then 2 else if n<0∨1000000000<n then 1 else sttE ls ps)=E by rw[←hE,←hN,←hN1];rfl)
 rw[hE]
 rw[hN]at HV ⊢
 rw[hN1]at HP ⊢
 have hm0:N≤maxLen:=by omega
 have hm1:N1≤maxLen:=by omega
 unfold maxLen at hm0 hm1
 clear hv hp hN hN1 hE hlc hcm hlc1 hcm1
 have HBX:=h_ (o_ w (.cells #[.slice a N cap,.slice a1 N1 cap1,.int .i64 n] 35))
 have HSX:=h_ (Box.new w [.slice a N cap,.slice a1 N1 cap1,.int .i64 n] 35 rfl)
 by_cases h12:12<N
 ·obtain rfl:E=3:=by rw[←HE1.out,if_pos h12]
  have h12':(12:Int)<(N:Int):=by omega
  go_enter Tryz.func54,Tryz.ntmps54
  go_wp2
  go_ret
  exact ⟨R_ (err_of rfl (by decide)),HBX.out⟩
 have h12':¬(12:Int)<(N:Int):=by omega
 by_cases hl1:N1=N
 case neg=>
  obtain rfl:E=2:=by rw[←HE1.out,if_neg h12,if_pos hl1]
  have hn1:((N1:Int) !=(N:Int))=true:=by simp;omega
  go_enter Tryz.func54,Tryz.ntmps54
  go_wp2
  go_ret
  exact ⟨R_ (err_of rfl (by decide)),HBX.out⟩
 subst hl1
 have hnn:((N1:Int) !=(N1:Int))=false:=by simp
 by_cases r0:n<0
 ·obtain rfl:E=1:=by rw[←HE1.out,if_neg h12,if_neg (by simp),if_pos (.inl r0)]
  go_enter Tryz.func54,Tryz.ntmps54
  go_wp2
  go_ret
  exact ⟨R_ (err_of rfl (by decide)),HBX.out⟩
 by_cases r1:1000000000<n
 ·obtain rfl:E=1:=by rw[←HE1.out,if_neg h12,if_neg (by simp),if_pos (.inr r1)]
  go_enter Tryz.func54,Tryz.ntmps54
  go_wp2
  go_ret
  exact ⟨R_ (err_of rfl (by decide)),HBX.out⟩
 have HE2:=h_ (show sttE ls ps=E by rw[←HE1.out,if_neg h12,if_neg (by simp),if_neg (by omega)])
 clear h12 hm0 hm1
 go_enter Tryz.func54,Tryz.ntmps54
 go_wp2
 go_loopw [31] (fun q wr=>∃(i:Nat) (xi:Int),i≤N1∧xi=(i:Int)∧q=.int .i64 xi∧sttE (ls.drop i) (ps.drop i)=E∧Below (w.alloc (.cells #[.slice a N1 cap,.slice a1 N1 cap1,.int .i64 n] 35)).heap.size (w.alloc (.cells #[.slice a N1 cap,.slice a1 N1 cap1,.int .i64 n] 35)) wr) (fun q _=>N1 - (intOf q).toNat)
 case atStart=>exact ⟨0,0,Nat.zero_le _,rfl,rfl,HE2.out,Below.refl _ _⟩
 case round=>
  obtain ⟨i,xi,hi,hxi,rfl,he,hbv⟩:=hrel
  have HXI:=h_ hxi
  have HBV:=h_ hbv
  have HB:=h_ (b_ HBX.out hbv)
  have HER:=h_ he
  have hxi0:0≤xi:=by omega
  have hxi1:xi≤12:=by omega
  have x1:=(HSX.out.u_ HBV.out) 1 _ rfl
  clear hxi he hbv
  by_cases hlt:xi<(N1:Int)
  ·have hin:i<N1:=by have:=HXI.out;omega
   have hxn:xi.toNat=i:=by have:=HXI.out;omega
   obtain ⟨l,hl⟩:∃l,ls[i]?=some l:=⟨ls[i]'(by have:=HN.out.1;omega),List.getElem?_eq_getElem _⟩
   obtain ⟨p,hp⟩:∃p,ps[i]?=some p:=⟨ps[i]'(by have:=HN.out.2;omega),List.getElem?_eq_getElem _⟩
   obtain ⟨b,off,cp,sa,sn,sk,ta,tn,tk,ev,k0,k1,k2,k3,k4,k5,k6,hly⟩:=HV.out.at hl
   obtain ⟨b1,off1,cp1,pa,pn,pk,qa,qn,qk,ev1,y0,y1,y2,y3,y4,y5,j1,j2⟩:=HP.out.at hp
   obtain rfl:=(Value.slice.inj ev).1
   obtain rfl:=(Value.slice.inj ev1).1
   rw[←hxn]at k0 k1 k2 k3 k4 k5 k6 y0 y1 y2 y3 y4 y5
   replace k0:=c_ HB.out k0
   replace k1:=c_ HB.out k1
   replace k2:=c_ HB.out k2
   replace k3:=c_ HB.out k3
   replace k4:=c_ HB.out k4
   replace k5:=c_ HB.out k5
   replace k6:=c_ HB.out k6
   replace y0:=c_ HB.out y0
   replace y1:=c_ HB.out y1
   replace y2:=c_ HB.out y2
   replace y3:=c_ HB.out y3
   replace y4:=c_ HB.out y4
   replace y5:=c_ HB.out y5
   obtain ⟨i1,i2⟩:=Y_.ints hly
   have HD:=h_ (show sttE (ls.drop i) (ps.drop i)=if stt1E l p≠0 then stt1E l p else sttE (ls.drop (i+1)) (ps.drop (i+1)) by rw[drop_at hl,drop_at hp];rfl)
   have HX:=h_ (fun W (h:Below w.heap.size w W)=>trchk_any l p sa sn sk ta tn tk pa pn pk qa qn qk W (i1.u_ h) (i2.u_ h) (j1.u_ h) (j2.u_ h))
   have HLB:=h_ (show Box (wr.alloc (.cells #[.int .i64 l.k,.int .i64 l.w.rows,.int .i64 l.w.cols,.slice sa sn sk,.int .i64 l.b.rows,.int .i64 l.b.cols,.slice ta tn tk] 83)) wr.heap.size [.int .i64 l.k,.int .i64 l.w.rows,.int .i64 l.w.cols,.slice sa sn sk,.int .i64 l.b.rows,.int .i64 l.b.cols,.slice ta tn tk] from Box.new _ _ _ rfl)
   have HBU:=h_ (show Below w.heap.size w (wr.alloc (.cells #[.int .i64 l.k,.int .i64 l.w.rows,.int .i64 l.w.cols,.slice sa sn sk,.int .i64 l.b.rows,.int .i64 l.b.cols,.slice ta tn tk] 83)) from a_ HB.out)
   have HKY:=h_ (And.intro x1 (And.intro y0 (And.intro y1 (And.intro y2 (And.intro y3 (And.intro y4 y5))))))
   obtain ⟨c,hc⟩:=gN (stt1E l p)
   rw[hc]at HD HX
   clear ev ev1 hly i1 i2 j1 j2 hl hp hxn hc
   go_wp2
   obtain ⟨U,hU⟩:=gM ((wr.alloc (.cells #[.int .i64 l.k,.int .i64 l.w.rows,.int .i64 l.w.cols,.slice sa sn sk,.int .i64 l.b.rows,.int .i64 l.b.cols,.slice ta tn tk] 83)))
   rw[←hU]at HLB HBU ⊢
   have HRU:=h_ (show Below wr.heap.size wr U by rw[hU];exact o_ _ _)
   clear hU k0 k1 k2 k3 k4 k5 k6 x1 y0 y1 y2 y3 y4 y5
   have x1:=c_ HRU.out HKY.out.1
   have y0:=c_ HRU.out HKY.out.2.1
   have y1:=c_ HRU.out HKY.out.2.2.1
   have y2:=c_ HRU.out HKY.out.2.2.2.1
   have y3:=c_ HRU.out HKY.out.2.2.2.2.1
   have y4:=c_ HRU.out HKY.out.2.2.2.2.2.1
   have y5:=c_ HRU.out HKY.out.2.2.2.2.2.2
   obtain ⟨b0,bb1,b2,b3,b4,b5,b6⟩:=HLB.out.c7
   refine region_tail 6 (by kernel_rfl) (by kernel_rfl) ?_
   simp only[List.take_succ_cons,List.take_zero,List.drop_succ_cons,List.drop_zero]
   repeat still_step
   refine wpStill_nil ?_
   go_wp2_with fail
   refine (HX.out _ (d_ HBU.out)).mono ?_
   rintro e w2 ⟨rfl,hb2⟩
   have HB2:=h_ (show Below U.heap.size U w2 from b_ (r_ (Below.refl _ _)) hb2)
   clear hb2 HX x1 y0 y1 y2 y3 y4 y5 b0 bb1 b2 b3 b4 b5 b6
   by_cases c0:c=0
   ·subst c0
    rw[e_ rfl]
    have HE4:=h_ (show sttE (ls.drop (i+1)) (ps.drop (i+1))=E by rw[←HER.out,HD.out];simp)
    go_wp2
    go_roundw
    case rel=>exact ⟨i+1,_,by omega,by have:=HXI.out;omega,rfl,HE4.out,b_ HBV.out (b_ HRU.out HB2.out)⟩
    case measure=>have:=HXI.out;simp[intOf];omega
   ·obtain rfl:c=E:=by rw[←HER.out,HD.out,if_pos c0]
    rw[n_ c0]
    have HC0:=h_ c0
    clear c0
    go_wp2
    go_ret
    exact ⟨R_ (err_of rfl HC0.out),b_ HBU.out HB2.out⟩
  ·have hin:i=N1:=by have:=HXI.out;omega
   obtain rfl:E=0:=by
    have h:=HER.out
    rw[hin,←HN.out.1,List.drop_length]at h
    exact h.symm
   clear hin
   go_wp2
   go_ret
   exact ⟨R_ (err_no rfl),HB.out⟩
end Go.Proofs.YtniloklglpchfakGreat
