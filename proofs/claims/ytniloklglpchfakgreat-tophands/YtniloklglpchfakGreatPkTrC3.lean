/- What checkCols and checkOne of package train come to: all that a step says ahead of all work. -/
import Derived.Test.YtniloklglpchfakGreatPkTrainQ
import Derived.Test.YtniloklglpchfakGreatPkHdN
import Derived.Test.YtniloklglpchfakGreatPkBatC1
import Derived.Test.YtniloklglpchfakGreatPkLWide
import Derived.Test.YtniloklglpchfakGreatStpC
import Derived.Test.YtniloklglpchfakGreatPkLBox
namespace Go.Proofs.YtniloklglpchfakGreat
open Go.RowKit
def colE (ls:List Ly) (b:Mx×Mx):Int:=if nwE ls b.1.cols≠0 then nwE ls b.1.cols else if nwX ls b.1.cols≠b.2.cols then 2 else 0
theorem head_size{b:Mx×Mx}{parts:Int}(hb:batE b=0)(hz:szE b.1.rows parts=0):(szX b.1.rows parts)[0]?=some (headR b parts)∧0≤headR b parts∧headR b parts≤24:=by
 have hs:splE b parts=0:=by unfold splE;rw[if_neg (by simp[hb]),hz]
 obtain ⟨f1,f2,e12,_⟩:=bat_good hb
 obtain ⟨R,C,g1⟩:=o__ f1
 have hrp:¬(b.1.rows<1∨24<b.1.rows∨parts<1∨12<parts):=fun e=>by unfold szE at hz;rw[if_pos e]at hz;cases hz
 have hP:0<parts.toNat:=by omega
 have hRn:b.1.rows.toNat=R:=by have:=g1.r;omega
 have hspl:splX b parts=(List.range parts.toNat).map (partX b parts.toNat R):=by unfold splX;rw[if_pos hs,hRn]
 have hb2:=begAt_le parts.toNat 1 R
 have hbz:begAt parts.toNat R 1=0+cnt parts.toNat 0 R:=rfl
 have hcz:=cnt_nonneg parts.toNat 0 R
 have hhead:headR b parts=cnt parts.toNat 0 R:=by
  unfold headR
  rw[hspl,List.getElem?_map,List.getElem?_range hP]
  show (rowsX b.1 _ _).rows=_
  have gr:=(good_rows (f:=begAt parts.toNat R 0) (t:=begAt parts.toNat R (0+1)) g1 (Int.le_refl _) (by show 0≤begAt parts.toNat R 1;omega) (by show begAt parts.toNat R 1≤_;omega)).r
  rw[gr]
  show (((begAt parts.toNat R 1 - 0).toNat:Nat):Int)=_
  omega
 rw[hhead]
 refine ⟨?_,hcz,by have:=g1.r;omega⟩
 unfold szX
 rw[if_pos hz,tab_at hP,hRn]
theorem last_eq(h le ke:Int):(if 12<h∨le<0∨256<le∨ke<0∨256<ke then (1:Int) else 0)=if 12<h then 1 else if badR le ke=true then 1 else 0:=by
 by_cases a6:12<h
 ·rw[if_pos (.inl a6),if_pos a6]
 ·rw[if_neg a6]
  unfold badR
  by_cases a7:le<0∨256<le∨ke<0∨256<ke
  ·rw[if_pos (.inr a7),if_pos (by simp;omega)]
  ·rw[if_neg (by simp only[a6,a7,or_self,not_false_eq_true]),if_neg (by simp;omega)]
theorem oneE_eq(ls:List Ly)(ps:List (Mx×Mx))(n:Int)(b:Mx×Mx)(parts le ke:Int):
  oneE ls ps n b parts le ke=if stateE ls ps n≠0 then stateE ls ps n else if batE b≠0 then batE b else if szE b.1.rows parts≠0 then szE b.1.rows parts else if colE ls b≠0 then colE ls b else if 12<headR b parts then 1 else if badR le ke=true then 1 else 0:=by
 unfold oneE
 rw[last_eq]
 unfold splE colE
 by_cases a1:stateE ls ps n=0<;>by_cases a2:batE b=0<;>by_cases a3:szE b.1.rows parts=0<;>by_cases a4:nwE ls b.1.cols=0<;>by_cases a5:nwX ls b.1.cols=b.2.cols<;>simp[a1,a2,a3,a4,a5]
set_option maxHeartbeats 4000000 in
set_option maxRecDepth 100000 in
theorem trcols_any(v:Value)(ls:List Ly)(b:Mx×Mx)(sa:Option Addr)(sn sk:Nat)(ta:Option Addr)(tn tk:Nat)(w:World)(hv:Y_ w v ls):
  Calls Tryz.prog 55 #[v,.agg #[.int .i64 b.1.rows,.int .i64 b.1.cols,.slice sa sn sk,.int .i64 b.2.rows,.int .i64 b.2.cols,.slice ta tn tk]] w fun e w'=>e=.returned (errV (colE ls b))∧Below w.heap.size w w':=by
 obtain ⟨a,cap,rfl,_,_⟩:=hv.shape
 obtain ⟨V,hV⟩:=gM (w.alloc (.cells #[.int .i64 b.1.rows,.int .i64 b.1.cols,.slice sa sn sk,.int .i64 b.2.rows,.int .i64 b.2.cols,.slice ta tn tk] 30))
 have HV:=h_ hV
 have HWV:Hid (Below w.heap.size w V):=by rw[hV];exact h_ (o_ _ _)
 have HBX:Hid (Box V w.heap.size [.int .i64 b.1.rows,.int .i64 b.1.cols,.slice sa sn sk,.int .i64 b.2.rows,.int .i64 b.2.cols,.slice ta tn tk]):=by rw[hV];exact h_ (Box.new w _ 30 rfl)
 have HC:=h_ (netcheck_any _ ls b.1.cols V (hv.u_ HWV.out))
 obtain ⟨N,hN⟩:=gN (ls.length)
 rw[hN]at HC ⊢
 obtain ⟨E,hE⟩:=gN (colE ls b)
 obtain ⟨x,hx⟩:=gN (nwX ls b.1.cols)
 obtain ⟨k,hk⟩:=gN (nwE ls b.1.cols)
 have HE:=h_ (show (if k≠0 then k else if x≠b.2.cols then 2 else 0)=E by rw[←hE,←hx,←hk];rfl)
 rw[hx,hk]at HC
 rw[hE]
 obtain ⟨c2,hc2⟩:=gN (b.2.cols)
 rw[hc2]at HE HBX HV ⊢
 have d1:=HBX.out 1 _ rfl
 rw[HV.out]at d1
 clear hV hv hE hx hk hN hc2
 go_enter Tryz.func55,Tryz.ntmps55
 go_wp2_with fail
 rw[←HV.out]
 refine HC.out.mono ?_
 rintro e w1 ⟨rfl,hb1⟩
 have HB1:=h_ hb1
 have HW1:=h_ (b_ HWV.out hb1)
 clear hb1 d1 HC
 by_cases c0:k=0
 ·subst c0
  rw[e_ rfl]
  have d4:=(HBX.out.u_ HB1.out) 4 _ rfl
  by_cases c1:x=c2
  ·subst c1
   obtain rfl:E=0:=by rw[←HE.out];simp
   have n1:(x !=x)=false:=by simp
   go_wp2
   go_ret
   exact ⟨R_ (err_no rfl),HW1.out⟩
  ·obtain rfl:E=2:=by rw[←HE.out];simp[c1]
   have n1:(c2 !=x)=true:=by simpa using fun h=>c1 h.symm
   clear c1
   go_wp2
   go_ret
   exact ⟨R_ (err_of rfl (by decide)),HW1.out⟩
 ·obtain rfl:k=E:=by rw[←HE.out,if_pos c0]
  rw[n_ c0]
  have HC0:=h_ c0
  clear c0
  go_wp2
  go_ret
  exact ⟨R_ (err_of rfl HC0.out),HW1.out⟩
set_option maxHeartbeats 8000000 in
set_option maxRecDepth 100000 in
theorem trchkone_any(v v1:Value)(ls:List Ly)(ps:List (Mx×Mx))(n:Int)(b:Mx×Mx)(parts le ke:Int)(sa:Option Addr)(sn sk:Nat)(ta:Option Addr)(tn tk:Nat)(w:World)(hv:Y_ w v ls)(hp:D_ w v1 ps)(hs:I_ w (.slice sa sn sk) b.1.cells)(ht:I_ w (.slice ta tn tk) b.2.cells):
  Calls Tryz.prog 23 #[.agg #[v,v1,.int .i64 n],.agg #[.int .i64 b.1.rows,.int .i64 b.1.cols,.slice sa sn sk,.int .i64 b.2.rows,.int .i64 b.2.cols,.slice ta tn tk],.int .i64 parts,.agg #[.int .i64 le,.int .i64 ke]] w fun e w'=>e=.returned (errV (oneE ls ps n b parts le ke))∧Below w.heap.size w w':=by
 obtain ⟨a,cap,rfl,_,_⟩:=hv.shape
 obtain ⟨a1,cap1,rfl,_,_⟩:=hp.shape
 obtain ⟨N,hN⟩:=gN (ls.length)
 obtain ⟨N1,hN1⟩:=gN (ps.length)
 rw[hN]at hv ⊢
 rw[hN1]at hp ⊢
 obtain ⟨V,hV⟩:=gM (((w.alloc (.cells #[.slice a N cap,.slice a1 N1 cap1,.int .i64 n] 35)).alloc (.cells #[.int .i64 b.1.rows,.int .i64 b.1.cols,.slice sa sn sk,.int .i64 b.2.rows,.int .i64 b.2.cols,.slice ta tn tk] 30)).alloc (.cells #[.int .i64 le,.int .i64 ke] 33))
 have HV:=h_ hV
 have HWV:Hid (Below w.heap.size w V):=by rw[hV];exact h_ (a_ (a_ (o_ _ _)))
 have HX0:Hid (Box V w.heap.size [.slice a N cap,.slice a1 N1 cap1,.int .i64 n]):=by rw[hV];exact h_ ((Box.new w [.slice a N cap,.slice a1 N1 cap1,.int .i64 n] 35 rfl).u_ (a_ (o_ _ _)))
 have HX1:Hid (Box V (w.heap.size+1) [.int .i64 b.1.rows,.int .i64 b.1.cols,.slice sa sn sk,.int .i64 b.2.rows,.int .i64 b.2.cols,.slice ta tn tk]):=by rw[hV];exact h_ ((Box.new _ [.int .i64 b.1.rows,.int .i64 b.1.cols,.slice sa sn sk,.int .i64 b.2.rows,.int .i64 b.2.cols,.slice ta tn tk] 30 (by simp)).u_ (o_ _ _))
 have HX2:Hid (Box V (w.heap.size+1+1) [.int .i64 le,.int .i64 ke]):=by rw[hV];exact h_ (Box.new _ [.int .i64 le,.int .i64 ke] 33 (by simp))
 have HC0:=h_ (trcheck_any (.slice a N cap) (.slice a1 N1 cap1) ls ps n V (hv.u_ HWV.out) (hp.u_ HWV.out))
 have HC1:=h_ (fun W (h:Below w.heap.size w W)=>bcheck_any b sa sn sk ta tn tk W (hs.u_ h) (ht.u_ h))
 have HC3:=h_ (fun W (h:Below w.heap.size w W)=>trcols_any (.slice a N cap) ls b sa sn sk ta tn tk W (hv.u_ h))
 have HE:=h_ (oneE_eq ls ps n b parts le ke)
 obtain ⟨E,hE⟩:=gN (oneE ls ps n b parts le ke)
 obtain ⟨g0,hg0⟩:=gN (stateE ls ps n)
 obtain ⟨g1,hg1⟩:=gN (batE b)
 obtain ⟨g3,hg3⟩:=gN (colE ls b)
 have HG1:=h_ hg1
 rw[hE,hg0,hg1,hg3]at HE
 rw[hg0]at HC0
 rw[hg1]at HC1
 rw[hg3]at HC3
 rw[hE]
 obtain ⟨d0,d1,d2⟩:=HX0.out.c3
 rw[HV.out]at d0 d1 d2
 clear hV hv hp hs ht hN hN1 hE hg0 hg1 hg3
 go_enter Tryz.func23,Tryz.ntmps23
 go_wp2_with fail
 rw[←HV.out]
 refine HC0.out.mono ?_
 rintro e w1 ⟨rfl,hb1⟩
 have HB1:=h_ hb1
 have HW1:=h_ (b_ HWV.out hb1)
 clear hb1 d0 d1 d2 HC0
 by_cases c0:g0=0
 case neg=>
  obtain rfl:E=g0:=by rw[HE.out,if_pos c0]
  rw[n_ c0]
  have HC:=h_ c0
  clear c0
  go_wp2
  go_ret
  exact ⟨R_ (err_of rfl HC.out),HW1.out⟩
 subst c0
 replace HE:=h_ (show E=if g1≠0 then g1 else if szE b.1.rows parts≠0 then szE b.1.rows parts else if g3≠0 then g3 else if 12<headR b parts then 1 else if badR le ke=true then 1 else 0 by rw[HE.out,if_neg (by simp)])
 rw[e_ rfl]
 obtain ⟨d0,d1,d2,d3,d4,d5⟩:=(HX1.out.u_ HB1.out).c6
 go_wp2_with fail
 refine (HC1.out _ HW1.out).mono ?_
 rintro e w2 ⟨rfl,hb2⟩
 have HB2:=h_ (b_ HB1.out hb2)
 have HW2:=h_ (b_ HW1.out hb2)
 clear hb2 d0 d1 d2 d3 d4 d5 HC1
 by_cases c1:g1=0
 case neg=>
  obtain rfl:E=g1:=by rw[HE.out,if_pos c1]
  rw[n_ c1]
  have HC:=h_ c1
  clear c1
  go_wp2
  go_ret
  exact ⟨R_ (err_of rfl HC.out),HW2.out⟩
 subst c1
 rw[e_ rfl]
 have HS:=h_ (bsizes_any b.1.rows parts w2)
 have HHS:=h_ (fun h=>head_size HG1.out (parts:=parts) h)
 obtain ⟨g2,hg2⟩:=gN (szE b.1.rows parts)
 obtain ⟨X,hX⟩:=gN (szX b.1.rows parts)
 obtain ⟨hd,hhd⟩:=gN (headR b parts)
 replace HE:=h_ (show E=if g2≠0 then g2 else if g3≠0 then g3 else if 12<hd then 1 else if badR le ke=true then 1 else 0 by rw[HE.out,if_neg (by simp),hg2,hhd])
 rw[hg2,hX]at HS
 rw[hg2,hX,hhd]at HHS
 have d0:=(HX1.out.u_ HB2.out) 0 _ rfl
 clear hg2 hX hhd
 go_wp2_with fail
 refine HS.out.mono ?_
 rintro e w3 ⟨s,rfl,hi,hb3,_⟩
 obtain ⟨xa,xn,xk,rfl⟩:=hi.shape
 have HI:=h_ hi
 have HB3:=h_ (b_ HB2.out hb3)
 have HW3:=h_ (b_ HW2.out hb3)
 clear hi hb3 d0 HS
 by_cases c2:g2=0
 case neg=>
  obtain rfl:E=g2:=by rw[HE.out,if_pos c2]
  rw[n_ c2]
  have HC:=h_ c2
  clear c2
  go_wp2
  go_ret
  exact ⟨R_ (err_of rfl HC.out),HW3.out⟩
 subst c2
 obtain ⟨hh0,hh1,hh2⟩:=HHS.out rfl
 replace HE:=h_ (show E=if g3≠0 then g3 else if 12<hd then 1 else if badR le ke=true then 1 else 0 by rw[HE.out,if_neg (by simp)])
 rw[e_ rfl]
 have s0:=(HX0.out.u_ HB3.out) 0 _ rfl
 obtain ⟨d0,d1,d2,d3,d4,d5⟩:=(HX1.out.u_ HB3.out).c6
 have HH0:=h_ hh0
 clear hh0
 go_wp2_with fail
 refine (HC3.out _ HW3.out).mono ?_
 rintro e w4 ⟨rfl,hb4⟩
 have HB4:=h_ (b_ HB3.out hb4)
 have HW4:=h_ (b_ HW3.out hb4)
 replace HI:=h_ (HI.out.u_ hb4)
 clear hb4 s0 d0 d1 d2 d3 d4 d5 HC3
 by_cases c3:g3=0
 case neg=>
  obtain rfl:E=g3:=by rw[HE.out,if_pos c3]
  rw[n_ c3]
  have HC:=h_ c3
  clear c3
  go_wp2
  go_ret
  exact ⟨R_ (err_of rfl HC.out),HW4.out⟩
 subst c3
 replace HE:=h_ (show E=if 12<hd then 1 else if badR le ke=true then 1 else 0 by rw[HE.out,if_neg (by simp)])
 rw[e_ rfl]
 obtain ⟨xb,xo,hx1,hx2,hx3,hx4⟩:∃xb xo,xa=some ⟨xb,xo,none⟩∧xn=X.length∧0<X.length∧w4.cell? ⟨xb,xo,none⟩=some (.int .i64 hd):=by
  obtain ⟨a',cap',e1,_,_,h4⟩:=HI.out
  injection e1 with e1 e2 e3
  have hpos:0<X.length:=by
   rcases Nat.eq_zero_or_pos X.length with h|h
   ·have h0:=HH0.out;rw[List.eq_nil_of_length_eq_zero h]at h0;simp at h0
   ·exact h
  have h0:X≠[]:=fun h=>by rw[h]at hpos;simp at hpos
  obtain ⟨b',off',rfl,hc⟩:=h4.resolve_left h0
  exact ⟨b',off',e1,e2,hpos,by simpa using hc 0 hd HH0.out⟩
 subst hx1
 have hxn:0<xn:=by omega
 clear hx2 hx3
 by_cases c4:12<hd
 ·obtain rfl:E=1:=by rw[HE.out,if_pos c4]
  go_wp2
  go_ret
  exact ⟨R_ (err_of rfl (by decide)),HW4.out⟩
 ·replace HE:=h_ (show E=if badR le ke=true then 1 else 0 by rw[HE.out,if_neg c4])
  obtain ⟨r0,r1⟩:=(HX2.out.u_ HB4.out).c2
  go_wp2_with fail
  refine (rates_any le ke w4).mono ?_
  rintro e w5 ⟨rfl,hb5⟩
  rw[←HE.out]
  have HW5:=h_ (b_ HW4.out hb5)
  clear hb5 r0 r1
  go_wp2
  go_ret
  exact ⟨rfl,HW5.out⟩
def GivesB (K:Nat) (cap:Array Value) (f:Int→Int→Int) (w:World):Prop:=
 ∀(W:World) (x y:Int),Below w.heap.size w W→Calls Tryz.prog K (#[.int .i64 x,.int .i64 y]++cap) W fun e w'=>e=.returned (.int .i64 (f x y))∧Below W.heap.size W w'
theorem GivesB.u_{K:Nat}{cap:Array Value}{f:Int→Int→Int}{w w':World}(h:GivesB K cap f w)(hb:Below w.heap.size w w'):GivesB K cap f w':=fun W x y h'=>h W x y (b_ hb h')
set_option maxHeartbeats 1600000 in
set_option maxRecDepth 100000 in
theorem stpboth_any(K:Nat)(cap:Array Value)(eg:∀args w,(callFunc K args).run Tryz.prog w=.ok (.enter K args) w)(m d:Mx)(sa:Option Addr)(sn sk:Nat)(ta:Option Addr)(tn tk:Nat)(f:Int→Int→Int)(w:World)(hs:I_ w (.slice sa sn sk) m.cells)(ht:I_ w (.slice ta tn tk) d.cells)(hl:d.cells.length=m.cells.length)(hn:m.cells.length≤576)(hG:GivesB K cap f w):
  Calls Tryz.prog 81 #[.agg #[.int .i64 m.rows,.int .i64 m.cols,.slice sa sn sk],.agg #[.int .i64 d.rows,.int .i64 d.cols,.slice ta tn tk],.func (.func K) #[] cap] w fun e w'=>
   ∃a n k,e=.returned (.agg #[.int .i64 m.rows,.int .i64 m.cols,.slice a n k])∧NewInts w.heap.size w' (.slice a n k) (tab m.cells.length (fun q=>f (A_ m q) (A_ d q)))∧Below w.heap.size w w':=by
 obtain ⟨r,er⟩:=gN (m.rows)
 obtain ⟨c,ec⟩:=gN (m.cols)
 obtain ⟨N,eN⟩:=gN (m.cells.length)
 obtain ⟨g,eg'⟩:∃g:Nat→Int,(fun q=>f (A_ m q) (A_ d q))=g:=⟨_,rfl⟩
 rw[er,ec,eN,eg']
 rw[eN]at hn hl
 have HGQ:=h_ (fun q=>(congrFun eg' q:f (A_ m q) (A_ d q)=g q))
 have HG:=h_ hG
 have HN:=h_ eN
 have HL:=h_ hl
 obtain ⟨_,_,e1,h2,h3,h4⟩:=hs
 injection e1 with e11 e12 e13
 rw[eN]at e12 h2
 replace e12:=e12.symm
 subst e11 e12 e13
 have H4:=h_ h4
 obtain ⟨_,_,e2,h2',h3',h4'⟩:=ht
 injection e2 with e21 e22 e23
 rw[hl]at e22
 replace e22:=e22.symm
 subst e21 e22 e23
 have H4':=h_ h4'
 have hmk:=run_mk0 (N:Int) N rfl (by omega)
 obtain ⟨W1,hW1⟩:=gM (((w.alloc (.cells #[.int .i64 r,.int .i64 c,.slice sa N sk] 28)).alloc (.cells #[.int .i64 d.rows,.int .i64 d.cols,.slice ta N tk] 28)).alloc (.cells #[.int .i64 0,.int .i64 0,.slice none 0 0] 28))
 have HW1:=h_ hW1
 have hW1s:W1.heap.size=w.heap.size+3:=by rw[hW1];simp
 have hW1b:Below w.heap.size w W1:=by rw[hW1];exact b_ (b_ (o_ _ _) (o_ _ _)) (o_ _ _)
 have hown0:Own (W1.alloc (.cells (zeros N) 3)) (w.heap.size+3) (.slice (some ⟨W1.heap.size,0,none⟩) 0 N) 0 g:=World.ownsRow_made _ _ _ (by omega) (by unfold maxLen;omega) (zeros_size N)
 have HXA:Hid (Box W1 w.heap.size [.int .i64 r,.int .i64 c,.slice sa N sk]):=by rw[hW1];exact h_ (((Box.new w [.int .i64 r,.int .i64 c,.slice sa N sk] 28 rfl).u_ (o_ _ _)).u_ (o_ _ _))
 have HXB:Hid (Box W1 (w.heap.size+1) [.int .i64 d.rows,.int .i64 d.cols,.slice ta N tk]):=by rw[hW1];exact h_ ((Box.new _ [.int .i64 d.rows,.int .i64 d.cols,.slice ta N tk] 28 (by simp)).u_ (o_ _ _))
 have HXZ:Hid (Box W1 (w.heap.size+1+1) [.int .i64 0,.int .i64 0,.slice none 0 0]):=by rw[hW1];exact h_ (Box.new _ [.int .i64 0,.int .i64 0,.slice none 0 0] 28 (by simp))
 have HXF:Hid (Free W1 (w.heap.size+1+1)):=by rw[hW1];exact h_ (Free.new _ _ _ (by simp))
 have HO:=h_ hown0
 have HB:=h_ hW1b
 have HS:=h_ hW1s
 have a2:=HXA.out 2 _ rfl
 have p2:=p_ a2 (.cells (zeros N) 3)
 clear hW1 hown0 hW1b hG er ec eN eg' hl h2 h3 h4 h2' h3' h4'
 go_enter Tryz.func81,Tryz.ntmps81
 go_wp2_with fail
 rw[←HW1.out]
 clear HW1
 go_wp2
 have hgoal:=HO.out
 rw[hW1s]at hgoal
 have HO1:=h_ hgoal
 clear hgoal hW1s hmk p2 a2
 go_loopw [7,17] (fun v a wr=>∃(i:Nat) (xi:Int),i≤N∧xi=(i:Int)∧a=.int .i64 xi∧Own wr (w.heap.size+3) v i g∧Below (w.heap.size+3) W1 wr) (fun _ a _=>N - (intOf a).toNat)
 case atStart=>exact ⟨0,0,Nat.zero_le _,rfl,rfl,HO1.out,(Below.refl _ _).alloc (by have:=HS.out;omega) _⟩
 case round=>
  obtain ⟨i,xi,hi,hxi,rfl,hro,hbw⟩:=hrel
  have HRO:=h_ hro
  have HBW:=h_ hbw
  have HXI:=h_ hxi
  have hxi0:0≤xi:=by omega
  have hxi1:xi≤576:=by omega
  clear hro hbw hxi
  have HWR:=h_ (show Below W1.heap.size W1 wr by rw[HS.out];exact HBW.out)
  by_cases hlt:xi<(N:Int)
  ·have hin:i<N:=by have:=HXI.out;omega
   obtain ⟨x,hx⟩:∃x,m.cells[i]?=some x:=⟨m.cells[i]'(by have:=HN.out;omega),List.getElem?_eq_getElem _⟩
   obtain ⟨y,hy⟩:∃y,d.cells[i]?=some y:=⟨d.cells[i]'(by have:=HL.out;omega),List.getElem?_eq_getElem _⟩
   obtain ⟨b,off,rfl,hcl⟩:=H4.out.resolve_left (fun e=>by rw[e]at hx;simp at hx)
   obtain ⟨b',off',rfl,hcl'⟩:=H4'.out.resolve_left (fun e=>by rw[e]at hy;simp at hy)
   have cx:wr.cell? ⟨b,off+xi.toNat,none⟩=some (.int .i64 x):=by
    rw[show xi.toNat=i by have:=HXI.out;omega]
    exact c_ (b_ HB.out HWR.out) (hcl i x hx)
   have cy:wr.cell? ⟨b',off'+xi.toNat,none⟩=some (.int .i64 y):=by
    rw[show xi.toNat=i by have:=HXI.out;omega]
    exact c_ (b_ HB.out HWR.out) (hcl' i y hy)
   have q2:=(HXB.out.u_ HWR.out) 2 _ rfl
   have hcall:=HG.out wr x y (b_ HB.out HWR.out)
   have hgi:f x y=g i:=by rw[←HGQ.out i,cellAt_some hx,cellAt_some hy]
   rw[hgi]at hcall
   obtain ⟨e0,ei,hz0,hz1,hz2⟩:=info_parts infoInt
   have HE:=h_ (And.intro ei (And.intro hz0 (And.intro hz1 hz2)))
   clear ei hz0 hz1 hz2 hcl hx hcl' hy hgi
   go_wp2_with (first
    |(at_builtin;refine wpList_append_own _ rfl _ _ 26 rfl (w.heap.size+3) 3 e0 (.int .i64 0) 1 8 Tryz.underlying26 HE.out.1 HE.out.2.1 HE.out.2.2.1 HE.out.2.2.2 rfl (by decide) _ _ _ rfl ((HRO.out.u_ hb1).alloc _) ⟨w1.heap.size,0,none⟩ 1 1 [.int .i64 (g i)] rfl rfl ?c1 ?c2 ?c3 ?c4 ?c5 ?_)
    |(go_at_fn K;refine hcall.mono ?_;rintro e w1 ⟨rfl,hb1⟩))
   case c1=>
    intro k u hk
    match k,hk with
    |0,hk=>simp at hk;subst hk;simp[Addr.add]
   case c2=>intro u hu;simp at hu;subst hu;rfl
   case c3=>unfold maxLen;omega
   case c4=>omega
   case c5=>have:=HBW.out.size;have:=hb1.size;have:=HS.out;simp;omega
   intro v' w' hown' hgrow _
   have hown2:Own w' (w.heap.size+3) v' (i+1) g:=by
    show w'.ownsRow _ _ _ _ _ _
    rw[tab_succ,List.map_append]
    exact hown'
   have hbel2:Below (w.heap.size+3) W1 w':=by
    have s1:=HBW.out.size
    have s2:=HS.out
    have s3:=hb1.size
    exact ((HBW.out.trans (hb1.mono (by omega))).alloc (by omega) _).grown hgrow (by simp;omega) (fun k hk=>(World.ownsRow.lt HRO.out k hk).1)
   have HO2:=h_ hown2
   have HB2:=h_ hbel2
   clear hown' hgrow hown2 hbel2 hcall
   go_wp2
   go_roundw
   case rel=>exact ⟨i+1,_,by omega,by have:=HXI.out;omega,rfl,HO2.out,HB2.out⟩
   case measure=>have:=HXI.out;simp[intOf];omega
  ·have hiN:i=N:=by have:=HXI.out;omega
   obtain ⟨a0,a1⟩:=(HXA.out.u_ HWR.out).c2
   obtain ⟨p0,p1,p2⟩:=(HXZ.out.u_ HWR.out).c3
   obtain ⟨z0,z1,z2⟩:=(HXF.out.u_ HWR.out HXZ.out.lt).f3
   have hI:=HRO.out.isInts (by rw[hiN];unfold maxLen;omega)
   obtain ⟨ra,rn,rc,rfl⟩:=hI.shape
   have HIR:=h_ hiN
   clear hI hiN
   go_wp2
   refine bodyPost_ret (v:=.agg #[.int .i64 r,.int .i64 c,.slice ra rn rc]) (by simp[results,Tryz.results81,go_sem,p0,p1,p2]) rfl ⟨ra,rn,rc,rfl,?_,?_⟩
   ·have h:=World.ownsRow.kept (row:=some (w.heap.size+1+1)) HRO.out (w_ (w_ (w_ (World.grownBy.refl wr (some (w.heap.size+1+1))) 0 (.int .i64 r)) 1 (.int .i64 c)) 2 (.slice ra rn rc)) (by
     cases e:(Value.slice ra rn rc).ownBlock with
     |none=>exact .inl rfl
     |some k=>exact .inr (fun e'=>by have:=(World.ownsRow.lt HRO.out k e).1;have:=Option.some.inj e';omega))
    have h':=Own.newInts (f:=g) h (by rw[HIR.out];unfold maxLen;omega)
    rw[HIR.out]at h'
    obtain ⟨a,cap,h1,h2,h3,h4⟩:=h'
    exact ⟨a,cap,h1,h2,h3,h4.imp id (fun ⟨b,off,e,hb,hc⟩=>⟨b,off,e,by omega,hc⟩)⟩
   ·exact below_sets (below_sets (below_sets (b_ HB.out HWR.out) (by omega) _ _) (by omega) _ _) (by omega) _ _
theorem stpup_gives(B:Nat)(ke:Int)(w:World)(hB:w.cell? ⟨B,0,none⟩=some (.int .i64 ke)):GivesB 80 #[.pointer (some ⟨B,0,none⟩)] (fun v d=>ad (ml v ke) d) w:=by
 intro W x y hb
 have k0:=c_ hb hB
 clear hb hB
 go_enter Tryz.func80,Tryz.ntmps80
 go_wp2_with (first|(go_at_call 41;refine (mul_any _ _ _).mono ?_;rintro e w1 ⟨rfl,rfl⟩)|(go_at_call 40;refine (add_any _ _ _).mono ?_;rintro e w1 ⟨rfl,rfl⟩))
 go_ret
 exact ⟨rfl,Below.refl _ _⟩
theorem stpturn_gives(B:Nat)(le:Int)(w:World)(hB:w.cell? ⟨B,0,none⟩=some (.int .i64 le)):GivesB 82 #[.pointer (some ⟨B,0,none⟩)] (fun x v=>sb x (ml v le)) w:=by
 intro W x y hb
 have k0:=c_ hb hB
 clear hb hB
 go_enter Tryz.func82,Tryz.ntmps82
 go_wp2_with (first|(go_at_call 41;refine (mul_any _ _ _).mono ?_;rintro e w1 ⟨rfl,rfl⟩)|(go_at_call 73;refine (sub_any _ _ _).mono ?_;rintro e w1 ⟨rfl,rfl⟩))
 go_ret
 exact ⟨rfl,Below.refl _ _⟩
end Go.Proofs.YtniloklglpchfakGreat
