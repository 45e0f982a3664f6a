/- What named and the small methods of the kinds of package layer come to: which kind it is, whether W and B fit, how many columns are taken and given. -/
import Derived.Test.YtniloklglpchfafPkLEach
namespace Go.Proofs.Ytniloklglpchfaf
open Go.RowKit
def shapeB (r c a b:Int):Bool:=decide (r=a∧c=b)
theorem shapeB_yes{r c a b:Int}(h:r=a∧c=b):shapeB r c a b=true:=decide_eq_true h
theorem shapeB_no{r c a b:Int}(h:¬(r=a∧c=b)):shapeB r c a b=false:=decide_eq_false h
set_option maxHeartbeats 400000 in
theorem shape_any(v:Value)(m:Mx)(a b:Int)(w:World)(hv:M_ w v m):Calls Try.prog 80 #[v,.int .i64 a,.int .i64 b] w fun e w'=>e=.returned (.bool (shapeB m.rows m.cols a b))∧Below w.heap.size w w':=by
 obtain ⟨s,rfl,hs⟩:=hv
 obtain ⟨r,er⟩:=gN (m.rows)
 obtain ⟨c,ec⟩:=gN (m.cols)
 rw[er,ec]
 clear er ec hs
 by_cases h1:r=a
 ·have g1:(r==a)=true:=by simp[h1]
  by_cases h2:c=b
  ·have g2:(c==b)=true:=by simp[h2]
   have HE:=h_ (shapeB_yes (r:=r) (c:=c) (a:=a) (b:=b) ⟨h1,h2⟩).symm
   clear h1 h2
   go_enter Try.func80,Try.ntmps80
   go_wp2
   go_ret
   exact ⟨ret_bool HE.out,o_ _ _⟩
  ·have g2:(c==b)=false:=by simp[h2]
   have HE:=h_ (shapeB_no (r:=r) (c:=c) (a:=a) (b:=b) (fun h=>h2 h.2)).symm
   clear h1 h2
   go_enter Try.func80,Try.ntmps80
   go_wp2
   go_ret
   exact ⟨ret_bool HE.out,o_ _ _⟩
 ·have g1:(r==a)=false:=by simp[h1]
  have HE:=h_ (shapeB_no (r:=r) (c:=c) (a:=a) (b:=b) (fun h=>h1 h.1)).symm
  clear h1
  go_enter Try.func80,Try.ntmps80
  go_wp2
  go_ret
  exact ⟨ret_bool HE.out,o_ _ _⟩
set_option maxHeartbeats 400000 in
theorem named_linear(wr wc br bc:Int)(xa:Option Addr)(xn xk:Nat)(ya:Option Addr)(yn yk:Nat)(w:World):Calls Try.prog 69 #[.agg #[.int .i64 1,.int .i64 wr,.int .i64 wc,.slice xa xn xk,.int .i64 br,.int .i64 bc,.slice ya yn yk]] w fun e w'=>e=.returned (.iface 136 (.agg #[.int .i64 wr,.int .i64 wc,.slice xa xn xk,.int .i64 br,.int .i64 bc,.slice ya yn yk]))∧Below w.heap.size w w':=by
 go_enter Try.func69,Try.ntmps69
 go_wp2
 go_ret
 exact ⟨rfl,o_ _ _⟩
set_option maxHeartbeats 400000 in
theorem named_relu(wr wc br bc:Int)(xa:Option Addr)(xn xk:Nat)(ya:Option Addr)(yn yk:Nat)(w:World):Calls Try.prog 69 #[.agg #[.int .i64 2,.int .i64 wr,.int .i64 wc,.slice xa xn xk,.int .i64 br,.int .i64 bc,.slice ya yn yk]] w fun e w'=>e=.returned (.iface 139 (.agg #[.int .i64 wr,.int .i64 wc,.slice xa xn xk,.int .i64 br,.int .i64 bc,.slice ya yn yk]))∧Below w.heap.size w w':=by
 go_enter Try.func69,Try.ntmps69
 go_wp2
 go_ret
 exact ⟨rfl,o_ _ _⟩
set_option maxHeartbeats 400000 in
theorem named_scale(wr wc br bc:Int)(xa:Option Addr)(xn xk:Nat)(ya:Option Addr)(yn yk:Nat)(w:World):Calls Try.prog 69 #[.agg #[.int .i64 3,.int .i64 wr,.int .i64 wc,.slice xa xn xk,.int .i64 br,.int .i64 bc,.slice ya yn yk]] w fun e w'=>e=.returned (.iface 140 (.agg #[.int .i64 wr,.int .i64 wc,.slice xa xn xk,.int .i64 br,.int .i64 bc,.slice ya yn yk]))∧Below w.heap.size w w':=by
 go_enter Try.func69,Try.ntmps69
 go_wp2
 go_ret
 exact ⟨rfl,o_ _ _⟩
set_option maxHeartbeats 400000 in
theorem named_shift(wr wc br bc:Int)(xa:Option Addr)(xn xk:Nat)(ya:Option Addr)(yn yk:Nat)(w:World):Calls Try.prog 69 #[.agg #[.int .i64 4,.int .i64 wr,.int .i64 wc,.slice xa xn xk,.int .i64 br,.int .i64 bc,.slice ya yn yk]] w fun e w'=>e=.returned (.iface 141 (.agg #[.int .i64 wr,.int .i64 wc,.slice xa xn xk,.int .i64 br,.int .i64 bc,.slice ya yn yk]))∧Below w.heap.size w w':=by
 go_enter Try.func69,Try.ntmps69
 go_wp2
 go_ret
 exact ⟨rfl,o_ _ _⟩
set_option maxHeartbeats 400000 in
theorem named_none(k:Int)(wr wc br bc:Int)(xa:Option Addr)(xn xk:Nat)(ya:Option Addr)(yn yk:Nat)(w:World)(h:k<1∨4<k):Calls Try.prog 69 #[.agg #[.int .i64 k,.int .i64 wr,.int .i64 wc,.slice xa xn xk,.int .i64 br,.int .i64 bc,.slice ya yn yk]] w fun e w'=>e=.returned .nilIface∧Below w.heap.size w w':=by
 have g1:(k==1)=false:=by simp;omega
 have g2:(k==2)=false:=by simp;omega
 have g3:(k==3)=false:=by simp;omega
 have g4:(k==4)=false:=by simp;omega
 clear h
 go_enter Try.func69,Try.ntmps69
 go_wp2
 go_ret
 exact ⟨rfl,o_ _ _⟩
def fits1 (a b:Mx):Bool:=decide (1≤a.rows∧a.rows≤12∧1≤a.cols∧b.rows=1∧b.cols=a.cols)
def fits2 (a b:Mx):Bool:=decide (a.rows=0∧a.cols=0∧b.rows=0∧b.cols=0)
def fits3 (a b:Mx):Bool:=decide (a.rows=1∧a.cols=1∧b.rows=0∧b.cols=0)
def fits4 (a b:Mx):Bool:=decide (a.rows=0∧a.cols=0∧b.rows=1∧1≤b.cols)
theorem fitsL_1{l:Ly}(h:l.k=1):fitsL l=fits1 l.w l.b:=by unfold fitsL fits1;rw[if_pos h]
theorem fitsL_2{l:Ly}(h:l.k=2):fitsL l=fits2 l.w l.b:=by unfold fitsL fits2;rw[if_neg (by omega),if_pos h]
theorem fitsL_3{l:Ly}(h:l.k=3):fitsL l=fits3 l.w l.b:=by unfold fitsL fits3;rw[if_neg (by omega),if_neg (by omega),if_pos h]
theorem fitsL_4{l:Ly}(h:l.k=4):fitsL l=fits4 l.w l.b:=by unfold fitsL fits4;rw[if_neg (by omega),if_neg (by omega),if_neg (by omega)]
set_option maxHeartbeats 800000 in
theorem fits_linear(v:Value)(a b:Mx)(w:World)(hv:IsTwo w v a b):Calls Try.prog 99 #[v] w fun e w'=>e=.returned (.bool (fits1 a b))∧Below w.heap.size w w':=by
 obtain ⟨s,t,rfl,hs,ht⟩:=hv
 obtain ⟨xa,xn,xk,rfl⟩:=hs.shape
 obtain ⟨ya,yn,yk,rfl⟩:=ht.shape
 obtain ⟨wr,e1⟩:=gN (a.rows)
 obtain ⟨wc,e2⟩:=gN (a.cols)
 obtain ⟨br,e3⟩:=gN (b.rows)
 obtain ⟨bc,e4⟩:=gN (b.cols)
 have hF:fits1 a b=decide (1≤wr∧wr≤12∧1≤wc∧br=1∧bc=wc):=by unfold fits1;rw[e1,e2,e3,e4]
 obtain ⟨F,hF'⟩:=gN (fits1 a b)
 rw[hF']at hF ⊢
 have HC:=h_ (fun W (h:Below w.heap.size w W)=>shape_any _ b 1 wc W ⟨_,rfl,ht.u_ h⟩)
 rw[e3,e4]at HC
 rw[e1,e2,e3,e4]
 clear hs ht e1 e2 e3 e4 hF'
 by_cases h1:1≤wr
 ·by_cases h2:wr≤12
  ·by_cases h3:1≤wc
   ·have HE:=h_ (show shapeB br bc 1 wc=F by rw[hF];unfold shapeB;rw[decide_eq_decide];exact ⟨fun h=>⟨h1,h2,h3,h⟩,fun h=>h.2.2.2⟩)
    clear hF
    go_enter Try.func99,Try.ntmps99
    go_wp2_with fail
    refine (HC.out _ (o_ _ _)).mono ?_
    rintro e w1 ⟨rfl,hb1⟩
    go_wp2
    go_ret
    exact ⟨ret_bool HE.out,below_box (Below.refl _ _) hb1⟩
   ·have HE:=h_ (show false=F by rw[hF,eq_comm,decide_eq_false_iff_not];exact fun h=>h3 h.2.2.1)
    clear hF
    go_enter Try.func99,Try.ntmps99
    go_wp2
    go_ret
    exact ⟨ret_bool HE.out,o_ _ _⟩
  ·have HE:=h_ (show false=F by rw[hF,eq_comm,decide_eq_false_iff_not];exact fun h=>h2 h.2.1)
   clear hF
   go_enter Try.func99,Try.ntmps99
   go_wp2
   go_ret
   exact ⟨ret_bool HE.out,o_ _ _⟩
 ·have HE:=h_ (show false=F by rw[hF,eq_comm,decide_eq_false_iff_not];exact fun h=>h1 h.1)
  clear hF
  go_enter Try.func99,Try.ntmps99
  go_wp2
  go_ret
  exact ⟨ret_bool HE.out,o_ _ _⟩
set_option maxHeartbeats 800000 in
theorem fits_relu(v:Value)(a b:Mx)(w:World)(hv:IsTwo w v a b):Calls Try.prog 117 #[v] w fun e w'=>e=.returned (.bool (fits2 a b))∧Below w.heap.size w w':=by
 obtain ⟨s,t,rfl,hs,ht⟩:=hv
 obtain ⟨xa,xn,xk,rfl⟩:=hs.shape
 obtain ⟨ya,yn,yk,rfl⟩:=ht.shape
 obtain ⟨wr,e1⟩:=gN (a.rows)
 obtain ⟨wc,e2⟩:=gN (a.cols)
 obtain ⟨br,e3⟩:=gN (b.rows)
 obtain ⟨bc,e4⟩:=gN (b.cols)
 have hF:fits2 a b=decide (wr=0∧wc=0∧br=0∧bc=0):=by unfold fits2;rw[e1,e2,e3,e4]
 obtain ⟨F,hF'⟩:=gN (fits2 a b)
 rw[hF']at hF ⊢
 have HC:=h_ (fun W (h:Below w.heap.size w W)=>shape_any _ a 0 0 W ⟨_,rfl,hs.u_ h⟩)
 have HD:=h_ (fun W (h:Below w.heap.size w W)=>shape_any _ b 0 0 W ⟨_,rfl,ht.u_ h⟩)
 rw[e1,e2]at HC
 rw[e3,e4]at HD
 rw[e1,e2,e3,e4]
 clear hs ht e1 e2 e3 e4 hF'
 have HB:=h_ (Box.new w [.int .i64 wr,.int .i64 wc,.slice xa xn xk,.int .i64 br,.int .i64 bc,.slice ya yn yk] 139 rfl)
 by_cases h1:wr=0∧wc=0
 ·have HE:=h_ (show shapeB br bc 0 0=F by rw[hF];unfold shapeB;rw[decide_eq_decide];exact ⟨fun h=>⟨h1.1,h1.2,h⟩,fun h=>h.2.2⟩)
  rw[shapeB_yes h1]at HC
  clear h1 hF
  go_enter Try.func117,Try.ntmps117
  go_wp2_with fail
  refine (HC.out _ (o_ _ _)).mono ?_
  rintro e w1 ⟨rfl,hb1⟩
  have H1:=h_ (HB.out.u_ hb1)
  obtain ⟨d3,d4,d5⟩:=H1.out.c35
  have W1:=h_ (below_box (Below.refl _ _) hb1)
  clear hb1
  go_wp2_with fail
  refine (HD.out _ W1.out).mono ?_
  rintro e w2 ⟨rfl,hb2⟩
  go_wp2
  go_ret
  exact ⟨ret_bool HE.out,b_ W1.out hb2⟩
 ·have HE:=h_ (show false=F by rw[hF,eq_comm,decide_eq_false_iff_not];exact fun h=>h1 ⟨h.1,h.2.1⟩)
  rw[shapeB_no h1]at HC
  clear h1 hF
  go_enter Try.func117,Try.ntmps117
  go_wp2_with fail
  refine (HC.out _ (o_ _ _)).mono ?_
  rintro e w1 ⟨rfl,hb1⟩
  go_wp2
  go_ret
  exact ⟨ret_bool HE.out,below_box (Below.refl _ _) hb1⟩
set_option maxHeartbeats 800000 in
theorem fits_scale(v:Value)(a b:Mx)(w:World)(hv:IsTwo w v a b):Calls Try.prog 122 #[v] w fun e w'=>e=.returned (.bool (fits3 a b))∧Below w.heap.size w w':=by
 obtain ⟨s,t,rfl,hs,ht⟩:=hv
 obtain ⟨xa,xn,xk,rfl⟩:=hs.shape
 obtain ⟨ya,yn,yk,rfl⟩:=ht.shape
 obtain ⟨wr,e1⟩:=gN (a.rows)
 obtain ⟨wc,e2⟩:=gN (a.cols)
 obtain ⟨br,e3⟩:=gN (b.rows)
 obtain ⟨bc,e4⟩:=gN (b.cols)
 have hF:fits3 a b=decide (wr=1∧wc=1∧br=0∧bc=0):=by unfold fits3;rw[e1,e2,e3,e4]
 obtain ⟨F,hF'⟩:=gN (fits3 a b)
 rw[hF']at hF ⊢
 have HC:=h_ (fun W (h:Below w.heap.size w W)=>shape_any _ a 1 1 W ⟨_,rfl,hs.u_ h⟩)
 have HD:=h_ (fun W (h:Below w.heap.size w W)=>shape_any _ b 0 0 W ⟨_,rfl,ht.u_ h⟩)
 rw[e1,e2]at HC
 rw[e3,e4]at HD
 rw[e1,e2,e3,e4]
 clear hs ht e1 e2 e3 e4 hF'
 have HB:=h_ (Box.new w [.int .i64 wr,.int .i64 wc,.slice xa xn xk,.int .i64 br,.int .i64 bc,.slice ya yn yk] 140 rfl)
 by_cases h1:wr=1∧wc=1
 ·have HE:=h_ (show shapeB br bc 0 0=F by rw[hF];unfold shapeB;rw[decide_eq_decide];exact ⟨fun h=>⟨h1.1,h1.2,h⟩,fun h=>h.2.2⟩)
  rw[shapeB_yes h1]at HC
  clear h1 hF
  go_enter Try.func122,Try.ntmps122
  go_wp2_with fail
  refine (HC.out _ (o_ _ _)).mono ?_
  rintro e w1 ⟨rfl,hb1⟩
  have H1:=h_ (HB.out.u_ hb1)
  obtain ⟨d3,d4,d5⟩:=H1.out.c35
  have W1:=h_ (below_box (Below.refl _ _) hb1)
  clear hb1
  go_wp2_with fail
  refine (HD.out _ W1.out).mono ?_
  rintro e w2 ⟨rfl,hb2⟩
  go_wp2
  go_ret
  exact ⟨ret_bool HE.out,b_ W1.out hb2⟩
 ·have HE:=h_ (show false=F by rw[hF,eq_comm,decide_eq_false_iff_not];exact fun h=>h1 ⟨h.1,h.2.1⟩)
  rw[shapeB_no h1]at HC
  clear h1 hF
  go_enter Try.func122,Try.ntmps122
  go_wp2_with fail
  refine (HC.out _ (o_ _ _)).mono ?_
  rintro e w1 ⟨rfl,hb1⟩
  go_wp2
  go_ret
  exact ⟨ret_bool HE.out,below_box (Below.refl _ _) hb1⟩
set_option maxHeartbeats 800000 in
theorem fits_shift(v:Value)(a b:Mx)(w:World)(hv:IsTwo w v a b):Calls Try.prog 127 #[v] w fun e w'=>e=.returned (.bool (fits4 a b))∧Below w.heap.size w w':=by
 obtain ⟨s,t,rfl,hs,ht⟩:=hv
 obtain ⟨xa,xn,xk,rfl⟩:=hs.shape
 obtain ⟨ya,yn,yk,rfl⟩:=ht.shape
 obtain ⟨wr,e1⟩:=gN (a.rows)
 obtain ⟨wc,e2⟩:=gN (a.cols)
 obtain ⟨br,e3⟩:=gN (b.rows)
 obtain ⟨bc,e4⟩:=gN (b.cols)
 have hF:fits4 a b=decide (wr=0∧wc=0∧br=1∧1≤bc):=by unfold fits4;rw[e1,e2,e3,e4]
 obtain ⟨F,hF'⟩:=gN (fits4 a b)
 rw[hF']at hF ⊢
 have HC:=h_ (fun W (h:Below w.heap.size w W)=>shape_any _ a 0 0 W ⟨_,rfl,hs.u_ h⟩)
 rw[e1,e2]at HC
 rw[e1,e2,e3,e4]
 clear hs ht e1 e2 e3 e4 hF'
 have HB:=h_ (Box.new w [.int .i64 wr,.int .i64 wc,.slice xa xn xk,.int .i64 br,.int .i64 bc,.slice ya yn yk] 141 rfl)
 by_cases h1:wr=0∧wc=0
 ·rw[shapeB_yes h1]at HC
  by_cases h2:br=1
  ·have g2:(br==1)=true:=by simp[h2]
   have HE:Hid (∀x:Bool,x=decide (1≤bc)→x=F):=h_ (fun x hx=>by rw[hx,hF,decide_eq_decide];exact ⟨fun h=>⟨h1.1,h1.2,h2,h⟩,fun h=>h.2.2.2⟩)
   clear h1 h2 hF
   by_cases h3:1≤bc
   ·go_enter Try.func127,Try.ntmps127
    go_wp2_with fail
    refine (HC.out _ (o_ _ _)).mono ?_
    rintro e w1 ⟨rfl,hb1⟩
    have H1:=h_ (HB.out.u_ hb1)
    have d3:=H1.out 3 _ rfl
    have d4:=H1.out 4 _ rfl
    have W1:=h_ (below_box (Below.refl _ _) hb1)
    clear hb1
    go_wp2
    go_ret
    exact ⟨ret_bool (HE.out _ (by simp[h3])),W1.out⟩
   ·go_enter Try.func127,Try.ntmps127
    go_wp2_with fail
    refine (HC.out _ (o_ _ _)).mono ?_
    rintro e w1 ⟨rfl,hb1⟩
    have H1:=h_ (HB.out.u_ hb1)
    have d3:=H1.out 3 _ rfl
    have d4:=H1.out 4 _ rfl
    have W1:=h_ (below_box (Below.refl _ _) hb1)
    clear hb1
    go_wp2
    go_ret
    exact ⟨ret_bool (HE.out _ (by simp)),W1.out⟩
  ·have g2:(br==1)=false:=by simp[h2]
   have HE:=h_ (show false=F by rw[hF,eq_comm,decide_eq_false_iff_not];exact fun h=>h2 h.2.2.1)
   clear h1 h2 hF
   go_enter Try.func127,Try.ntmps127
   go_wp2_with fail
   refine (HC.out _ (o_ _ _)).mono ?_
   rintro e w1 ⟨rfl,hb1⟩
   have H1:=h_ (HB.out.u_ hb1)
   have d3:=H1.out 3 _ rfl
   have W1:=h_ (below_box (Below.refl _ _) hb1)
   clear hb1
   go_wp2
   go_ret
   exact ⟨ret_bool HE.out,W1.out⟩
 ·have HE:=h_ (show false=F by rw[hF,eq_comm,decide_eq_false_iff_not];exact fun h=>h1 ⟨h.1,h.2.1⟩)
  rw[shapeB_no h1]at HC
  clear h1 hF
  go_enter Try.func127,Try.ntmps127
  go_wp2_with fail
  refine (HC.out _ (o_ _ _)).mono ?_
  rintro e w1 ⟨rfl,hb1⟩
  go_wp2
  go_ret
  exact ⟨ret_bool HE.out,below_box (Below.refl _ _) hb1⟩
set_option maxHeartbeats 400000 in
theorem takes_linear_any(n:Int)(wr wc br bc:Int)(xa:Option Addr)(xn xk:Nat)(ya:Option Addr)(yn yk:Nat)(w:World):Calls Try.prog 102 #[.agg #[.int .i64 wr,.int .i64 wc,.slice xa xn xk,.int .i64 br,.int .i64 bc,.slice ya yn yk],.int .i64 n] w fun e w'=>e=.returned (.bool (n==wr))∧Below w.heap.size w w':=by
 go_enter Try.func102,Try.ntmps102
 go_wp2
 go_ret
 exact ⟨rfl,o_ _ _⟩
set_option maxHeartbeats 400000 in
theorem gives_linear_any(n:Int)(wr wc br bc:Int)(xa:Option Addr)(xn xk:Nat)(ya:Option Addr)(yn yk:Nat)(w:World):Calls Try.prog 101 #[.agg #[.int .i64 wr,.int .i64 wc,.slice xa xn xk,.int .i64 br,.int .i64 bc,.slice ya yn yk],.int .i64 n] w fun e w'=>e=.returned (.int .i64 wc)∧Below w.heap.size w w':=by
 go_enter Try.func101,Try.ntmps101
 go_wp2
 go_ret
 exact ⟨rfl,o_ _ _⟩
set_option maxHeartbeats 400000 in
theorem takes_keeper_any(n:Int)(wr wc br bc:Int)(xa:Option Addr)(xn xk:Nat)(ya:Option Addr)(yn yk:Nat)(w:World):Calls Try.prog 115 #[.agg #[.int .i64 wr,.int .i64 wc,.slice xa xn xk,.int .i64 br,.int .i64 bc,.slice ya yn yk],.int .i64 n] w fun e w'=>e=.returned (.bool true)∧Below w.heap.size w w':=by
 go_enter Try.func115,Try.ntmps115
 go_wp2
 go_ret
 exact ⟨rfl,o_ _ _⟩
set_option maxHeartbeats 400000 in
theorem gives_keeper_any(n:Int)(wr wc br bc:Int)(xa:Option Addr)(xn xk:Nat)(ya:Option Addr)(yn yk:Nat)(w:World):Calls Try.prog 114 #[.agg #[.int .i64 wr,.int .i64 wc,.slice xa xn xk,.int .i64 br,.int .i64 bc,.slice ya yn yk],.int .i64 n] w fun e w'=>e=.returned (.int .i64 n)∧Below w.heap.size w w':=by
 go_enter Try.func114,Try.ntmps114
 go_wp2
 go_ret
 exact ⟨rfl,o_ _ _⟩
set_option maxHeartbeats 400000 in
theorem takes_shift_any(n:Int)(wr wc br bc:Int)(xa:Option Addr)(xn xk:Nat)(ya:Option Addr)(yn yk:Nat)(w:World):Calls Try.prog 129 #[.agg #[.int .i64 wr,.int .i64 wc,.slice xa xn xk,.int .i64 br,.int .i64 bc,.slice ya yn yk],.int .i64 n] w fun e w'=>e=.returned (.bool (n==bc))∧Below w.heap.size w w':=by
 go_enter Try.func129,Try.ntmps129
 go_wp2
 go_ret
 exact ⟨rfl,o_ _ _⟩
end Go.Proofs.Ytniloklglpchfaf
