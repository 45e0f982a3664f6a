/- How far a matrix is off another one, as plain numbers: never below 0, 0 at itself, the other way round as far. No program in sight. -/
import Derived.Test.YtpniemnfdleiiajPkNetB
import Derived.Test.YtpniemnfdleiiajPkLBox
namespace Go.Proofs.Ytpniemnfdleiiaj
def offAt (a b:Mx) (q:Nat):Int:=sb (A_ a q) (A_ b q)
def lossS (a b:Mx):Nat→Int
 |0=>0
 |n+1=>ad (lossS a b n) (ml (offAt a b n) (offAt a b n))
def offX (a b:Mx):Mx:=if addE a b=0 then ⟨a.rows,a.cols,tab a.cells.length (offAt a b)⟩ else noMx
def lossX (a b:Mx):Int:=if addE a b=0 then ml (lossS a b a.cells.length) 128 else 0
theorem addE_a{a b:Mx}(h:q_ a≠0):addE a b=q_ a:=by
 have e:faults [a,b]=q_ a:=by unfold faults;rw[if_neg h]
 unfold addE;rw[if_pos (by rw[e];exact h),e]
theorem addE_b{a b:Mx}(ha:q_ a=0)(h:q_ b≠0):addE a b=q_ b:=by
 have e:faults [a,b]=q_ b:=by unfold faults;rw[if_pos ha,faults_one]
 unfold addE;rw[if_pos (by rw[e];exact h),e]
theorem addE_s{a b:Mx}(ha:q_ a=0)(hb:q_ b=0):addE a b=if a.rows≠b.rows∨a.cols≠b.cols then 2 else 0:=by
 have e:faults [a,b]=0:=by unfold faults;rw[if_pos ha,faults_one,hb]
 unfold addE;rw[if_neg (by simp[e])]
theorem addE_good{a b:Mx}(h:addE a b=0):∃R C,Good a R C∧Good b R C:=by
 have ha:q_ a=0:=Classical.byContradiction fun e=>e ((addE_a e).symm.trans h)
 have hb:q_ b=0:=Classical.byContradiction fun e=>e ((addE_b ha e).symm.trans h)
 obtain ⟨R,C,ga⟩:=o__ ha
 obtain ⟨R',C',gb⟩:=o__ hb
 rw[addE_s ha hb]at h
 have hs:¬(a.rows≠b.rows∨a.cols≠b.cols):=fun e=>by rw[if_pos e]at h;cases h
 have:=ga.r
 have:=gb.r
 have:=ga.c
 have:=gb.c
 exact ⟨R,C,ga,gb.same (by omega) (by omega)⟩
end Go.Proofs.Ytpniemnfdleiiaj
/- What checkBoth of package loss says: what is wrong with two matrices, the first of it. -/
namespace Go.Proofs.Ytpniemnfdleiiaj
open Go.RowKit
set_option maxHeartbeats 1600000 in
theorem both_any(va vb:Value)(ma mb:Mx)(w:World)(hva:M_ w va ma)(hvb:M_ w vb mb):Calls Try.prog 19 #[va,vb] w fun e w'=>e=.returned (errV (addE ma mb))∧Below w.heap.size w w':=by
 obtain ⟨sa,rfl,hsa⟩:=hva
 obtain ⟨sb',rfl,hsb⟩:=hvb
 obtain ⟨xa,xn,xk,rfl⟩:=hsa.shape
 obtain ⟨ya,yn,yk,rfl⟩:=hsb.shape
 obtain ⟨r,er⟩:=gN (ma.rows)
 obtain ⟨c,ec⟩:=gN (ma.cols)
 obtain ⟨r',er'⟩:=gN (mb.rows)
 obtain ⟨c',ec'⟩:=gN (mb.cols)
 have HA:=h_ (fun W (h:Below w.heap.size w W)=>C_ (.agg #[.int .i64 ma.rows,.int .i64 ma.cols,.slice xa xn xk]) ma W ⟨_,rfl,hsa.u_ h⟩)
 have HB:=h_ (fun W (h:Below w.heap.size w W)=>C_ (.agg #[.int .i64 mb.rows,.int .i64 mb.cols,.slice ya yn yk]) mb W ⟨_,rfl,hsb.u_ h⟩)
 rw[er,ec]at HA
 rw[er',ec']at HB
 have HES:=h_ (fun (h1:q_ ma=0) (h2:q_ mb=0)=>addE_s h1 h2)
 rw[er,ec,er',ec']at HES
 rw[er,ec,er',ec']
 obtain ⟨E,hE⟩:=gN (addE ma mb)
 have HE:=h_ hE
 rw[hE]at HES ⊢
 obtain ⟨V,hV⟩:=gM (((w.alloc (.cells #[.int .i64 r,.int .i64 c,.slice xa xn xk] 25)).alloc (.cells #[.int .i64 r',.int .i64 c',.slice ya yn yk] 25)))
 have HV:=h_ hV
 have HWV:Hid (Below w.heap.size w V):=by rw[hV];exact h_ (b_ (o_ _ _) (o_ _ _))
 have HXA:Hid (Box V w.heap.size [.int .i64 r,.int .i64 c,.slice xa xn xk]):=by rw[hV];exact h_ ((Box.new w [.int .i64 r,.int .i64 c,.slice xa xn xk] 25 rfl).u_ (o_ _ _))
 have HXB:Hid (Box V (w.heap.size+1) [.int .i64 r',.int .i64 c',.slice ya yn yk]):=by rw[hV];exact h_ (Box.new _ [.int .i64 r',.int .i64 c',.slice ya yn yk] 25 (by simp))
 clear hsa hsb er ec er' ec' hV hE
 obtain ⟨d0,d1,d2⟩:=HXA.out.c3
 rw[HV.out]at d0 d1 d2
 go_enter Try.func19,Try.ntmps19
 go_wp2_with fail
 rw[←HV.out]
 refine (HA.out _ HWV.out).mono ?_
 rintro e w1 ⟨rfl,hb1⟩
 have HB1:=h_ hb1
 clear hb1 d0 d1 d2 HA
 by_cases ha:q_ ma=0
 ·rw[e_ ha]
  obtain ⟨y0,y1,y2⟩:=(HXB.out.u_ HB1.out).c3
  have HFA:=h_ ha
  clear ha
  go_wp2_with fail
  refine (HB.out _ (b_ HWV.out HB1.out)).mono ?_
  rintro e w2 ⟨rfl,hb2⟩
  have HB2:=h_ (b_ HB1.out hb2)
  clear hb2 y0 y1 y2 HB
  by_cases hb:q_ mb=0
  ·rw[e_ hb]
   have hes:=HES.out HFA.out hb
   obtain ⟨d0,d1⟩:=(HXA.out.u_ HB2.out).c2
   obtain ⟨y0,y1⟩:=(HXB.out.u_ HB2.out).c2
   clear hb
   by_cases hr:r=r'
   ·by_cases hc:c=c'
    ·have hE0:E=0:=by rw[hes,if_neg (by simp[hr,hc])]
     subst hr hc hE0
     clear hes
     go_wp2
     go_ret
     exact ⟨rfl,b_ HWV.out HB2.out⟩
    ·have hE0:E=2:=by rw[hes,if_pos (.inr hc)]
     have hc1:(c !=c')=true:=by simp[hc]
     subst hr hE0
     clear hes hc
     go_wp2
     go_ret
     exact ⟨rfl,b_ HWV.out HB2.out⟩
   ·have hE0:E=2:=by rw[hes,if_pos (.inl hr)]
    have hr1:(r !=r')=true:=by simp[hr]
    subst hE0
    clear hes hr
    go_wp2
    go_ret
    exact ⟨rfl,b_ HWV.out HB2.out⟩
  ·have hE0:q_ mb=E:=by rw[←HE.out,addE_b HFA.out hb]
   rw[n_ hb]
   have HN:=h_ (err_of hE0 hb)
   clear hb hE0
   go_wp2
   go_ret
   exact ⟨R_ HN.out,b_ HWV.out HB2.out⟩
 ·have hE0:q_ ma=E:=by rw[←HE.out,addE_a ha]
  rw[n_ ha]
  have HN:=h_ (err_of hE0 ha)
  clear ha hE0
  go_wp2
  go_ret
  exact ⟨R_ HN.out,b_ HWV.out HB1.out⟩
end Go.Proofs.Ytpniemnfdleiiaj
