/- What the closures of package layer come to, and what addToRows does: to each row a row is added. -/
import Derived.Test.YtpniemnfdleiiajLEach
namespace Go.Proofs.Ytpniemnfdleiiaj
open Go.RowKit
set_option maxHeartbeats 400000 in
theorem addrow_gives(B:Nat)(b:Mx)(C:Nat)(zs:List Int)(w:World)(hB:BoxMx w B b)(hc:b.cols=(C:Int))(hC:0<C)(hC24:C≤24)(hl:b.cells.length=C)(hz:zs.length≤576):
  GivesE 75 #[.pointer (some ⟨B,0,none⟩)] zs (fun i=>ad ((zs[i]?).getD 0) (A_ b (i % C))) w:=by
 intro W i xi x hxi hx hb
 obtain ⟨s,d0,d1,d2,hs⟩:=hB.u_ hb
 obtain ⟨c,ec⟩:=gN (b.cols)
 rw[ec]at d1 hc
 have hi:i<zs.length:=by
  rcases Nat.lt_or_ge i zs.length with h|h
  ·exact h
  ·rw[List.getElem?_eq_none h]at hx;cases hx
 have hm:=Nat.mod_lt i hC
 obtain ⟨y,hy⟩:∃y:Int,xi % c=y:=⟨_,rfl⟩
 have hyi:y=((i % C:Nat):Int):=by rw[←hy,hxi,hc];simp
 obtain ⟨z,hz'⟩:=gN (A_ b (i % C))
 have hzc:b.cells[i % C]?=some z:=by rw[←hz'];unfold A_;rw[List.getElem?_eq_getElem (by omega)];rfl
 obtain ⟨aa,cap,rfl,h2,h3,h4⟩:=hs
 obtain ⟨bb,off,rfl,hcl⟩:=h4.resolve_left (fun e=>by rw[e]at hl;simp at hl;omega)
 have cz:W.cell? ⟨bb,off+y.toNat,none⟩=some (.int .i64 z):=by
  rw[show y.toNat=i % C by omega];exact hcl _ _ hzc
 rw[hl]at d2
 have hy0:0≤y:=by omega
 have hyl:y<(C:Int):=by omega
 have hxi0:0≤xi:=by omega
 have hxi1:xi≤576:=by omega
 have hcp:0<c:=by omega
 have hc24:c≤24:=by omega
 have HE:=h_ (show ad x z=ad ((zs[i]?).getD 0) (A_ b (i % C)) by rw[hx,hz'];rfl)
 clear hcl h4 hzc hz' hyi hb hB hl hxi hx hc ec hm hi h2 h3
 go_enter Try.func75,Try.ntmps75
 go_wp2_with fail
 go_quiet ((go_at_call 35;refine Calls.quiet_of_same (add_any _ _ _)))
 go_wp2
 go_ret
 exact ⟨i_ HE.out,below_drewN _ _⟩
set_option maxHeartbeats 400000 in
theorem relu_gives(zs:List Int)(w:World):GivesE 84 #[] zs (fun i=>max ((zs[i]?).getD 0) 0) w:=by
 intro W i xi x hxi hx hb
 have HE:=h_ (show (zs[i]?).getD 0=x by rw[hx];rfl)
 clear hx hxi hb
 simp only[HE.out]
 go_enter Try.func84,Try.ntmps84
 go_wp2
 all_goals
  go_ret
  exact ⟨i_ (by omega),Below.refl _ _⟩
set_option maxHeartbeats 400000 in
theorem reluB_gives(B:Nat)(x:Mx)(zs:List Int)(w:World)(hB:BoxMx w B x)(hl:x.cells.length=zs.length)(hz:zs.length≤576):
  GivesE 83 #[.pointer (some ⟨B,0,none⟩)] zs (fun i=>if 0<A_ x i then (zs[i]?).getD 0 else 0) w:=by
 intro W i xi c hxi hx hb
 obtain ⟨s,d0,d1,d2,hs⟩:=hB.u_ hb
 have hi:i<zs.length:=by
  rcases Nat.lt_or_ge i zs.length with h|h
  ·exact h
  ·rw[List.getElem?_eq_none h]at hx;cases hx
 obtain ⟨z,hz'⟩:=gN (A_ x i)
 have hzc:x.cells[i]?=some z:=by rw[←hz'];unfold A_;rw[List.getElem?_eq_getElem (by omega)];rfl
 obtain ⟨aa,cap,rfl,h2,h3,h4⟩:=hs
 obtain ⟨bb,off,rfl,hcl⟩:=h4.resolve_left (fun e=>by rw[e]at hzc;simp at hzc)
 have cz:W.cell? ⟨bb,off+xi.toNat,none⟩=some (.int .i64 z):=by
  rw[show xi.toNat=i by omega];exact hcl _ _ hzc
 obtain ⟨n,hn⟩:=gN (x.cells.length)
 rw[hn]at d2
 have hxi0:0≤xi:=by omega
 have hxi1:xi≤576:=by omega
 have hxl:xi<(n:Int):=by omega
 have HE:=h_ (show (zs[i]?).getD 0=c by rw[hx];rfl)
 simp only[HE.out,hz']
 clear hcl h4 hzc hz' hb hB hl hxi hx hi h2 h3 hn
 by_cases hz0:0<z
 ·rw[if_pos hz0]
  go_enter Try.func83,Try.ntmps83
  go_wp2
  go_ret
  exact ⟨rfl,Below.refl _ _⟩
 ·rw[if_neg hz0]
  go_enter Try.func83,Try.ntmps83
  go_wp2
  go_ret
  exact ⟨rfl,Below.refl _ _⟩
set_option maxHeartbeats 400000 in
theorem copy_gives(zs:List Int)(w:World):GivesE 94 #[] zs (fun i=>(zs[i]?).getD 0) w:=by
 intro W i xi x hxi hx hb
 have HE:=h_ (show (zs[i]?).getD 0=x by rw[hx];rfl)
 clear hx hxi hb
 simp only[HE.out]
 go_enter Try.func94,Try.ntmps94
 go_wp2
 go_ret
 exact ⟨rfl,Below.refl _ _⟩
def MxNew (w:World) (m:Mx) (e:Ending) (w':World):Prop:=∃a n k,e=.returned (.agg #[.int .i64 m.rows,.int .i64 m.cols,.slice a n k])∧NewInts w.heap.size w' (.slice a n k) m.cells∧Below w.heap.size w w'
theorem each_new{K:Nat}{cap:Array Value}(eg:∀args w,(callFunc K args).run Try.prog w=.ok (.enter K args) w){v:Value}{m:Mx}{f:Nat→Int}{w:World}(hv:M_ w v m)(hn:m.cells.length≤576)(hG:GivesE K cap m.cells f w):
  Calls Try.prog 74 #[v,.func (.func K) #[] cap] w (MxNew w (eachX m f)):=each_any K cap eg v m f w hv hn hG
set_option maxHeartbeats 400000 in
theorem addrows_any(va vb:Value)(a b:Mx)(C:Nat)(w:World)(hva:M_ w va a)(hvb:M_ w vb b)(hc:b.cols=(C:Int))(hC:0<C)(hC24:C≤24)(hl:b.cells.length=C)(hz:a.cells.length≤576):
  Calls Try.prog 70 #[va,vb] w (MxNew w (addRows a b)):=by
 obtain ⟨sa,rfl,hsa⟩:=hva
 obtain ⟨sb,rfl,hsb⟩:=hvb
 obtain ⟨xa,xn,xk,rfl⟩:=hsa.shape
 obtain ⟨ya,yn,yk,rfl⟩:=hsb.shape
 obtain ⟨r,er⟩:=gN (a.rows)
 obtain ⟨c,ec⟩:=gN (a.cols)
 obtain ⟨r',er'⟩:=gN (b.rows)
 obtain ⟨c',ec'⟩:=gN (b.cols)
 obtain ⟨V,hV⟩:=gM (((w.alloc (.cells #[.int .i64 a.rows,.int .i64 a.cols,.slice xa xn xk] 25)).alloc (.cells #[.int .i64 b.rows,.int .i64 b.cols,.slice ya yn yk] 25)).alloc (.cells #[.int .i64 0,.int .i64 0,.slice none 0 0] 25))
 have b0:=o_ w (.cells #[.int .i64 a.rows,.int .i64 a.cols,.slice xa xn xk] 25)
 have b1:=b0.trans ((o_ _ (.cells #[.int .i64 b.rows,.int .i64 b.cols,.slice ya yn yk] 25)).mono b0.size)
 have b2:=b1.trans ((o_ _ (.cells #[.int .i64 0,.int .i64 0,.slice none 0 0] 25)).mono b1.size)
 have HBB:BoxMx V (w.heap.size+1) b:=by
  have h:=box_of (hsb.u_ b0) 25
  rw[hV];have:=h.u_ (o_ _ (.cells #[.int .i64 0,.int .i64 0,.slice none 0 0] 25));simpa using this
 have hQ:ResBox V (w.heap.size+1+1):=by rw[hV];exact ResBox.new _ _ (by simp)
 rw[←hV]at b2
 have eg:=enters_of (f:=75) Try.func75 (by kernel_rfl) rfl
 have hA:M_ V (.agg #[.int .i64 a.rows,.int .i64 a.cols,.slice xa xn xk]) a:=⟨_,rfl,hsa.u_ b2⟩
 have hE:=each_new eg hA hz (addrow_gives (w.heap.size+1) b C a.cells V HBB hc hC hC24 hl hz)
 have hX:eachX a (fun i=>ad ((a.cells[i]?).getD 0) (A_ b (i % C)))=addRows a b:=by unfold addRows;rw[hc];rfl
 rw[hX]at hE
 have HX:=h_ hE
 have HQ:=h_ hQ
 have HB:=h_ b2
 have HR:=h_ (show (addRows a b).rows=r∧(addRows a b).cols=c from ⟨er,ec⟩)
 rw[er,ec,er',ec']at hV
 rw[er,ec]at HX
 rw[er,ec,er',ec']
 have HV:=h_ hV
 clear b0 b1 b2 hsa hsb HBB hQ eg hA hE hX hc hl hz er ec er' ec' hV
 go_enter Try.func70,Try.ntmps70
 go_wp2_with fail
 rw[←HV.out]
 refine HX.out.mono ?_
 rintro e w1 ⟨qa,qn,qk,rfl,hnew,hb1⟩
 rw[HR.out.1,HR.out.2]
 have p:=HQ.out.u_ hb1
 have p0:=p.c0
 have p1:=p.c1
 have p2:=p.c2
 have p3:=p.f 0
 have p4:=p.f 1
 have p5:=p.f 2
 have hlt:w.heap.size+1+1<V.heap.size:=World.block_lt_of_cell? V _ HQ.out.c0
 have HN:=h_ hnew
 have HB1:=h_ (b_ HB.out hb1)
 have HL:=h_ hlt
 clear p hnew hb1 hlt HX HQ
 go_wp2
 refine bodyPost_ret (v:=.agg #[.int .i64 r,.int .i64 c,.slice qa qn qk]) (by simp[results,Try.results70,go_sem,p0,p1,p2]) rfl ⟨qa,qn,qk,by rw[HR.out.1,HR.out.2],?_,?_⟩
 ·obtain ⟨a',cap,h1,h2,h3,h4⟩:=((HN.out.set HL.out 0 (.int .i64 r)).set HL.out 1 (.int .i64 c)).set HL.out 2 (.slice qa qn qk)
  exact ⟨a',cap,h1,h2,h3,h4.imp id (fun ⟨b,off,e,hb,hc⟩=>⟨b,off,e,Nat.le_trans HB.out.size hb,hc⟩)⟩
 ·exact ((HB1.out.setCell (by simp;omega) _).setCell (by simp;omega) _).setCell (by simp;omega) _
end Go.Proofs.Ytpniemnfdleiiaj
