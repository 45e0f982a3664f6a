/- The quotients of the law RingsPlain, walked alone. -/
import Derived.Test.YtniloklglpchfaiPkAppWh
import Derived.Deep.RegionHeld3
import Derived.Test.YtniloklglpchfaiRgAC
import Derived.Test.YtniloklglpchfaiPkEqCo
namespace Go.Proofs.Ytniloklglpchfai
open Go.RowKit
def quoX (ps:Nat→List Int):Nat→List Int:=fun i=>(ps i).map (·.tdiv 8)
theorem bl_nx{w u v:World}(h:Below w.heap.size w u)(k:Below u.heap.size u v):Below w.heap.size w v:=h.trans (k.mono h.size)
theorem OwnZ.rlt{w:World}{base:Nat}{v:Value}{zs:List Int}(h:OwnZ w base v zs):∀a n c,v=.slice (some a) n c→base≤a.block∧a.block<w.heap.size:=fun a n c e=>World.ownsRow.lt h a.block (by rw[e];rfl)
theorem OwnR.lt{w:World}{base:Nat}{v:Value}{i:Nat}{qs:Nat→List Int}(h:OwnR w base v i qs):∀k,v.ownBlock=some k→base≤k∧k<w.heap.size:=by obtain ⟨xs,h1,-⟩:=h;exact World.ownsRow.lt h1
set_option maxHeartbeats 32000000 in
set_option maxRecDepth 100000 in
theorem quot_piece{u1 u2 u3 u4 u5 u7 u8 u9 u10 u11 u12 u13 u14 u15 u16 u17 u18 u19 u20 u21 u22 u23 u24 u25 u26 u27 u28 u29 u30 u31 u32 u33 u34 u35 u36 u37 u38 u39 u40 u41 u42 u43 u44 u45 u46 u47 u48 u49 u50 u51 u52 u53 u54 u55 u56 u57 u58 u59 u60 u61 u62 u63 u64 u65 u66 u67 u68 u69 u70 u71 u72 u73 u74 u75 u76 u77 u78 u79 u80 u81 u82 u83 u84 u85 u86 u87 u88 u89 u90 u91 u92 u93 u94 u95 u96 u97 u98 u99 u100 u101 u102 u103 u104 u105 u106 u107 u108 u109 u110 u111 u112 u113 u114 u115 u116 u117 u118 u119 u120 u121 u122 u123 u124 u125 u126 u127 u128 u129 u130 u131 u132 u133 u134 u135 u136 u137 u138 u139 u140 u141 u142 u143 u144 u145 u146 u147 u148:Value}(Pb po cap c n:Nat)(us:Nat→Value)(ps:Nat→List Int)(w:World)(Q:Exit→Act→World→Prop)(hc6:c≤6)(hn:n≤60)(hr:∀i,i<c→w.cell? ⟨Pb,po+i,none⟩=some (us i))(hu:∀i,i<c→I_ w (us i) (ps i))(hl:∀i,i<c→(ps i).length=n)(hB:∀i,i<c→∀x,x∈ps i→-2147483647≤x∧x≤2147483647)
  (hQ:∀(v6 v7 v8 v9 v52 v53 v54 v55 v56 v57 v58 v59 v60 v61 v62 v63 v64 v65 v66 v67 v68 v69 v70 v71 v72 v73 v74 v75 v76 v77 v78 v79 v80 v81:Value) (wx:World),OwnR wx w.heap.size v6 c (quoX ps)→Below w.heap.size w wx→Q .normal { tmps:=#[.slice (some ⟨Pb,po,none⟩) c cap,u1,u2,u3,u4,u5,v6,v7,v8,v9,u10,u11,u12,u13,u14,u15,u16,u17,u18,u19,u20,u21,u22,u23,u24,u25,u26,u27,u28,u29,u30,u31,u32,u33,u34,u35,u36,u37,u38,u39,u40,u41,u42,u43,u44,u45,u46,u47,u48,u49,u50,u51,v52,v53,v54,v55,v56,v57,v58,v59,v60,v61,v62,v63,v64,v65,v66,v67,v68,v69,v70,v71,v72,v73,v74,v75,v76,v77,v78,v79,v80,v81,u82,u83,u84,u85,u86,u87,u88,u89,u90,u91,u92,u93,u94,u95,u96,u97,u98,u99,u100,u101,u102,u103,u104,u105,u106,u107,u108,u109,u110,u111,u112,u113,u114,u115,u116,u117,u118,u119,u120,u121,u122,u123,u124,u125,u126,u127,u128,u129,u130,u131,u132,u133,u134,u135,u136,u137,u138,u139,u140,u141,u142,u143,u144,u145,u146,u147,u148],defers:=[] } wx):Code.wp Try.prog (List.foldl stepC ((Try.f3.body).getD .skip) [1,1,1,1,1,1,0]) Q { tmps:=#[.slice (some ⟨Pb,po,none⟩) c cap,u1,u2,u3,u4,u5,.slice none 0 0,u7,u8,u9,u10,u11,u12,u13,u14,u15,u16,u17,u18,u19,u20,u21,u22,u23,u24,u25,u26,u27,u28,u29,u30,u31,u32,u33,u34,u35,u36,u37,u38,u39,u40,u41,u42,u43,u44,u45,u46,u47,u48,u49,u50,u51,u52,u53,u54,u55,u56,u57,u58,u59,u60,u61,u62,u63,u64,u65,u66,u67,u68,u69,u70,u71,u72,u73,u74,u75,u76,u77,u78,u79,u80,u81,u82,u83,u84,u85,u86,u87,u88,u89,u90,u91,u92,u93,u94,u95,u96,u97,u98,u99,u100,u101,u102,u103,u104,u105,u106,u107,u108,u109,u110,u111,u112,u113,u114,u115,u116,u117,u118,u119,u120,u121,u122,u123,u124,u125,u126,u127,u128,u129,u130,u131,u132,u133,u134,u135,u136,u137,u138,u139,u140,u141,u142,u143,u144,u145,u146,u147,u148],defers:=[] } w:=by
 have HR:=h_ hr
 have HU:=h_ hu
 have HL:=h_ hl
 have HBD:=h_ hB
 have HQ:=h_ hQ
 have HS:Hid (∀i,i<c→∃a k,us i=.slice a n k):=h_ fun i hi=>by
  obtain ⟨a,k,e,-⟩:=hu i hi
  exact ⟨a,k,by rw[e,hl i hi]⟩
 clear hr hu hl hB hQ
 simp only[List.foldl,stepC,Try.f3,Option.getD]
 go_wp2_with fail
 go_loopw [6,7,8,9] (fun v6 v7 _ _ wr=>∃(i:Nat) (xi:Int),i≤c∧xi=(i:Int)∧v7=.int .i64 xi∧OwnR wr w.heap.size v6 i (quoX ps)∧Below w.heap.size w wr) (fun _ v7 _ _ _=>c - (intOf v7).toNat)
 case atStart=>exact ⟨0,0,Nat.zero_le _,rfl,rfl,OwnR.nil _ _ _,Below.refl _ _⟩
 case round=>
  obtain ⟨i,xi,hi,hxi,rfl,hown,hbw⟩:=hrel
  have HXI:=h_ hxi
  have HOW:=h_ hown
  have HBW:=h_ hbw
  have hx0:0≤xi:=by omega
  have hx6:xi≤6:=by omega
  obtain ⟨ga,gk,rfl⟩:=hown.shape
  clear hxi hown hbw
  by_cases hlt:xi<(c:Int)
  ·have hti:xi.toNat=i:=by have:=HXI.out;omega
   have hic:i<c:=by have:=HXI.out;omega
   obtain ⟨a,k,e⟩:=HS.out i hic
   have c1:=(HBW.out.cell (World.block_lt_of_cell? w _ (HR.out i hic))).trans (HR.out i hic)
   rw[e]at c1
   have HE:=h_ e
   obtain ⟨W1,hW1⟩:=gM (wr)
   subst hW1
   clear e hti
   go_wp2_with fail
   go_loopw [8,9] (fun v8 v9 w2=>∃(j:Nat) (xj:Int),j≤n∧xj=(j:Int)∧v9=.int .i64 xj∧OwnZ w2 W1.heap.size v8 ((quoX ps i).take j)∧AllI w2 v8∧Below W1.heap.size W1 w2) (fun _ v9 _=>n - (intOf v9).toNat)
   case atStart=>exact ⟨0,0,Nat.zero_le _,rfl,rfl,OwnZ.nil _ _,AllI.nil _ _ _,Below.refl _ _⟩
   case round=>
    obtain ⟨j,xj,hj,hxj,rfl,ho,ha,hb⟩:=hrel
    have HXJ:=h_ hxj
    have HO:=h_ ho
    have HA:=h_ ha
    have HB:=h_ hb
    have hj0:0≤xj:=by omega
    have hj6:xj≤60:=by omega
    have HQL:=h_ (show (quoX ps i).length=n by unfold quoX;rw[List.length_map];exact HL.out i hic)
    have hlen:((quoX ps i).take j).length=j:=by rw[List.length_take,HQL.out];omega
    obtain ⟨la,lk,rfl⟩:=ho.shape
    rw[hlen]at HO HA ⊢
    have c2:=(HB.out.cell (World.block_lt_of_cell? W1 _ c1)).trans c1
    rw[show po+i=po+xi.toNat by have:=HXI.out;omega]at c2
    obtain ⟨W2,hW2⟩:=gM (wr)
    subst hW2
    clear hxj ho ha hb
    by_cases hl2:xj<(n:Int)
    ·have hjn:j<n:=by have:=HXJ.out;omega
     obtain ⟨ab,ac,ae,h4,h5,h6⟩:=HU.out i hic
     rw[HE.out]at ae
     obtain ⟨ae1,-,ae3⟩:=Value.slice.inj ae
     subst ae1 ae3
     obtain ⟨B,off,rfl,hc⟩:=h6.resolve_left (fun e=>by have:=HL.out i hic;rw[e]at this;simp at this;omega)
     obtain ⟨x,hx⟩:∃x,(ps i)[j]?=some x:=⟨_,List.getElem?_eq_getElem (by rw[HL.out i hic];exact hjn)⟩
     have hbx:=HBD.out i hic x (List.mem_of_getElem? hx)
     have c3:W2.cell? ⟨B,off+j,none⟩=some (.int .i64 x):=by
      have h0:=hc j x hx
      have hb:=bl_nx HBW.out HB.out
      exact (hb.cell (World.block_lt_of_cell? w _ h0)).trans h0
     rw[show off+j=off+xj.toNat by have:=HXJ.out;omega]at c3
     obtain ⟨y,hy⟩:=gN (x.tdiv 8)
     have hy1:-2147483647≤y∧y≤2147483647:=by
      rw[←hy]
      rcases Int.le_total 0 x with q|q
      ·rw[Int.tdiv_eq_ediv_of_nonneg q];omega
      ·obtain ⟨z,rfl⟩:∃z,x=-z:=⟨-x,by omega⟩
       rw[Int.neg_tdiv,Int.tdiv_eq_ediv_of_nonneg (by omega)]
       omega
     have hw0:IntKind.i64.wrap y=y:=by rw[IntKind.wrap_i64];omega
     have hv0:wrap64 y=y:=by unfold wrap64;omega
     have HTK:=h_ (show (quoX ps i).take (j+1)=(quoX ps i).take j++[y] by
      have h1:(quoX ps i)[j]?=some y:=by unfold quoX;rw[List.getElem?_map,hx,←hy];rfl
      obtain ⟨q1,q2⟩:=List.getElem?_eq_some_iff.1 h1
      rw[List.take_succ_eq_append_getElem q1,q2])
     have HLEN:=h_ hlen
     have HU1:=h_ (show I_ (W2.alloc (.cells #[.int .i64 y] 3)) (.slice (some ⟨W2.heap.size,0,none⟩) 1 1) [y] from ⟨_,1,rfl,Nat.le_refl _,by unfold maxLen;omega,.inr ⟨_,0,rfl,fun q z hq=>by
      match q,hq with
      |0,hq=>
       have hq:y=z:=by simpa using hq
       subst hq
       rw[Joins.cell_of_block (heap_alloc_new _ _)]
       rfl⟩⟩)
     have HO1:=h_ (HO.out.alloc (.cells #[.int .i64 y] 3))
     have HA1:=h_ (HA.out.block (w':=W2.alloc (.cells #[.int .i64 y] 3)) fun x n k e=>by
      have:=HO.out.rlt x n k e
      exact heap_alloc_old _ _ this.2)
     clear hc hx hbx hy1 hlen h4 h5
     go_wp2_with (at_builtin;refine app_zsI (w:=W2.alloc (.cells #[.int .i64 y] 3)) rfl _ _ rfl W1.heap.size (.slice la j lk) (.slice (some ⟨W2.heap.size,0,none⟩) 1 1) ((quoX ps i).take j) [y] rfl HO1.out HA1.out rfl HU1.out ?nn ?h1 ?h2 ?_)
     case nn=>exact fun _ _ e=>by cases e
     case h1=>rw[HLEN.out];simp;omega
     case h2=>have:=HB.out.size;simp;omega
     intro v' w' ho' ha' hb'
     have HO2:=h_ (show OwnZ w' W1.heap.size v' ((quoX ps i).take (j+1)) by rw[HTK.out];exact ho')
     have HA2:=h_ ha'
     have HB2:=h_ (hb' W1 (bl_nx HB.out (o_ W2 _)) (Nat.le_refl _))
     clear ho' ha' hb'
     go_wp2_with fail
     go_roundw
     case rel=>exact ⟨j+1,_,by omega,by have:=HXJ.out;omega,rfl,HO2.out,HA2.out,HB2.out⟩
     case measure=>have:=HXJ.out;simp[intOf];omega
    ·obtain rfl:n=j:=by have:=HXJ.out;omega
     have htn:(quoX ps i).take n=quoX ps i:=List.take_of_length_le (by rw[HQL.out];omega)
     have HFZ:=h_ (FrZ.of (htn▸HO.out:OwnZ W2 W1.heap.size (.slice la n lk) (quoX ps i)) HA.out)
     have HOW2:=h_ (HOW.out.u_ HB.out)
     have HOFF:=h_ (fun k e=>(HOW.out.lt k e).2)
     have HSZ:=h_ HBW.out.size
     clear htn
     go_wp2_with (at_builtin;refine app_rows (w:=W2) rfl _ _ rfl w.heap.size (.slice ga i gk) (.slice la n lk) i (quoX ps) W1.heap.size rfl HOW2.out HFZ.out ?hN HOFF.out rfl ?h1 ?h2 ?_)
     case hN=>exact HSZ.out
     case h1=>omega
     case h2=>have:=HB.out.size;have:=HSZ.out;omega
     intro v' w' ho' hb'
     have HO2:=h_ ho'
     have HB2:=h_ (hb' w (bl_nx (bl_nx HBW.out HB.out) (o_ W2 _)) (Nat.le_refl _))
     clear ho' hb'
     go_wp2_with fail
     go_roundw
     case rel=>exact ⟨i+1,_,by omega,by have:=HXI.out;omega,rfl,HO2.out,HB2.out⟩
     case measure=>have:=HXI.out;simp[intOf];omega
  ·have hic:i=c:=by have:=HXI.out;omega
   have HO2:=h_ (hic▸HOW.out:OwnR wr w.heap.size (.slice ga i gk) c (quoX ps))
   clear hic
   go_wp2_with fail
   exact HQ.out _ _ _ _ _ _ _ _ _ _ _ _ _ _ _ _ _ _ _ _ _ _ _ _ _ _ _ _ _ _ _ _ _ _ wr HO2.out HBW.out
end Go.Proofs.Ytniloklglpchfai
/- The law RingsPlain's frame: calls that turn nothing; its parameter, seen alone; its return. -/
namespace Go.Proofs.Ytniloklglpchfai
open Go Go.RowKit Go.Conc
theorem Path.imp{E:Env}{Goal Goal':Stand}(h:∀g W kn ow,Goal g W kn ow→Goal' g W kn ow):∀{n:Nat} {ρ:Rho} {g:Goroutine} {W:World} {kn ow:Nat→Prop},Path E Goal n ρ g W kn ow→Path E Goal' n ρ g W kn ow
 |0,_,_,_,_,_,hp=>fun W' hx=>h _ _ _ _ (hp W' hx)
 |n+1,ρ,g,W,kn,ow,hp=>by
  rcases hp with hp|⟨d,N0,N,R,y,fs,z,h1,h2,hz0,h3,h4,h5,h6,h0,h7,h8⟩|⟨h1,h2⟩
  ·exact .inl fun W' hx=>h _ _ _ _ (hp W' hx)
  ·exact .inr (.inl ⟨d,N0,N,R,y,fs,z,h1,h2,hz0,h3,h4,h5,h6,h0,fun r V W' y' x w q0 q1 q2 q3 q4 q5 q6=>(h7 r V W' y' x w q0 q1 q2 q3 q4 q5 q6).imp fun _ z=>z.imp h,fun b bs e r V W' v w q0 q1 q2 q3 q4=>(h8 b bs e r V W' v w q0 q1 q2 q3 q4).imp fun _ z=>z.imp h⟩)
  ·exact .inr (.inr ⟨h1,fun W' hx m=>by obtain ⟨g1,W1,es,kn1,ow1,a1,a2,a3,ρ',a4⟩:=h2 W' hx m;exact ⟨g1,W1,es,kn1,ow1,a1,a2,a3,ρ',a4.imp h⟩⟩)
def FinT (W0:World) (kp:Nat→Prop):Stand:=fun g W _ _=>g.status=.running∧(∀d,stepG Try.prog true g (W.at d)=.ended (.done (.bool true)) (W.at d) #[])∧∀B,kp B→StillB W0 B W.heap[B]?
section
variable {Goal:Stand} {n m:Nat} {b:Frame} {a:Act} {f:Nat→Value} {k:List Item} {cs:List Frame} {W:World} {kn ow:Nat→Prop}
theorem path_true{W0:World}{kp:Nat→Prop}(hH:Here W kn ow)(hf:FuncId){fn:Func}(hfn:(Try.prog).funcs[hf]?=some fn)(hres:fn.results=#[.tmp 2])(hin:(Try.prog).inits.idxOf? hf=none)(hs:Slots a m f)(h2:f 2=.bool true)(hm:2<m)(hkp:∀B,kp B→kn B)(hS:∀B,kp B→StillB W0 B W.heap[B]?)(hG:∀g W kn ow,FinT W0 kp g W kn ow→Goal g W kn ow):
  ∃ρ,Path (mkE Try.prog rgF rgF) Goal 1 ρ (G ((base hf).at a (.code .ret::k)) []) W kn ow:=by
 refine Path.go hH.knl hH.owk rfl (fun _ _ _=>stepG_ret') rfl ⟨fun _=>0,Path.done fun W' hx=>hG _ _ _ _ ⟨rfl,fun d=>?_,fun B hB=>?_⟩⟩
 ·have e:a.tmps[2]?=some (.bool true):=by
   have h:=hs.at_ 2
   rw[h2,Array.getD_eq_getD_getElem?]at h
   have hlt:2<a.tmps.size:=by rw[hs.size];exact hm
   rw[Array.getElem?_eq_getElem hlt]at h ⊢
   exact congrArg some h
  have hr:(results fn a.tmps).run Try.prog (W'.at d)=.ok (.bool true) (W'.at d):=by simp[results,hres,e,go_sem]
  have he:(results fn a.tmps).events Try.prog (W'.at d) #[]=#[]:=by
   unfold Sem.events
   simp[results,hres,e,go_sem]
  have hd:=hs.defers
  have hdr:∀(fr:Frame) (w:World),fr.kind=.normal→fr.fn=hf→doReturn Try.prog true fr [] none (.bool true) w=.ended (.done (.bool true)) w:=fun fr w hk hn=>by
   unfold doReturn
   simp only[hk,hn,Bool.not_true,Bool.false_eq_true,if_false]
   rw[hin]
  have hu:stepG Try.prog true (G { (base hf).at a (.code .ret::k) with mode:=.returning } []) (W'.at d)=GStep.after (seen Try.prog hf ((results fn a.tmps).events Try.prog (W'.at d) #[])) (doReturn Try.prog true { (base hf).at a (.code .ret::k) with mode:=.returning } [] none (.bool true) (W'.at d)):=by
   have hT:(results fn a.tmps).runT Try.prog (W'.at d) #[]=(.ok (.bool true) (W'.at d),(results fn a.tmps).events Try.prog (W'.at d) #[]):=by
    have:=Sem.runT_fst Try.prog (results fn a.tmps) (W'.at d) #[]
    rw[hr]at this
    exact Prod.ext this rfl
   unfold stepG unwind
   simp only[G,Frame.at,base,hd,hfn,hT]
  rw[hu,hdr _ _ rfl rfl,he]
  rfl
 ·obtain ⟨a,e,z,z',h1,h2,h3⟩:=hS B hB
  exact ⟨a,e,z,z',h1,(hx.keep B (hkp B hB) (lt_of_some h2)).trans h2,h3⟩
set_option maxRecDepth 100000 in
theorem path_quiet{k0:Nat→Prop}(hg0:G0≤W.heap.size)(hK:Lies W k0)(hl:∀B,kn B→B<W.heap.size)(hkn:∀B,k0 B→kn B)(hs:Slots a m f){ops:Array Oper}{i d:Nat}{rest:List Nat}{o:Oper}{fi:FuncId}{fn:Func}{c:Code}{args:Array Operand}{ats:Array TypeId}(vs:Array Value)(ho:ops[i]?=some o)(hdst:o.dst=some d)(hd:d<m)(hw:∀t,Region.wanted o (yielded ops t)=true)(hke:b.kind≠.early)(hop:o.op=.call { callee:=.value (.func fi),args,argTypes:=ats })
  (hfl : rgF.contains fi = true) (hf : (Try.prog).funcs[fi]? = some fn) (hname : (fn.name == "runtime.NumGoroutine") = false) (hb : fn.body = some c) (hargs : ∀ a : Act, (∀ k, a.tmps.getD k undef = f k) → args.map a.eval = vs) (ha : ∀ v ∈ vs, KV k0 noP v) {Q : Value → Prop}
  (hc:∀w0,Alone W k0 noP noP w0→Calls Try.prog fi vs w0 (fun e w'=>∃v,e=.returned v∧KV k0 noP v∧Q v∧∃q,w'=w0.drewN q))
  (hp:∀v W' kn2 ow2,Q v→Lies W' k0→(∀B,k0 B→StillB W B W'.heap[B]?)→W.heap.size≤W'.heap.size→(∀B,k0 B→kn2 B)→(∀B,ow2 B→kn2 B)→(∀B,kn2 B→B<W'.heap.size)→∀a',Slots a' m (upF f d v)→∃ρ',Path (mkE Try.prog rgF rgF) Goal n ρ' (G (b.at a' (.inRegion ops rest::k)) cs) W' kn2 ow2):
  ∃ρ,Path (mkE Try.prog rgF rgF) Goal (n+2) ρ (G (b.at a (.inRegion ops (i::rest)::k)) cs) W kn ow:=by
 refine path_call rg_env hl hkn (fun B q=>q.elim) (hK.geo hg0) hK.rdy hs vs ho hdst hd hw hke hop hfl hf hname hb hargs ha (R:=fun v w=>KV k0 noP v∧Q v∧∃w0 q,w=w0.drewN q∧Alone W k0 noP noP w0) (fun w0 h0=>?_) fun r V W1 w v hO hv hR a hs'=>?_
 ·refine (hc w0 h0).mono ?_
  rintro e w' ⟨v,rfl,h1,h2,q,rfl⟩
  exact ⟨v,rfl,h1,h2,w0,q,rfl,h0⟩
 ·obtain ⟨hkv,hQ,w0,q,rfl,h0⟩:=hR
  have hsz:(w0.drewN q).heap.size=W.heap.size:=h0.size
  have hgr:=hO.grew (by omega)
  have hold:∀B,k0 B→HoldB False W W1 B:=fun B hB=>hO.hold (hK.geo hg0) h0 hB (fun q=>q.elim) rfl
  rw[hO.same (hK.geo hg0).knl (fun B q=>q.elim) hkv]at hs'
  refine hp v W1 _ _ hQ (fun B hB=>?_) (fun B hB=>?_) hgr (fun B q=>hO.known q (hK.lt q) (by have:=hK.lt q;omega)) (fun B q=>?_) (fun B q=>q.1) a hs'
  ·obtain ⟨a,e,z,h1,h2,h3⟩:=hK B hB
   obtain ⟨z',g1,-,g2⟩:=hold B hB a e z h1
   exact ⟨a,e,z',g1,g2 id,h3⟩
  ·obtain ⟨a,e,z,h1,h2,h3⟩:=hK B hB
   obtain ⟨z',g1,-,g2⟩:=hold B hB a e z h1
   exact ⟨a,e,z,z',h1,g1,g2 id⟩
  ·obtain ⟨q1,b,q2,q3⟩:=q
   exact ⟨q1,b,q2.imp id (fun q=>q.elim),q3⟩
end
structure PIn (W:World) (kp:Nat→Prop) (Pb po c:Nat) (us:Nat→Value) (ps:Nat→List Int):Prop where
 row:∀i,i<c→W.cell? ⟨Pb,po+i,none⟩=some (us i)
 ints:∀i,i<c→I_ W (us i) (ps i)
 kb:0<c→kp Pb
 ku:∀i,i<c→KV kp noP (us i)∨∃a,us i=.slice (some a) 0 0
theorem still_cell{W W':World}{a:Addr}{v:Value}(h:StillB W a.block W'.heap[a.block]?)(hc:W.cell? a=some v):W'.cell? a=some v:=by
 obtain ⟨x,e,z,z',h1,h2,-⟩:=h
 unfold World.cell? at hc ⊢
 rw[h1]at hc
 rw[h2]
 exact hc
theorem wd_nil{v:Value}{y:Addr}{a:Option Addr}{zs:List Int}{cap:Nat}(h:v=.slice (some y) 0 0)(e:v=.slice a zs.length cap):zs=[]:=by
 rw[h]at e
 injection e with _ e _
 exact List.length_eq_zero_iff.1 e.symm
theorem PIn.still{W W':World}{kp:Nat→Prop}{Pb po c:Nat}{us:Nat→Value}{ps:Nat→List Int}(h:PIn W kp Pb po c us ps)(hS:∀B,kp B→StillB W B W'.heap[B]?):PIn W' kp Pb po c us ps:=by
 refine ⟨fun i hi=>still_cell (hS Pb (h.kb (by omega))) (h.row i hi),fun i hi=>?_,h.kb,h.ku⟩
 obtain ⟨a,cap,e,h1,h2,h3⟩:=h.ints i hi
 rcases h.ku i hi with hk|⟨y,hy⟩
 ·refine ⟨a,cap,e,h1,h2,h3.imp id ?_⟩
  rintro ⟨b,off,rfl,hc⟩
  refine ⟨b,off,rfl,fun j x hx=>still_cell (hS b ?_) (hc j x hx)⟩
  rw[e]at hk
  exact (hk _ rfl).1
 ·exact ⟨a,cap,e,h1,h2,.inl (wd_nil hy e)⟩
theorem PIn.alone{W w0:World}{kp kn ow:Nat→Prop}{Pb po c:Nat}{us:Nat→Value}{ps:Nat→List Int}(h:PIn W kp Pb po c us ps)(hk:∀B,kp B→kn B)(h0:Alone W kn ow noP w0):∃vs:Nat→Value,(∀i,i<c→w0.cell? ⟨Pb,po+i,none⟩=some (vs i))∧∀i,i<c→I_ w0 (vs i) (ps i):=by
 have key:∀i,∃v,i<c→w0.cell? ⟨Pb,po+i,none⟩=some v∧I_ w0 v (ps i):=fun i=>by
  by_cases hi:i<c
  ·obtain ⟨a,cap,e,h1,h2,h3⟩:=h.ints i hi
   rcases h.ku i hi with q|⟨y,hy⟩
   ·refine ⟨us i,fun _=>⟨h0.cell (h.row i hi) (q.mono hk fun _ q=>q),a,cap,e,h1,h2,h3.imp id ?_⟩⟩
    rintro ⟨b,off,rfl,hc⟩
    exact ⟨b,off,rfl,fun j x hx=>h0.cell (hc j x hx) trivial⟩
   ·obtain ⟨z,hz⟩:=h0.wd (hy▸h.row i hi)
    have e0:=wd_nil hy e
    exact ⟨_,fun _=>⟨hz,some z,0,by rw[e0];rfl,by rw[e0];simp,by simp,.inl e0⟩⟩
  ·exact ⟨.nilIface,fun q=>absurd q hi⟩
 obtain ⟨vs,hvs⟩:=Classical.axiomOfChoice key
 exact ⟨vs,fun i hi=>(hvs i hi).1,fun i hi=>(hvs i hi).2⟩
end Go.Proofs.Ytniloklglpchfai
