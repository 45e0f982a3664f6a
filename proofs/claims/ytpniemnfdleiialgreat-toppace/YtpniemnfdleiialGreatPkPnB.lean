/- What build, Wave and Turns of package plan come to; the last stage of what is built lies in memory of its own. -/
import Derived.Test.YtpniemnfdleiialGreatPkTrFact
import Derived.Shelf.Abstract
namespace Go.Proofs.YtpniemnfdleiialGreat
open Go.RowKit
def LastP (lo:Nat) (w:World) (v:Value) (p:List (List (Int×Int))):Prop:=∃(b cap g lc base:Nat) (l:List (Int×Int)),v=.slice (some ⟨b,0,none⟩) p.length cap∧p.length≤cap∧cap≤maxLen∧p[p.length - 1]?=some l∧w.cell? ⟨b,p.length - 1,none⟩=some (.slice (some ⟨g,0,none⟩) l.length lc)∧b≠g∧lo≤g∧OwnA w base (.slice (some ⟨g,0,none⟩) l.length lc) l∧
 ∀(i:Nat) (l':List (Int×Int)),i+1<p.length→p[i]?=some l'→∃s,w.cell? ⟨b,i,none⟩=some s∧IsActs w s l'∧OffB s l' (some g)
theorem LastP.mono{lo lo':Nat}{w:World}{v:Value}{p:List (List (Int×Int))}(h:LastP lo' w v p)(hl:lo≤lo'):LastP lo w v p:=by
 obtain ⟨b,cap,g,lc,base,l,h1,h2,h3,h4,h5,h6,h7,h8⟩:=h
 exact ⟨b,cap,g,lc,base,l,h1,h2,h3,h4,h5,h6,Nat.le_trans hl h7,h8⟩
theorem OwnA.form{w:World}{base:Nat}{v:Value}{l:List (Int×Int)}(h:OwnA w base v l)(hl:l≠[]):∃g lc,v=.slice (some ⟨g,0,none⟩) l.length lc∧base≤g∧g<w.heap.size:=by
 have hlt:=World.ownsRow.lt h
 obtain ⟨h1,h2⟩:=h
 rcases h2 with ⟨rfl,e⟩|⟨g,cap,cur,rfl,_⟩
 ·exact absurd (List.eq_nil_of_length_eq_zero e) hl
 ·exact ⟨g,cap,rfl,hlt g rfl⟩
theorem OwnA.grown{w w':World}{base:Nat}{v:Value}{l:List (Int×Int)}{B:Option Nat}(h:OwnA w base v l)(hg:w.grownBy w' B)(hne:∀k,B=some k→k<base):OwnA w' base v l:=by
 refine World.ownsRow.kept (row:=B) h hg ?_
 cases e:v.ownBlock with
 |none=>exact .inl rfl
 |some k=>
  right
  intro q
  have:=hne k q.symm
  have:=(World.ownsRow.lt h k e).1
  omega
theorem app_last{w w0:World}{ops:Array Oper}{rest:List Oper}{o:Oper}{a:Act}{Q:Exit→Act→World→Prop}(hgd:o.guard=none)(s x:Operand)
  (ho:o.op=.call { callee:=.builtin .append,args:=#[s,x],argTypes:=#[51,51] }) (base:Nat) (v u:Value) (p:List (List (Int×Int))) (l:List (Int×Int)) (hs:a.eval s=v) (hown:OwnP w0 base v p) (h0:Below w0.heap.size w0 w) (hu:OwnA w w0.heap.size u l) (hl:l≠[]) (hx:a.eval x=.slice (some ⟨w.heap.size,0,none⟩) 1 1)
  (hsm:p.length≤1000) (hbase:base≤w0.heap.size)
  (h:∀v' w',OwnP w' base v' (p++[l])→LastP base w' v' (p++[l])→(∀w1:World,Below w1.heap.size w1 (w.alloc (.cells #[u] 97))→w1.heap.size≤base→Below w1.heap.size w1 w')→wpList Tryz.prog ops Q rest (a.put o.dst v') w'):wpList Tryz.prog ops Q (o::rest) a (w.alloc (.cells #[u] 97)):=by
 obtain ⟨e0,ei,hz0,hz1,hz2⟩:=info_parts infoActs
 have h1:=below_go h0 (o_ w (.cells #[u] 97))
 have hlt:=hown.lt
 have hof:OffB u l v.ownBlock:=hu.off (fun k hk=>(hlt k hk).2)
 have hal:=hown.u_ h1
 have hcell0:∀(i:Nat) (l':List (Int×Int)) (z:Value),IsActs w0 z l'→OffB z l' u.ownBlock:=fun i l' z hz=>by
  by_cases hm:l'=[]
  ·exact .inl hm
  ·right
   intro b n k eq hb
   subst eq
   have:=(World.ownsRow.lt hu b.block hb.symm).1
   rcases hz.lt with q|q
   ·exact hm q
   ·omega
 obtain ⟨xs0,p1,p2⟩:=hown
 have q1:World.ownsRow (w.alloc (.cells #[u] 97)) base 97 1 v p.length xs0:=World.ownsRow.kept (row:=none) p1 ⟨h1.os,h1.tape,h1.output,h1.size,fun k hk _=>h1.block k hk⟩ (by
  cases e:v.ownBlock with
  |none=>exact .inl rfl
  |some k=>exact .inr (by simp))
 obtain ⟨g,lc,hue,hg1,hg2⟩:=hu.form hl
 refine wpList_append_wh hgd s x 51 ho base 97 e0 (.slice none 0 0) 1 24 Tryz.underlying51 ei hz0 hz1 hz2 rfl (by decide) v _ _ hs q1 ⟨w.heap.size,0,none⟩ 1 1 [u] hx rfl ?_ ?_ (by unfold maxLen;omega) (by omega) (by rw[World.size_alloc];have:=h0.size;omega) ?_
 ·intro j z hj
  match j,hj with
  |0,hj=>simp at hj;subst hj;simp[Addr.add]
 ·intro z hz
  simp at hz;subst hz
  rw[hue]
  rfl
 ·intro v' w' ho' hg hwh
  have hu':=hu.isActs.u_ (o_ w (.cells #[u] 97))
  have key:∀(z:Value) (m:List (Int×Int)),IsActs (w.alloc (.cells #[u] 97)) z m→OffB z m v.ownBlock→IsActs w' z m∧OffB z m v'.ownBlock:=fun z m hz hf=>by
   refine ⟨hz.grown hf hg,?_⟩
   rcases hf with hf|hf
   ·exact .inl hf
   ·rcases hwh with e|e
    ·rw[e];exact .inr hf
    ·by_cases hm:m=[]
     ·exact .inl hm
     ·right
      intro b n k eq hb
      rw[e]at hb
      have hb:=Option.some.inj hb
      subst eq
      rcases hz.lt with q|q
      ·exact hm q
      ·omega
  have hxl:xs0.length=p.length:=by have:=p1.1;omega
  have hP:OwnP w' base v' (p++[l]):=by
   refine ⟨xs0++[u],by rw[List.length_append];exact ho',fun i m hm=>?_⟩
   rcases Nat.lt_or_ge i p.length with hi|hi
   ·rw[List.getElem?_append_left hi]at hm
    obtain ⟨z,a1,a2,a3⟩:=p2 i m hm
    obtain ⟨b1,b2⟩:=key z m (a2.u_ h1) a3
    exact ⟨z,by rw[List.getElem?_append_left (by omega)];exact a1,b1,b2⟩
   ·rw[List.getElem?_append_right hi]at hm
    have h0:i - p.length=0:=by
     rcases Nat.eq_zero_or_pos (i - p.length) with h|h
     ·exact h
     ·rw[List.getElem?_eq_none (by simp;omega)]at hm;cases hm
    rw[h0]at hm
    obtain rfl:l=m:=by simpa using hm
    obtain ⟨b1,b2⟩:=key u l hu' hof
    exact ⟨u,by rw[List.getElem?_append_right (by omega),show i - xs0.length=0 by omega];rfl,b1,b2⟩
  refine h v' w' hP ?_ (fun w1 hb hle=>hb.grown hg hb.size (fun k hk=>Nat.le_trans hle (World.ownsRow.lt q1 k hk).1))
  have hc:=fun g e=>World.ownsRow.cells ho' (g:=g) e
  have hlen1:(p++[l]).length - 1=p.length:=by simp
  have hu2:OwnA w' w0.heap.size u l:=(hu.alloc _).grown hg (fun k hk=>(hlt k hk).2)
  obtain ⟨r1,r2⟩:=ho'
  rcases r2 with ⟨rfl,e⟩|⟨b,cap,cur,hv',_,_,r3,r4,_,_⟩
  ·omega
  ·refine ⟨b,cap,g,lc,w0.heap.size,l,by rw[hv',List.length_append];rfl,by rw[List.length_append];exact r3,r4,by rw[hlen1];simp,?_,?_,Nat.le_trans hbase hg1,by rw[←hue];exact hu2,?_⟩
   ·have:=hc b (by rw[hv'];rfl) p.length u (by rw[List.getElem?_append_right (by omega),hxl];simp)
    rw[Addr.add_lit]at this
    rw[hlen1,←hue]
    simpa using this
   ·intro e
    subst e
    rcases hwh with q|q
    ·have:=(hlt b (by rw[←q,hv'];rfl)).2
     omega
    ·rw[hv']at q
     have q:b=(w.alloc (.cells #[u] 97)).heap.size:=Option.some.inj q
     rw[World.size_alloc]at q
     omega
   ·intro i l' hi hl'
    rw[List.length_append]at hi
    have hi':i<p.length:=by simp at hi;omega
    rw[List.getElem?_append_left hi']at hl'
    obtain ⟨z,a1,a2,a3⟩:=p2 i l' hl'
    obtain ⟨b1,_⟩:=key z l' (a2.u_ h1) a3
    have:=hc b (by rw[hv'];rfl) i z (by rw[List.getElem?_append_left (by omega)];exact a1)
    rw[Addr.add_lit]at this
    refine ⟨z,by simpa using this,b1,?_⟩
    have:=hcell0 i l' z a2
    rw[hue]at this
    exact this
theorem pn_new1(V:World)(x:Value)(t:TypeId){B:Nat}(hB:V.heap.size=B):(V.alloc (.cells #[x] t)).cell? ⟨B,0,none⟩=some x:=by subst hB;simp
theorem numE_make(S M:Int):numE S M=makeE S M:=by
 unfold numE makeE
 by_cases c:S<1∨6<S∨M<1∨12<M
 ·rw[if_pos (by omega),if_pos c]
 ·rw[if_neg (by omega),if_neg c]
theorem turnL_ne(first M i:Nat)(h:0<i):turnL first M i≠[]:=by
 obtain ⟨j,rfl⟩:∃j,i=j+1:=⟨i - 1,by omega⟩
 unfold turnL
 simp
theorem stageX_ne(S M:Nat)(wave:Bool)(s:Nat)(h:0<M):stageX S M wave s≠[]:=by
 unfold stageX
 intro e
 exact turnL_ne _ M M h (List.append_eq_nil_iff.1 e).2
theorem makeE_in{S M:Int}(h:makeE S M=0):1≤S∧S≤6∧1≤M∧M≤12:=by
 unfold makeE at h
 split at h
 ·cases h
 ·omega
set_option maxHeartbeats 8000000 in
set_option maxRecDepth 100000 in
theorem build_any(K:Nat)(cap:Array Value)(eg:∀args w,(callFunc K args).run Tryz.prog w=.ok (.enter K args) w)(S M:Int)(wave:Bool)(w:World)
  (hG:makeE S M=0→∀(W:World) (k:Nat) (xi:Int),xi=(k:Int)→k<S.toNat→Below w.heap.size w W→Calls Tryz.prog K (#[.int .i64 xi]++cap) W fun e w'=>e=.returned (.int .i64 (firstN S.toNat M.toNat wave k:Int))∧w'=W):
  Calls Tryz.prog 38 #[.int .i64 S,.int .i64 M,.func (.func K) #[] cap] w fun e w'=>∃s,e=.returned (.tuple #[s,errV (makeE S M)])∧IsPlan w' s (makeX S M wave)∧(makeE S M=0→LastP w.heap.size w' s (makeX S M wave))∧Below w.heap.size w w':=by
 have HF:=h_ (numbers_any S M w)
 rw[numE_make]at HF
 obtain ⟨E,hE⟩:=gN (makeE S M)
 by_cases c:makeE S M=0
 ·obtain ⟨b1,b2,b3,b4⟩:=makeE_in c
  have HG:=h_ (hG c)
  rw[c,e_ rfl]at HF ⊢
  obtain ⟨s,hs⟩:∃s:Nat,S=(s:Int):=⟨S.toNat,by omega⟩
  obtain ⟨m,hm⟩:∃m:Nat,M=(m:Int):=⟨M.toNat,by omega⟩
  have HSM:=h_ (And.intro hs hm)
  have HX:=h_ (show makeX S M wave=planN s m wave s by unfold makeX;rw[if_neg (by omega),show S.toNat=s by omega,show M.toNat=m by omega];rfl)
  rw[show S.toNat=s by omega,show M.toNat=m by omega]at HG
  rw[HX.out]
  have hmk:=run_mkp 97 51 1 24 (.slice none 0 0) Tryz.underlying51 infoActs S s hs (by omega) (by omega)
  have HO0:=h_ (OwnP.made (w:=w) (base:=w.heap.size) (cap:=s) (madeCells (Value.slice none 0 0).cells (s*1)) (Nat.le_refl _) (by unfold maxLen;omega) (size_madeCells _ _))
  have HB0:=h_ (o_ w (.cells (madeCells (Value.slice none 0 0).cells (s*1)) 97))
  obtain ⟨W0,hW0⟩:=gM (w.alloc (.cells (madeCells (Value.slice none 0 0).cells (s*1)) 97))
  rw[←hW0]at HO0 HB0
  replace hmk:=(hmk w).trans (by rw[←hW0])
  have hs6:s≤6:=by omega
  have hm12:m≤12:=by omega
  have hm1:1≤m:=by omega
  clear hG hE c hs hm hW0
  go_enter Tryz.func38,Tryz.ntmps38
  go_wp2_with (go_at_call 72;refine HF.out.mono ?_;rintro e w' ⟨rfl,rfl⟩)
  clear hmk
  go_loopw [9,20] (fun ov sv wr=>∃(k:Nat) (xi:Int),k≤s∧xi=(k:Int)∧sv=.int .i64 xi∧OwnP wr w'.heap.size ov (planN s m wave k)∧(0<k→LastP w'.heap.size wr ov (planN s m wave k))∧Below w'.heap.size w' wr) (fun _ sv _=>s - (intOf sv).toNat)
  case atStart=>exact ⟨0,0,Nat.zero_le _,rfl,rfl,HO0.out,fun h=>absurd h (Nat.lt_irrefl 0),HB0.out⟩
  case round=>
   obtain ⟨k,xi,hk,hxi,rfl,hro,hla,hbw⟩:=hrel
   have HRO:=h_ hro
   have HLA:=h_ hla
   have HBW:=h_ hbw
   have HXI:=h_ hxi
   have hx0:0≤xi:=by omega
   have hx1:xi≤6:=by omega
   obtain ⟨oa,ok,hoe⟩:=hro.shape
   rw[planN_len]at hoe
   subst hoe
   clear hro hbw hxi hla
   by_cases hlt:xi<S
   ·obtain ⟨fi,hfi⟩:∃fi:Nat,firstN s m wave k=fi:=⟨_,rfl⟩
    have hfi12:fi≤12:=by rw[←hfi];unfold firstN;split<;>omega
    have HC:=h_ (HG.out wr k xi HXI.out (by have:=HXI.out;have:=HSM.out;omega) HBW.out)
    rw[hfi]at HC
    have HT:=h_ (taket_any fi m (fi:Int) M wr rfl HSM.out.2 hfi12 hm12)
    obtain ⟨LL,hLL⟩:=gN (fwdL fi++turnL fi m m)
    have HST:=h_ (show LL=stageX s m wave k by rw[←hLL,←hfi];rfl)
    rw[hLL]at HT
    clear hfi hLL
    go_wp2_with (first|(go_at_fn K;refine HC.out.mono ?_;rintro e w1 ⟨rfl,rfl⟩)|(go_at_call 73;refine HT.out.mono ?_;rintro e w2 ⟨s1,rfl,ho1,hb1⟩;obtain ⟨ua,uk,rfl⟩:=ho1.shape;have HO1:=h_ ho1;have HB1:=h_ hb1;clear ho1 hb1)|(at_builtin;refine app_last rfl _ _ rfl w'.heap.size _ _ (planN s m wave k) LL rfl HRO.out HB1.out HO1.out ?h1 rfl ?h2 ?h3 ?_))
    case h1=>rw[HST.out];exact stageX_ne _ _ _ _ (by omega)
    case h2=>rw[planN_len];omega
    case h3=>exact HBW.out.size
    intro v' w3 hown hlast hgr
    have HO2:=h_ (show OwnP w3 w'.heap.size v' (planN s m wave (k+1)) by rw[planN_succ,←HST.out];exact hown)
    have HL2:=h_ (show LastP w'.heap.size w3 v' (planN s m wave (k+1)) by rw[planN_succ,←HST.out];exact hlast)
    have HB2:=h_ (hgr w' (below_go (below_go HBW.out HB1.out) (o_ _ _)) (Nat.le_refl _))
    clear hown hgr hlast
    go_wp2
    go_roundw
    case rel=>exact ⟨k+1,_,by have:=HXI.out;have:=HSM.out;omega,by have:=HXI.out;omega,rfl,HO2.out,fun _=>HL2.out,HB2.out⟩
    case measure=>have:=HXI.out;have:=HSM.out;simp[intOf];omega
   ·obtain rfl:k=s:=by have:=HXI.out;have:=HSM.out;omega
    go_wp2
    exact bodyPost_ret (v:=.tuple #[.slice oa k ok,.nilIface]) (by simp[results,Tryz.results38,go_sem]) rfl ⟨_,rfl,HRO.out.isPlan,by first|exact HLA.out (by have:=HSM.out;omega)|exact fun _=>HLA.out (by have:=HSM.out;omega),HBW.out⟩
 ·have HX:=h_ (show makeX S M wave=[] by unfold makeX;unfold makeE at c;split at c<;>simp_all)
  rw[HX.out]
  rw[hE]at c HF ⊢
  rw[n_ c]at HF ⊢
  have HC:=h_ c
  clear hG c hE
  go_enter Tryz.func38,Tryz.ntmps38
  go_wp2_with (go_at_call 72;refine HF.out.mono ?_;rintro e w' ⟨rfl,rfl⟩)
  exact bodyPost_ret (v:=.tuple #[.slice none 0 0,.iface 66 (.int .i64 E)]) (by simp[results,Tryz.results38,go_sem]) rfl ⟨_,rfl,IsPlan.nil _,fun e=>absurd e HC.out,Below.refl _ _⟩
def Built (w w':World) (S M:Int) (wave:Bool) (e:Ending):Prop:=∃s,e=.returned (.tuple #[s,errV (makeE S M)])∧IsPlan w' s (makeX S M wave)∧(makeE S M=0→LastP w.heap.size w' s (makeX S M wave))∧Below w.heap.size w w'
set_option maxRecDepth 100000 in
theorem wave_gives(W:World)(xi M:Int)(B:Nat)(h:W.cell? ⟨B,0,none⟩=some (.int .i64 M)):Calls Tryz.prog 40 (#[.int .i64 xi]++#[.pointer (some ⟨B,0,none⟩)]) W fun e w'=>e=.returned (.int .i64 M)∧w'=W:=by
 go_enter Tryz.func40,Tryz.ntmps40
 go_wp2
 go_ret
 exact ⟨rfl,rfl⟩
set_option maxHeartbeats 1600000 in
set_option maxRecDepth 100000 in
theorem turns_gives(W:World)(xi S M:Int)(B C:Nat)(h:W.cell? ⟨B,0,none⟩=some (.int .i64 S))(h2:W.cell? ⟨C,0,none⟩=some (.int .i64 M))(h0:0≤xi)(h1:xi<S)(hS:S≤6):Calls Tryz.prog 39 (#[.int .i64 xi]++#[.pointer (some ⟨B,0,none⟩),.pointer (some ⟨C,0,none⟩)]) W fun e w'=>e=.returned (.int .i64 (if M<S - 1 - xi then M else S - 1 - xi))∧w'=W:=by
 have w1:IntKind.i64.wrap (S - 1)=S - 1:=wrap_in (by omega) (by omega)
 have w2:IntKind.i64.wrap (S - 1 - xi)=S - 1 - xi:=wrap_in (by omega) (by omega)
 by_cases c:M<S - 1 - xi
 ·rw[if_pos c]
  go_enter Tryz.func39,Tryz.ntmps39
  go_wp2
  go_ret
  exact ⟨rfl,rfl⟩
 ·rw[if_neg c]
  go_enter Tryz.func39,Tryz.ntmps39
  go_wp2
  go_ret
  exact ⟨rfl,rfl⟩
set_option maxHeartbeats 1600000 in
set_option maxRecDepth 100000 in
theorem pwave_any(S M:Int)(w:World):Calls Tryz.prog 15 #[.int .i64 S,.int .i64 M] w (fun e w'=>Built w w' S M true e):=by
 have eg:=enters_of (f:=40) Tryz.func40 (by kernel_rfl) rfl
 have HB0:=h_ (o_ w (.cells #[.int .i64 M] 3))
 have HC:=h_ (build_any 40 #[.pointer (some ⟨w.heap.size,0,none⟩)] eg S M true (w.alloc (.cells #[.int .i64 M] 3)) (fun hz W k xi hxi hk hb=>by
  obtain ⟨b1,b2,b3,b4⟩:=makeE_in hz
  have:=wave_gives W xi M w.heap.size (cell_bel hb (by simp))
  rw[show ((firstN S.toNat M.toNat true k:Nat):Int)=M by unfold firstN;rw[if_pos (.inl rfl)];omega]
  exact this))
 clear eg
 obtain ⟨E,hE⟩:=gN (errV (makeE S M))
 rw[hE]at HC
 have HE:=h_ hE
 clear hE
 go_enter Tryz.func15,Tryz.ntmps15
 go_wp2_with (go_at_call 38;refine HC.out.mono ?_;rintro e w1 ⟨s,rfl,hp,hl,hb1⟩)
 have HP:=h_ hp
 have HL:=h_ hl
 have HB1:=h_ (below_go HB0.out hb1)
 clear hp hl hb1
 go_wp2
 exact bodyPost_ret (v:=.tuple #[s,E]) (by simp[results,Tryz.results15,go_sem]) rfl ⟨s,by rw[HE.out],HP.out,fun e=>(HL.out e).mono HB0.out.size,HB1.out⟩
set_option maxHeartbeats 1600000 in
set_option maxRecDepth 100000 in
theorem pturns_any(S M:Int)(w:World):Calls Tryz.prog 14 #[.int .i64 S,.int .i64 M] w (fun e w'=>Built w w' S M false e):=by
 have eg:=enters_of (f:=39) Tryz.func39 (by kernel_rfl) rfl
 have HB0:=h_ (below_go (o_ w (.cells #[.int .i64 S] 3)) (o_ (w.alloc (.cells #[.int .i64 S] 3)) (.cells #[.int .i64 M] 3)))
 have HC:=h_ (build_any 39 #[.pointer (some ⟨w.heap.size,0,none⟩),.pointer (some ⟨w.heap.size+1,0,none⟩)] eg S M false ((w.alloc (.cells #[.int .i64 S] 3)).alloc (.cells #[.int .i64 M] 3)) (fun hz W k xi hxi hk hb=>by
  obtain ⟨b1,b2,b3,b4⟩:=makeE_in hz
  have h1:(w.alloc (.cells #[.int .i64 S] 3)).cell? ⟨w.heap.size,0,none⟩=some (.int .i64 S):=by simp
  have h2:((w.alloc (.cells #[.int .i64 S] 3)).alloc (.cells #[.int .i64 M] 3)).cell? ⟨w.heap.size+1,0,none⟩=some (.int .i64 M):=pn_new1 _ _ _ (by simp)
  have:=turns_gives W xi S M w.heap.size (w.heap.size+1) (cell_bel (below_go (o_ _ _) hb) h1) (cell_bel hb h2) (by omega) (by omega) b2
  rw[show ((firstN S.toNat M.toNat false k:Nat):Int)=if M<S - 1 - xi then M else S - 1 - xi by
   unfold firstN
   by_cases c:M<S - 1 - xi
   ·rw[if_pos c,if_pos (.inr (by omega))];omega
   ·rw[if_neg c,if_neg (fun e=>e.elim (fun q=>by cases q) (fun q=>by omega))];omega]
  exact this))
 clear eg
 obtain ⟨E,hE⟩:=gN (errV (makeE S M))
 rw[hE]at HC
 have HE:=h_ hE
 clear hE
 go_enter Tryz.func14,Tryz.ntmps14
 go_wp2_with (go_at_call 38;refine HC.out.mono ?_;rintro e w1 ⟨s,rfl,hp,hl,hb1⟩)
 have HP:=h_ hp
 have HL:=h_ hl
 have HB1:=h_ (below_go HB0.out hb1)
 clear hp hl hb1
 go_wp2
 exact bodyPost_ret (v:=.tuple #[s,E]) (by simp[results,Tryz.results14,go_sem]) rfl ⟨s,by rw[HE.out],HP.out,fun e=>(HL.out e).mono HB0.out.size,HB1.out⟩
end Go.Proofs.YtpniemnfdleiialGreat
