/- A ring is started, one worker after the other, and waited for. -/
import Derived.Test.YtniloklglpchfaiPkEqCl
namespace Go.Proofs.Ytniloklglpchfai
open Go Go.RowKit Go.Conc
theorem StMk.mono{P:Program}{ty:TypeId}{Wg:Nat}{ev:Event}{N N':Goroutine→World→Prop}(h:∀g w,N g w→N' g w){g:Goroutine}{w:World}(x:StMk P ty Wg ev N g w):StMk P ty Wg ev N' g w:=
 ⟨x.1,let ⟨g',h1,m,h2⟩:=x.2;⟨g',h1,m,goesI h h2⟩⟩
theorem elW:(Try.prog).underlying 39=some (.slice ((Try.prog).elem 39)):=by kernel_rfl
def sndC:Code→Code
 |.seq _ b=>b
 |c=>c
def IsT (c:Code):Prop:=c=sndC (sndC (sndC ((Try.f9).body.getD .skip)))
def IsU (c:Code):Prop:=∃d,IsT d∧c=sndC (sndC d)
abbrev bRound:Frame:=base 9
abbrev wslV (Wb c:Nat):Value:=.slice (some ⟨Wb,0,none⟩) c c
def Rng.wkV (y:Rng):Array Value:=((List.range y.c).map fun j=>Value.pointer (some ⟨y.S j,0,none⟩)).toArray
structure Rng.Mn (y:Rng) (Wb:Nat) (k0:Nat→Prop) (W:World) (w:Nat):Prop where
 g0:G0≤W.heap.size
 kl:∀B,k0 B→B<W.heap.size
 row:∃z:Nat×Nat,W.heap[Wb]?=some (.cells y.wkV 51 z)
 mem:∀j,w≤j→j<y.c→(y.wkr j).Mem W (List.replicate y.n 0)
 S:∀j,j<y.c→W.cell? ⟨y.S j,3,none⟩=some (.slice (some ⟨y.T j,0,none⟩) y.n y.n)
 x:∀B,k0 B→y.X B W.heap[B]?
def Rng.kM (y:Rng) (Wb:Nat) (k0:Nat→Prop) (w:Nat):Nat→Prop:=fun B=>k0 B∨B=Wb∨(∃j,j<y.c∧B=y.S j)∨∃j,w≤j∧j<y.c∧B=y.T j
def Rng.oM (y:Rng) (w:Nat):Nat→Prop:=fun B=>∃j,w≤j∧j<y.c∧B=y.T j
structure Rng.Apart (y:Rng) (Wb:Nat) (k0:Nat→Prop):Prop where
 o:∀j,j<y.c→∀B,y.O j=some B→k0 B
 t0:∀j,j<y.c→¬k0 (y.T j)
 tw:∀j,j<y.c→y.T j≠Wb
 ts:∀i j,i<y.c→j<y.c→y.T i≠y.S j
 tt:∀i j,i<y.c→j<y.c→y.T i=y.T j→i=j
section
variable {o:Bo} {y:Rng} {Wb:Nat} {k0:Nat→Prop} {W W':World} {w:Nat}
theorem Rng.Mn.sl(M:y.Mn Wb k0 W w){j:Nat}(hj:j<y.c):y.S j<W.heap.size:=World.block_lt_of_cell? W _ (M.S j hj)
theorem Rng.Mn.here(M:y.Mn Wb k0 W w):Here W (y.kM Wb k0 w) (y.oM w):=by
 refine ⟨fun B q=>?_,fun B q=>.inr (.inr (.inr q))⟩
 rcases q with q|rfl|⟨j,hj,rfl⟩|⟨j,h1,h2,rfl⟩
 ·exact M.kl B q
 ·obtain ⟨z,h⟩:=M.row;exact lt_of_some h
 ·exact M.sl hj
 ·exact (M.mem j h1 h2).t_lt
theorem Rng.Mn.keep(M:y.Mn Wb k0 W w)(A:y.Apart Wb k0)(hs:W.heap.size≤W'.heap.size)(hk:∀B,y.kM Wb k0 w B→W'.heap[B]?=W.heap[B]?):y.Mn Wb k0 W' w:=by
 refine ⟨Nat.le_trans M.g0 hs,fun B q=>Nat.lt_of_lt_of_le (M.kl B q) hs,?_,fun j h1 h2=>(M.mem j h1 h2).keep hs fun B q=>hk B ?_,fun j hj=>?_,fun B q=>?_⟩
 ·rw[hk Wb (.inr (.inl rfl))];exact M.row
 ·rcases q with rfl|rfl|q
  ·exact .inr (.inr (.inl ⟨j,h2,rfl⟩))
  ·exact .inr (.inr (.inr ⟨j,h1,h2,rfl⟩))
  ·exact .inl (A.o j h2 B q)
 ·have:=hk (y.S j) (.inr (.inr (.inl ⟨j,hj,rfl⟩)))
  have e:=M.S j hj
  unfold World.cell? at e ⊢
  rw[this]
  exact e
 ·rw[hk B (.inl q)]
  exact M.x B q
theorem Rng.Mn.ext(M:y.Mn Wb k0 W w)(A:y.Apart Wb k0){kn:Nat→Prop}(hx:Ext kn W W')(hk:∀B,y.kM Wb k0 w B→kn B):y.Mn Wb k0 W' w:=M.keep A hx.size fun B q=>hx.keep B (hk B q) (M.here.knl B q)
theorem Rng.Mn.next(M:y.Mn Wb k0 W w):y.Mn Wb k0 W (w+1):=⟨M.g0,M.kl,M.row,fun j h1 h2=>M.mem j (by omega) h2,M.S,M.x⟩
theorem Rng.kM_next{B:Nat}(h:y.kM Wb k0 (w+1) B):y.kM Wb k0 w B:=by
 rcases h with q|q|q|⟨j,h1,h2,h3⟩
 ·exact .inl q
 ·exact .inr (.inl q)
 ·exact .inr (.inr (.inl q))
 ·exact .inr (.inr (.inr ⟨j,by omega,h2,h3⟩))
theorem Rng.split(A:y.Apart Wb k0)(hw:w<y.c){Xb:Nat}(hX:∀B,y.kM Wb k0 w B→B<Xb):Split (orP (y.kM Wb k0 w) (fun B=>B=Xb)) (orP (y.oM w) (fun B=>B=Xb)) (y.kM Wb k0 (w+1)) (y.oM (w+1)) (orP (y.wkr w).k0 (fun B=>B=Xb)) (y.wkr w).o0:=by
 refine ⟨fun B q=>.inl (Rng.kM_next q),fun B q=>q.imp (fun q=>?_) id,fun B q=>?_,fun B q=>?_,fun B q=>.inr (.inr (.inr q)),fun B q=>.inl (.inr (.inl q)),fun B q1 q2=>?_,fun B q1 q2=>?_⟩
 ·rcases q with rfl|rfl|q
  ·exact .inr (.inr (.inl ⟨w,hw,rfl⟩))
  ·exact .inr (.inr (.inr ⟨w,Nat.le_refl _,hw,rfl⟩))
  ·exact .inl (A.o w hw B q)
 ·obtain ⟨j,h1,h2,h3⟩:=q
  exact .inl ⟨j,by omega,h2,h3⟩
 ·exact .inl ⟨w,Nat.le_refl _,hw,q⟩
 ·have q2:B=y.T w:=q2
  subst q2
  rcases q1 with q|q|⟨j,hj,q⟩|⟨j,h1,h2,q⟩
  ·exact A.t0 w hw q
  ·exact A.tw w hw q
  ·exact A.ts w j hw hj q
  ·have:=A.tt w j hw h2 q
   omega
 ·obtain ⟨j,h1,h2,rfl⟩:=q2
  rcases q1 with q1|q1
  ·rcases q1 with q|q|q
   ·exact A.ts j w h2 hw q
   ·have:=A.tt j w h2 hw q
    omega
   ·exact A.t0 j h2 (A.o w hw _ q)
  ·have:=hX (y.T j) (.inr (.inr (.inr ⟨j,by omega,h2,rfl⟩)))
   omega
section
variable {base:World} {N0:Nat} {Out:Nat→Prop} {Res0:Goroutine→World→(Nat→Prop)→(Nat→Prop)→Prop} {b₀:Frame} {a₀:Act} {ops₀:Array Oper} {i₀:Nat} {rest₀:List Nat} {kk:List Item} {cs:List Frame} {kn ow:Nat→Prop}
theorem waitAt_of(e:y.IsBo Out Res0 base N0 o)(h:Res0 (G (b₀.at (a₀.put ((ops₀[i₀]?).bind (·.dst)) (.tuple #[])) (.inRegion ops₀ rest₀::kk)) cs) W kn ow):o.WaitAt (G (Frame.enter Try.prog wgL.wait #[.pointer (some ⟨y.Wg,0,none⟩)] .normal) (b₀.at a₀ (.inRegion ops₀ (i₀::rest₀)::kk)::cs)) W kn ow:=by
 unfold Rng.IsBo at e
 subst e
 exact ⟨rfl,_,fun hF=>⟨3,goesI (fun g w q=>q.mono fun g w q=>⟨_,_,_,_,_,_,_,rfl,q⟩) (wg_waits W hF)⟩,h⟩
theorem addAt_of(e:y.IsBo Out Res0 base N0 o){F:Stand}(h:∀W',Ext kn W W'→∃n ρ,Path (mkE Try.prog rgF rgF) F n ρ (G (b₀.at (a₀.put ((ops₀[i₀]?).bind (·.dst)) (.tuple #[])) (.inRegion ops₀ rest₀::kk)) cs) W' kn ow):o.AddAt F (G (Frame.enter Try.prog wgL.add #[.pointer (some ⟨y.Wg,0,none⟩),.int .i64 1] .normal) (b₀.at a₀ (.inRegion ops₀ (i₀::rest₀)::kk)::cs)) W kn ow:=by
 unfold Rng.IsBo at e
 subst e
 exact ⟨rfl,fun hF=>⟨_,12,wg_adds W hF,h⟩⟩
theorem goAt_of(eE:o.E=mkE Try.prog rgF rgF){i:Nat}{F:Stand}{l:List Cm}{oo:Oper}{d:Deferred}{fn:Fn}{cc:Array Value}{k1 o1 kc oc:Nat→Prop}(ho:ops₀[i₀]?=some oo)(hw:Region.wanted oo (yielded ops₀ a₀.tmps)=true)(hk:b₀.kind≠.early)(hd:d.target=.fn fn cc)(hr:(execOp a₀.eval oo).run Try.prog W=.ok (.spawn d) W)(hl:listed Try.prog b₀.fn a₀ oo W=#[])(hsp:Split kn ow k1 o1 kc oc)(hc:∃n ρ,Path o.E (Run o.E o.M (o.FinW i) (o.scr i)) n ρ (born Try.prog d) W kc oc)(hm:∃n ρ,Path o.E (Run o.E o.M F l) n ρ (G (b₀.at (a₀.put oo.dst undef) (.inRegion ops₀ rest₀::kk)) cs) W k1 o1):o.GoAt i F l (G (b₀.at a₀ (.inRegion ops₀ (i₀::rest₀)::kk)) cs) W kn ow:=by
 refine ⟨rfl,_,_,k1,o1,kc,oc,?_,hsp,hc,hm⟩
 rw[eE]
 have:=stepG_spawn (P:=Try.prog) (main:=true) (b:=b₀) (k:=kk) (cs:=cs) (rest:=rest₀) ho hw hk hr hd
 rw[hl]at this
 exact this
end
theorem Rng.wkV_at{j:Nat}(hj:j<y.c):y.wkV[j]?=some (.pointer (some ⟨y.S j,0,none⟩)):=by
 unfold Rng.wkV
 simp[hj]
set_option linter.unusedSimpArgs false in
set_option linter.unusedVariables false in
set_option maxRecDepth 100000 in
set_option maxHeartbeats 8000000 in
theorem round_ahead{base:World}{N0:Nat}{Out:Nat→Prop}{Res0:Goroutine→World→(Nat→Prop)→(Nat→Prop)→Prop}(K:y.Ok)(e:y.IsBo Out Res0 base N0 o)(A:y.Apart Wb k0){c0:Frame}{cs:List Frame}{T U:Code}(hT:IsT T)(hU:IsU U)
  (hend:∀a f ops W,Slots a 40 f→f 3=wslV Wb y.c→y.Mn Wb k0 W y.c→Res0 (G (bRound.at a [.inRegion ops [],.code U]) (c0::cs)) W (y.kM Wb k0 y.c) (y.oM y.c))
  {a:Act} {f:Nat→Value} (hs:Slots a 40 f) (f3:f 3=wslV Wb y.c) (f4:f 4=.pointer (some ⟨y.Wg,0,none⟩)) (M:y.Mn Wb k0 W 0):
  ∃ρ,Path (mkE Try.prog rgF rgF) (o.nextF o.nk) 100 ρ (G (bRound.at a [.code T]) (c0::cs)) W (y.kM Wb k0 0) (y.oM 0):=by
 have hc1:=K.c1
 have hc6:=K.c6
 have enk:o.nk=y.c:=by unfold Rng.IsBo at e;rw[e]
 have eb:o.b0=y.b0:=by unfold Rng.IsBo at e;rw[e]
 have eE:o.E=mkE Try.prog rgF rgF:=by unfold Rng.IsBo at e;rw[e]
 have eW:o.Wg=y.Wg:=by unfold Rng.IsBo at e;rw[e]
 have ety:o.ty=wgL.tWg:=by unfold Rng.IsBo at e;rw[e]
 have eA:o.Anch=AnchR y.Wg:=by unfold Rng.IsBo at e;rw[e]
 have eR:o.Res0=Res0:=by unfold Rng.IsBo at e;rw[e]
 have enL:∀r,o.nextL r=[]:=fun r=>by
  cases r with
  |zero=>show o.sc0=[];unfold Rng.IsBo at e;rw[e]
  |succ r=>rfl
 obtain ⟨d,hd,hU⟩:=hU
 unfold IsT at hT hd
 subst hd
 simp only[Try.f9,Option.getD_some,sndC]at hT hU
 subst hT
 subst hU
 have hP:(mkE Try.prog rgF rgF).P=Try.prog:=rfl
 have hke:bRound.kind≠.early:=by decide
 have hH:=M.here
 refine path_seq hH ?_
 refine path_seq hH ?_
 refine path_region hH rfl ?_
 refine path_slot hH hs (wslV Wb y.c) rfl rfl (by decide) (fun _=>rfl) hke (fun a W' h=>by have e0:a.tmps.getD 3 undef=wslV Wb y.c:=(h 3).trans (by simp[upF,f3,f4]);clear h;rw[hP];go_simp<;>omega) (fun a W' h e he=>by have hm:=mem_listed he;have e0:a.tmps.getD 3 undef=wslV Wb y.c:=(h 3).trans (by simp[upF,f3,f4]);clear h;rw[hP]at hm;simp[go_sem,Act.eval,e0,-Array.getD_eq_getD_getElem?]at hm) fun a hs'=>?_
 replace hs:=hs'
 clear hs'
 refine path_slot hH hs (.int .i64 (y.c:Int)) rfl rfl (by decide) (fun _=>rfl) hke (fun a W' h=>by have e0:a.tmps.getD 12 undef=wslV Wb y.c:=(h 12).trans (by simp[upF,f3,f4]);clear h;rw[hP];go_simp<;>omega) (fun a W' h e he=>by have hm:=mem_listed he;have e0:a.tmps.getD 12 undef=wslV Wb y.c:=(h 12).trans (by simp[upF,f3,f4]);clear h;rw[hP]at hm;simp[go_sem,Act.eval,e0,-Array.getD_eq_getD_getElem?]at hm) fun a hs'=>?_
 replace hs:=hs'
 clear hs'
 refine path_slot hH hs (.int .i64 ((0:Nat):Int)) rfl rfl (by decide) (fun _=>rfl) hke (fun a W' h=>by clear h;rw[hP];go_simp<;>omega) (fun a W' h e he=>by have hm:=mem_listed he;clear h;rw[hP]at hm;simp[go_sem,Act.eval,-Array.getD_eq_getD_getElem?]at hm) fun a hs'=>?_
 replace hs:=hs'
 clear hs'
 refine path_region_end hH ?_
 refine path_block hH ?_
 refine path_loop hH ?_
 obtain ⟨w,hw0⟩:∃w:Nat,w=0:=⟨_,rfl⟩
 obtain ⟨g,hs,g3,g4,g12,g13,g14⟩:∃f,Slots a 40 f∧f 3=wslV Wb y.c∧f 4=.pointer (some ⟨y.Wg,0,none⟩)∧f 12=wslV Wb y.c∧f 13=.int .i64 (y.c:Int)∧f 14=.int .i64 (w:Int):=⟨_,hs,by simp[upF,f3],by simp[upF,f4],by simp[upF,f3],by simp[upF,f3],by simp[upF,hw0]⟩
 clear f3 f4 hH
 obtain ⟨r,hr⟩:∃r,w+r=y.c:=⟨y.c,by omega⟩
 rw[enk,show y.c=r by omega]
 have q1:y.kM Wb k0 0=y.kM Wb k0 w:=by rw[hw0]
 have q2:y.oM 0=y.oM w:=by rw[hw0]
 rw[q1,q2]
 replace M:y.Mn Wb k0 W w:=by rw[hw0];exact M
 clear hw0 q1 q2
 refine Path.up (N:=60) (by decide) ?_
 have pack:=And.intro hr (And.intro M (And.intro hs (And.intro g3 (And.intro g4 (And.intro g12 (And.intro g13 g14))))))
 generalize w=w at pack ⊢
 generalize r=r at pack ⊢
 generalize W=W at pack ⊢
 generalize a=a at pack ⊢
 generalize g=g at pack
 obtain ⟨hr,M,hs,g3,g4,g12,g13,g14⟩:=pack
 induction r generalizing w a g W with
 |zero=>
  have hw:w=y.c:=by omega
  subst hw
  have hH:=M.here
  refine path_seq hH ?_
  refine path_region hH rfl ?_
  refine path_slot hH hs (.bool false) rfl rfl (by decide) (fun _=>rfl) hke (fun a W' h=>by have e0:a.tmps.getD 14 undef=.int .i64 (y.c:Int):=(h 14).trans (by simp[upF,g3,g4,g12,g13,g14]);have e1:a.tmps.getD 13 undef=.int .i64 (y.c:Int):=(h 13).trans (by simp[upF,g3,g4,g12,g13,g14]);clear h;rw[hP];go_simp<;>omega) (fun a W' h e he=>by have hm:=mem_listed he;have e0:a.tmps.getD 14 undef=.int .i64 (y.c:Int):=(h 14).trans (by simp[upF,g3,g4,g12,g13,g14]);have e1:a.tmps.getD 13 undef=.int .i64 (y.c:Int):=(h 13).trans (by simp[upF,g3,g4,g12,g13,g14]);clear h;rw[hP]at hm;simp[go_sem,Act.eval,e0,e1,-Array.getD_eq_getD_getElem?]at hm) fun a hs'=>?_
  replace hs:=hs'
  clear hs'
  refine path_region_end hH ?_
  refine path_seq hH ?_
  refine path_cond hH (t:=false) ((hs.at_ 15).trans (by simp[upF])) ?_
  refine path_exit hH rfl ?_
  refine path_seq hH ?_
  refine path_region hH rfl ?_
  have e4:=(hs.at_ 4).trans (show _=.pointer (some ⟨y.Wg,0,none⟩) by simp[upF,g3,g4,g12,g13,g14])
  refine path_enter_to hH.knl (fun _ q=>q) (fun _ q=>q) hH.owk #[.pointer (some ⟨y.Wg,0,none⟩)] rfl rfl hke rfl (fn:=Lib.waitFn wgL) wg_lib.f_wait rfl rfl (by simp[Act.eval,e4,-Array.getD_eq_getD_getElem?]) ?_
  refine ⟨fun _=>0,Path.done fun W2 hx=>?_⟩
  have M2:=M.ext A hx fun _ q=>q
  refine waitAt_of e ?_
  exact hend _ _ _ W2 (hs.put (d:=21) (by decide) (.tuple #[])) (by simp[upF,g3,g4,g12,g13,g14]) M2
 |succ r ih=>
  have hlt:w<y.c:=by omega
  have hlt':(w:Int)<(y.c:Int):=by omega
  have hww:IntKind.i64.wrap ((w:Int)+1)=((w+1:Nat):Int):=by rw[IntKind.wrap_i64];omega
  have hH:=M.here
  have eg:o.b0+o.nk - (r+1)=y.b0+w:=by rw[eb,enk];omega
  refine path_seq hH ?_
  refine path_region hH rfl ?_
  refine path_slot hH hs (.bool true) rfl rfl (by decide) (fun _=>rfl) hke (fun a W' h=>by have e0:a.tmps.getD 14 undef=.int .i64 (w:Int):=(h 14).trans (by simp[upF,g3,g4,g12,g13,g14]);have e1:a.tmps.getD 13 undef=.int .i64 (y.c:Int):=(h 13).trans (by simp[upF,g3,g4,g12,g13,g14]);clear h;rw[hP];go_simp<;>omega) (fun a W' h e he=>by have hm:=mem_listed he;have e0:a.tmps.getD 14 undef=.int .i64 (w:Int):=(h 14).trans (by simp[upF,g3,g4,g12,g13,g14]);have e1:a.tmps.getD 13 undef=.int .i64 (y.c:Int):=(h 13).trans (by simp[upF,g3,g4,g12,g13,g14]);clear h;rw[hP]at hm;simp[go_sem,Act.eval,e0,e1,-Array.getD_eq_getD_getElem?]at hm) fun a hs'=>?_
  replace hs:=hs'
  clear hs'
  refine path_region_end hH ?_
  refine path_seq hH ?_
  refine path_cond hH (t:=true) ((hs.at_ 15).trans (by simp[upF])) ?_
  refine path_skip hH ?_
  refine path_seq hH ?_
  refine path_block hH ?_
  refine path_seq hH ?_
  refine path_region hH rfl ?_
  refine path_slot hH hs (.pointer (some ⟨Wb,w,none⟩)) rfl rfl (by decide) (fun _=>rfl) hke (fun a W' h=>by have e0:a.tmps.getD 12 undef=wslV Wb y.c:=(h 12).trans (by simp[upF,g3,g4,g12,g13,g14]);have e1:a.tmps.getD 14 undef=.int .i64 (w:Int):=(h 14).trans (by simp[upF,g3,g4,g12,g13,g14]);clear h;rw[hP];go_simp<;>omega) (fun a W' h e he=>by have hm:=mem_listed he;have e0:a.tmps.getD 12 undef=wslV Wb y.c:=(h 12).trans (by simp[upF,g3,g4,g12,g13,g14]);have e1:a.tmps.getD 14 undef=.int .i64 (w:Int):=(h 14).trans (by simp[upF,g3,g4,g12,g13,g14]);clear h;rw[hP]at hm;simp[go_sem,Act.eval,e0,e1,-Array.getD_eq_getD_getElem?]at hm;rw[events_indexAt_slice _ _ _ _ _ _ elW ⟨by omega,hlt'⟩]at hm;simp at hm) fun a hs'=>?_
  replace hs:=hs'
  clear hs'
  have hcw:W.cell? ⟨Wb,w,none⟩=some (.pointer (some ⟨y.S w,0,none⟩)):=by obtain ⟨z,hz⟩:=M.row;rw[Joins.cell_of_block hz];exact Rng.wkV_at hlt
  refine path_slot_read hH hs (ad:=⟨Wb,w,none⟩) (.inr (.inl rfl)) (hcw) rfl rfl (by decide) (fun _=>rfl) hke (fun a W' h hc=>by have e0:a.tmps.getD 16 undef=.pointer (some ⟨Wb,w,none⟩):=(h 16).trans (by simp[upF,g3,g4,g12,g13,g14]);clear h;rw[hP];go_simp) (fun a W' h hc e he=>by have hm:=mem_listed he;have e0:a.tmps.getD 16 undef=.pointer (some ⟨Wb,w,none⟩):=(h 16).trans (by simp[upF,g3,g4,g12,g13,g14]);clear h;rw[hP]at hm;simp[go_sem,Act.eval,e0,hc,-Array.getD_eq_getD_getElem?]at hm;exact hm) fun a hs'=>?_
  replace hs:=hs'
  clear hs'
  refine path_slot_make hH hs (fun B=>.pointer (some ⟨B,0,none⟩)) (.cells #[.pointer none] 51) rfl rfl (by decide) (fun _=>rfl) hke (fun a W' h hx=>by clear h;rw[hP];go_simp) (fun a W' h e he=>by have hm:=mem_listed he;clear h;rw[hP]at hm;simp[go_sem,Act.eval,-Array.getD_eq_getD_getElem?]at hm) fun W1 a hx1 hs'=>?_
  replace hs:=hs'
  clear hs'
  replace M:=M.ext A hx1 fun _ q=>q
  replace hH:=M.here
  clear hx1 hcw
  obtain ⟨Xb,hXb⟩:=gM (W1.heap.size)
  have hXk:∀B,y.kM Wb k0 w B→B<Xb:=fun B q=>by rw[hXb];exact hH.knl B q
  have hXc:(W1.alloc (.cells #[.pointer none] 51)).heap[Xb]?=some (.cells #[.pointer none] 51 (0,0)):=by rw[hXb];exact heap_alloc_new _ _
  replace M:y.Mn Wb k0 (W1.alloc (.cells #[.pointer none] 51)) w:=M.keep A (by simp) fun B q=>heap_alloc_old _ _ (hH.knl B q)
  rw[←hXb]at hs ⊢
  generalize W1.alloc (.cells #[.pointer none] 51)=W2 at M hXc ⊢
  clear hH hXb
  have hH:Here W2 (orP (y.kM Wb k0 w) (fun B=>B=Xb)) (orP (y.oM w) (fun B=>B=Xb)):=⟨fun B q=>q.elim (M.here.knl B) (fun q=>by rw[q];exact lt_of_some hXc),fun B q=>q.imp (M.here.owk B) id⟩
  refine path_set hH hs ⟨Xb,0,none⟩ (.pointer (some ⟨y.S w,0,none⟩)) (.inr rfl) rfl rfl (fun _=>rfl) hke (fun a W' h hx=>by have e0:a.tmps.getD 6 undef=.pointer (some ⟨Xb,0,none⟩):=(h 6).trans (by simp[upF,g3,g4,g12,g13,g14]);have e1:a.tmps.getD 17 undef=.pointer (some ⟨y.S w,0,none⟩):=(h 17).trans (by simp[upF,g3,g4,g12,g13,g14]);have hq:=hx.keep Xb (.inr rfl) (lt_of_some hXc);rw[hXc]at hq;have hc:=Joins.cell_of_block (i:=0) hq;have hf:W'.frozen? ⟨Xb,0,none⟩=false:=(by simp[World.frozen?,hq]);clear h;rw[hP];go_simp) (fun a W' h hx e he=>by have hm:=mem_listed he;have e0:a.tmps.getD 6 undef=.pointer (some ⟨Xb,0,none⟩):=(h 6).trans (by simp[upF,g3,g4,g12,g13,g14]);have e1:a.tmps.getD 17 undef=.pointer (some ⟨y.S w,0,none⟩):=(h 17).trans (by simp[upF,g3,g4,g12,g13,g14]);have hq:=hx.keep Xb (.inr rfl) (lt_of_some hXc);rw[hXc]at hq;have hc:=Joins.cell_of_block (i:=0) hq;have hf:W'.frozen? ⟨Xb,0,none⟩=false:=(by simp[World.frozen?,hq]);clear h;rw[hP]at hm;simp[go_sem,Act.eval,e0,e1,-Array.getD_eq_getD_getElem?]at hm;rw[events_store (hv:=rfl)]at hm;simp[hc,hf]at hm;exact hm) fun W3 hx=>?_
  have hXc3:W3.heap[Xb]?=some (.cells #[.pointer none] 51 (0,0)):=(hx.keep Xb (.inr rfl) (lt_of_some hXc)).trans hXc
  have hXc4:=Joins.block_setCell (i:=0) hXc3 (.pointer (some ⟨y.S w,0,none⟩))
  have M3:=M.ext A hx fun _ q=>.inl q
  have M4:y.Mn Wb k0 (W3.setCell ⟨Xb,0,none⟩ (.pointer (some ⟨y.S w,0,none⟩))) w:=M3.keep A (by simp) fun B q=>Below.heap_setCell _ _ _ B (by have:=hXk B q;show B≠Xb;omega)
  have hXv:(W3.setCell ⟨Xb,0,none⟩ (.pointer (some ⟨y.S w,0,none⟩))).cell? ⟨Xb,0,none⟩=some (.pointer (some ⟨y.S w,0,none⟩)):=by rw[Joins.cell_of_block hXc4];simp
  generalize W3.setCell ⟨Xb,0,none⟩ (.pointer (some ⟨y.S w,0,none⟩))=W4 at M4 hXv ⊢
  clear hXc4 hXc3 M3 hXc hH hx M
  have M:=M4
  clear M4
  have hherX:∀{V:World},y.Mn Wb k0 V w→V.cell? ⟨Xb,0,none⟩=some (.pointer (some ⟨y.S w,0,none⟩))→Here V (orP (y.kM Wb k0 w) (fun B=>B=Xb)) (orP (y.oM w) (fun B=>B=Xb)):=fun MV hV=>⟨fun B q=>q.elim (MV.here.knl B) (fun q=>by rw[q];exact World.block_lt_of_cell? _ _ hV),fun B q=>q.imp (MV.here.owk B) id⟩
  have hcellX:∀{V V':World},Ext (orP (y.kM Wb k0 w) (fun B=>B=Xb)) V V'→V.cell? ⟨Xb,0,none⟩=some (.pointer (some ⟨y.S w,0,none⟩))→V'.cell? ⟨Xb,0,none⟩=some (.pointer (some ⟨y.S w,0,none⟩)):=fun hx hV=>by have:=hx.keep Xb (.inr rfl) (World.block_lt_of_cell? _ _ hV);unfold World.cell? at hV ⊢;rw[this];exact hV
  have hH:=hherX M hXv
  refine path_region_end hH ?_
  refine path_seq hH ?_
  refine path_region hH rfl ?_
  have e4:=(hs.at_ 4).trans (show _=.pointer (some ⟨y.Wg,0,none⟩) by simp[upF,g3,g4,g12,g13,g14])
  refine path_enter_to hH.knl (fun _ q=>q) (fun _ q=>q) hH.owk #[.pointer (some ⟨y.Wg,0,none⟩),.int .i64 1] rfl rfl hke rfl (fn:=Lib.addFn wgL) wg_lib.f_add rfl rfl (by simp[Act.eval,e4,-Array.getD_eq_getD_getElem?]) ?_
  refine ⟨fun _=>0,Path.done fun W5 hx5=>?_⟩
  refine addAt_of e fun W6 hx6=>⟨200,?_⟩
  replace hXv:=hcellX hx6 (hcellX hx5 hXv)
  replace M:=(M.ext A hx5 fun _ q=>.inl q).ext A hx6 fun _ q=>.inl q
  clear hx5 hx6 hH e4
  have hH:=hherX M hXv
  replace hs:=hs.put (d:=18) (by decide) (.tuple #[])
  refine path_region_end hH ?_
  refine path_region hH rfl ?_
  refine path_slot hH hs (.func (.func fChild) #[] #[.pointer (some ⟨y.Wg,0,none⟩),.pointer (some ⟨Xb,0,none⟩)]) rfl rfl (by decide) (fun _=>rfl) hke (fun a W' h=>by have e0:a.tmps.getD 4 undef=.pointer (some ⟨y.Wg,0,none⟩):=(h 4).trans (by simp[upF,g3,g4,g12,g13,g14]);have e1:a.tmps.getD 6 undef=.pointer (some ⟨Xb,0,none⟩):=(h 6).trans (by simp[upF,g3,g4,g12,g13,g14]);clear h;rw[hP];go_simp<;>omega) (fun a W' h e he=>by have hm:=mem_listed he;have e0:a.tmps.getD 4 undef=.pointer (some ⟨y.Wg,0,none⟩):=(h 4).trans (by simp[upF,g3,g4,g12,g13,g14]);have e1:a.tmps.getD 6 undef=.pointer (some ⟨Xb,0,none⟩):=(h 6).trans (by simp[upF,g3,g4,g12,g13,g14]);clear h;rw[hP]at hm;simp[go_sem,Act.eval,e0,e1,-Array.getD_eq_getD_getElem?]at hm) fun a hs'=>?_
  replace hs:=hs'
  clear hs'
  have e19:=(hs.at_ 19).trans (show _=.func (.func fChild) #[] #[.pointer (some ⟨y.Wg,0,none⟩),.pointer (some ⟨Xb,0,none⟩)] by simp[upF])
  refine ⟨fun _=>0,Path.done fun W7 hx7=>?_⟩
  replace hXv:=hcellX hx7 hXv
  replace M:=M.ext A hx7 fun _ q=>.inl q
  clear hx7 hH
  have hH:=hherX M hXv
  rw[eg]
  refine goAt_of eE (d:=callV y.Wg Xb) (k1:=y.kM Wb k0 (w+1)) (o1:=y.oM (w+1)) (kc:=orP (y.wkr w).k0 (fun B=>B=Xb)) (oc:=(y.wkr w).o0) rfl rfl hke rfl ?_ ?_ (Rng.split A hlt hXk) ?_ ?_
  ·simp[go_sem,Act.eval,e19,callV,-Array.getD_eq_getD_getElem?]
  ·refine Array.eq_empty_iff_forall_not_mem.2 fun e he=>?_
   have hm:=mem_listed he
   simp[go_sem,Act.eval,e19,-Array.getD_eq_getD_getElem?]at hm
  ·exact Rng.child K e hlt (M.mem w (Nat.le_refl _) hlt) (fun B q=>q.elim ((M.mem w (Nat.le_refl _) hlt).k_lt B) (fun q=>by rw[q];exact World.block_lt_of_cell? _ _ hXv)) (fun B q=>.inl (.inr (.inl q))) (fun B q=>.inl q) (fun B q=>q) (.inr rfl) hXv
  ·rw[enL,eE]
   replace M:=M.next
   clear hH
   have hH:=M.here
   refine ⟨100,?_⟩
   refine path_region_end hH ?_
   refine path_inBlock hH ?_
   refine path_region hH rfl ?_
   refine path_slot hH hs (.int .i64 ((w+1:Nat):Int)) rfl rfl (by decide) (fun _=>rfl) hke (fun a W' h=>by have e0:a.tmps.getD 14 undef=.int .i64 (w:Int):=(h 14).trans (by simp[upF,g3,g4,g12,g13,g14]);clear h;rw[hP];go_simp<;>simp[hww]) (fun a W' h e he=>by have hm:=mem_listed he;have e0:a.tmps.getD 14 undef=.int .i64 (w:Int):=(h 14).trans (by simp[upF,g3,g4,g12,g13,g14]);clear h;rw[hP]at hm;simp[go_sem,Act.eval,e0,-Array.getD_eq_getD_getElem?]at hm) fun a hs'=>?_
   replace hs:=hs'
   clear hs'
   refine path_slot hH hs (.int .i64 ((w+1:Nat):Int)) rfl rfl (by decide) (fun _=>rfl) hke (fun a W' h=>by have e0:a.tmps.getD 20 undef=.int .i64 ((w+1:Nat):Int):=(h 20).trans (by simp[upF,g3,g4,g12,g13,g14]);clear h;rw[hP];go_simp<;>omega) (fun a W' h e he=>by have hm:=mem_listed he;have e0:a.tmps.getD 20 undef=.int .i64 ((w+1:Nat):Int):=(h 20).trans (by simp[upF,g3,g4,g12,g13,g14]);clear h;rw[hP]at hm;simp[go_sem,Act.eval,e0,-Array.getD_eq_getD_getElem?]at hm) fun a hs'=>?_
   replace hs:=hs'
   clear hs'
   refine path_region_end hH ?_
   refine path_inLoop hH ?_
   obtain ⟨g',hs,h3,h4,h12,h13,h14⟩:∃f,Slots a 40 f∧f 3=wslV Wb y.c∧f 4=.pointer (some ⟨y.Wg,0,none⟩)∧f 12=wslV Wb y.c∧f 13=.int .i64 (y.c:Int)∧f 14=.int .i64 ((w+1:Nat):Int):=⟨_,hs,by simp[upF,g3,g4,g12,g13,g14],by simp[upF,g3,g4,g12,g13,g14],by simp[upF,g3,g4,g12,g13,g14],by simp[upF,g3,g4,g12,g13,g14],by simp[upF,g3,g4,g12,g13,g14]⟩
   refine Path.up (N:=60) (by decide) ?_
   exact ih _ _ _ _ (by omega) M hs h3 h4 h12 h13 h14
end
end Go.Proofs.Ytniloklglpchfai
