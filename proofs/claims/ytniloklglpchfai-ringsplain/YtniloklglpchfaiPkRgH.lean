/- A worker hands on a list and takes another one. -/
import Derived.Test.YtniloklglpchfaiPkEqCe
import Derived.Test.YtniloklglpchfaiPkEqCc
import Derived.WalkSpells
import Derived.WalkLawsBesides
import Derived.Outline
import Derived.Test.YtniloklglpchfaiRows
import Derived.WalkKit
import Derived.Deep.QuietTactic
import Derived.BigQuiet
import Derived.Test.YtniloklglpchfaiPkPlain
import Derived.StillTailTactics
import Derived.Laws.AppendOwn
import Derived.Shelf.Abstract
import Derived.Laws.AppendOwnNone
import Derived.Lib.SliceRun
namespace Go.Proofs.Ytniloklglpchfai
open Go Go.RowKit Go.Conc
set_option linter.unusedSimpArgs false in
set_option maxRecDepth 100000 in
set_option maxHeartbeats 1600000 in
theorem handon_path{E:Env}(hP:E.P=Try.prog){M:Msg}(hM:M.Fast){Fin:Stand}{l:List Cm}{S to fr j:Nat}{v:Value}{W:World}{kn ow mb mo k1 o1:Nat→Prop}(hH:Here W kn ow)(hS:kn S)(h5:W.cell? ⟨S,5,none⟩=some (.chan (some to)))(h4:W.cell? ⟨S,4,none⟩=some (.chan (some fr)))
  (hm:M to j v W mb mo) (hsp:Split kn ow k1 o1 mb mo) (hS1:k1 S) (c:Frame) (cs:List Frame)
  (hp:∀W' v' mb' mo',Ext k1 W W'→M fr j v' W' mb' mo'→(∀B,mb' B→B<W'.heap.size)→(∀B,mo' B→mb' B)→(∀B,mo' B→¬k1 B)→(∀B,mb' B→¬o1 B)→∃n ρ,Path E (Run E M Fin l) n ρ (G (c.finish v') cs) W' (orP k1 mb') (orP o1 mo')):
  ∃ρ,Path E (Run E M Fin ((true,to,j)::(false,fr,j)::l)) 20 ρ (G (Frame.enter Try.prog 37 #[.pointer (some ⟨S,0,none⟩),v] .normal) (c::cs)) W kn ow:=by
 refine path_begin (m:=15) Try.func37 rfl rfl (by simp) fun A hs=>?_
 have hke:(base 37).kind≠.early:=by decide
 refine path_seq hH ?_
 refine path_region hH rfl ?_
 refine path_slot hH hs (.slice none 0 0) rfl rfl (by decide) (fun _=>rfl) hke (fun a W' h=>by clear h;rw[hP];go_simp) (fun a W' h e he=>by have hm:=mem_listed he;clear h;rw[hP]at hm;simp[go_sem,Act.eval,-Array.getD_eq_getD_getElem?]at hm) fun a hs'=>?_
 replace hs:=hs'
 clear hs'
 refine path_region_end hH ?_
 refine path_seq hH ?_
 refine path_region hH rfl ?_
 refine path_slot hH hs (.pointer (some ⟨S,0,none⟩)) rfl rfl (by decide) (fun _=>rfl) hke (fun a W' h=>by have e0:a.tmps.getD 0 undef=.pointer (some ⟨S,0,none⟩):=(h 0).trans (by simp[upF,slot0]);clear h;rw[hP];go_simp) (fun a W' h e he=>by have hm:=mem_listed he;have e0:a.tmps.getD 0 undef=.pointer (some ⟨S,0,none⟩):=(h 0).trans (by simp[upF,slot0]);clear h;rw[hP]at hm;simp[go_sem,Act.eval,e0,-Array.getD_eq_getD_getElem?]at hm) fun a hs'=>?_
 replace hs:=hs'
 clear hs'
 refine path_slot hH hs (.pointer (some ⟨S,0,none⟩)) rfl rfl (by decide) (fun _=>rfl) hke (fun a W' h=>by have e0:a.tmps.getD 5 undef=.pointer (some ⟨S,0,none⟩):=(h 5).trans (by simp[upF,slot0]);clear h;rw[hP];go_simp) (fun a W' h e he=>by have hm:=mem_listed he;have e0:a.tmps.getD 5 undef=.pointer (some ⟨S,0,none⟩):=(h 5).trans (by simp[upF,slot0]);clear h;rw[hP]at hm;simp[go_sem,Act.eval,e0,-Array.getD_eq_getD_getElem?]at hm) fun a hs'=>?_
 replace hs:=hs'
 clear hs'
 refine path_slot hH hs (.pointer (some ⟨S,5,none⟩)) rfl rfl (by decide) (fun _=>rfl) hke (fun a W' h=>by have e0:a.tmps.getD 6 undef=.pointer (some ⟨S,0,none⟩):=(h 6).trans (by simp[upF,slot0]);clear h;rw[hP];go_simp) (fun a W' h e he=>by have hm:=mem_listed he;have e0:a.tmps.getD 6 undef=.pointer (some ⟨S,0,none⟩):=(h 6).trans (by simp[upF,slot0]);clear h;rw[hP]at hm;simp[go_sem,Act.eval,e0,-Array.getD_eq_getD_getElem?]at hm) fun a hs'=>?_
 replace hs:=hs'
 clear hs'
 refine path_slot_read hH hs hS h5 rfl rfl (by decide) (fun _=>rfl) hke (fun a W' h hc=>by have e0:a.tmps.getD 7 undef=.pointer (some ⟨S,5,none⟩):=(h 7).trans (by simp[upF,slot0]);clear h;rw[hP];go_simp) (fun a W' h hc e he=>by have hm:=mem_listed he;have e0:a.tmps.getD 7 undef=.pointer (some ⟨S,5,none⟩):=(h 7).trans (by simp[upF,slot0]);clear h;rw[hP]at hm;simp[go_sem,Act.eval,e0,hc,-Array.getD_eq_getD_getElem?]at hm;exact hm) fun a hs'=>?_
 replace hs:=hs'
 clear hs'
 refine path_slot hH hs (v) rfl rfl (by decide) (fun _=>rfl) hke (fun a W' h=>by have e0:a.tmps.getD 1 undef=v:=(h 1).trans (by simp[upF,slot0]);clear h;rw[hP];go_simp) (fun a W' h e he=>by have hm:=mem_listed he;have e0:a.tmps.getD 1 undef=v:=(h 1).trans (by simp[upF,slot0]);clear h;rw[hP]at hm;simp[go_sem,Act.eval,e0,-Array.getD_eq_getD_getElem?]at hm) fun a hs'=>?_
 replace hs:=hs'
 clear hs'
 have hH1:Here W k1 o1:=⟨fun B q=>hH.knl B (hsp.a1 B q),hsp.c1⟩
 refine path_slot_send hM hs mb mo k1 o1 rfl rfl (fun _=>rfl) hke rfl (by simp[upF]) (by simp[upF]) hm hsp (n:=20) fun a hs'=>?_
 replace hs:=hs'
 clear hs'
 refine path_region_end hH1 ?_
 refine path_seq hH1 ?_
 refine path_region hH1 rfl ?_
 refine path_slot hH1 hs (.pointer (some ⟨S,0,none⟩)) rfl rfl (by decide) (fun _=>rfl) hke (fun a W' h=>by have e0:a.tmps.getD 0 undef=.pointer (some ⟨S,0,none⟩):=(h 0).trans (by simp[upF,slot0]);clear h;rw[hP];go_simp) (fun a W' h e he=>by have hm:=mem_listed he;have e0:a.tmps.getD 0 undef=.pointer (some ⟨S,0,none⟩):=(h 0).trans (by simp[upF,slot0]);clear h;rw[hP]at hm;simp[go_sem,Act.eval,e0,-Array.getD_eq_getD_getElem?]at hm) fun a hs'=>?_
 replace hs:=hs'
 clear hs'
 refine path_slot hH1 hs (.pointer (some ⟨S,0,none⟩)) rfl rfl (by decide) (fun _=>rfl) hke (fun a W' h=>by have e0:a.tmps.getD 10 undef=.pointer (some ⟨S,0,none⟩):=(h 10).trans (by simp[upF,slot0]);clear h;rw[hP];go_simp) (fun a W' h e he=>by have hm:=mem_listed he;have e0:a.tmps.getD 10 undef=.pointer (some ⟨S,0,none⟩):=(h 10).trans (by simp[upF,slot0]);clear h;rw[hP]at hm;simp[go_sem,Act.eval,e0,-Array.getD_eq_getD_getElem?]at hm) fun a hs'=>?_
 replace hs:=hs'
 clear hs'
 refine path_slot hH1 hs (.pointer (some ⟨S,4,none⟩)) rfl rfl (by decide) (fun _=>rfl) hke (fun a W' h=>by have e0:a.tmps.getD 11 undef=.pointer (some ⟨S,0,none⟩):=(h 11).trans (by simp[upF,slot0]);clear h;rw[hP];go_simp) (fun a W' h e he=>by have hm:=mem_listed he;have e0:a.tmps.getD 11 undef=.pointer (some ⟨S,0,none⟩):=(h 11).trans (by simp[upF,slot0]);clear h;rw[hP]at hm;simp[go_sem,Act.eval,e0,-Array.getD_eq_getD_getElem?]at hm) fun a hs'=>?_
 replace hs:=hs'
 clear hs'
 refine path_slot_read hH1 hs hS1 h4 rfl rfl (by decide) (fun _=>rfl) hke (fun a W' h hc=>by have e0:a.tmps.getD 12 undef=.pointer (some ⟨S,4,none⟩):=(h 12).trans (by simp[upF,slot0]);clear h;rw[hP];go_simp) (fun a W' h hc e he=>by have hm:=mem_listed he;have e0:a.tmps.getD 12 undef=.pointer (some ⟨S,4,none⟩):=(h 12).trans (by simp[upF,slot0]);clear h;rw[hP]at hm;simp[go_sem,Act.eval,e0,hc,-Array.getD_eq_getD_getElem?]at hm;exact hm) fun a hs'=>?_
 replace hs:=hs'
 clear hs'
 have e13:a.tmps.getD 13 undef=.chan (some fr):=(hs.at_ 13).trans (by simp[upF])
 refine path_recv (z:=.slice none 0 0) rfl rfl hke (fun W'=>by rw[hP];simp[go_sem,execOp,Act.eval,e13,rcase,-Array.getD_eq_getD_getElem?]) (fun W'=>by rw[hP];simp[go_sem,execOp,Act.eval,e13,-Array.getD_eq_getD_getElem?]) fun W' v' mb' mo' q1 q2 q3 q4 q5 q6=>?_
 obtain ⟨n,hq⟩:=hp W' v' mb' mo' q1 q2 q3 q4 q5 q6
 have hH2:Here W' (orP k1 mb') (orP o1 mo'):=⟨fun B q=>q.elim (fun q=>Nat.lt_of_lt_of_le (hH1.knl B q) q1.size) (q3 B),fun B q=>q.elim (fun q=>.inl (hH1.owk B q)) (fun q=>.inr (q4 B q))⟩
 replace hs:=hs.put (d:=14) (by decide) v'
 refine ⟨n+4,?_⟩
 refine path_slot hH2 hs (v') rfl rfl (by decide) (fun _=>rfl) hke (fun a W' h=>by have e0:a.tmps.getD 14 undef=v':=(h 14).trans (by simp[upF,slot0]);clear h;rw[hP];go_simp) (fun a W' h e he=>by have hm:=mem_listed he;have e0:a.tmps.getD 14 undef=v':=(h 14).trans (by simp[upF,slot0]);clear h;rw[hP]at hm;simp[go_sem,Act.eval,e0,-Array.getD_eq_getD_getElem?]at hm) fun a hs'=>?_
 replace hs:=hs'
 clear hs'
 refine path_region_end hH2 ?_
 have e4:a.tmps.getD 4 undef=v':=(hs.at_ 4).trans (by simp[upF])
 refine path_ret hH2 rfl hs.defers (by rw[hP];exact Try.func37) (fun W2=>by simp[results,Try.results37,go_sem,e4,-Array.getD_eq_getD_getElem?]) (fun W2=>by simp[results,Try.results37,go_sem,e4,-Array.getD_eq_getD_getElem?]) hq
end Go.Proofs.Ytniloklglpchfai
/- What Ints of package galleysame comes to: whether two lists of ints are the same. -/
namespace Go.Proofs.Ytniloklglpchfai
open Go.RowKit
theorem eq_at(zs ys:List Int)(hl:zs.length=ys.length)(h:∀i,i<zs.length→zs[i]?=ys[i]?):zs=ys:=by
 apply List.ext_getElem?
 intro i
 by_cases hi:i<zs.length
 ·exact h i hi
 ·rw[List.getElem?_eq_none (by omega),List.getElem?_eq_none (by omega)]
def sameI (zs ys:List Int):Bool:=decide (zs=ys)
set_option maxHeartbeats 800000 in
set_option maxRecDepth 100000 in
theorem ints_any(v u:Value)(zs ys:List Int)(w:World)(hv:I_ w v zs)(hu:I_ w u ys):Calls Try.prog 7 #[v,u] w fun e w'=>e=.returned (.bool (sameI zs ys))∧∃n,w'=w.drewN n:=by
 have hlz:=hv.len
 have hly:=hu.len
 unfold maxLen at hlz hly
 obtain ⟨a,cap,rfl,h2,h3,h4⟩:=hv
 obtain ⟨a',cap',rfl,h2',h3',h4'⟩:=hu
 by_cases hl:zs.length=ys.length
 ·have hb:((zs.length:Int) !=(ys.length:Int))=false:=by rw[hl];simp
  have HL:=h_ hl
  obtain ⟨n,hn⟩:=gN (zs.length)
  have hn':ys.length=n:=by omega
  rw[hn,hn']at hb
  rw[hn]at hlz h2 ⊢
  rw[hn']at h2' ⊢
  have HN:=h_ hn
  have HN':=h_ hn'
  clear hn hn' hl hly
  go_enter Try.func7,Try.ntmps7
  go_wp2
  go_loopw [5] (fun i wr=>∃(k q:Nat),k≤n∧i=.int .i64 k∧wr=w.drewN q∧∀j,j<k→zs[j]?=ys[j]?) (fun i _=>n - (intOf i).toNat)
  case atStart=>exact ⟨0,0,Nat.zero_le _,rfl,rfl,fun j hj=>by omega⟩
  case round=>
   obtain ⟨k,q,hk,rfl,rfl,he⟩:=hrel
   have HE:=h_ he
   clear he
   by_cases hlt:k<n
   ·obtain ⟨x,hx⟩:∃x,zs[k]?=some x:=⟨zs[k]'(by have:=HN.out;omega),List.getElem?_eq_getElem _⟩
    obtain ⟨y,hy⟩:∃y,ys[k]?=some y:=⟨ys[k]'(by have:=HN'.out;omega),List.getElem?_eq_getElem _⟩
    obtain ⟨b,off,rfl,hc⟩:∃b off,a=some ⟨b,off,none⟩∧∀i x,zs[i]?=some x→w.cell? ⟨b,off+i,none⟩=some (.int .i64 x):=h4.resolve_left (fun e=>by rw[e]at hx;simp at hx)
    obtain ⟨b',off',rfl,hc'⟩:∃b off,a'=some ⟨b,off,none⟩∧∀i x,ys[i]?=some x→w.cell? ⟨b,off+i,none⟩=some (.int .i64 x):=h4'.resolve_left (fun e=>by rw[e]at hy;simp at hy)
    have c1:=hc k x hx
    have c2:=hc' k y hy
    have HX:=h_ hx
    have HY:=h_ hy
    have hlt':(k:Int)<(n:Int):=by omega
    clear h4 h4' hc hc' hx hy
    by_cases hxy:x=y
    ·have ht:(x !=y)=false:=by simp[hxy]
     have HXY:=h_ hxy
     clear hxy
     go_wp2
     go_quiet (fail)
     go_wp2
     exact ⟨⟨k+1,_,by omega,by go_num,rfl,fun j hj=>by
      rcases Nat.lt_or_ge j k with h|h
      ·exact HE.out j h
      ·rw[show j=k by omega,HX.out,HY.out,HXY.out]⟩,by simp[intOf];omega⟩
    ·have ht:(x !=y)=true:=by simp[hxy]
     have HXY:=h_ hxy
     clear hxy
     go_wp2
     go_quiet (fail)
     go_wp2
     go_ret
     exact ⟨ret_bool (by unfold sameI;rw[eq_comm,decide_eq_false_iff_not];exact fun e=>HXY.out (Option.some.inj (by rw[←HX.out,←HY.out,e]))),_,World.drewN_drewN _ _ _⟩
   ·go_wp2
    go_ret
    exact ⟨ret_bool (by unfold sameI;rw[eq_comm,decide_eq_true_iff];exact eq_at zs ys HL.out (fun i hi=>HE.out i (by have:=HN.out;omega))),_,rfl⟩
 ·have hb:((zs.length:Int) !=(ys.length:Int))=true:=by rw[bne_iff_ne];omega
  go_enter Try.func7,Try.ntmps7
  go_wp2
  go_ret
  exact ⟨ret_bool (by unfold sameI;rw[eq_comm,decide_eq_false_iff_not];exact fun e=>hl (by rw[e])),0,rfl⟩
theorem infoInt:(Try.prog.info? 3).map (fun i=>(i.zero,i.size,i.bytes))=some (some (.int .i64 0),1,8):=by kernel_rfl
def zeros (n:Nat):Array Value:=madeCells #[.int .i64 0] n
theorem run_mk(L:Int)(n:Nat)(hL:L=(n:Int))(hn:n≤82944)(W:World):(Instr.makeSlice 27 (.int .i64 L) (.int .i64 L)).run Try.prog W=.ok (.slice (some ⟨W.heap.size,0,none⟩) n n) (W.alloc (.cells (zeros n) 3)):=by
 obtain ⟨i0,hi,hz0,hz1,hz2⟩:=info_parts infoInt
 subst hL
 have hr:=run_make (P:=Try.prog) W 27 3 i0 (.int .i64 0) Try.underlying27 hi hz0 .i64 .i64 (n:Int) (n:Int) (by omega) (Int.le_refl _) (by rw[hz2];omega) (by omega)
 simpa [zeros,hz1,Value.cells] using hr
def OwnZ (w:World) (base:Nat) (v:Value) (zs:List Int):Prop:=w.ownsRow base 3 1 v zs.length (zs.map (Value.int .i64))
theorem OwnZ.nil(w:World)(base:Nat):OwnZ w base (.slice none 0 0) []:=World.ownsRow_nil _ _ _ _
theorem OwnZ.alloc{w:World}{base:Nat}{v:Value}{zs:List Int}(h:OwnZ w base v zs)(o:Obj):OwnZ (w.alloc o) base v zs:=World.ownsRow.alloc h o
theorem OwnZ.isInts{w:World}{base:Nat}{v:Value}{zs:List Int}(h:OwnZ w base v zs):I_ w v zs:=by
 have hc:=fun g e=>World.ownsRow.cells h (g:=g) e
 obtain ⟨h1,h2⟩:=h
 rcases h2 with ⟨rfl,e⟩|⟨g,cap,cur,rfl,_,_,h3,h4,_,_⟩
 ·obtain rfl:zs=[]:=List.eq_nil_of_length_eq_zero e
  exact I_.nil w
 ·refine ⟨some ⟨g,0,none⟩,cap,rfl,h3,h4,.inr ⟨g,0,rfl,fun i x hx=>?_⟩⟩
  have:=hc g rfl i (.int .i64 x) (by simp[hx])
  rw[Addr.add_lit]at this;exact this
theorem OwnZ.shape{w:World}{base:Nat}{v:Value}{zs:List Int}(h:OwnZ w base v zs):∃a k,v=.slice a zs.length k:=by
 obtain ⟨a,cap,h1,_⟩:=h.isInts;exact ⟨a,cap,h1⟩
end Go.Proofs.Ytniloklglpchfai
/- slices.Clone of a list of ints: a list of one's own that holds the same. -/
namespace Go.Proofs.Ytniloklglpchfai
open Go Go.RowKit
theorem OwnZ.lit0(w:World):OwnZ (w.alloc (.cells #[] 3)) w.heap.size (.slice (some ⟨w.heap.size,0,none⟩) 0 0) []:=
 ⟨by simp,.inr ⟨w.heap.size,0,#[],rfl,Nat.le_refl _,heap_alloc_new w _,Nat.le_refl _,by unfold maxLen;omega,by simp,by simp⟩⟩
def AllI (w:World) (v:Value):Prop:=∀(x:Addr) (n k:Nat) cs e z,v=.slice (some x) n k→w.heap[x.block]?=some (.cells cs e z)→∀u∈cs.toList,∃q,u=Value.int .i64 q
theorem AllI.nil(w:World)(n k:Nat):AllI w (.slice none n k):=fun _ _ _ _ _ _ h=>by simp at h
theorem AllI.block{w w':World}{v:Value}(h:AllI w v)(hb:∀(x:Addr) n k,v=.slice (some x) n k→w'.heap[x.block]?=w.heap[x.block]?):AllI w' v:=
 fun x n k cs e z hv hw=>h x n k cs e z hv ((hb x n k hv)▸hw)
theorem AllI.of{w:World}{b o n k:Nat}{cs:Array Value}{e:TypeId}{z:Nat×Nat}(hw:w.heap[b]?=some (.cells cs e z))(h:∀u∈cs.toList,∃q,u=Value.int .i64 q):AllI w (.slice (some ⟨b,o,none⟩) n k):=by
 intro x n' k' cs' e' z' hv hw'
 obtain ⟨rfl,-,-⟩:(⟨b,o,none⟩:Addr)=x∧_∧_:=by simpa using hv
 have hw':w.heap[b]?=some (.cells cs' e' z'):=hw'
 rw[hw]at hw'
 obtain ⟨rfl,-,-⟩:cs=cs'∧_∧_:=by simpa using hw'
 exact h
theorem zeros_int(m:Nat):∀u∈(Builtin.zeroCells (Value.int .i64 0).cells m).toList,∃q,u=Value.int .i64 q:=by
 intro u hu
 simp only[Builtin.zeroCells,Array.toList_map,List.mem_map]at hu
 obtain ⟨i,-,rfl⟩:=hu
 refine ⟨0,?_⟩
 have:(Value.int .i64 0).cells=#[Value.int .i64 0]:=rfl
 rw[this]
 simp[Nat.mod_one]
theorem run_append_int(w:World)(base:Nat)(ty:TypeId)(v:Value)(ys zs:List Int)(hown:OwnZ w base v ys)(hall:AllI w v)(ad:Addr)(c:Nat)(hnews:∀(j:Nat) (u:Value),(zs.map (Value.int .i64))[j]?=some u→w.cell? (ad.add j)=some u)
  (hsm:ys.length+zs.length≤17592186044416) (hbase:base≤w.heap.size):
  ∃v' w',(Builtin.append_ #[27,27] ty #[v,.slice (some ad) zs.length c]).run Try.prog w=.ok v' w'∧OwnZ w' base v' (ys++zs)∧w.grownBy w' v.ownBlock∧AllI w' v':=by
 obtain ⟨e0,ei,hz0,hz1,hz2⟩:=info_parts infoInt
 have h1:∀u∈zs.map (Value.int .i64),u.oneCell'=true:=by
  intro u hu
  obtain ⟨y,_,rfl⟩:=List.mem_map.1 hu
  rfl
 have hz:∀u∈zs.map (Value.int .i64),∃q,u=Value.int .i64 q:=by
  intro u hu
  obtain ⟨y,_,rfl⟩:=List.mem_map.1 hu
  exact ⟨_,rfl⟩
 have hy:∀u∈ys.map (Value.int .i64),∃q,u=Value.int .i64 q:=by
  intro u hu
  obtain ⟨y,_,rfl⟩:=List.mem_map.1 hu
  exact ⟨_,rfl⟩
 have h63:ys.length+zs.length≤maxLen:=by unfold maxLen;omega
 obtain ⟨v',w',hr,h2,h3,-⟩:=run_append_own (P:=Try.prog) w base 27 ty 3 e0 (.int .i64 0) 1 8 Try.underlying27 ei hz0 hz1 hz2 rfl (by decide) v _ _ hown ad zs.length c (zs.map (Value.int .i64)) (by simp) hnews h1 h63 (by omega) hbase
 refine ⟨v',w',hr,?_,h3,?_⟩
 ·unfold OwnZ
  rw[List.length_append,List.map_append]
  exact h2
 ·have hl:(zs.map (Value.int .i64)).length=zs.length*e0.size:=by simp[hz1]
  rcases hown.2 with ⟨rfl,hn0⟩|⟨g,cap,cur,rfl,hbg,hg,hnc,hcm,hcs,htake⟩
  ·by_cases hm:zs.length=0
   ·have e:=h2.2
    rcases e with ⟨rfl,_⟩|⟨g,cap,cur,rfl,_⟩
    ·exact AllI.nil _ _ _
    ·exact absurd hr (by
      obtain rfl:zs=[]:=List.eq_nil_of_length_eq_zero hm
      simp[Builtin.append_,run_underlying Try.underlying27,sizeOf,typeInfo,ei,Builtin.lenOf,Builtin.firstCells,loadCells,loadCellsFrom])
   ·have hr2:=run_append_nil (P:=Try.prog) w 27 ty 3 e0 (.int .i64 0) Try.underlying27 ei hz0 ad zs.length c _ hl hnews (by omega) (by omega) (by rw[hz2];omega)
    rw[hr]at hr2
    injection hr2 with a1 a2
    subst a1 a2
    refine AllI.of (heap_alloc_new w.drew _) ?_
    intro u hu
    simp only[Array.toList_append,List.mem_append]at hu
    rcases hu with hu|hu
    ·exact hz u hu
    ·exact zeros_int _ u hu
  ·by_cases hroom:ys.length+zs.length≤cap
   ·have hr2:=run_append_room (P:=Try.prog) w 27 ty 3 e0 Try.underlying27 ei g ys.length cap cur hg ad zs.length c _ hl hnews h1 hroom (by rw[hz1,hcs];simp;omega)
    rw[hr]at hr2
    injection hr2 with a1 a2
    subst a1 a2
    refine AllI.of (setRow_heap w g cur _ 3 _ hg) ?_
    have hc:=hall _ _ _ _ _ _ rfl hg
    intro u hu
    simp only[List.mem_append]at hu
    rcases hu with (hu|hu)|hu
    ·exact hc u (List.mem_of_mem_take hu)
    ·exact hz u hu
    ·exact hc u (List.mem_of_mem_drop hu)
   ·have holds:=World.ownsRow.cells hown (g:=g) rfl
    have hr2:=run_append_grow (P:=Try.prog) w 27 ty 3 e0 (.int .i64 0) Try.underlying27 ei hz0 ⟨g,0,none⟩ ys.length cap _ (by simp[hz1]) holds ad zs.length c _ hl hnews (by omega) (by omega) (growslice_fits (by omega) (by rw[hz2];omega))
    rw[hr]at hr2
    injection hr2 with a1 a2
    subst a1 a2
    refine AllI.of (heap_alloc_new w.drew _) ?_
    intro u hu
    simp only[Array.toList_append,List.mem_append]at hu
    rcases hu with (hu|hu)|hu
    ·exact hy u hu
    ·exact hz u hu
    ·exact zeros_int _ u hu
theorem app_zsI{w:World}{ops:Array Oper}{rest:List Oper}{o:Oper}{a:Act}{Q:Exit→Act→World→Prop}(hgd:o.guard=none)(s x:Operand)
  (ho:o.op=.call { callee:=.builtin .append,args:=#[s,x],argTypes:=#[27,27] }) (base:Nat) (v u:Value) (ys zs:List Int) (hs:a.eval s=v) (hown:OwnZ w base v ys) (hall:AllI w v) (hx:a.eval x=u) (hu:I_ w u zs) (hn:NilOk u)
  (hsm:ys.length+zs.length≤17592186044416) (hbase:base≤w.heap.size)
  (h:∀v' w',OwnZ w' base v' (ys++zs)→AllI w' v'→(∀w0:World,Below w0.heap.size w0 w→w0.heap.size≤base→Below w0.heap.size w0 w')→wpList Try.prog ops Q rest (a.put o.dst v') w'):wpList Try.prog ops Q (o::rest) a w:=by
 obtain ⟨ad,cap,rfl,h2,h3,h4⟩:=hu
 cases ad with
 |none=>
  obtain ⟨e0,ei,hz0,hz1,hz2⟩:=info_parts infoInt
  obtain ⟨q1,q2⟩:=hn _ _ rfl
  obtain rfl:zs=[]:=List.eq_nil_of_length_eq_zero q1
  subst q2
  refine wpList_append_own_none hgd s x 27 ho base 3 e0 1 Try.underlying27 ei v _ _ hs hown hx ?_
  refine h v w (by rw[List.append_nil];exact hown) hall (fun w0 hb _=>hb)
 |some ad=>
  obtain ⟨v',w',hr,g1,g2,g3⟩:=run_append_int w base o.type v ys zs hown hall ad cap (by
   intro j u' hj
   rcases h4 with rfl|⟨b,off,e,hc⟩
   ·simp at hj
   ·obtain rfl:=Option.some.inj e
    rw[List.getElem?_map]at hj
    cases hz:zs[j]? with
    |none=>rw[hz]at hj;cases hj
    |some y=>
     rw[hz]at hj
     obtain rfl:u'=.int .i64 y:=(Option.some.inj hj).symm
     rw[Addr.add_lit]
     exact hc j y hz) hsm hbase
  refine wpList_plain hgd fun K hK=>?_
  unfold Oper.wp execOp
  simp only[ho,resolve,invoke,builtin,Sem.run_bind,Sem.run_pure,Result.andThen_ok,List.map_toArray,List.map_cons,List.map_nil,hs,hx,hr]
  exact hK _ _ (h v' w' g1 g3 fun w0 hb hle=>hb.grown g2 hb.size fun k hk=>Nat.le_trans hle (World.ownsRow.lt hown k hk).1)
theorem AllI.lit0(w:World):AllI (w.alloc (.cells #[] 3)) (.slice (some ⟨w.heap.size,0,none⟩) 0 0):=AllI.of (heap_alloc_new w _) (by simp)
set_option maxHeartbeats 4000000 in
set_option maxRecDepth 100000 in
theorem clone_int(v:Value)(zs:List Int)(w:World)(hv:I_ w v zs)(hn:NilOk v)(hl:zs.length≤17592186044416):Calls Try.prog 19 #[v] w fun e w'=>∃s,e=.returned s∧OwnZ w' w.heap.size s zs∧AllI w' s∧Below w.heap.size w w':=by
 have HV:=h_ hv
 have HNO:=h_ hn
 have HLE:=h_ hl
 obtain ⟨a,cap,rfl,_,_,_⟩:=hv
 obtain ⟨n,hnn⟩:=gN (zs.length)
 have HN:=h_ hnn
 rw[hnn]at HV HNO ⊢
 cases a with
 |none=>
  obtain ⟨q1,q2⟩:=HNO.out _ _ rfl
  subst q1 q2
  have hz:zs=[]:=List.eq_nil_of_length_eq_zero hnn
  subst hz
  have heq:=Lib.run_eql_slice_nil (P:=Try.prog) w 27 3 none 0 0 0 0 Try.underlying27
  clear hn hl hnn HN
  go_enter Try.func19,Try.ntmps19
  go_wp2
  go_ret
  exact ⟨_,rfl,OwnZ.nil _ _,AllI.nil _ _ _,Below.refl _ _⟩
 |some ad=>
  have HO:=h_ (OwnZ.lit0 w)
  have HA:=h_ (AllI.lit0 w)
  have HB:=h_ (o_ w (.cells #[] 3))
  have heq:=Lib.run_eql_slice_nil (P:=Try.prog) w 27 3 (some ad) n cap 0 0 Try.underlying27
  clear hn hl hnn
  go_enter Try.func19,Try.ntmps19
  go_wp2_with (at_builtin;refine app_zsI (w:=w.alloc (.cells #[] 3)) rfl _ _ rfl w.heap.size (.slice (some ⟨w.heap.size,0,none⟩) 0 0) (.slice (some ad) n cap) [] zs rfl HO.out HA.out rfl (HV.out.u_ HB.out) HNO.out ?h1 ?h2 ?_)
  case h1=>have:=HLE.out;simp;omega
  case h2=>exact HB.out.size
  intro v' w' ho hi hb
  have HO2:=h_ (show OwnZ w' w.heap.size v' zs from ho)
  have HI2:=h_ hi
  have HB2:=h_ (hb w HB.out (Nat.le_refl _))
  clear ho hi hb
  go_wp2
  exact bodyPost_ret (v:=v') (by simp[results,Try.results19,go_sem]) rfl ⟨_,rfl,HO2.out,HI2.out,HB2.out⟩
theorem OwnZ.row{w:World}{base:Nat}{v:Value}{zs:List Int}(h:OwnZ w base v zs)(ha:AllI w v):(v=.slice none 0 0∧zs=[])∨∃g cap,∃more:List Int,v=.slice (some ⟨g,0,none⟩) zs.length cap∧base≤g∧cap=zs.length+more.length∧w.heap[g]?=some (.cells ((zs++more).map (Value.int .i64)).toArray 3 (0,0)):=by
 rcases h.2 with ⟨rfl,h0⟩|⟨g,cap,cur,rfl,hbg,hg,hnc,hcm,hcs,htake⟩
 ·exact .inl ⟨rfl,List.eq_nil_of_length_eq_zero h0⟩
 ·have hc:=ha _ _ _ _ _ _ rfl hg
  have hd:∀l:List Value,(∀u∈l,∃q,u=Value.int .i64 q)→∃m:List Int,l=m.map (Value.int .i64):=by
   intro l
   induction l with
   |nil=>exact fun _=>⟨[],rfl⟩
   |cons u l ih=>
    intro hl
    obtain ⟨q,rfl⟩:=hl u (by simp)
    obtain ⟨m,rfl⟩:=ih fun u hu=>hl u (by simp[hu])
    exact ⟨q::m,rfl⟩
  obtain ⟨m,hm⟩:=hd (cur.toList.drop zs.length) fun u hu=>hc u (List.mem_of_mem_drop hu)
  have hcur:cur.toList=(zs++m).map (Value.int .i64):=by
   rw[List.map_append,←hm,←htake,Nat.mul_one,List.take_append_drop]
  have hlen:=congrArg List.length hcur
  simp at hlen
  refine .inr ⟨g,cap,m,rfl,hbg,by omega,?_⟩
  rw[hg,←hcur]
end Go.Proofs.Ytniloklglpchfai
