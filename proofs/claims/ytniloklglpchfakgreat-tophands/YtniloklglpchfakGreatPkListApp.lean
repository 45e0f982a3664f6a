/- A list of one's own, grown by another list, whatever that is: as a law for the walk; a list without its first. No program in sight. -/
import Derived.Test.YtniloklglpchfakGreatPkLBox
import Derived.Laws.OwnMore
import Derived.Test.YtniloklglpchfakGreatPkHdN
import Derived.Test.YtniloklglpchfakGreatPkHdT
import Derived.Test.YtniloklglpchfakGreatPkTrFact
import Derived.Deep.RegionHeld3
import Derived.Deep.CutRange
import Derived.Test.YtniloklglpchfakGreatStpD
import Derived.Test.YtniloklglpchfakGreatRows
import Derived.Test.YtniloklglpchfakGreatPkLvOf
namespace Go.Proofs.YtniloklglpchfakGreat
open Go.RowKit
theorem addr_adds(b off j:Nat):(⟨b,off,none⟩:Addr).add j=⟨b,off+j,none⟩:=by unfold Addr.add;split<;>simp_all
section
variable {P:Program} {w:World}
theorem run_append_none0(base:Nat)(t ty e:TypeId)(i:TypeInfo)(size:Nat)(ht:P.underlying t=some (.slice e))(hi:P.info? e=some i)
  (v:Value) (n:Nat) (xs:List Value) (hown:w.ownsRow base e size v n xs) (c:Nat):(Builtin.append_ #[t,t] ty #[v,.slice none 0 c]).run P w=.ok v w:=by
 rcases hown.2 with ⟨rfl,rfl⟩|⟨g,cap,cur,rfl,_,_,hnc,_⟩
 ·simp[Builtin.append_,run_underlying ht,sizeOf,typeInfo,hi,Builtin.lenOf,Builtin.firstCells]
 ·simp[Builtin.append_,run_underlying ht,sizeOf,typeInfo,hi,Builtin.lenOf,Builtin.firstCells,hnc,storeCells]
theorem reads_cells{w0:World}{b off:Nat}{sn:List (Int⊕List Int)}(h:∀(j:Nat) p,sn[j]?=some p→∃u,w0.cell? ⟨b,off+j,none⟩=some u∧P_ w0 (fun _=>False) p u):
  ∃news:List Value,news.length=sn.length∧∀(j:Nat) p,sn[j]?=some p→∃u,news[j]?=some u∧w0.cell? ⟨b,off+j,none⟩=some u∧P_ w0 (fun _=>False) p u:=by
 refine ⟨(List.range sn.length).map (fun j=>(w0.cell? ⟨b,off+j,none⟩).getD .nilIface),by simp,fun j p hp=>?_⟩
 obtain ⟨u,hu,hp'⟩:=h j p hp
 have hj:j<sn.length:=by
  rcases Nat.lt_or_ge j sn.length with h|h
  ·exact h
  ·rw[List.getElem?_eq_none h]at hp;cases hp
 exact ⟨u,by simp[hj,hu],hu,hp'⟩
theorem part_back{w0 w':World}{p:Int⊕List Int}{u:Value}(h:P_ w0 (fun _=>False) p u)(hb:Below w0.heap.size w0 w'){G:Nat→Prop}(hG:∀b,G b→w0.heap.size≤b):P_ w' G p u:=by
 cases p with
 |inl x=>exact h
 |inr zs=>exact part_old h.1 hb hG
theorem wpList_append_list{ops:Array Oper}{rest:List Oper}{o:Oper}{a:Act}{Q:Exit→Act→World→Prop}(hgd:o.guard=none)(s x:Operand)(t:TypeId)
  (ho:o.op=.call { callee:=.builtin .append,args:=#[s,x],argTypes:=#[t,t] })
  (base:Nat) (e:TypeId) (i:TypeInfo) (z:Value) (size bytes:Nat) (ht:P.underlying t=some (.slice e)) (hi:P.info? e=some i) (hz:i.zero=some z)
  (hsize:i.size=size) (hby:i.bytes=bytes) (hzs:z.cells.size=size) (hsz:0<size)
  (v:Value) (n:Nat) (sp:List (Int⊕List Int)) (hs:a.eval s=v) (hown:Owns base base w e size v n sp)
  (xv:Value) (m:Nat) (sn:List (Int⊕List Int)) (hx:a.eval x=xv) (w0:World) (hr:Reads w0 xv m sn) (hl:sn.length=m*size) (hb:Below w0.heap.size w0 w) (h0:w0.heap.size≤base)
  (h63:n+m≤maxLen) (hbytes:(n+m)*bytes≤140737488355328) (hbase:base≤w.heap.size)
  (h:∀v' w',Owns base base w' e size v' (n+m) (sp++sn)→Below base w w'→wpList P ops Q rest (a.put o.dst v') w'):wpList P ops Q (o::rest) a w:=by
 obtain ⟨ad,cap,rfl,_,_,h4⟩:=hr
 have hlt:∀b,v.ownBlock=some b→base≤b:=fun b hb=>(hown.lt b hb).1
 have hgr:∀w',w.grownBy w' v.ownBlock→Below base w w':=fun w' hg=>(Below.refl base w).grown hg hbase (fun k e=>hlt k e)
 match ad with
 |none=>
  have hm:m=0:=h4.resolve_right (fun ⟨_,_,e,_⟩=>by cases e)
  subst hm
  obtain rfl:sn=[]:=List.eq_nil_of_length_eq_zero (by simpa using hl)
  obtain ⟨cs,h1,h2⟩:=id hown
  refine wpList_plain hgd fun K hK=>?_
  have hrun:=run_append_none0 (P:=P) (w:=w) base t o.type e i size ht hi v n cs h1 cap
  unfold Oper.wp
  simp[execOp,ho,resolve,invoke,builtin,hs,hx,hrun,Result.andThen]
  exact hK _ _ (h v w (by rw[List.append_nil];exact hown) (Below.refl _ _))
 |some ad=>
  have hcells:∃news:List Value,news.length=sn.length∧(∀j u,news[j]?=some u→w.cell? (ad.add j)=some u)∧Enc w (fun b=>v.ownBlock=some b∨(base≤b∧b<base)) sn news:=by
   rcases h4 with rfl|⟨b,off,e',hc⟩
   ·obtain rfl:sn=[]:=List.eq_nil_of_length_eq_zero (by simpa using hl)
    exact ⟨[],rfl,fun j u hu=>by simp at hu,Enc.nil _ _⟩
   ·obtain rfl:ad=⟨b,off,none⟩:=Option.some.inj e'
    obtain ⟨news,n1,n2⟩:=reads_cells hc
    refine ⟨news,n1,fun j u hu=>?_,n1,fun j p hp=>?_⟩
    ·have hj:j<sn.length:=by
      rcases Nat.lt_or_ge j news.length with h|h
      ·omega
      ·rw[List.getElem?_eq_none h]at hu;cases hu
     obtain ⟨u',hu',hc',_⟩:=n2 j _ (List.getElem?_eq_getElem hj)
     rw[hu]at hu'
     obtain rfl:=Option.some.inj hu'
     rw[addr_adds];exact c_ hb hc'
    ·obtain ⟨u,hu,_,hp'⟩:=n2 j p hp
     exact ⟨u,hu,part_back hp' hb (fun k hk=>by
      rcases hk with hk|hk
      ·have:=hlt k hk;omega
      ·omega)⟩
  obtain ⟨news,n1,n2,n3⟩:=hcells
  exact wpList_append_owns hgd s x t ho base e i z size bytes ht hi hz hsize hby hzs hsz base v n sp hs hown ad m cap news hx (by rw[n1,hl]) n2 sn n3 h63 hbytes hbase (fun v' w' hO hg _=>h v' w' hO (hgr w' hg))
end
theorem Reads.tail{w:World}{b off n cap:Nat}{α:Type}{f:α→List (Int⊕List Int)}{k:Nat}(hk:∀x,(f x).length=k){y:α}{xs:List α}(h:Reads w (.slice (some ⟨b,off,none⟩) (n+1) cap) (n+1) ((y::xs).flatMap f)):Reads w (.slice (some ⟨b,off+k,none⟩) n (cap - 1)) n (xs.flatMap f):=by
 obtain ⟨a,c,e,h2,h3,h4⟩:=h
 injection e with e1 _ e3
 subst e1 e3
 refine ⟨_,_,rfl,by omega,by omega,.inr ⟨b,off+k,rfl,fun j p hp=>?_⟩⟩
 obtain ⟨b',off',e',hc⟩:=h4.resolve_left (by omega)
 have e2:=Option.some.inj e'
 injection e2 with e5 e6 _
 subst e5 e6
 obtain ⟨u,hu,hp'⟩:=hc (k+j) p (by rw[List.flatMap_cons,List.getElem?_append_right (by rw[hk];omega),hk,Nat.add_sub_cancel_left];exact hp)
 exact ⟨u,by rw[Nat.add_assoc];exact hu,hp'⟩
theorem hz_len:∀(ds:List (Mx×Mx)),(ds.flatMap gdS).length=ds.length*6
 |[]=>rfl
 |d::ds=>by rw[List.flatMap_cons,List.length_append,hz_len ds,List.length_cons,show (gdS d).length=6 from rfl];omega
theorem hz_reads{w:World}{v:Value}{ds:List (Mx×Mx)}{n:Nat}(hn:ds.length=n)(h:D_ w v ds):Reads w v n (ds.flatMap gdS):=by subst hn;exact h
theorem hz_app{lo base:Nat}{w:World}{v:Value}{a b:List (Mx×Mx)}{n m:Nat}(hn:a.length=n)(hm:b.length=m)(h:Owns lo base w 109 6 v (n+m) (a.flatMap gdS++b.flatMap gdS)):D_ w v (a++b):=by
 subst hn hm
 have h':=h.reads
 show Reads _ _ (a++b).length ((a++b).flatMap gdS)
 rw[List.length_append,List.flatMap_append];exact h'
set_option maxHeartbeats 32000000 in
set_option maxRecDepth 100000 in
theorem behind{u0 u1 u2 u3 u5 u7 u8 u9 u10 u12 u13 u14 u17 u18 u19 u20 u21 u22 u23 u24 u25 u26 u28 u29 u30 u33 u34 u35 u36 u37 u38 u39 u40 u41 u42 u43 u44 u45 u46 u47 u48 u49 u50 u51 u52 u53 u54 u55 u56 u57 u58 u59 u60 u61 u62 u63 u64 u65 u66 u67 u68 u69 u70 u71 u72 u73 u74 u75 u76 u77 u78 u79 u80 u81 u82 u83 u84 u85 u86 u87 u88 u89 u90 u91 u92 u93 u94 u95 u96 u97 u98 u99 u100 u101 u102 u103 u104 u105 u106 u107 u108 u109 u110 u111 u112 u113 u114 u115 u116 u117 u118 u119 u120 u121 u122 u123 u124 u125 u126 u127 u128 u129 u130 u131 u132 u133 u134 u135 u136 u137 u138 u139 u140 u141 u142 u143 u144 u145 u146 u147 u148 u149 u150 u151 u152 u153 u154 u155 u156 u157 u158 u159 u160 u161 u162 u163 u164 u165 u166 u167 u168 u169 u170 u171 u172 u173 u174 u175 u176 u177 u178 u179 u180 u181 u182 u183 u184 u185 u186 u187 u188 u189 u190 u191 u192 u193 u194 u195 u196 u197 u198 u199 u200 u201 u202 u203 u204 u205 u206 u207 u208 u209 u210 u211 u212 u213 u214 u215 u216 u217 u218 u219 u220 u221 u222 u223 u224 u225 u226 u227 u228 u229 u230 u231 u232 u233 u234 u235 u236 u237 u238 u239 u240 u241 u242 u243 u244 u245 u246 u247 u248 u249 u250 u251 u252 u253 u254 u255 u256 u257 u258 u259 u260 u261 u262 u263 u264 u265 u266 u267 u268 u269 u270 u271 u272 u273 u274 u275 u276 u277 u278 u279 u280 u281 u282 u283 u284 u285 u286 u287 u288 u289 u290 u291 u292 u293 u294 u295 u296 u297 u298 u299 u300 u301 u302 u303 u304 u305 u306 u307 u308 u309 u310 u311 u312 u313 u314 u315 u316 u317 u318 u319 u320 u321 u322 u323 u324 u325 u326 u327 u328 u329 u330 u331 u332 u333 u334 u335 u336 u337 u338 u339 u340 u341 u342 u343 u344 u345 u346 u347 u348 u349 u350 u351 u352 u353 u354 u355 u356 u357 u358 u359 u360 u361 u362 u363 u364 u365 u366 u367 u368 u369 u370 u371 u372 u373 u374 u375 u376 u377 u378 u379 u380 u381 u382 u383 u384 u385 u386 u387 u388 u389 u390 u391 u392 u393 u394 u395 u396 u397 u398 u399 u400 u401 u402 u403 u404 u405 u406 u407 u408 u409 u410 u411 u412 u413 u414 u415 u416 u417 u418 u419 u420 u421 u422 u423 u424 u425 u426 u427 u428 u429 u430 u431 u432 u433 u434 u435 u436 u437 u438 u439 u440 u441:Value}(va xa wua wta:Option Addr)(P K J B1 C1 B0 C0 Y sb rb tb N vk M xk SN wuk SV wtk:Nat)(n le ke sm:Int)(w:World)(Q:Exit→Act→World→Prop)(D:HD)(W0:World)(r1 r0:List Nat)(n1 n0:Nat→Bool)(ls NL:List Ly)(ps NG:List (Mx×Mx))(hi:HInv D (HBk.of Y B1 C1 B0 C0) W0 w (2*P) (2*P) r1 r0 n1 n0)(hg:HGiv D P K J)(hs:WBk w sb #[.slice va N vk,.slice xa M xk,.int .i64 n] 25)(hr:WBk w rb #[.int .i64 le,.int .i64 ke] 33)(ht:WBk w tb #[.slice wua SN wuk,.slice wta SV wtk,.int .i64 (n+1)] 35)(hv:Y_ w (.slice va N vk) ls)(hp:D_ w (.slice xa M xk) ps)(hu:Y_ w (.slice wua SN wuk) NL)(hw:D_ w (.slice wta SV wtk) NG)(hn:0≤n∧n≤1000000000)(he:stE ls ps (by0 D.a D.b D.L++by1 D.a D.b D.L) le ke=0)(hdl:doL ls ps (by0 D.a D.b D.L++by1 D.a D.b D.L) le ke=NL)(hdg:doG ls ps (by0 D.a D.b D.L++by1 D.a D.b D.L) le ke=NG)(hQ:∀(v17 v50 v51 v52 v53 v393 v394 v395 v396 v397 v398 v399 v400 v401 v402 v403 v404 v405 v406 v407 v408 v409 v410 v411 v412 v413 v414 v415 v416 v417 v418 v419 v420 v421 v422 v423 v424 v425 v426 v427 v428 v429 v430 v431 v432 v433 v434 v435 v436 v437 v438 v439 v440 v441:Value) (wx:World),Below w.heap.size w wx→Q .ret { tmps:=#[u0,u1,u2,u3,.int .i64 (P:Int),u5,.pointer (some ⟨sb,0,none⟩),u7,u8,u9,u10,.pointer (some ⟨rb,0,none⟩),.bool true,u13,u14,.pointer (some ⟨tb,0,none⟩),.int .i64 sm,v17,u18,u19,u20,u21,u22,u23,u24,u25,u26,.slice (some ⟨Y,0,none⟩) 2 2,u28,u29,u30,.int .i64 sm,.slice (some ⟨Y+1+1+1+1+1+1+1+1+1+1,0,none⟩) 2 2,u33,u34,u35,u36,u37,u38,u39,u40,u41,u42,u43,u44,u45,u46,u47,u48,u49,v50,v51,v52,v53,u54,u55,u56,u57,u58,u59,u60,u61,u62,u63,u64,u65,u66,u67,u68,u69,u70,u71,u72,u73,u74,u75,u76,u77,u78,u79,u80,u81,u82,u83,u84,u85,u86,u87,u88,u89,u90,u91,u92,u93,u94,u95,u96,u97,u98,u99,u100,u101,u102,u103,u104,u105,u106,u107,u108,u109,u110,u111,u112,u113,u114,u115,u116,u117,u118,u119,u120,u121,u122,u123,u124,u125,u126,u127,u128,u129,u130,u131,u132,u133,u134,u135,u136,u137,u138,u139,u140,u141,u142,u143,u144,u145,u146,u147,u148,u149,u150,u151,u152,u153,u154,u155,u156,u157,u158,u159,u160,u161,u162,u163,u164,u165,u166,u167,u168,u169,u170,u171,u172,u173,u174,u175,u176,u177,u178,u179,u180,u181,u182,u183,u184,u185,u186,u187,u188,u189,u190,u191,u192,u193,u194,u195,u196,u197,u198,u199,u200,u201,u202,u203,u204,u205,u206,u207,u208,u209,u210,u211,u212,u213,u214,u215,u216,u217,u218,u219,u220,u221,u222,u223,u224,u225,u226,u227,u228,u229,u230,u231,u232,u233,u234,u235,u236,u237,u238,u239,u240,u241,u242,u243,u244,u245,u246,u247,u248,u249,u250,u251,u252,u253,u254,u255,u256,u257,u258,u259,u260,u261,u262,u263,u264,u265,u266,u267,u268,u269,u270,u271,u272,u273,u274,u275,u276,u277,u278,u279,u280,u281,u282,u283,u284,u285,u286,u287,u288,u289,u290,u291,u292,u293,u294,u295,u296,u297,u298,u299,u300,u301,u302,u303,u304,u305,u306,u307,u308,u309,u310,u311,u312,u313,u314,u315,u316,u317,u318,u319,u320,u321,u322,u323,u324,u325,u326,u327,u328,u329,u330,u331,u332,u333,u334,u335,u336,u337,u338,u339,u340,u341,u342,u343,u344,u345,u346,u347,u348,u349,u350,u351,u352,u353,u354,u355,u356,u357,u358,u359,u360,u361,u362,u363,u364,u365,u366,u367,u368,u369,u370,u371,u372,u373,u374,u375,u376,u377,u378,u379,u380,u381,u382,u383,u384,u385,u386,u387,u388,u389,u390,u391,u392,v393,v394,v395,v396,v397,v398,v399,v400,v401,v402,v403,v404,v405,v406,v407,v408,v409,v410,v411,v412,v413,v414,v415,v416,v417,v418,v419,v420,v421,v422,v423,v424,v425,v426,v427,v428,v429,v430,v431,v432,v433,v434,v435,v436,v437,v438,v439,v440,v441],defers:=[] } wx):Code.wp Tryz.prog (List.foldl stepC ((Tryz.f3.body).getD .skip) [1,1,1,1,1,1,1,1,1,1,1,1,1,1,1,1,1,1,1,1,1,1,1,1,1,1,1,1]) Q { tmps:=#[u0,u1,u2,u3,.int .i64 (P:Int),u5,.pointer (some ⟨sb,0,none⟩),u7,u8,u9,u10,.pointer (some ⟨rb,0,none⟩),u12,u13,u14,.pointer (some ⟨tb,0,none⟩),.int .i64 sm,u17,u18,u19,u20,u21,u22,u23,u24,u25,u26,.slice (some ⟨Y,0,none⟩) 2 2,u28,u29,u30,.int .i64 sm,.slice (some ⟨Y+1+1+1+1+1+1+1+1+1+1,0,none⟩) 2 2,u33,u34,u35,u36,u37,u38,u39,u40,u41,u42,u43,u44,u45,u46,u47,u48,u49,u50,u51,u52,u53,u54,u55,u56,u57,u58,u59,u60,u61,u62,u63,u64,u65,u66,u67,u68,u69,u70,u71,u72,u73,u74,u75,u76,u77,u78,u79,u80,u81,u82,u83,u84,u85,u86,u87,u88,u89,u90,u91,u92,u93,u94,u95,u96,u97,u98,u99,u100,u101,u102,u103,u104,u105,u106,u107,u108,u109,u110,u111,u112,u113,u114,u115,u116,u117,u118,u119,u120,u121,u122,u123,u124,u125,u126,u127,u128,u129,u130,u131,u132,u133,u134,u135,u136,u137,u138,u139,u140,u141,u142,u143,u144,u145,u146,u147,u148,u149,u150,u151,u152,u153,u154,u155,u156,u157,u158,u159,u160,u161,u162,u163,u164,u165,u166,u167,u168,u169,u170,u171,u172,u173,u174,u175,u176,u177,u178,u179,u180,u181,u182,u183,u184,u185,u186,u187,u188,u189,u190,u191,u192,u193,u194,u195,u196,u197,u198,u199,u200,u201,u202,u203,u204,u205,u206,u207,u208,u209,u210,u211,u212,u213,u214,u215,u216,u217,u218,u219,u220,u221,u222,u223,u224,u225,u226,u227,u228,u229,u230,u231,u232,u233,u234,u235,u236,u237,u238,u239,u240,u241,u242,u243,u244,u245,u246,u247,u248,u249,u250,u251,u252,u253,u254,u255,u256,u257,u258,u259,u260,u261,u262,u263,u264,u265,u266,u267,u268,u269,u270,u271,u272,u273,u274,u275,u276,u277,u278,u279,u280,u281,u282,u283,u284,u285,u286,u287,u288,u289,u290,u291,u292,u293,u294,u295,u296,u297,u298,u299,u300,u301,u302,u303,u304,u305,u306,u307,u308,u309,u310,u311,u312,u313,u314,u315,u316,u317,u318,u319,u320,u321,u322,u323,u324,u325,u326,u327,u328,u329,u330,u331,u332,u333,u334,u335,u336,u337,u338,u339,u340,u341,u342,u343,u344,u345,u346,u347,u348,u349,u350,u351,u352,u353,u354,u355,u356,u357,u358,u359,u360,u361,u362,u363,u364,u365,u366,u367,u368,u369,u370,u371,u372,u373,u374,u375,u376,u377,u378,u379,u380,u381,u382,u383,u384,u385,u386,u387,u388,u389,u390,u391,u392,u393,u394,u395,u396,u397,u398,u399,u400,u401,u402,u403,u404,u405,u406,u407,u408,u409,u410,u411,u412,u413,u414,u415,u416,u417,u418,u419,u420,u421,u422,u423,u424,u425,u426,u427,u428,u429,u430,u431,u432,u433,u434,u435,u436,u437,u438,u439,u440,u441],defers:=[] } w:=by
 have hall:=hg.all
 have hh:=hi.1
 rw[hall.1,hall.2]at hh
 obtain ⟨yv,c0,_,hy0⟩:=hh.yy.cell (m:=0) (by decide)
 obtain ⟨zv,c1,_,hz0⟩:=hh.yy.cell (m:=1) (by decide)
 have hy:=hy0.now.1 rfl
 have hz:=hz0.now.2 rfl
 have HLL:=h_ (show (by0 D.a D.b D.L).length=K∧(by1 D.a D.b D.L).length=J by
  have f0:=(hg.f0 (bks D.p0 (2*P))).len
  have f1:=(hg.f1 (bks D.p1 (2*P))).len
  rw[hall.2,hg.al]at f0
  rw[hall.1,hg.bl]at f1
  exact ⟨f0,f1⟩)
 obtain ⟨ya,yk,rfl,_,_⟩:=hy.shape
 obtain ⟨za,zk,rfl,_,_⟩:=hz.shape
 rw[HLL.out.1]at hy c0
 rw[HLL.out.2]at hz c1
 obtain ⟨xx,hxx⟩:∃x:Int,((2*P:Nat):Int)=x:=⟨_,rfl⟩
 have k0:w.cell? ⟨Y+1+1+1+1+1+1+1+1+1+1,0,none⟩=some (.int .i64 xx):=by rw[←hxx];exact hh.nxt.c (i:=0) rfl
 have k1:w.cell? ⟨Y+1+1+1+1+1+1+1+1+1+1,1,none⟩=some (.int .i64 xx):=by rw[←hxx];exact hh.nxt.c (i:=1) rfl
 have hP12:=hg.p2
 have hb:xx+xx=4*(P:Int):=by omega
 have hx0:0≤xx:=by omega
 have hx1:xx≤24:=by omega
 have hn0:=hn.1
 have hn1:=hn.2
 have HLE:=h_ (show K+J≤24 from by have:=hg.k2;have:=hg.j2;omega)
 obtain ⟨ig,hig,hz0,hz1,hz2⟩:=info_parts infoGd
 have HIG:=h_ (And.intro hig (And.intro hz0 (And.intro hz1 hz2)))
 obtain ⟨U,hU⟩:=gM (w.drew)
 have hbu:Below w.heap.size w U:=by rw[hU];exact (Below.refl _ _).drew
 have hus:U.heap.size=w.heap.size:=by rw[hU];rfl
 have HU:=h_ hU
 have HBU:=h_ hbu
 have HS:=h_ (hs.kept hbu)
 have HR:=h_ (hr.kept hbu)
 have HT:=h_ (ht.kept hbu)
 have HV:=h_ (hv.u_ hbu)
 have HP:=h_ (hp.u_ hbu)
 have HUU:=h_ (hu.u_ hbu)
 have HWW:=h_ (hw.u_ hbu)
 have HC0:U.cell? ⟨Y,0,none⟩=some (.slice ya K yk):=c_ hbu c0
 have HC1:=h_ (show U.cell? ⟨Y,1,none⟩=some (.slice za J zk) from c_ hbu c1)
 have HYR:=h_ (show Reads U (.slice ya K yk) K ((by0 D.a D.b D.L).flatMap gdS) from hz_reads HLL.out.1 (hy.u_ hbu))
 have HZR:=h_ (show Reads U (.slice za J zk) J ((by1 D.a D.b D.L).flatMap gdS) from hz_reads HLL.out.2 (hz.u_ hbu))
 have HYL:=h_ (show ((by0 D.a D.b D.L).flatMap gdS).length=K*6 by rw[hz_len,HLL.out.1])
 have HZL:=h_ (show ((by1 D.a D.b D.L).flatMap gdS).length=J*6 by rw[hz_len,HLL.out.2])
 have HON:Hid (Owns U.heap.size U.heap.size (U.alloc (.cells #[] 109)) 109 6 (.slice (some ⟨U.heap.size,0,none⟩) 0 0) 0 []):=h_ (Owns.made (cs:=[]) (Nat.le_refl _) (Nat.zero_le _) (by simp) (Enc.nil _ _))
 have HDO:=h_ (And.intro he (And.intro hdl hdg))
 have HQ:=h_ hQ
 clear hi hg hall hh hy0 hz0 hy hz c0 c1 hxx hig hz1 hz2 hs hr ht hv hp hu hw he hdl hdg hQ hn hP12 hU hbu hus
 simp only[List.foldl,stepC,Tryz.f3,Option.getD]
 refine wp_seq_k (fun K1 hK1=>?_)
 have HK1:=h_ hK1
 clear hK1
 go_wp2_with fail
 go_region
 go_wp2_with fail
 refine HK1.out _ _ ?_
 clear HK1 K1
 rw[←HU.out]
 have HC0n:=c_ (o_ U (.cells #[] 109)) HC0
 refine wp_seq_k (fun K2 hK2=>?_)
 have HK2:=h_ hK2
 clear hK2
 go_wp2_with (at_builtin;refine wpList_append_list rfl _ _ 23 rfl U.heap.size 109 ig (.agg #[.int .i64 0,.int .i64 0,.slice none 0 0,.int .i64 0,.int .i64 0,.slice none 0 0]) 6 80 Tryz.underlying23 HIG.out.1 HIG.out.2.1 HIG.out.2.2.1 HIG.out.2.2.2 rfl (by decide) _ _ _ rfl HON.out _ K _ rfl U HYR.out HYL.out (o_ _ _) (Nat.le_refl _) (by have:=HLE.out;unfold maxLen;omega) (by have:=HLE.out;omega) (by simp) ?_;intro qv pv hO hB;have HPG:Hid (Owns U.heap.size U.heap.size pv 109 6 qv K ((by0 D.a D.b D.L).flatMap gdS)):=h_ (by rw[Nat.zero_add,List.nil_append]at hO;exact hO);have HDG:=h_ ((o_ U (.cells #[] 109)).trans hB);clear hO hB)
 refine HK2.out _ _ ?_
 clear HK2 K2 HC0 HC0n
 have hc1:=c_ HDG.out HC1.out
 refine wp_seq_k (fun K3 hK3=>?_)
 have HK3:=h_ hK3
 clear hK3
 go_wp2_with (at_builtin;refine wpList_append_list rfl _ _ 23 rfl U.heap.size 109 ig (.agg #[.int .i64 0,.int .i64 0,.slice none 0 0,.int .i64 0,.int .i64 0,.slice none 0 0]) 6 80 Tryz.underlying23 HIG.out.1 HIG.out.2.1 HIG.out.2.2.1 HIG.out.2.2.2 rfl (by decide) _ _ _ rfl HPG.out _ J _ rfl U HZR.out HZL.out HDG.out (Nat.le_refl _) (by have:=HLE.out;unfold maxLen;omega) (by have:=HLE.out;omega) HDG.out.size ?_;intro rv sv hO hB;have HAL:=h_ (hz_app HLL.out.1 HLL.out.2 hO);have HBA:=h_ (HDG.out.trans hB);clear hO hB)
 refine HK3.out _ _ ?_
 clear HK3 K3 hc1
 have HST:=h_ (stepdo_any _ _ rv ls ps _ le ke sv (HV.out.u_ HBA.out) (HP.out.u_ HBA.out) HAL.out)
 rw[HDO.out.1,e_ rfl,HDO.out.2.1,HDO.out.2.2]at HST
 have s0:=(HS.out.kept HBA.out).c (i:=0) rfl
 have s1:=(HS.out.kept HBA.out).c (i:=1) rfl
 have s2:=(HR.out.kept HBA.out).c (i:=0) rfl
 have s3:=(HR.out.kept HBA.out).c (i:=1) rfl
 obtain ⟨ra,rn,rk,hrv⟩:∃a n k,rv=.slice a n k:=by obtain ⟨a,k,e,_⟩:=HAL.out.shape;exact ⟨_,_,_,e⟩
 subst hrv
 refine wp_seq_k (fun K4 hK4=>?_)
 have HK4:=h_ hK4
 clear hK4
 go_wp2_with (go_at_call 20;refine HST.out.mono ?_;rintro e u1 ⟨u,t,rfl,hou,hot,hb1⟩;have HOU:=h_ hou;have HOT:=h_ hot;have HB1:=h_ (bel_on HBA.out hb1);clear hou hot hb1)
 refine HK4.out _ _ ?_
 clear HK4 K4 s0 s1 s2 s3 HST
 have s2:=(HS.out.kept HB1.out).c (i:=2) rfl
 have t0:=(HT.out.kept HB1.out).c (i:=0) rfl
 have t1:=(HT.out.kept HB1.out).c (i:=1) rfl
 have t2:=(HT.out.kept HB1.out).c (i:=2) rfl
 have HSA:=h_ (hstates_any u t (.slice wua SN wuk) (.slice wta SV wtk) NL NG (n+1) u1 HOU.out.reads (HUU.out.u_ HB1.out) HOT.out.reads (HWW.out.u_ HB1.out))
 obtain ⟨ua,uk,hue,_,_⟩:=HOU.out.reads
 obtain ⟨ta,tk,hte,_,_⟩:=HOT.out.reads
 subst hue hte
 refine wp_seq_k (fun K5 hK5=>?_)
 have HK5:=h_ hK5
 clear hK5
 go_wp2_with (go_at_call 21;refine HSA.out.mono ?_;rintro e u2 ⟨rfl,hb2⟩;have HB2:=h_ (bel_on HBU.out (bel_on HB1.out hb2));clear hb2)
 refine HK5.out _ _ ?_
 clear HK5 K5 s2 t0 t1 t2 HSA
 go_wp2_with fail
 exact HQ.out _ _ _ _ _ _ _ _ _ _ _ _ _ _ _ _ _ _ _ _ _ _ _ _ _ _ _ _ _ _ _ _ _ _ _ _ _ _ _ _ _ _ _ _ _ _ _ _ _ _ _ _ _ _ _ HB2.out
set_option maxHeartbeats 400000 in
theorem pick_any(c n:Int)(w:World)(h0:-9223372036854775808≤c)(h1:c≤9223372036854775807)(hn:0<n)(hn1:n≤1000000):Calls Tryz.prog 9 #[.int .i64 c,.int .i64 n] w fun e w'=>∃k:Nat,e=.returned (.int .i64 (k:Int))∧(k:Int)<n∧w'=w:=by
 have hz:¬n=0:=by omega
 by_cases hc:c<0
 ·have hm0:=Int.emod_nonneg (-(c+1)) hz
  have hm1:=Int.emod_lt_of_pos (-(c+1)) hn
  have hm:(-(c+1)).tmod n=(-(c+1)) % n:=Int.tmod_eq_emod_of_nonneg (by omega)
  have HM:=h_ (And.intro hm0 (And.intro hm1 hm))
  clear hm0 hm1 hm
  go_enter Tryz.func9,Tryz.ntmps9
  go_wp2
  go_ret
  refine ⟨((-(c+1)) % n).toNat,?_,?_,rfl⟩
  ·refine i_ ?_
   have:=HM.out.1
   rw[Int.toNat_of_nonneg this,←HM.out.2.2]
   first|rfl|rw[Int.neg_tmod]
  ·have:=HM.out.1;have:=HM.out.2.1;omega
 ·have hm0:=Int.emod_nonneg c hz
  have hm1:=Int.emod_lt_of_pos c hn
  have hm:c.tmod n=c % n:=Int.tmod_eq_emod_of_nonneg (by omega)
  have HM:=h_ (And.intro hm0 (And.intro hm1 hm))
  clear hm0 hm1 hm
  go_enter Tryz.func9,Tryz.ntmps9
  go_wp2
  go_ret
  refine ⟨(c % n).toNat,?_,?_,rfl⟩
  ·refine i_ ?_
   have:=HM.out.1
   rw[Int.toNat_of_nonneg this,←HM.out.2.2]
  ·have:=HM.out.1;have:=HM.out.2.1;omega
end Go.Proofs.YtniloklglpchfakGreat
