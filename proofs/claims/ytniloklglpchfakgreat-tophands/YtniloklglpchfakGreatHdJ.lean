/- What came is taken out of a box, all of it. -/
import Derived.Test.YtniloklglpchfakGreatPkHdN
import Derived.Test.YtniloklglpchfakGreatPkHdT
import Derived.Test.YtniloklglpchfakGreatPkTrFact
import Derived.Deep.RegionHeld3
import Derived.Deep.CutRange
namespace Go.Proofs.YtniloklglpchfakGreat
open Go.RowKit
theorem kq_drew{X:Nat→Prop}{w u:World}(h:Kept X w u):Kept X w u.drew:=h.trans (Kept.of (X:=fun _=>False) ((Below.refl _ _).drew)) (fun _ _ q=>q.elim)
def chLen (w:World) (C:Nat):Nat:=match w.heap[C]? with
 |some (.chan _ buf _ _ _ _)=>buf.size
 |_=>0
theorem BoxOf.len{A:Nat→Prop}{w:World}{B C:Nat}{ms:List (Int×Int×Mx)}(h:BoxOf A w B C ms):chLen w C=ms.length:=by
 obtain ⟨P,h1,_⟩:=h
 obtain ⟨buf,s,r,h2,h3,_⟩:=h1.ch
 unfold chLen
 rw[h2]
 exact h3
set_option maxHeartbeats 32000000 in
set_option maxRecDepth 100000 in
theorem take1{u0 u1 u2 u3 u4 u5 u6 u7 u8 u9 u10 u11 u12 u13 u14 u15 u16 u17 u18 u19 u20 u21 u22 u23 u24 u25 u26 u27 u28 u31 u32 u33 u35 u36 u38 u39 u40 u41 u42 u43 u44 u45 u46 u47 u48 u49 u50 u51 u52 u53 u54 u55 u56 u57 u58 u59 u60 u61 u62 u63 u64 u65 u66 u67 u68 u69 u70 u71 u72 u73 u74 u75 u76 u77 u78 u79 u80 u81 u82 u83 u84 u85 u86 u87 u88 u89 u90 u91 u92 u93 u94 u95 u96 u97 u98 u99 u100 u101 u102 u103 u104 u105 u106 u107 u108 u109 u110 u111 u112 u113 u114 u115 u116 u117 u118 u119 u120 u121 u122 u123 u124 u125 u126 u127 u128 u129 u130 u131 u132 u133 u134 u135 u136 u137 u138 u139 u140 u141 u142 u143 u144 u145 u146 u147 u148 u149 u150 u151 u152 u153 u154 u155 u156 u157 u158 u159 u160 u161 u162 u163 u164 u165 u166 u167 u168 u169 u170 u171 u172 u173 u174 u175 u176 u177 u178 u179 u180 u181 u182 u183 u184 u185 u186 u187 u188 u189 u190 u191 u192 u193 u194 u195 u196 u197 u198 u199 u200 u201 u202 u203 u204 u205 u206 u207 u208 u209 u210 u211 u212 u213 u214 u215 u216 u217 u218 u219 u220 u221 u222 u223 u224 u225 u226 u227 u228 u229 u230 u231 u232 u233 u234 u235 u236 u237 u238 u239 u240 u241 u242 u243 u244 u245 u246 u247 u248 u249 u250 u251 u252 u253 u254 u255 u256 u257 u258 u259 u260 u261 u262 u263 u264 u265 u266 u267 u268 u269 u270 u271 u272 u273 u274 u275 u276 u277 u278 u279 u280 u281 u282 u283 u284 u285 u286 u287 u288 u289 u290 u291 u292 u293 u294 u295 u296 u297 u298 u299 u300 u301 u302 u303 u304 u305 u306 u307 u308 u309 u310 u311 u312 u313 u314 u315 u316 u317 u318 u319 u320 u321 u322 u323 u324 u325 u326 u327 u328 u329 u330 u331 u332 u333 u334 u335 u336 u337 u338 u339 u340 u341 u342 u343 u344 u345 u346 u347 u348 u349 u350 u351 u352 u353 u354 u355 u356 u357 u358 u359 u360 u361 u362 u363 u364 u365 u366 u367 u368 u369 u370 u371 u372 u373 u374 u375 u376 u377 u378 u379 u380 u381 u382 u383 u384 u385 u386 u387 u388 u389 u390 u391 u392 u393 u394 u395 u396 u397 u398 u399 u400 u401 u402 u403 u404 u405 u406 u407 u408 u409 u410 u411 u412 u413 u414 u415 u416 u417 u418 u419 u420 u421 u422 u423 u424 u425 u426 u427 u428 u429 u430 u431 u432 u433 u434 u435 u436 u437 u438 u439 u440 u441:Value}(P B1 C1 B0 C0 Y:Nat)(w:World)(Q:Exit→Act→World→Prop)(D:HD)(W0:World)(c0 c1:Nat)(d0 d1:Nat→Prop)(y0 y1:List (Mx×Mx))(q1 q0:List Nat)(m1 m0 g0:Nat→Bool)(pv lv n0 n1:Value)(Z:Nat)(hm:HMem D (HBk.of Y B1 C1 B0 C0) W0 w c0 c1 d0 d1 y0 y1 q1 q0 m1 m0 m1 g0)(hl:HLog D c0 c1 q1 q0 m1 m0)(hf:Hold (HBk.of Y B1 C1 B0 C0).A w (HFix D (HBk.of Y B1 C1 B0 C0) pv lv n0 n1 Z))(hP:D.P=P)(hQ:∀(v38 v39 v199 v200 v201 v202 v203 v204 v205 v206 v207 v208 v209 v210 v211 v212 v213 v214 v215 v216 v217 v218 v219:Value) (f:Nat→Bool) (wx:World),HMem D (HBk.of Y B1 C1 B0 C0) W0 wx c0 c1 d0 d1 y0 y1 [] q0 f m0 f g0→HLog D c0 c1 [] q0 f m0→Q .normal { tmps:=#[u0,u1,u2,u3,u4,u5,u6,u7,u8,u9,u10,u11,u12,u13,u14,u15,u16,u17,u18,u19,u20,u21,u22,u23,u24,u25,u26,u27,u28,.pointer (some ⟨Y+1+1+1+1,0,none⟩),.pointer (some ⟨Y+1+1+1+1+1+1+1,0,none⟩),u31,u32,u33,.int .i64 1,u35,u36,.pointer (some ⟨B1,0,none⟩),v38,v39,u40,u41,u42,u43,u44,u45,u46,u47,u48,u49,u50,u51,u52,u53,u54,u55,u56,u57,u58,u59,u60,u61,u62,u63,u64,u65,u66,u67,u68,u69,u70,u71,u72,u73,u74,u75,u76,u77,u78,u79,u80,u81,u82,u83,u84,u85,u86,u87,u88,u89,u90,u91,u92,u93,u94,u95,u96,u97,u98,u99,u100,u101,u102,u103,u104,u105,u106,u107,u108,u109,u110,u111,u112,u113,u114,u115,u116,u117,u118,u119,u120,u121,u122,u123,u124,u125,u126,u127,u128,u129,u130,u131,u132,u133,u134,u135,u136,u137,u138,u139,u140,u141,u142,u143,u144,u145,u146,u147,u148,u149,u150,u151,u152,u153,u154,u155,u156,u157,u158,u159,u160,u161,u162,u163,u164,u165,u166,u167,u168,u169,u170,u171,u172,u173,u174,u175,u176,u177,u178,u179,u180,u181,u182,u183,u184,u185,u186,u187,u188,u189,u190,u191,u192,u193,u194,u195,u196,u197,u198,v199,v200,v201,v202,v203,v204,v205,v206,v207,v208,v209,v210,v211,v212,v213,v214,v215,v216,v217,v218,v219,u220,u221,u222,u223,u224,u225,u226,u227,u228,u229,u230,u231,u232,u233,u234,u235,u236,u237,u238,u239,u240,u241,u242,u243,u244,u245,u246,u247,u248,u249,u250,u251,u252,u253,u254,u255,u256,u257,u258,u259,u260,u261,u262,u263,u264,u265,u266,u267,u268,u269,u270,u271,u272,u273,u274,u275,u276,u277,u278,u279,u280,u281,u282,u283,u284,u285,u286,u287,u288,u289,u290,u291,u292,u293,u294,u295,u296,u297,u298,u299,u300,u301,u302,u303,u304,u305,u306,u307,u308,u309,u310,u311,u312,u313,u314,u315,u316,u317,u318,u319,u320,u321,u322,u323,u324,u325,u326,u327,u328,u329,u330,u331,u332,u333,u334,u335,u336,u337,u338,u339,u340,u341,u342,u343,u344,u345,u346,u347,u348,u349,u350,u351,u352,u353,u354,u355,u356,u357,u358,u359,u360,u361,u362,u363,u364,u365,u366,u367,u368,u369,u370,u371,u372,u373,u374,u375,u376,u377,u378,u379,u380,u381,u382,u383,u384,u385,u386,u387,u388,u389,u390,u391,u392,u393,u394,u395,u396,u397,u398,u399,u400,u401,u402,u403,u404,u405,u406,u407,u408,u409,u410,u411,u412,u413,u414,u415,u416,u417,u418,u419,u420,u421,u422,u423,u424,u425,u426,u427,u428,u429,u430,u431,u432,u433,u434,u435,u436,u437,u438,u439,u440,u441],defers:=[] } wx):Code.wp Tryz.prog (List.foldl stepC ((Tryz.f3.body).getD .skip) [1,1,1,1,1,1,1,1,1,1,1,1,1,1,1,1,1,1,1,1,1,1,1,1,1,1,1,0,1,0,0,1,0,0,1,1,1,1,1,1,0]) Q { tmps:=#[u0,u1,u2,u3,u4,u5,u6,u7,u8,u9,u10,u11,u12,u13,u14,u15,u16,u17,u18,u19,u20,u21,u22,u23,u24,u25,u26,u27,u28,.pointer (some ⟨Y+1+1+1+1,0,none⟩),.pointer (some ⟨Y+1+1+1+1+1+1+1,0,none⟩),u31,u32,u33,.int .i64 1,u35,u36,.pointer (some ⟨B1,0,none⟩),u38,u39,u40,u41,u42,u43,u44,u45,u46,u47,u48,u49,u50,u51,u52,u53,u54,u55,u56,u57,u58,u59,u60,u61,u62,u63,u64,u65,u66,u67,u68,u69,u70,u71,u72,u73,u74,u75,u76,u77,u78,u79,u80,u81,u82,u83,u84,u85,u86,u87,u88,u89,u90,u91,u92,u93,u94,u95,u96,u97,u98,u99,u100,u101,u102,u103,u104,u105,u106,u107,u108,u109,u110,u111,u112,u113,u114,u115,u116,u117,u118,u119,u120,u121,u122,u123,u124,u125,u126,u127,u128,u129,u130,u131,u132,u133,u134,u135,u136,u137,u138,u139,u140,u141,u142,u143,u144,u145,u146,u147,u148,u149,u150,u151,u152,u153,u154,u155,u156,u157,u158,u159,u160,u161,u162,u163,u164,u165,u166,u167,u168,u169,u170,u171,u172,u173,u174,u175,u176,u177,u178,u179,u180,u181,u182,u183,u184,u185,u186,u187,u188,u189,u190,u191,u192,u193,u194,u195,u196,u197,u198,u199,u200,u201,u202,u203,u204,u205,u206,u207,u208,u209,u210,u211,u212,u213,u214,u215,u216,u217,u218,u219,u220,u221,u222,u223,u224,u225,u226,u227,u228,u229,u230,u231,u232,u233,u234,u235,u236,u237,u238,u239,u240,u241,u242,u243,u244,u245,u246,u247,u248,u249,u250,u251,u252,u253,u254,u255,u256,u257,u258,u259,u260,u261,u262,u263,u264,u265,u266,u267,u268,u269,u270,u271,u272,u273,u274,u275,u276,u277,u278,u279,u280,u281,u282,u283,u284,u285,u286,u287,u288,u289,u290,u291,u292,u293,u294,u295,u296,u297,u298,u299,u300,u301,u302,u303,u304,u305,u306,u307,u308,u309,u310,u311,u312,u313,u314,u315,u316,u317,u318,u319,u320,u321,u322,u323,u324,u325,u326,u327,u328,u329,u330,u331,u332,u333,u334,u335,u336,u337,u338,u339,u340,u341,u342,u343,u344,u345,u346,u347,u348,u349,u350,u351,u352,u353,u354,u355,u356,u357,u358,u359,u360,u361,u362,u363,u364,u365,u366,u367,u368,u369,u370,u371,u372,u373,u374,u375,u376,u377,u378,u379,u380,u381,u382,u383,u384,u385,u386,u387,u388,u389,u390,u391,u392,u393,u394,u395,u396,u397,u398,u399,u400,u401,u402,u403,u404,u405,u406,u407,u408,u409,u410,u411,u412,u413,u414,u415,u416,u417,u418,u419,u420,u421,u422,u423,u424,u425,u426,u427,u428,u429,u430,u431,u432,u433,u434,u435,u436,u437,u438,u439,u440,u441],defers:=[] } w:=by
 have HF:=h_ hf
 have HQ:=h_ hQ
 have HMM:=h_ (And.intro hm hl)
 have HPP:=h_ hP
 clear hm hl hf hQ hP
 simp only[List.foldl,stepC,Tryz.f3,Option.getD]
 go_wp2_with fail
 go_loopw [39] (fun _ wr=>∃(qq:List Nat) (f:Nat→Bool),HMem D (HBk.of Y B1 C1 B0 C0) W0 wr c0 c1 d0 d1 y0 y1 qq q0 f m0 f g0∧HLog D c0 c1 qq q0 f m0∧Kept (HBk.of Y B1 C1 B0 C0).A w wr) (fun _ wr=>chLen wr C1)
 case atStart=>exact ⟨q1,m1,HMM.out.1,HMM.out.2,Kept.refl _ _⟩
 case round=>
  obtain ⟨qq,f,hmr,hlr,hkr⟩:=hrel
  have HMR:=h_ hmr
  have HLR:=h_ hlr
  have HKR:=h_ hkr
  clear hmr hlr hkr
  cases qq with
  |nil=>
   have HTK:=h_ (htake_no (w:=wr) (B:=B1) (C:=C1) (A:=(HBk.of Y B1 C1 B0 C0).A) HMR.out.x1 HMR.out.lt)
   go_wp2_with (go_at_call 12;refine HTK.out.mono ?_;rintro e w1 ⟨u,en,rfl,rfl,hb,hk⟩;have HE:=h_ (HMR.out.box1 (q:=[]) hk hb);clear hb hk)
   exact HQ.out _ _ _ _ _ _ _ _ _ _ _ _ _ _ _ _ _ _ _ _ _ _ _ f _ (HE.out.u_ (o_ _ _)) HLR.out
  |cons k qq=>
   have HTK:=h_ (htake_any (w:=wr) (B:=B1) (C:=C1) (A:=(HBk.of Y B1 C1 B0 C0).A) (m:=D.ms1 k) (ms:=qq.map D.ms1) HMR.out.x1 HMR.out.lt)
   have hkP:k<P:=by rw[←HPP.out];exact HLR.out.l1.2 k (by simp)
   obtain ⟨yr,hyr⟩:=gN ((midH D.a (D.at k)).rows)
   obtain ⟨yc,hyc⟩:=gN ((midH D.a (D.at k)).cols)
   rw[show (D.ms1 k).1=1 from rfl,show (D.ms1 k).2.1=(k:Int) from rfl,show (D.ms1 k).2.2=(midH D.a (D.at k)) from rfl,hyr,hyc]at HTK
   have HYY:=h_ (And.intro hyr hyc)
   clear hyr hyc
   go_wp2_with (go_at_call 12;refine HTK.out.mono ?_;rintro e w1 ⟨s,rfl,hb,hh,hk⟩;obtain ⟨sa,sn,sk,rfl⟩:=hh.now.shape;have HT:=h_ (And.intro hb (And.intro hh hk));clear hb hh hk)
   have HAX:=h_ (show ∀b,(b=B1∨b=C1)→(HBk.of Y B1 C1 B0 C0).A b from fun b e=>by unfold HBk.A HBk.of;rcases e with rfl|rfl<;>simp)
   have HM1:=h_ (HMR.out.box1 (q:=qq) HT.out.2.2 HT.out.1)
   have HF1:=h_ ((HF.out.kept HKR.out (fun b q=>q)).kept HT.out.2.2 HAX.out)
   obtain ⟨V,hV⟩:=gM ((w1.alloc (.cells #[.int .i64 1,.int .i64 (k:Int),.int .i64 yr,.int .i64 yc,.slice sa sn sk] 63)).drew)
   have HV:=h_ hV
   have HBV:=h_ (show Below w1.heap.size w1 V by rw[hV];exact (o_ _ _).drew)
   have HBX:=h_ (show WBk V w1.heap.size #[.int .i64 1,.int .i64 (k:Int),.int .i64 yr,.int .i64 yc,.slice sa sn sk] 63 by rw[hV];exact WBk.new w1 _ _)
   have HMV:=h_ (HM1.out.u_ HBV.out)
   have HFV:=h_ (HF1.out.u_ HBV.out)
   have HSV:=h_ (HT.out.2.1.u_ HBV.out)
   have hfv:=HFV.out.now
   obtain ⟨c0',c1',c2',c3',c4'⟩:=HBX.out.c5
   have dd0:V.cell? ⟨Y+1+1+1+1,1,none⟩=some (.slice (some ⟨Y+1+1+1+1+1+1,0,none⟩) P P):=by have:=hfv.in1;rw[HPP.out]at this;exact this
   obtain ⟨o0,o1,o2,e0,e1,e2,_,ef⟩:=HMV.out.n1.cell (m:=k) (by rw[HPP.out];exact hkP)
   have e0':V.cell? ⟨Y+1+1+1+1+1+1,k*3,none⟩=some o0:=e0
   have e1':V.cell? ⟨Y+1+1+1+1+1+1,k*3+1,none⟩=some o1:=e1
   have e2':V.cell? ⟨Y+1+1+1+1+1+1,k*3+2,none⟩=some o2:=e2
   have ef0:V.frozen? ⟨Y+1+1+1+1+1+1,k*3,none⟩=false:=ef _
   have ef1:V.frozen? ⟨Y+1+1+1+1+1+1,k*3+1,none⟩=false:=ef _
   have ef2:V.frozen? ⟨Y+1+1+1+1+1+1,k*3+2,none⟩=false:=ef _
   have HM2:=h_ (HMV.out.in1 (m:=k) (by rw[HPP.out];exact hkP) (.slice sa sn sk) HSV.out (g:=upd f k) (fun j hj e=>by rw[upd_ne hj]at e;exact e))
   rw[HYY.out.1,HYY.out.2]at HM2
   obtain ⟨V2,hV2⟩:=gM ((((V.setCell ⟨Y+1+1+1+1+1+1,k*3,none⟩ (.int .i64 yr)).setCell ⟨Y+1+1+1+1+1+1,k*3+1,none⟩ (.int .i64 yc)).setCell ⟨Y+1+1+1+1+1+1,k*3+2,none⟩ (.slice sa sn sk)).drew)
   have HV2:=h_ hV2
   have HM3:=h_ (show HMem D (HBk.of Y B1 C1 B0 C0) W0 V2 c0 c1 d0 d1 y0 y1 qq q0 f m0 (upd f k) g0 by rw[hV2];exact HM2.out.drew)
   have hk2:Kept (HBk.of Y B1 C1 B0 C0).A V V2:=by rw[hV2];exact kq_drew ((keep3 V (Y+1+1+1+1+1+1) (k*3) _ _ _).mono (fun b _ e=>by rw[e];exact .inr (.inr (.inr (.inr (.inl rfl))))))
   have HF3:=h_ (HFV.out.kept hk2 (fun b q=>q))
   have hf3:=HF3.out.now
   have HBX2:=h_ (show WBk V2 w1.heap.size #[.int .i64 1,.int .i64 (k:Int),.int .i64 yr,.int .i64 yc,.slice sa sn sk] 63 from (hk2.block _ HBX.out.lt (fun q=>by have h1:=HM1.out.lt _ q;omega)).trans HBX.out)
   have x1:=HBX2.out.c (i:=1) rfl
   have x2:V2.cell? ⟨Y+1+1+1+1+1+1+1,1,none⟩=some (.slice (some ⟨Y+1+1+1+1+1+1+1+1+1,0,none⟩) P P):=by have:=hf3.cm1;rw[HPP.out]at this;exact this
   obtain ⟨o3,x3,x4,_⟩:=HM3.out.e1.cell (m:=k) (by rw[HPP.out];exact hkP)
   have x3':V2.cell? ⟨Y+1+1+1+1+1+1+1+1+1,k,none⟩=some o3:=x3
   have x4':V2.frozen? ⟨Y+1+1+1+1+1+1+1+1+1,k,none⟩=false:=x4
   have HM4:=h_ (HM3.out.came1 (m:=k) (g:=upd f k) (upd_at _ _) (fun j hj=>upd_ne hj))
   have HKK:=h_ (show Kept (HBk.of Y B1 C1 B0 C0).A w V2 from (((HKR.out.trans HT.out.2.2 (fun b _ e=>HAX.out b e)).trans (Kept.of (X:=fun _=>False) HBV.out) (fun _ _ q=>q.elim)).trans hk2 (fun b _ q=>q)))
   have HLN:=h_ (HMR.out.x1.len)
   clear hV hV2 hfv e0 e1 e2 ef hk2 hf3 x3 x4
   refine region_tail 8 (by kernel_rfl) (by kernel_rfl) ?_
   rw[←HV.out]
   simp only[List.take,List.drop]
   repeat still_step
   refine wpStill_nil ?_
   go_wp2_with fail
   refine region_tail 6 (by kernel_rfl) (by kernel_rfl) ?_
   rw[←HV2.out]
   simp only[List.take,List.drop]
   repeat still_step
   refine wpStill_nil ?_
   go_wp2_with fail
   go_roundw
   case rel=>exact ⟨qq,upd f k,HM4.out,HLR.out.take1,HKK.out.trans (Kept.set (X:=(HBk.of Y B1 C1 B0 C0).A) V2 (B:=Y+1+1+1+1+1+1+1+1+1) (.inr (.inr (.inr (.inr (.inr (.inr (.inl rfl))))))) k _) (fun b _ q=>q)⟩
   case measure=>
    have h0:chLen wr C1=_:=HLN.out
    rw[h0]
    have h1:=HM4.out.x1.len
    have h2:chLen (V2.setCell ⟨Y+1+1+1+1+1+1+1+1+1,k,none⟩ (.bool true)) C1=qq.length:=by rw[←List.length_map (f:=D.ms1)];exact h1
    simp only[List.map_cons,List.length_cons,List.length_map]
    omega
set_option maxHeartbeats 32000000 in
set_option maxRecDepth 100000 in
theorem take0{u0 u1 u2 u3 u4 u5 u6 u7 u8 u9 u10 u11 u12 u13 u14 u15 u16 u17 u18 u19 u20 u21 u22 u23 u24 u25 u26 u27 u28 u31 u32 u33 u35 u36 u38 u39 u40 u41 u42 u43 u44 u45 u46 u47 u48 u49 u50 u51 u52 u53 u54 u55 u56 u57 u58 u59 u60 u61 u62 u63 u64 u65 u66 u67 u68 u69 u70 u71 u72 u73 u74 u75 u76 u77 u78 u79 u80 u81 u82 u83 u84 u85 u86 u87 u88 u89 u90 u91 u92 u93 u94 u95 u96 u97 u98 u99 u100 u101 u102 u103 u104 u105 u106 u107 u108 u109 u110 u111 u112 u113 u114 u115 u116 u117 u118 u119 u120 u121 u122 u123 u124 u125 u126 u127 u128 u129 u130 u131 u132 u133 u134 u135 u136 u137 u138 u139 u140 u141 u142 u143 u144 u145 u146 u147 u148 u149 u150 u151 u152 u153 u154 u155 u156 u157 u158 u159 u160 u161 u162 u163 u164 u165 u166 u167 u168 u169 u170 u171 u172 u173 u174 u175 u176 u177 u178 u179 u180 u181 u182 u183 u184 u185 u186 u187 u188 u189 u190 u191 u192 u193 u194 u195 u196 u197 u198 u199 u200 u201 u202 u203 u204 u205 u206 u207 u208 u209 u210 u211 u212 u213 u214 u215 u216 u217 u218 u219 u220 u221 u222 u223 u224 u225 u226 u227 u228 u229 u230 u231 u232 u233 u234 u235 u236 u237 u238 u239 u240 u241 u242 u243 u244 u245 u246 u247 u248 u249 u250 u251 u252 u253 u254 u255 u256 u257 u258 u259 u260 u261 u262 u263 u264 u265 u266 u267 u268 u269 u270 u271 u272 u273 u274 u275 u276 u277 u278 u279 u280 u281 u282 u283 u284 u285 u286 u287 u288 u289 u290 u291 u292 u293 u294 u295 u296 u297 u298 u299 u300 u301 u302 u303 u304 u305 u306 u307 u308 u309 u310 u311 u312 u313 u314 u315 u316 u317 u318 u319 u320 u321 u322 u323 u324 u325 u326 u327 u328 u329 u330 u331 u332 u333 u334 u335 u336 u337 u338 u339 u340 u341 u342 u343 u344 u345 u346 u347 u348 u349 u350 u351 u352 u353 u354 u355 u356 u357 u358 u359 u360 u361 u362 u363 u364 u365 u366 u367 u368 u369 u370 u371 u372 u373 u374 u375 u376 u377 u378 u379 u380 u381 u382 u383 u384 u385 u386 u387 u388 u389 u390 u391 u392 u393 u394 u395 u396 u397 u398 u399 u400 u401 u402 u403 u404 u405 u406 u407 u408 u409 u410 u411 u412 u413 u414 u415 u416 u417 u418 u419 u420 u421 u422 u423 u424 u425 u426 u427 u428 u429 u430 u431 u432 u433 u434 u435 u436 u437 u438 u439 u440 u441:Value}(P B1 C1 B0 C0 Y:Nat)(w:World)(Q:Exit→Act→World→Prop)(D:HD)(W0:World)(c0 c1:Nat)(d0 d1:Nat→Prop)(y0 y1:List (Mx×Mx))(q1 q0:List Nat)(m1 m0 g1:Nat→Bool)(pv lv n0 n1:Value)(Z:Nat)(hm:HMem D (HBk.of Y B1 C1 B0 C0) W0 w c0 c1 d0 d1 y0 y1 q1 q0 m1 m0 g1 m0)(hl:HLog D c0 c1 q1 q0 m1 m0)(hf:Hold (HBk.of Y B1 C1 B0 C0).A w (HFix D (HBk.of Y B1 C1 B0 C0) pv lv n0 n1 Z))(hP:D.P=P)(hQ:∀(v38 v39 v199 v200 v201 v202 v203 v204 v205 v206 v207 v208 v209 v210 v211 v212 v213 v214 v215 v216 v217 v218 v219:Value) (f:Nat→Bool) (wx:World),HMem D (HBk.of Y B1 C1 B0 C0) W0 wx c0 c1 d0 d1 y0 y1 q1 [] m1 f g1 f→HLog D c0 c1 q1 [] m1 f→Q .normal { tmps:=#[u0,u1,u2,u3,u4,u5,u6,u7,u8,u9,u10,u11,u12,u13,u14,u15,u16,u17,u18,u19,u20,u21,u22,u23,u24,u25,u26,u27,u28,.pointer (some ⟨Y+1+1+1+1,0,none⟩),.pointer (some ⟨Y+1+1+1+1+1+1+1,0,none⟩),u31,u32,u33,.int .i64 0,u35,u36,.pointer (some ⟨B0,0,none⟩),v38,v39,u40,u41,u42,u43,u44,u45,u46,u47,u48,u49,u50,u51,u52,u53,u54,u55,u56,u57,u58,u59,u60,u61,u62,u63,u64,u65,u66,u67,u68,u69,u70,u71,u72,u73,u74,u75,u76,u77,u78,u79,u80,u81,u82,u83,u84,u85,u86,u87,u88,u89,u90,u91,u92,u93,u94,u95,u96,u97,u98,u99,u100,u101,u102,u103,u104,u105,u106,u107,u108,u109,u110,u111,u112,u113,u114,u115,u116,u117,u118,u119,u120,u121,u122,u123,u124,u125,u126,u127,u128,u129,u130,u131,u132,u133,u134,u135,u136,u137,u138,u139,u140,u141,u142,u143,u144,u145,u146,u147,u148,u149,u150,u151,u152,u153,u154,u155,u156,u157,u158,u159,u160,u161,u162,u163,u164,u165,u166,u167,u168,u169,u170,u171,u172,u173,u174,u175,u176,u177,u178,u179,u180,u181,u182,u183,u184,u185,u186,u187,u188,u189,u190,u191,u192,u193,u194,u195,u196,u197,u198,v199,v200,v201,v202,v203,v204,v205,v206,v207,v208,v209,v210,v211,v212,v213,v214,v215,v216,v217,v218,v219,u220,u221,u222,u223,u224,u225,u226,u227,u228,u229,u230,u231,u232,u233,u234,u235,u236,u237,u238,u239,u240,u241,u242,u243,u244,u245,u246,u247,u248,u249,u250,u251,u252,u253,u254,u255,u256,u257,u258,u259,u260,u261,u262,u263,u264,u265,u266,u267,u268,u269,u270,u271,u272,u273,u274,u275,u276,u277,u278,u279,u280,u281,u282,u283,u284,u285,u286,u287,u288,u289,u290,u291,u292,u293,u294,u295,u296,u297,u298,u299,u300,u301,u302,u303,u304,u305,u306,u307,u308,u309,u310,u311,u312,u313,u314,u315,u316,u317,u318,u319,u320,u321,u322,u323,u324,u325,u326,u327,u328,u329,u330,u331,u332,u333,u334,u335,u336,u337,u338,u339,u340,u341,u342,u343,u344,u345,u346,u347,u348,u349,u350,u351,u352,u353,u354,u355,u356,u357,u358,u359,u360,u361,u362,u363,u364,u365,u366,u367,u368,u369,u370,u371,u372,u373,u374,u375,u376,u377,u378,u379,u380,u381,u382,u383,u384,u385,u386,u387,u388,u389,u390,u391,u392,u393,u394,u395,u396,u397,u398,u399,u400,u401,u402,u403,u404,u405,u406,u407,u408,u409,u410,u411,u412,u413,u414,u415,u416,u417,u418,u419,u420,u421,u422,u423,u424,u425,u426,u427,u428,u429,u430,u431,u432,u433,u434,u435,u436,u437,u438,u439,u440,u441],defers:=[] } wx):Code.wp Tryz.prog (List.foldl stepC ((Tryz.f3.body).getD .skip) [1,1,1,1,1,1,1,1,1,1,1,1,1,1,1,1,1,1,1,1,1,1,1,1,1,1,1,0,1,0,0,1,0,0,1,1,1,1,1,1,0]) Q { tmps:=#[u0,u1,u2,u3,u4,u5,u6,u7,u8,u9,u10,u11,u12,u13,u14,u15,u16,u17,u18,u19,u20,u21,u22,u23,u24,u25,u26,u27,u28,.pointer (some ⟨Y+1+1+1+1,0,none⟩),.pointer (some ⟨Y+1+1+1+1+1+1+1,0,none⟩),u31,u32,u33,.int .i64 0,u35,u36,.pointer (some ⟨B0,0,none⟩),u38,u39,u40,u41,u42,u43,u44,u45,u46,u47,u48,u49,u50,u51,u52,u53,u54,u55,u56,u57,u58,u59,u60,u61,u62,u63,u64,u65,u66,u67,u68,u69,u70,u71,u72,u73,u74,u75,u76,u77,u78,u79,u80,u81,u82,u83,u84,u85,u86,u87,u88,u89,u90,u91,u92,u93,u94,u95,u96,u97,u98,u99,u100,u101,u102,u103,u104,u105,u106,u107,u108,u109,u110,u111,u112,u113,u114,u115,u116,u117,u118,u119,u120,u121,u122,u123,u124,u125,u126,u127,u128,u129,u130,u131,u132,u133,u134,u135,u136,u137,u138,u139,u140,u141,u142,u143,u144,u145,u146,u147,u148,u149,u150,u151,u152,u153,u154,u155,u156,u157,u158,u159,u160,u161,u162,u163,u164,u165,u166,u167,u168,u169,u170,u171,u172,u173,u174,u175,u176,u177,u178,u179,u180,u181,u182,u183,u184,u185,u186,u187,u188,u189,u190,u191,u192,u193,u194,u195,u196,u197,u198,u199,u200,u201,u202,u203,u204,u205,u206,u207,u208,u209,u210,u211,u212,u213,u214,u215,u216,u217,u218,u219,u220,u221,u222,u223,u224,u225,u226,u227,u228,u229,u230,u231,u232,u233,u234,u235,u236,u237,u238,u239,u240,u241,u242,u243,u244,u245,u246,u247,u248,u249,u250,u251,u252,u253,u254,u255,u256,u257,u258,u259,u260,u261,u262,u263,u264,u265,u266,u267,u268,u269,u270,u271,u272,u273,u274,u275,u276,u277,u278,u279,u280,u281,u282,u283,u284,u285,u286,u287,u288,u289,u290,u291,u292,u293,u294,u295,u296,u297,u298,u299,u300,u301,u302,u303,u304,u305,u306,u307,u308,u309,u310,u311,u312,u313,u314,u315,u316,u317,u318,u319,u320,u321,u322,u323,u324,u325,u326,u327,u328,u329,u330,u331,u332,u333,u334,u335,u336,u337,u338,u339,u340,u341,u342,u343,u344,u345,u346,u347,u348,u349,u350,u351,u352,u353,u354,u355,u356,u357,u358,u359,u360,u361,u362,u363,u364,u365,u366,u367,u368,u369,u370,u371,u372,u373,u374,u375,u376,u377,u378,u379,u380,u381,u382,u383,u384,u385,u386,u387,u388,u389,u390,u391,u392,u393,u394,u395,u396,u397,u398,u399,u400,u401,u402,u403,u404,u405,u406,u407,u408,u409,u410,u411,u412,u413,u414,u415,u416,u417,u418,u419,u420,u421,u422,u423,u424,u425,u426,u427,u428,u429,u430,u431,u432,u433,u434,u435,u436,u437,u438,u439,u440,u441],defers:=[] } w:=by
 have HF:=h_ hf
 have HQ:=h_ hQ
 have HMM:=h_ (And.intro hm hl)
 have HPP:=h_ hP
 clear hm hl hf hQ hP
 simp only[List.foldl,stepC,Tryz.f3,Option.getD]
 go_wp2_with fail
 go_loopw [39] (fun _ wr=>∃(qq:List Nat) (f:Nat→Bool),HMem D (HBk.of Y B1 C1 B0 C0) W0 wr c0 c1 d0 d1 y0 y1 q1 qq m1 f g1 f∧HLog D c0 c1 q1 qq m1 f∧Kept (HBk.of Y B1 C1 B0 C0).A w wr) (fun _ wr=>chLen wr C0)
 case atStart=>exact ⟨q0,m0,HMM.out.1,HMM.out.2,Kept.refl _ _⟩
 case round=>
  obtain ⟨qq,f,hmr,hlr,hkr⟩:=hrel
  have HMR:=h_ hmr
  have HLR:=h_ hlr
  have HKR:=h_ hkr
  clear hmr hlr hkr
  cases qq with
  |nil=>
   have HTK:=h_ (htake_no (w:=wr) (B:=B0) (C:=C0) (A:=(HBk.of Y B1 C1 B0 C0).A) HMR.out.x0 HMR.out.lt)
   go_wp2_with (go_at_call 12;refine HTK.out.mono ?_;rintro e w1 ⟨u,en,rfl,rfl,hb,hk⟩;have HE:=h_ (HMR.out.box0 (q:=[]) hk hb);clear hb hk)
   exact HQ.out _ _ _ _ _ _ _ _ _ _ _ _ _ _ _ _ _ _ _ _ _ _ _ f _ (HE.out.u_ (o_ _ _)) HLR.out
  |cons k qq=>
   have HTK:=h_ (htake_any (w:=wr) (B:=B0) (C:=C0) (A:=(HBk.of Y B1 C1 B0 C0).A) (m:=D.ms0 k) (ms:=qq.map D.ms0) HMR.out.x0 HMR.out.lt)
   have hkP:k<P:=by rw[←HPP.out];exact HLR.out.l0.2 k (by simp)
   obtain ⟨yr,hyr⟩:=gN ((bckH D.a D.b (D.at k)).rows)
   obtain ⟨yc,hyc⟩:=gN ((bckH D.a D.b (D.at k)).cols)
   rw[show (D.ms0 k).1=2 from rfl,show (D.ms0 k).2.1=(k:Int) from rfl,show (D.ms0 k).2.2=(bckH D.a D.b (D.at k)) from rfl,hyr,hyc]at HTK
   have HYY:=h_ (And.intro hyr hyc)
   clear hyr hyc
   go_wp2_with (go_at_call 12;refine HTK.out.mono ?_;rintro e w1 ⟨s,rfl,hb,hh,hk⟩;obtain ⟨sa,sn,sk,rfl⟩:=hh.now.shape;have HT:=h_ (And.intro hb (And.intro hh hk));clear hb hh hk)
   have HAX:=h_ (show ∀b,(b=B0∨b=C0)→(HBk.of Y B1 C1 B0 C0).A b from fun b e=>by unfold HBk.A HBk.of;rcases e with rfl|rfl<;>simp)
   have HM1:=h_ (HMR.out.box0 (q:=qq) HT.out.2.2 HT.out.1)
   have HF1:=h_ ((HF.out.kept HKR.out (fun b q=>q)).kept HT.out.2.2 HAX.out)
   obtain ⟨V,hV⟩:=gM ((w1.alloc (.cells #[.int .i64 2,.int .i64 (k:Int),.int .i64 yr,.int .i64 yc,.slice sa sn sk] 63)).drew)
   have HV:=h_ hV
   have HBV:=h_ (show Below w1.heap.size w1 V by rw[hV];exact (o_ _ _).drew)
   have HBX:=h_ (show WBk V w1.heap.size #[.int .i64 2,.int .i64 (k:Int),.int .i64 yr,.int .i64 yc,.slice sa sn sk] 63 by rw[hV];exact WBk.new w1 _ _)
   have HMV:=h_ (HM1.out.u_ HBV.out)
   have HFV:=h_ (HF1.out.u_ HBV.out)
   have HSV:=h_ (HT.out.2.1.u_ HBV.out)
   have hfv:=HFV.out.now
   obtain ⟨c0',c1',c2',c3',c4'⟩:=HBX.out.c5
   have dd0:V.cell? ⟨Y+1+1+1+1,0,none⟩=some (.slice (some ⟨Y+1+1+1+1+1,0,none⟩) P P):=by have:=hfv.in0;rw[HPP.out]at this;exact this
   obtain ⟨o0,o1,o2,e0,e1,e2,_,ef⟩:=HMV.out.n0.cell (m:=k) (by rw[HPP.out];exact hkP)
   have e0':V.cell? ⟨Y+1+1+1+1+1,k*3,none⟩=some o0:=e0
   have e1':V.cell? ⟨Y+1+1+1+1+1,k*3+1,none⟩=some o1:=e1
   have e2':V.cell? ⟨Y+1+1+1+1+1,k*3+2,none⟩=some o2:=e2
   have ef0:V.frozen? ⟨Y+1+1+1+1+1,k*3,none⟩=false:=ef _
   have ef1:V.frozen? ⟨Y+1+1+1+1+1,k*3+1,none⟩=false:=ef _
   have ef2:V.frozen? ⟨Y+1+1+1+1+1,k*3+2,none⟩=false:=ef _
   have HM2:=h_ (HMV.out.in0 (m:=k) (by rw[HPP.out];exact hkP) (.slice sa sn sk) HSV.out (g:=upd f k) (fun j hj e=>by rw[upd_ne hj]at e;exact e))
   rw[HYY.out.1,HYY.out.2]at HM2
   obtain ⟨V2,hV2⟩:=gM ((((V.setCell ⟨Y+1+1+1+1+1,k*3,none⟩ (.int .i64 yr)).setCell ⟨Y+1+1+1+1+1,k*3+1,none⟩ (.int .i64 yc)).setCell ⟨Y+1+1+1+1+1,k*3+2,none⟩ (.slice sa sn sk)).drew)
   have HV2:=h_ hV2
   have HM3:=h_ (show HMem D (HBk.of Y B1 C1 B0 C0) W0 V2 c0 c1 d0 d1 y0 y1 q1 qq m1 f g1 (upd f k) by rw[hV2];exact HM2.out.drew)
   have hk2:Kept (HBk.of Y B1 C1 B0 C0).A V V2:=by rw[hV2];exact kq_drew ((keep3 V (Y+1+1+1+1+1) (k*3) _ _ _).mono (fun b _ e=>by rw[e];exact .inr (.inr (.inr (.inl rfl)))))
   have HF3:=h_ (HFV.out.kept hk2 (fun b q=>q))
   have hf3:=HF3.out.now
   have HBX2:=h_ (show WBk V2 w1.heap.size #[.int .i64 2,.int .i64 (k:Int),.int .i64 yr,.int .i64 yc,.slice sa sn sk] 63 from (hk2.block _ HBX.out.lt (fun q=>by have h1:=HM1.out.lt _ q;omega)).trans HBX.out)
   have x1:=HBX2.out.c (i:=1) rfl
   have x2:V2.cell? ⟨Y+1+1+1+1+1+1+1,0,none⟩=some (.slice (some ⟨Y+1+1+1+1+1+1+1+1,0,none⟩) P P):=by have:=hf3.cm0;rw[HPP.out]at this;exact this
   obtain ⟨o3,x3,x4,_⟩:=HM3.out.e0.cell (m:=k) (by rw[HPP.out];exact hkP)
   have x3':V2.cell? ⟨Y+1+1+1+1+1+1+1+1,k,none⟩=some o3:=x3
   have x4':V2.frozen? ⟨Y+1+1+1+1+1+1+1+1,k,none⟩=false:=x4
   have HM4:=h_ (HM3.out.came0 (m:=k) (g:=upd f k) (upd_at _ _) (fun j hj=>upd_ne hj))
   have HKK:=h_ (show Kept (HBk.of Y B1 C1 B0 C0).A w V2 from (((HKR.out.trans HT.out.2.2 (fun b _ e=>HAX.out b e)).trans (Kept.of (X:=fun _=>False) HBV.out) (fun _ _ q=>q.elim)).trans hk2 (fun b _ q=>q)))
   have HLN:=h_ (HMR.out.x0.len)
   clear hV hV2 hfv e0 e1 e2 ef hk2 hf3 x3 x4
   refine region_tail 8 (by kernel_rfl) (by kernel_rfl) ?_
   rw[←HV.out]
   simp only[List.take,List.drop]
   repeat still_step
   refine wpStill_nil ?_
   go_wp2_with fail
   refine region_tail 6 (by kernel_rfl) (by kernel_rfl) ?_
   rw[←HV2.out]
   simp only[List.take,List.drop]
   repeat still_step
   refine wpStill_nil ?_
   go_wp2_with fail
   go_roundw
   case rel=>exact ⟨qq,upd f k,HM4.out,HLR.out.take0,HKK.out.trans (Kept.set (X:=(HBk.of Y B1 C1 B0 C0).A) V2 (B:=Y+1+1+1+1+1+1+1+1) (.inr (.inr (.inr (.inr (.inr (.inl rfl)))))) k _) (fun b _ q=>q)⟩
   case measure=>
    have h0:chLen wr C0=_:=HLN.out
    rw[h0]
    have h1:=HM4.out.x0.len
    have h2:chLen (V2.setCell ⟨Y+1+1+1+1+1+1+1+1,k,none⟩ (.bool true)) C0=qq.length:=by rw[←List.length_map (f:=D.ms0)];exact h1
    simp only[List.map_cons,List.length_cons,List.length_map]
    omega
end Go.Proofs.YtniloklglpchfakGreat
