/- The second stage goes forth with a part, or waits for it. -/
import Derived.Test.YtniloklglpchfakGreatPkHdN
import Derived.Test.YtniloklglpchfakGreatPkHdT
import Derived.Test.YtniloklglpchfakGreatPkTrFact
import Derived.Deep.RegionHeld3
import Derived.Deep.CutRange
namespace Go.Proofs.YtniloklglpchfakGreat
open Go.RowKit
set_option maxHeartbeats 32000000 in
set_option maxRecDepth 100000 in
theorem fwd1_no{u0 u1 u2 u3 u5 u6 u7 u8 u9 u10 u11 u12 u13 u14 u15 u16 u17 u18 u20 u21 u22 u23 u24 u26 u27 u31 u32 u33 u35 u37 u38 u39 u40 u41 u42 u43 u44 u45 u46 u47 u48 u49 u50 u51 u52 u53 u54 u55 u56 u57 u58 u59 u60 u61 u62 u63 u64 u65 u66 u67 u68 u69 u70 u71 u72 u73 u74 u75 u76 u77 u78 u79 u80 u81 u82 u83 u84 u85 u86 u87 u88 u89 u90 u91 u92 u93 u94 u95 u96 u97 u98 u99 u100 u101 u102 u103 u104 u105 u106 u107 u108 u109 u110 u111 u112 u113 u114 u115 u116 u117 u118 u119 u120 u121 u122 u123 u124 u125 u126 u127 u128 u129 u130 u131 u132 u133 u134 u135 u136 u137 u138 u139 u140 u141 u142 u143 u144 u145 u146 u147 u148 u149 u150 u151 u152 u153 u154 u155 u156 u157 u158 u159 u160 u161 u162 u163 u164 u165 u166 u167 u168 u169 u170 u171 u172 u173 u174 u175 u176 u177 u178 u179 u180 u181 u182 u183 u184 u185 u186 u187 u188 u189 u190 u191 u192 u193 u194 u195 u196 u197 u198 u199 u200 u201 u202 u203 u204 u205 u206 u207 u208 u209 u210 u211 u212 u213 u214 u215 u216 u217 u218 u219 u220 u221 u222 u223 u224 u225 u226 u227 u228 u229 u230 u231 u232 u233 u234 u235 u236 u237 u238 u239 u240 u241 u242 u243 u244 u245 u246 u247 u248 u249 u250 u251 u252 u253 u254 u255 u256 u257 u258 u259 u260 u261 u262 u263 u264 u265 u266 u267 u268 u269 u270 u271 u272 u273 u274 u275 u276 u277 u278 u279 u280 u281 u282 u283 u284 u285 u286 u287 u288 u289 u290 u291 u292 u293 u294 u295 u296 u297 u298 u299 u300 u301 u302 u303 u304 u305 u306 u307 u308 u309 u310 u311 u312 u313 u314 u315 u316 u317 u318 u319 u320 u321 u322 u323 u324 u325 u326 u327 u328 u329 u330 u331 u332 u333 u334 u335 u336 u337 u338 u339 u340 u341 u342 u343 u344 u345 u346 u347 u348 u349 u350 u351 u352 u353 u354 u355 u356 u357 u358 u359 u360 u361 u362 u363 u364 u365 u366 u367 u368 u369 u370 u371 u372 u373 u374 u375 u376 u377 u378 u379 u380 u381 u382 u383 u384 u385 u386 u387 u388 u389 u390 u391 u392 u393 u394 u395 u396 u397 u398 u399 u400 u401 u402 u403 u404 u405 u406 u407 u408 u409 u410 u411 u412 u413 u414 u415 u416 u417 u418 u419 u420 u421 u422 u423 u424 u425 u426 u427 u428 u429 u430 u431 u432 u433 u434 u435 u436 u437 u438 u439 u440 u441:Value}(la:Option Addr)(P lk B1 C1 B0 C0 Y Z m:Nat)(w:World)(Q:Exit→Act→World→Prop)(D:HD)(W0:World)(c0 c1:Nat)(d0 d1:Nat→Prop)(y0 y1:List (Mx×Mx))(q1 q0:List Nat)(m1 m0 g1 g0:Nat→Bool)(pv n0 n1:Value)(hm:HMem D (HBk.of Y B1 C1 B0 C0) W0 w c0 c1 d0 d1 y0 y1 q1 q0 m1 m0 g1 g0)(hf:Hold (HBk.of Y B1 C1 B0 C0).A w (HFix D (HBk.of Y B1 C1 B0 C0) pv (.slice la P lk) n0 n1 Z))(hP:D.P=P)(hLP:D.L.length=P)(hmP:m<P)(hc:m1 m=false)(hQ:∀(v40 v223 v224 v225 v226 v227 v228 v229 v230 v231 v232 v233 v234 v235:Value) (wx:World),HMem D (HBk.of Y B1 C1 B0 C0) W0 wx c0 c1 d0 d1 y0 y1 q1 q0 m1 m0 g1 g0→Q (.exit 1) { tmps:=#[u0,u1,u2,u3,.int .i64 (P:Int),u5,u6,u7,u8,u9,u10,u11,u12,u13,u14,u15,u16,u17,u18,.slice la P lk,u20,u21,u22,u23,u24,.slice (some ⟨Z,0,none⟩) 2 2,u26,u27,.pointer (some ⟨Y+1,0,none⟩),.pointer (some ⟨Y+1+1+1+1,0,none⟩),.pointer (some ⟨Y+1+1+1+1+1+1+1,0,none⟩),u31,u32,u33,.int .i64 1,u35,.int .i64 (m:Int),u37,u38,u39,v40,u41,u42,u43,u44,u45,u46,u47,u48,u49,u50,u51,u52,u53,u54,u55,u56,u57,u58,u59,u60,u61,u62,u63,u64,u65,u66,u67,u68,u69,u70,u71,u72,u73,u74,u75,u76,u77,u78,u79,u80,u81,u82,u83,u84,u85,u86,u87,u88,u89,u90,u91,u92,u93,u94,u95,u96,u97,u98,u99,u100,u101,u102,u103,u104,u105,u106,u107,u108,u109,u110,u111,u112,u113,u114,u115,u116,u117,u118,u119,u120,u121,u122,u123,u124,u125,u126,u127,u128,u129,u130,u131,u132,u133,u134,u135,u136,u137,u138,u139,u140,u141,u142,u143,u144,u145,u146,u147,u148,u149,u150,u151,u152,u153,u154,u155,u156,u157,u158,u159,u160,u161,u162,u163,u164,u165,u166,u167,u168,u169,u170,u171,u172,u173,u174,u175,u176,u177,u178,u179,u180,u181,u182,u183,u184,u185,u186,u187,u188,u189,u190,u191,u192,u193,u194,u195,u196,u197,u198,u199,u200,u201,u202,u203,u204,u205,u206,u207,u208,u209,u210,u211,u212,u213,u214,u215,u216,u217,u218,u219,u220,u221,u222,v223,v224,v225,v226,v227,v228,v229,v230,v231,v232,v233,v234,v235,u236,u237,u238,u239,u240,u241,u242,u243,u244,u245,u246,u247,u248,u249,u250,u251,u252,u253,u254,u255,u256,u257,u258,u259,u260,u261,u262,u263,u264,u265,u266,u267,u268,u269,u270,u271,u272,u273,u274,u275,u276,u277,u278,u279,u280,u281,u282,u283,u284,u285,u286,u287,u288,u289,u290,u291,u292,u293,u294,u295,u296,u297,u298,u299,u300,u301,u302,u303,u304,u305,u306,u307,u308,u309,u310,u311,u312,u313,u314,u315,u316,u317,u318,u319,u320,u321,u322,u323,u324,u325,u326,u327,u328,u329,u330,u331,u332,u333,u334,u335,u336,u337,u338,u339,u340,u341,u342,u343,u344,u345,u346,u347,u348,u349,u350,u351,u352,u353,u354,u355,u356,u357,u358,u359,u360,u361,u362,u363,u364,u365,u366,u367,u368,u369,u370,u371,u372,u373,u374,u375,u376,u377,u378,u379,u380,u381,u382,u383,u384,u385,u386,u387,u388,u389,u390,u391,u392,u393,u394,u395,u396,u397,u398,u399,u400,u401,u402,u403,u404,u405,u406,u407,u408,u409,u410,u411,u412,u413,u414,u415,u416,u417,u418,u419,u420,u421,u422,u423,u424,u425,u426,u427,u428,u429,u430,u431,u432,u433,u434,u435,u436,u437,u438,u439,u440,u441],defers:=[] } wx):Code.wp Tryz.prog (List.foldl stepC ((Tryz.f3.body).getD .skip) [1,1,1,1,1,1,1,1,1,1,1,1,1,1,1,1,1,1,1,1,1,1,1,1,1,1,1,0,1,0,0,1,0,0,1,1,1,1,1,1,1,0,1,0]) Q { tmps:=#[u0,u1,u2,u3,.int .i64 (P:Int),u5,u6,u7,u8,u9,u10,u11,u12,u13,u14,u15,u16,u17,u18,.slice la P lk,u20,u21,u22,u23,u24,.slice (some ⟨Z,0,none⟩) 2 2,u26,u27,.pointer (some ⟨Y+1,0,none⟩),.pointer (some ⟨Y+1+1+1+1,0,none⟩),.pointer (some ⟨Y+1+1+1+1+1+1+1,0,none⟩),u31,u32,u33,.int .i64 1,u35,.int .i64 (m:Int),u37,u38,u39,u40,u41,u42,u43,u44,u45,u46,u47,u48,u49,u50,u51,u52,u53,u54,u55,u56,u57,u58,u59,u60,u61,u62,u63,u64,u65,u66,u67,u68,u69,u70,u71,u72,u73,u74,u75,u76,u77,u78,u79,u80,u81,u82,u83,u84,u85,u86,u87,u88,u89,u90,u91,u92,u93,u94,u95,u96,u97,u98,u99,u100,u101,u102,u103,u104,u105,u106,u107,u108,u109,u110,u111,u112,u113,u114,u115,u116,u117,u118,u119,u120,u121,u122,u123,u124,u125,u126,u127,u128,u129,u130,u131,u132,u133,u134,u135,u136,u137,u138,u139,u140,u141,u142,u143,u144,u145,u146,u147,u148,u149,u150,u151,u152,u153,u154,u155,u156,u157,u158,u159,u160,u161,u162,u163,u164,u165,u166,u167,u168,u169,u170,u171,u172,u173,u174,u175,u176,u177,u178,u179,u180,u181,u182,u183,u184,u185,u186,u187,u188,u189,u190,u191,u192,u193,u194,u195,u196,u197,u198,u199,u200,u201,u202,u203,u204,u205,u206,u207,u208,u209,u210,u211,u212,u213,u214,u215,u216,u217,u218,u219,u220,u221,u222,u223,u224,u225,u226,u227,u228,u229,u230,u231,u232,u233,u234,u235,u236,u237,u238,u239,u240,u241,u242,u243,u244,u245,u246,u247,u248,u249,u250,u251,u252,u253,u254,u255,u256,u257,u258,u259,u260,u261,u262,u263,u264,u265,u266,u267,u268,u269,u270,u271,u272,u273,u274,u275,u276,u277,u278,u279,u280,u281,u282,u283,u284,u285,u286,u287,u288,u289,u290,u291,u292,u293,u294,u295,u296,u297,u298,u299,u300,u301,u302,u303,u304,u305,u306,u307,u308,u309,u310,u311,u312,u313,u314,u315,u316,u317,u318,u319,u320,u321,u322,u323,u324,u325,u326,u327,u328,u329,u330,u331,u332,u333,u334,u335,u336,u337,u338,u339,u340,u341,u342,u343,u344,u345,u346,u347,u348,u349,u350,u351,u352,u353,u354,u355,u356,u357,u358,u359,u360,u361,u362,u363,u364,u365,u366,u367,u368,u369,u370,u371,u372,u373,u374,u375,u376,u377,u378,u379,u380,u381,u382,u383,u384,u385,u386,u387,u388,u389,u390,u391,u392,u393,u394,u395,u396,u397,u398,u399,u400,u401,u402,u403,u404,u405,u406,u407,u408,u409,u410,u411,u412,u413,u414,u415,u416,u417,u418,u419,u420,u421,u422,u423,u424,u425,u426,u427,u428,u429,u430,u431,u432,u433,u434,u435,u436,u437,u438,u439,u440,u441],defers:=[] } w:=by
 have hfx:=hf.now
 have hat:D.L[m]?=some (D.at m):=by unfold HD.at;rw[List.getElem?_eq_getElem (by omega)];rfl
 obtain ⟨lb,lo,lcap,sa,sn,sk,ta,tn,tk,he,t0,t1,t2,_,_,_,hsi,_⟩:=D_.at (show D_ w (.slice la P lk) D.L from hfx.ll) hat
 injection he with e1 e2 e3
 subst e1 e3
 clear e2
 obtain ⟨xr,hxr⟩:=gN ((D.at m).1.rows)
 obtain ⟨xc,hxc⟩:=gN ((D.at m).1.cols)
 rw[hxr]at t0
 rw[hxc]at t1
 obtain ⟨V,hV⟩:=gM (w.alloc (.cells #[.int .i64 xr,.int .i64 xc,.slice sa sn sk] 28))
 have HV:=h_ hV
 have HB1:=h_ (show Below w.heap.size w V by rw[hV];exact o_ _ _)
 have HMV:=h_ (hm.u_ HB1.out)
 have HKB:=h_ (show WBk V w.heap.size #[.int .i64 xr,.int .i64 xc,.slice sa sn sk] 28 by rw[hV];exact WBk.new w _ _)
 have r0:(w.alloc (.cells #[.int .i64 xr,.int .i64 xc,.slice sa sn sk] 28)).cell? ⟨Y+1+1+1+1+1+1+1,1,none⟩=some (.slice (some ⟨Y+1+1+1+1+1+1+1+1+1,0,none⟩) P P):=by have:=c_ HB1.out hfx.cm1;rw[hP,hV]at this;exact this
 have r1:(w.alloc (.cells #[.int .i64 xr,.int .i64 xc,.slice sa sn sk] 28)).cell? ⟨Y+1+1+1+1+1+1+1+1+1,m,none⟩=some (.bool false):=by
  obtain ⟨cv,q1,_,q3⟩:=HMV.out.e1.cell (m:=m) (by rw[hP];exact hmP)
  have q4:cv=.bool (m1 m):=q3.now
  rw[q4,hc,hV]at q1
  exact q1
 have HQ:=h_ hQ
 clear hf hfx hm hQ hP hLP hsi hxr hxc hV hat hc
 simp only[List.foldl,stepC,Tryz.f3,Option.getD]
 go_wp2_with fail
 exact HQ.out _ _ _ _ _ _ _ _ _ _ _ _ _ _ _ (by rw[←HV.out];exact HMV.out)
set_option maxHeartbeats 32000000 in
set_option maxRecDepth 100000 in
theorem fwd1{u0 u1 u2 u3 u5 u6 u7 u8 u9 u10 u11 u12 u13 u14 u15 u16 u17 u18 u20 u21 u22 u23 u24 u26 u27 u31 u32 u33 u35 u37 u38 u39 u40 u41 u42 u43 u44 u45 u46 u47 u48 u49 u50 u51 u52 u53 u54 u55 u56 u57 u58 u59 u60 u61 u62 u63 u64 u65 u66 u67 u68 u69 u70 u71 u72 u73 u74 u75 u76 u77 u78 u79 u80 u81 u82 u83 u84 u85 u86 u87 u88 u89 u90 u91 u92 u93 u94 u95 u96 u97 u98 u99 u100 u101 u102 u103 u104 u105 u106 u107 u108 u109 u110 u111 u112 u113 u114 u115 u116 u117 u118 u119 u120 u121 u122 u123 u124 u125 u126 u127 u128 u129 u130 u131 u132 u133 u134 u135 u136 u137 u138 u139 u140 u141 u142 u143 u144 u145 u146 u147 u148 u149 u150 u151 u152 u153 u154 u155 u156 u157 u158 u159 u160 u161 u162 u163 u164 u165 u166 u167 u168 u169 u170 u171 u172 u173 u174 u175 u176 u177 u178 u179 u180 u181 u182 u183 u184 u185 u186 u187 u188 u189 u190 u191 u192 u193 u194 u195 u196 u197 u198 u199 u200 u201 u202 u203 u204 u205 u206 u207 u208 u209 u210 u211 u212 u213 u214 u215 u216 u217 u218 u219 u220 u221 u222 u223 u224 u225 u226 u227 u228 u229 u230 u231 u232 u233 u234 u235 u236 u237 u238 u239 u240 u241 u242 u243 u244 u245 u246 u247 u248 u249 u250 u251 u252 u253 u254 u255 u256 u257 u258 u259 u260 u261 u262 u263 u264 u265 u266 u267 u268 u269 u270 u271 u272 u273 u274 u275 u276 u277 u278 u279 u280 u281 u282 u283 u284 u285 u286 u287 u288 u289 u290 u291 u292 u293 u294 u295 u296 u297 u298 u299 u300 u301 u302 u303 u304 u305 u306 u307 u308 u309 u310 u311 u312 u313 u314 u315 u316 u317 u318 u319 u320 u321 u322 u323 u324 u325 u326 u327 u328 u329 u330 u331 u332 u333 u334 u335 u336 u337 u338 u339 u340 u341 u342 u343 u344 u345 u346 u347 u348 u349 u350 u351 u352 u353 u354 u355 u356 u357 u358 u359 u360 u361 u362 u363 u364 u365 u366 u367 u368 u369 u370 u371 u372 u373 u374 u375 u376 u377 u378 u379 u380 u381 u382 u383 u384 u385 u386 u387 u388 u389 u390 u391 u392 u393 u394 u395 u396 u397 u398 u399 u400 u401 u402 u403 u404 u405 u406 u407 u408 u409 u410 u411 u412 u413 u414 u415 u416 u417 u418 u419 u420 u421 u422 u423 u424 u425 u426 u427 u428 u429 u430 u431 u432 u433 u434 u435 u436 u437 u438 u439 u440 u441:Value}(la:Option Addr)(P lk K B1 C1 B0 C0 Y Z m:Nat)(w:World)(Q:Exit→Act→World→Prop)(D:HD)(W0:World)(c0 c1:Nat)(d0 d1:Nat→Prop)(y0 y1:List (Mx×Mx))(q1 q0:List Nat)(m1 m0 g1 g0:Nat→Bool)(d:Nat→Prop)(pv n0:Value)(na:Option Addr)(nc:Nat)(hm:HMem D (HBk.of Y B1 C1 B0 C0) W0 w c0 c1 d0 d1 y0 y1 q1 q0 m1 m0 g1 g0)(hf:Hold (HBk.of Y B1 C1 B0 C0).A w (HFix D (HBk.of Y B1 C1 B0 C0) pv (.slice la P lk) n0 (.slice na K nc) Z))(hP:D.P=P)(hLP:D.L.length=P)(hK:D.b.length=K)(hmP:m<P)(hK12:K≤12)(hp:PartH D.a D.b (D.at m))(hd:∀k,k≠m→d k→d1 k)(hg:g1 m=true)(hc:m1 m=true)(hQ:∀(v40 v41 v42 v223 v224 v225 v226 v227 v228 v229 v230 v231 v232 v233 v234 v235 v236 v237 v238 v239 v240 v241 v242 v243 v244 v245 v246 v247 v248 v249 v250 v251 v252 v253 v254 v255 v256 v257 v258 v259 v260 v261 v262 v263 v264 v265 v266 v267 v268 v269 v270:Value) (wx:World),HMem D (HBk.of Y B1 C1 B0 C0) W0 wx c0 c1 d0 d y0 y1 q1 q0 m1 m0 g1 g0→Q .normal { tmps:=#[u0,u1,u2,u3,.int .i64 (P:Int),u5,u6,u7,u8,u9,u10,u11,u12,u13,u14,u15,u16,u17,u18,.slice la P lk,u20,u21,u22,u23,u24,.slice (some ⟨Z,0,none⟩) 2 2,u26,u27,.pointer (some ⟨Y+1,0,none⟩),.pointer (some ⟨Y+1+1+1+1,0,none⟩),.pointer (some ⟨Y+1+1+1+1+1+1+1,0,none⟩),u31,u32,u33,.int .i64 1,u35,.int .i64 (m:Int),u37,u38,u39,v40,v41,v42,u43,u44,u45,u46,u47,u48,u49,u50,u51,u52,u53,u54,u55,u56,u57,u58,u59,u60,u61,u62,u63,u64,u65,u66,u67,u68,u69,u70,u71,u72,u73,u74,u75,u76,u77,u78,u79,u80,u81,u82,u83,u84,u85,u86,u87,u88,u89,u90,u91,u92,u93,u94,u95,u96,u97,u98,u99,u100,u101,u102,u103,u104,u105,u106,u107,u108,u109,u110,u111,u112,u113,u114,u115,u116,u117,u118,u119,u120,u121,u122,u123,u124,u125,u126,u127,u128,u129,u130,u131,u132,u133,u134,u135,u136,u137,u138,u139,u140,u141,u142,u143,u144,u145,u146,u147,u148,u149,u150,u151,u152,u153,u154,u155,u156,u157,u158,u159,u160,u161,u162,u163,u164,u165,u166,u167,u168,u169,u170,u171,u172,u173,u174,u175,u176,u177,u178,u179,u180,u181,u182,u183,u184,u185,u186,u187,u188,u189,u190,u191,u192,u193,u194,u195,u196,u197,u198,u199,u200,u201,u202,u203,u204,u205,u206,u207,u208,u209,u210,u211,u212,u213,u214,u215,u216,u217,u218,u219,u220,u221,u222,v223,v224,v225,v226,v227,v228,v229,v230,v231,v232,v233,v234,v235,v236,v237,v238,v239,v240,v241,v242,v243,v244,v245,v246,v247,v248,v249,v250,v251,v252,v253,v254,v255,v256,v257,v258,v259,v260,v261,v262,v263,v264,v265,v266,v267,v268,v269,v270,u271,u272,u273,u274,u275,u276,u277,u278,u279,u280,u281,u282,u283,u284,u285,u286,u287,u288,u289,u290,u291,u292,u293,u294,u295,u296,u297,u298,u299,u300,u301,u302,u303,u304,u305,u306,u307,u308,u309,u310,u311,u312,u313,u314,u315,u316,u317,u318,u319,u320,u321,u322,u323,u324,u325,u326,u327,u328,u329,u330,u331,u332,u333,u334,u335,u336,u337,u338,u339,u340,u341,u342,u343,u344,u345,u346,u347,u348,u349,u350,u351,u352,u353,u354,u355,u356,u357,u358,u359,u360,u361,u362,u363,u364,u365,u366,u367,u368,u369,u370,u371,u372,u373,u374,u375,u376,u377,u378,u379,u380,u381,u382,u383,u384,u385,u386,u387,u388,u389,u390,u391,u392,u393,u394,u395,u396,u397,u398,u399,u400,u401,u402,u403,u404,u405,u406,u407,u408,u409,u410,u411,u412,u413,u414,u415,u416,u417,u418,u419,u420,u421,u422,u423,u424,u425,u426,u427,u428,u429,u430,u431,u432,u433,u434,u435,u436,u437,u438,u439,u440,u441],defers:=[] } wx):Code.wp Tryz.prog (List.foldl stepC ((Tryz.f3.body).getD .skip) [1,1,1,1,1,1,1,1,1,1,1,1,1,1,1,1,1,1,1,1,1,1,1,1,1,1,1,0,1,0,0,1,0,0,1,1,1,1,1,1,1,0,1,0]) Q { tmps:=#[u0,u1,u2,u3,.int .i64 (P:Int),u5,u6,u7,u8,u9,u10,u11,u12,u13,u14,u15,u16,u17,u18,.slice la P lk,u20,u21,u22,u23,u24,.slice (some ⟨Z,0,none⟩) 2 2,u26,u27,.pointer (some ⟨Y+1,0,none⟩),.pointer (some ⟨Y+1+1+1+1,0,none⟩),.pointer (some ⟨Y+1+1+1+1+1+1+1,0,none⟩),u31,u32,u33,.int .i64 1,u35,.int .i64 (m:Int),u37,u38,u39,u40,u41,u42,u43,u44,u45,u46,u47,u48,u49,u50,u51,u52,u53,u54,u55,u56,u57,u58,u59,u60,u61,u62,u63,u64,u65,u66,u67,u68,u69,u70,u71,u72,u73,u74,u75,u76,u77,u78,u79,u80,u81,u82,u83,u84,u85,u86,u87,u88,u89,u90,u91,u92,u93,u94,u95,u96,u97,u98,u99,u100,u101,u102,u103,u104,u105,u106,u107,u108,u109,u110,u111,u112,u113,u114,u115,u116,u117,u118,u119,u120,u121,u122,u123,u124,u125,u126,u127,u128,u129,u130,u131,u132,u133,u134,u135,u136,u137,u138,u139,u140,u141,u142,u143,u144,u145,u146,u147,u148,u149,u150,u151,u152,u153,u154,u155,u156,u157,u158,u159,u160,u161,u162,u163,u164,u165,u166,u167,u168,u169,u170,u171,u172,u173,u174,u175,u176,u177,u178,u179,u180,u181,u182,u183,u184,u185,u186,u187,u188,u189,u190,u191,u192,u193,u194,u195,u196,u197,u198,u199,u200,u201,u202,u203,u204,u205,u206,u207,u208,u209,u210,u211,u212,u213,u214,u215,u216,u217,u218,u219,u220,u221,u222,u223,u224,u225,u226,u227,u228,u229,u230,u231,u232,u233,u234,u235,u236,u237,u238,u239,u240,u241,u242,u243,u244,u245,u246,u247,u248,u249,u250,u251,u252,u253,u254,u255,u256,u257,u258,u259,u260,u261,u262,u263,u264,u265,u266,u267,u268,u269,u270,u271,u272,u273,u274,u275,u276,u277,u278,u279,u280,u281,u282,u283,u284,u285,u286,u287,u288,u289,u290,u291,u292,u293,u294,u295,u296,u297,u298,u299,u300,u301,u302,u303,u304,u305,u306,u307,u308,u309,u310,u311,u312,u313,u314,u315,u316,u317,u318,u319,u320,u321,u322,u323,u324,u325,u326,u327,u328,u329,u330,u331,u332,u333,u334,u335,u336,u337,u338,u339,u340,u341,u342,u343,u344,u345,u346,u347,u348,u349,u350,u351,u352,u353,u354,u355,u356,u357,u358,u359,u360,u361,u362,u363,u364,u365,u366,u367,u368,u369,u370,u371,u372,u373,u374,u375,u376,u377,u378,u379,u380,u381,u382,u383,u384,u385,u386,u387,u388,u389,u390,u391,u392,u393,u394,u395,u396,u397,u398,u399,u400,u401,u402,u403,u404,u405,u406,u407,u408,u409,u410,u411,u412,u413,u414,u415,u416,u417,u418,u419,u420,u421,u422,u423,u424,u425,u426,u427,u428,u429,u430,u431,u432,u433,u434,u435,u436,u437,u438,u439,u440,u441],defers:=[] } w:=by
 have hfx:=hf.now
 have hat:D.L[m]?=some (D.at m):=by unfold HD.at;rw[List.getElem?_eq_getElem (by omega)];rfl
 obtain ⟨lb,lo,lcap,sa,sn,sk,ta,tn,tk,he,t0,t1,t2,_,_,_,hsi,_⟩:=D_.at (show D_ w (.slice la P lk) D.L from hfx.ll) hat
 injection he with e1 e2 e3
 subst e1 e3
 clear e2
 obtain ⟨xr,hxr⟩:=gN ((D.at m).1.rows)
 obtain ⟨xc,hxc⟩:=gN ((D.at m).1.cols)
 rw[hxr]at t0
 rw[hxc]at t1
 obtain ⟨V,hV⟩:=gM (w.alloc (.cells #[.int .i64 xr,.int .i64 xc,.slice sa sn sk] 28))
 have HV:=h_ hV
 have HB1:=h_ (show Below w.heap.size w V by rw[hV];exact o_ _ _)
 have HMV:=h_ (hm.u_ HB1.out)
 have HKB:=h_ (show WBk V w.heap.size #[.int .i64 xr,.int .i64 xc,.slice sa sn sk] 28 by rw[hV];exact WBk.new w _ _)
 have r0:(w.alloc (.cells #[.int .i64 xr,.int .i64 xc,.slice sa sn sk] 28)).cell? ⟨Y+1+1+1+1+1+1+1,1,none⟩=some (.slice (some ⟨Y+1+1+1+1+1+1+1+1+1,0,none⟩) P P):=by have:=c_ HB1.out hfx.cm1;rw[hP,hV]at this;exact this
 have r1:(w.alloc (.cells #[.int .i64 xr,.int .i64 xc,.slice sa sn sk] 28)).cell? ⟨Y+1+1+1+1+1+1+1+1+1,m,none⟩=some (.bool true):=by
  obtain ⟨cv,q1,_,q3⟩:=HMV.out.e1.cell (m:=m) (by rw[hP];exact hmP)
  have q4:cv=.bool (m1 m):=q3.now
  rw[q4,hc,hV]at q1
  exact q1
 obtain ⟨cx,cy,cz,p0,p1,p2,p3,p4⟩:=hm.n1.cell (m:=m) (by rw[hP];exact hmP)
 obtain ⟨rfl,rfl,hzi⟩:=p3.now.2 hg
 obtain ⟨za,zn,zk,rfl⟩:=hzi.shape
 obtain ⟨yr,hyr⟩:=gN ((midH D.a (D.at m)).rows)
 obtain ⟨yc,hyc⟩:=gN ((midH D.a (D.at m)).cols)
 rw[hyr]at p0
 rw[hyc]at p1
 replace p0:=c_ HB1.out p0
 replace p1:=c_ HB1.out p1
 replace p2:=c_ HB1.out p2
 rw[hV]at p0 p1 p2
 have p0':(w.alloc (.cells #[.int .i64 xr,.int .i64 xc,.slice sa sn sk] 28)).cell? ⟨Y+1+1+1+1+1+1,m*3,none⟩=some (.int .i64 yr):=p0
 have p1':(w.alloc (.cells #[.int .i64 xr,.int .i64 xc,.slice sa sn sk] 28)).cell? ⟨Y+1+1+1+1+1+1,m*3+1,none⟩=some (.int .i64 yc):=p1
 have p2':(w.alloc (.cells #[.int .i64 xr,.int .i64 xc,.slice sa sn sk] 28)).cell? ⟨Y+1+1+1+1+1+1,m*3+2,none⟩=some (.slice za zn zk):=p2
 have r2:(w.alloc (.cells #[.int .i64 xr,.int .i64 xc,.slice sa sn sk] 28)).cell? ⟨Y+1+1+1+1,1,none⟩=some (.slice (some ⟨Y+1+1+1+1+1+1,0,none⟩) P P):=by have:=c_ HB1.out hfx.in1;rw[hP,hV]at this;exact this
 obtain ⟨V2,hV2⟩:=gM (w.alloc (.cells #[.int .i64 yr,.int .i64 yc,.slice za zn zk] 28))
 have HB2:=h_ (show Below w.heap.size w V2 by rw[hV2];exact o_ _ _)
 have HK2:=h_ (show WBk V2 w.heap.size #[.int .i64 yr,.int .i64 yc,.slice za zn zk] 28 by rw[hV2];exact WBk.new w _ _)
 have HM2:=h_ (hm.u_ HB2.out)
 have HF2:=h_ (hf.u_ HB2.out)
 have hf2:=HF2.out.now
 have HCE:=h_ (show ∀W',Below V2.heap.size V2 W'→W'.cell? ⟨Z,1,none⟩=some (.slice na K nc)∧W'.cell? ⟨w.heap.size,0,none⟩=some (.int .i64 yr)∧W'.cell? ⟨w.heap.size,1,none⟩=some (.int .i64 yc)∧W'.cell? ⟨w.heap.size,2,none⟩=some (.slice za zn zk) from fun W' hb=>⟨c_ hb hf2.c1,(HK2.out.kept hb).c rfl,(HK2.out.kept hb).c rfl,(HK2.out.kept hb).c rfl⟩)
 have hzi2:I_ V2 (.slice za zn zk) (midH D.a (D.at m)).cells:=((p3.u_ HB2.out).now.2 hg).2.2
 have HGO:=h_ (show ∀W',Below V2.heap.size V2 W'→_ from fun W' hb=>netgo_owns (.slice na K nc) (.agg #[.int .i64 (midH D.a (D.at m)).rows,.int .i64 (midH D.a (D.at m)).cols,.slice za zn zk]) D.b (midH D.a (D.at m)) W' (hf2.l1.u_ hb) ⟨_,rfl,hzi2.u_ hb⟩)
 rw[hp.go1,e_ rfl,hyr,hyc]at HGO
 have f0:=HKB.out.f 0
 have f1:=HKB.out.f 1
 have f2:=HKB.out.f 2
 have b0:=HKB.out.c (i:=0) rfl
 have b1:=HKB.out.c (i:=1) rfl
 have b2:=HKB.out.c (i:=2) rfl
 rw[hV]at f0 f1 f2 b0 b1 b2
 have HM:=h_ hm
 have HQ:=h_ hQ
 have HP:=h_ (And.intro hP (And.intro hLP hK))
 have HPH:=h_ hp
 have HQL:=h_ hd
 have HV3:=h_ hV2
 clear hf hfx hm hQ hP hLP hK hp hd hsi hxr hxc hyr hyc hV hV2 hat hc hg hzi hzi2 hf2 p0 p1 p2 p3 p4
 simp only[List.foldl,stepC,Tryz.f3,Option.getD]
 go_wp2_with fail
 rw[←HV3.out]
 go_cut [41,42] from 241 to 249 (fun gv ev wx=>ev=.nilIface∧Owns 0 V2.heap.size wx 28 3 gv (ngX D.b (midH D.a (D.at m))).length ((ngX D.b (midH D.a (D.at m))).flatMap mxS)∧Below V2.heap.size V2 wx)
 case first=>
  obtain ⟨lm0,lm1,lm2,lm3⟩:=HCE.out V2 (Below.refl _ _)
  go_region_held3 (fun W'=>W'.cell? ⟨Z,1,none⟩=some (.slice na K nc)∧W'.cell? ⟨w.heap.size,0,none⟩=some (.int .i64 yr)∧W'.cell? ⟨w.heap.size,1,none⟩=some (.int .i64 yc)∧W'.cell? ⟨w.heap.size,2,none⟩=some (.slice za zn zk))
   ((refine HCE.out _ ?_;repeat' (first|with_reducible exact Below.refl _ _|with_reducible refine wy_drew ?_|with_reducible refine wy_go ?_ hbz)))
   ((go_at_call 13;refine (HGO.out _ (by repeat' (first|with_reducible exact Below.refl _ _|with_reducible refine wy_drew ?_))).mono ?_;rintro e wz ⟨gv,rfl,hgv,hbz⟩))
  all_goals go_wp2
  all_goals go_meet
  all_goals
   refine ⟨rfl,?_,?_⟩
   ·exact hgv
   ·repeat' (first|with_reducible exact Below.refl _ _|with_reducible refine wy_drew ?_|with_reducible refine wy_go ?_ hbz)
 case rest=>
  obtain ⟨rfl,hgv,hbc⟩:=hcut
  obtain ⟨ga,gk,hge,_⟩:=hgv.reads
  have hgl:(ngX D.b (midH D.a (D.at m))).length=K+1:=by rw[HPH.out.last1.1,HP.out.2.2]
  rw[hgl]at hge
  subst hge
  have HM1:=h_ (HM.out.u_ (bel_on HB2.out hbc))
  have hfc:=(HF2.out.u_ hbc).now
  have z0:=hfc.c1
  have z1:wc.cell? ⟨Y+1,1,none⟩=some (.slice (some ⟨Y+1+1+1,0,none⟩) P P):=by have:=hfc.sw1;rw[HP.out.1]at this;exact this
  obtain ⟨old,z2,z3,_⟩:=HM1.out.w1.cell (m:=m) (by rw[HP.out.1];exact hmP)
  have z2':wc.cell? ⟨Y+1+1+1,m,none⟩=some old:=z2
  have z3':wc.frozen? ⟨Y+1+1+1,m,none⟩=false:=z3
  have hlt:∀b,(HBk.of Y B1 C1 B0 C0).A b→b<V2.heap.size:=fun b q=>Nat.lt_of_lt_of_le (HM.out.lt b q) HB2.out.size
  have hhold:Hold (HBk.of Y B1 C1 B0 C0).A wc (fun W=>IsMxs W (.slice ga (K+1) gk) (ngX D.b (midH D.a (D.at m)))):=(hgv.hold.mono (fun b _ q=>hlt b q)).imp (fun W q=>reads_mxs q)
  have HM4:=h_ (HM1.out.saw1 (m:=m) (d:=d) _ hhold HQL.out)
  have hKc:((K+1:Nat):Int)=(K:Int)+1:=by omega
  have hKb:((K:Int)+1 !=(K:Int)+1)=false:=by simp
  clear hgv hbc hfc z2 z3 hlt hhold hgl
  go_wp2_with fail
  exact HQ.out _ _ _ _ _ _ _ _ _ _ _ _ _ _ _ _ _ _ _ _ _ _ _ _ _ _ _ _ _ _ _ _ _ _ _ _ _ _ _ _ _ _ _ _ _ _ _ _ _ _ _ _ HM4.out
end Go.Proofs.YtniloklglpchfakGreat
