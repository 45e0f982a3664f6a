/- The first stage goes back with a part, or waits for it. -/
import Derived.Test.YtniloklglpchfakGreatPkHdN
import Derived.Test.YtniloklglpchfakGreatPkHdT
import Derived.Test.YtniloklglpchfakGreatPkTrFact
import Derived.Deep.RegionHeld3
import Derived.Deep.CutRange
import Derived.Test.YtniloklglpchfakGreatNetC6
namespace Go.Proofs.YtniloklglpchfakGreat
open Go.RowKit
set_option maxHeartbeats 32000000 in
set_option maxRecDepth 100000 in
theorem bwd0_no{u0 u1 u2 u3 u5 u6 u7 u8 u9 u10 u11 u12 u13 u14 u15 u16 u17 u18 u19 u20 u21 u22 u23 u24 u26 u31 u32 u33 u35 u37 u38 u39 u40 u41 u42 u43 u44 u45 u46 u47 u48 u49 u50 u51 u52 u53 u54 u55 u56 u57 u58 u59 u60 u61 u62 u63 u64 u65 u66 u67 u68 u69 u70 u71 u72 u73 u74 u75 u76 u77 u78 u79 u80 u81 u82 u83 u84 u85 u86 u87 u88 u89 u90 u91 u92 u93 u94 u95 u96 u97 u98 u99 u100 u101 u102 u103 u104 u105 u106 u107 u108 u109 u110 u111 u112 u113 u114 u115 u116 u117 u118 u119 u120 u121 u122 u123 u124 u125 u126 u127 u128 u129 u130 u131 u132 u133 u134 u135 u136 u137 u138 u139 u140 u141 u142 u143 u144 u145 u146 u147 u148 u149 u150 u151 u152 u153 u154 u155 u156 u157 u158 u159 u160 u161 u162 u163 u164 u165 u166 u167 u168 u169 u170 u171 u172 u173 u174 u175 u176 u177 u178 u179 u180 u181 u182 u183 u184 u185 u186 u187 u188 u189 u190 u191 u192 u193 u194 u195 u196 u197 u198 u199 u200 u201 u202 u203 u204 u205 u206 u207 u208 u209 u210 u211 u212 u213 u214 u215 u216 u217 u218 u219 u220 u221 u222 u223 u224 u225 u226 u227 u228 u229 u230 u231 u232 u233 u234 u235 u236 u237 u238 u239 u240 u241 u242 u243 u244 u245 u246 u247 u248 u249 u250 u251 u252 u253 u254 u255 u256 u257 u258 u259 u260 u261 u262 u263 u264 u265 u266 u267 u268 u269 u270 u271 u272 u273 u274 u275 u276 u277 u278 u279 u280 u281 u282 u283 u284 u285 u286 u287 u288 u289 u290 u291 u292 u293 u294 u295 u296 u297 u298 u299 u300 u301 u302 u303 u304 u305 u306 u307 u308 u309 u310 u311 u312 u313 u314 u315 u316 u317 u318 u319 u320 u321 u322 u323 u324 u325 u326 u327 u328 u329 u330 u331 u332 u333 u334 u335 u336 u337 u338 u339 u340 u341 u342 u343 u344 u345 u346 u347 u348 u349 u350 u351 u352 u353 u354 u355 u356 u357 u358 u359 u360 u361 u362 u363 u364 u365 u366 u367 u368 u369 u370 u371 u372 u373 u374 u375 u376 u377 u378 u379 u380 u381 u382 u383 u384 u385 u386 u387 u388 u389 u390 u391 u392 u393 u394 u395 u396 u397 u398 u399 u400 u401 u402 u403 u404 u405 u406 u407 u408 u409 u410 u411 u412 u413 u414 u415 u416 u417 u418 u419 u420 u421 u422 u423 u424 u425 u426 u427 u428 u429 u430 u431 u432 u433 u434 u435 u436 u437 u438 u439 u440 u441:Value}(P B1 C1 B0 C0 Y Z m:Nat)(w:World)(Q:Exit→Act→World→Prop)(D:HD)(W0:World)(c0 c1:Nat)(d0 d1:Nat→Prop)(y0 y1:List (Mx×Mx))(q1 q0:List Nat)(m1 m0 g1 g0:Nat→Bool)(pv lv n0 n1:Value)(hm:HMem D (HBk.of Y B1 C1 B0 C0) W0 w c0 c1 d0 d1 y0 y1 q1 q0 m1 m0 g1 g0)(hf:Hold (HBk.of Y B1 C1 B0 C0).A w (HFix D (HBk.of Y B1 C1 B0 C0) pv lv n0 n1 Z))(hP:D.P=P)(hmP:m<P)(hc:m0 m=false)(hQ:∀(v43 v279 v280 v281 v282 v283 v284 v285 v286 v287 v288 v289 v290 v291 v292 v293:Value) (wx:World),HMem D (HBk.of Y B1 C1 B0 C0) W0 wx c0 c1 d0 d1 y0 y1 q1 q0 m1 m0 g1 g0→Q (.exit 1) { tmps:=#[u0,u1,u2,u3,.int .i64 (P:Int),u5,u6,u7,u8,u9,u10,u11,u12,u13,u14,u15,u16,u17,u18,u19,u20,u21,u22,u23,u24,.slice (some ⟨Z,0,none⟩) 2 2,u26,.slice (some ⟨Y,0,none⟩) 2 2,.pointer (some ⟨Y+1,0,none⟩),.pointer (some ⟨Y+1+1+1+1,0,none⟩),.pointer (some ⟨Y+1+1+1+1+1+1+1,0,none⟩),u31,u32,u33,.int .i64 0,u35,.int .i64 (m:Int),u37,u38,u39,u40,u41,u42,v43,u44,u45,u46,u47,u48,u49,u50,u51,u52,u53,u54,u55,u56,u57,u58,u59,u60,u61,u62,u63,u64,u65,u66,u67,u68,u69,u70,u71,u72,u73,u74,u75,u76,u77,u78,u79,u80,u81,u82,u83,u84,u85,u86,u87,u88,u89,u90,u91,u92,u93,u94,u95,u96,u97,u98,u99,u100,u101,u102,u103,u104,u105,u106,u107,u108,u109,u110,u111,u112,u113,u114,u115,u116,u117,u118,u119,u120,u121,u122,u123,u124,u125,u126,u127,u128,u129,u130,u131,u132,u133,u134,u135,u136,u137,u138,u139,u140,u141,u142,u143,u144,u145,u146,u147,u148,u149,u150,u151,u152,u153,u154,u155,u156,u157,u158,u159,u160,u161,u162,u163,u164,u165,u166,u167,u168,u169,u170,u171,u172,u173,u174,u175,u176,u177,u178,u179,u180,u181,u182,u183,u184,u185,u186,u187,u188,u189,u190,u191,u192,u193,u194,u195,u196,u197,u198,u199,u200,u201,u202,u203,u204,u205,u206,u207,u208,u209,u210,u211,u212,u213,u214,u215,u216,u217,u218,u219,u220,u221,u222,u223,u224,u225,u226,u227,u228,u229,u230,u231,u232,u233,u234,u235,u236,u237,u238,u239,u240,u241,u242,u243,u244,u245,u246,u247,u248,u249,u250,u251,u252,u253,u254,u255,u256,u257,u258,u259,u260,u261,u262,u263,u264,u265,u266,u267,u268,u269,u270,u271,u272,u273,u274,u275,u276,u277,u278,v279,v280,v281,v282,v283,v284,v285,v286,v287,v288,v289,v290,v291,v292,v293,u294,u295,u296,u297,u298,u299,u300,u301,u302,u303,u304,u305,u306,u307,u308,u309,u310,u311,u312,u313,u314,u315,u316,u317,u318,u319,u320,u321,u322,u323,u324,u325,u326,u327,u328,u329,u330,u331,u332,u333,u334,u335,u336,u337,u338,u339,u340,u341,u342,u343,u344,u345,u346,u347,u348,u349,u350,u351,u352,u353,u354,u355,u356,u357,u358,u359,u360,u361,u362,u363,u364,u365,u366,u367,u368,u369,u370,u371,u372,u373,u374,u375,u376,u377,u378,u379,u380,u381,u382,u383,u384,u385,u386,u387,u388,u389,u390,u391,u392,u393,u394,u395,u396,u397,u398,u399,u400,u401,u402,u403,u404,u405,u406,u407,u408,u409,u410,u411,u412,u413,u414,u415,u416,u417,u418,u419,u420,u421,u422,u423,u424,u425,u426,u427,u428,u429,u430,u431,u432,u433,u434,u435,u436,u437,u438,u439,u440,u441],defers:=[] } wx):Code.wp Tryz.prog (List.foldl stepC ((Tryz.f3.body).getD .skip) [1,1,1,1,1,1,1,1,1,1,1,1,1,1,1,1,1,1,1,1,1,1,1,1,1,1,1,0,1,0,0,1,0,0,1,1,1,1,1,1,1,0,1,1]) Q { tmps:=#[u0,u1,u2,u3,.int .i64 (P:Int),u5,u6,u7,u8,u9,u10,u11,u12,u13,u14,u15,u16,u17,u18,u19,u20,u21,u22,u23,u24,.slice (some ⟨Z,0,none⟩) 2 2,u26,.slice (some ⟨Y,0,none⟩) 2 2,.pointer (some ⟨Y+1,0,none⟩),.pointer (some ⟨Y+1+1+1+1,0,none⟩),.pointer (some ⟨Y+1+1+1+1+1+1+1,0,none⟩),u31,u32,u33,.int .i64 0,u35,.int .i64 (m:Int),u37,u38,u39,u40,u41,u42,u43,u44,u45,u46,u47,u48,u49,u50,u51,u52,u53,u54,u55,u56,u57,u58,u59,u60,u61,u62,u63,u64,u65,u66,u67,u68,u69,u70,u71,u72,u73,u74,u75,u76,u77,u78,u79,u80,u81,u82,u83,u84,u85,u86,u87,u88,u89,u90,u91,u92,u93,u94,u95,u96,u97,u98,u99,u100,u101,u102,u103,u104,u105,u106,u107,u108,u109,u110,u111,u112,u113,u114,u115,u116,u117,u118,u119,u120,u121,u122,u123,u124,u125,u126,u127,u128,u129,u130,u131,u132,u133,u134,u135,u136,u137,u138,u139,u140,u141,u142,u143,u144,u145,u146,u147,u148,u149,u150,u151,u152,u153,u154,u155,u156,u157,u158,u159,u160,u161,u162,u163,u164,u165,u166,u167,u168,u169,u170,u171,u172,u173,u174,u175,u176,u177,u178,u179,u180,u181,u182,u183,u184,u185,u186,u187,u188,u189,u190,u191,u192,u193,u194,u195,u196,u197,u198,u199,u200,u201,u202,u203,u204,u205,u206,u207,u208,u209,u210,u211,u212,u213,u214,u215,u216,u217,u218,u219,u220,u221,u222,u223,u224,u225,u226,u227,u228,u229,u230,u231,u232,u233,u234,u235,u236,u237,u238,u239,u240,u241,u242,u243,u244,u245,u246,u247,u248,u249,u250,u251,u252,u253,u254,u255,u256,u257,u258,u259,u260,u261,u262,u263,u264,u265,u266,u267,u268,u269,u270,u271,u272,u273,u274,u275,u276,u277,u278,u279,u280,u281,u282,u283,u284,u285,u286,u287,u288,u289,u290,u291,u292,u293,u294,u295,u296,u297,u298,u299,u300,u301,u302,u303,u304,u305,u306,u307,u308,u309,u310,u311,u312,u313,u314,u315,u316,u317,u318,u319,u320,u321,u322,u323,u324,u325,u326,u327,u328,u329,u330,u331,u332,u333,u334,u335,u336,u337,u338,u339,u340,u341,u342,u343,u344,u345,u346,u347,u348,u349,u350,u351,u352,u353,u354,u355,u356,u357,u358,u359,u360,u361,u362,u363,u364,u365,u366,u367,u368,u369,u370,u371,u372,u373,u374,u375,u376,u377,u378,u379,u380,u381,u382,u383,u384,u385,u386,u387,u388,u389,u390,u391,u392,u393,u394,u395,u396,u397,u398,u399,u400,u401,u402,u403,u404,u405,u406,u407,u408,u409,u410,u411,u412,u413,u414,u415,u416,u417,u418,u419,u420,u421,u422,u423,u424,u425,u426,u427,u428,u429,u430,u431,u432,u433,u434,u435,u436,u437,u438,u439,u440,u441],defers:=[] } w:=by
 have hfx:=hf.now
 obtain ⟨cx,cy,cz,p0,p1,p2,p3,p4⟩:=hm.n0.cell (m:=m) (by rw[hP];exact hmP)
 obtain ⟨xr,xc,xa,xn,xk,rfl,rfl,rfl⟩:=p3.now.1
 have p0':w.cell? ⟨Y+1+1+1+1+1,m*3,none⟩=some (.int .i64 xr):=p0
 have p1':w.cell? ⟨Y+1+1+1+1+1,m*3+1,none⟩=some (.int .i64 xc):=p1
 have p2':w.cell? ⟨Y+1+1+1+1+1,m*3+2,none⟩=some (.slice xa xn xk):=p2
 have r2:w.cell? ⟨Y+1+1+1+1,0,none⟩=some (.slice (some ⟨Y+1+1+1+1+1,0,none⟩) P P):=by have:=hfx.in0;rw[hP]at this;exact this
 have HB1:=h_ (o_ w (.cells #[.int .i64 xr,.int .i64 xc,.slice xa xn xk] 28))
 have r0:(w.alloc (.cells #[.int .i64 xr,.int .i64 xc,.slice xa xn xk] 28)).cell? ⟨Y+1+1+1+1+1+1+1,0,none⟩=some (.slice (some ⟨Y+1+1+1+1+1+1+1+1,0,none⟩) P P):=by have:=c_ HB1.out hfx.cm0;rw[hP]at this;exact this
 have r1:(w.alloc (.cells #[.int .i64 xr,.int .i64 xc,.slice xa xn xk] 28)).cell? ⟨Y+1+1+1+1+1+1+1+1,m,none⟩=some (.bool false):=by
  obtain ⟨cv,q1,_,q3⟩:=hm.e0.cell (m:=m) (by rw[hP];exact hmP)
  have q4:cv=.bool (m0 m):=q3.now
  rw[q4,hc]at q1
  exact c_ HB1.out q1
 have HQ:=h_ hQ
 have HM:=h_ (hm.u_ HB1.out)
 clear hf hfx hm hQ hP hc p0 p1 p2 p3 p4
 simp only[List.foldl,stepC,Tryz.f3,Option.getD]
 go_wp2_with fail
 exact HQ.out _ _ _ _ _ _ _ _ _ _ _ _ _ _ _ _ _ HM.out
set_option maxHeartbeats 32000000 in
set_option maxRecDepth 100000 in
theorem bwd0{u0 u1 u2 u3 u5 u6 u7 u8 u9 u10 u11 u12 u13 u14 u15 u16 u17 u18 u19 u20 u21 u22 u23 u24 u26 u31 u32 u33 u35 u37 u38 u39 u40 u41 u42 u43 u44 u45 u46 u47 u48 u49 u50 u51 u52 u53 u54 u55 u56 u57 u58 u59 u60 u61 u62 u63 u64 u65 u66 u67 u68 u69 u70 u71 u72 u73 u74 u75 u76 u77 u78 u79 u80 u81 u82 u83 u84 u85 u86 u87 u88 u89 u90 u91 u92 u93 u94 u95 u96 u97 u98 u99 u100 u101 u102 u103 u104 u105 u106 u107 u108 u109 u110 u111 u112 u113 u114 u115 u116 u117 u118 u119 u120 u121 u122 u123 u124 u125 u126 u127 u128 u129 u130 u131 u132 u133 u134 u135 u136 u137 u138 u139 u140 u141 u142 u143 u144 u145 u146 u147 u148 u149 u150 u151 u152 u153 u154 u155 u156 u157 u158 u159 u160 u161 u162 u163 u164 u165 u166 u167 u168 u169 u170 u171 u172 u173 u174 u175 u176 u177 u178 u179 u180 u181 u182 u183 u184 u185 u186 u187 u188 u189 u190 u191 u192 u193 u194 u195 u196 u197 u198 u199 u200 u201 u202 u203 u204 u205 u206 u207 u208 u209 u210 u211 u212 u213 u214 u215 u216 u217 u218 u219 u220 u221 u222 u223 u224 u225 u226 u227 u228 u229 u230 u231 u232 u233 u234 u235 u236 u237 u238 u239 u240 u241 u242 u243 u244 u245 u246 u247 u248 u249 u250 u251 u252 u253 u254 u255 u256 u257 u258 u259 u260 u261 u262 u263 u264 u265 u266 u267 u268 u269 u270 u271 u272 u273 u274 u275 u276 u277 u278 u279 u280 u281 u282 u283 u284 u285 u286 u287 u288 u289 u290 u291 u292 u293 u294 u295 u296 u297 u298 u299 u300 u301 u302 u303 u304 u305 u306 u307 u308 u309 u310 u311 u312 u313 u314 u315 u316 u317 u318 u319 u320 u321 u322 u323 u324 u325 u326 u327 u328 u329 u330 u331 u332 u333 u334 u335 u336 u337 u338 u339 u340 u341 u342 u343 u344 u345 u346 u347 u348 u349 u350 u351 u352 u353 u354 u355 u356 u357 u358 u359 u360 u361 u362 u363 u364 u365 u366 u367 u368 u369 u370 u371 u372 u373 u374 u375 u376 u377 u378 u379 u380 u381 u382 u383 u384 u385 u386 u387 u388 u389 u390 u391 u392 u393 u394 u395 u396 u397 u398 u399 u400 u401 u402 u403 u404 u405 u406 u407 u408 u409 u410 u411 u412 u413 u414 u415 u416 u417 u418 u419 u420 u421 u422 u423 u424 u425 u426 u427 u428 u429 u430 u431 u432 u433 u434 u435 u436 u437 u438 u439 u440 u441:Value}(P B1 C1 B0 C0 Y Z m:Nat)(w:World)(Q:Exit→Act→World→Prop)(D:HD)(W0:World)(c0 c1:Nat)(d0 d1:Nat→Prop)(y0 y1:List (Mx×Mx))(q1 q0:List Nat)(m1 m0 g1 g0:Nat→Bool)(y:List (Mx×Mx))(pv lv n1:Value)(na:Option Addr)(K nc:Nat)(hm:HMem D (HBk.of Y B1 C1 B0 C0) W0 w c0 c1 d0 d1 y0 y1 q1 q0 m1 m0 g1 g0)(hf:Hold (HBk.of Y B1 C1 B0 C0).A w (HFix D (HBk.of Y B1 C1 B0 C0) pv lv (.slice na K nc) n1 Z))(hP:D.P=P)(hK:D.a≠[])(hmP:m<P)(hp:PartH D.a D.b (D.at m))(hd:d0 m)(hg:g0 m=true)(hga:gaE y0 (grd0 D.a D.b (D.at m))=0)(hgy:gaX y0 (grd0 D.a D.b (D.at m))=y)(hyl:y0.length≤12)(hc:m0 m=true)(hQ:∀(v43 v47 v48 v49 v279 v280 v281 v282 v283 v284 v285 v286 v287 v288 v289 v290 v291 v292 v293 v294 v295 v334 v335 v336 v337 v338 v339 v340 v341 v342 v343 v344 v345 v346 v347 v348 v349 v350 v351 v352 v353 v354 v355 v356 v357 v358 v359 v360 v361 v362 v363 v364 v365 v366 v367:Value) (wx:World),HMem D (HBk.of Y B1 C1 B0 C0) W0 wx c0 c1 d0 d1 y y1 q1 q0 m1 m0 g1 g0→Q .normal { tmps:=#[u0,u1,u2,u3,.int .i64 (P:Int),u5,u6,u7,u8,u9,u10,u11,u12,u13,u14,u15,u16,u17,u18,u19,u20,u21,u22,u23,u24,.slice (some ⟨Z,0,none⟩) 2 2,u26,.slice (some ⟨Y,0,none⟩) 2 2,.pointer (some ⟨Y+1,0,none⟩),.pointer (some ⟨Y+1+1+1+1,0,none⟩),.pointer (some ⟨Y+1+1+1+1+1+1+1,0,none⟩),u31,u32,u33,.int .i64 0,u35,.int .i64 (m:Int),u37,u38,u39,u40,u41,u42,v43,u44,u45,u46,v47,v48,v49,u50,u51,u52,u53,u54,u55,u56,u57,u58,u59,u60,u61,u62,u63,u64,u65,u66,u67,u68,u69,u70,u71,u72,u73,u74,u75,u76,u77,u78,u79,u80,u81,u82,u83,u84,u85,u86,u87,u88,u89,u90,u91,u92,u93,u94,u95,u96,u97,u98,u99,u100,u101,u102,u103,u104,u105,u106,u107,u108,u109,u110,u111,u112,u113,u114,u115,u116,u117,u118,u119,u120,u121,u122,u123,u124,u125,u126,u127,u128,u129,u130,u131,u132,u133,u134,u135,u136,u137,u138,u139,u140,u141,u142,u143,u144,u145,u146,u147,u148,u149,u150,u151,u152,u153,u154,u155,u156,u157,u158,u159,u160,u161,u162,u163,u164,u165,u166,u167,u168,u169,u170,u171,u172,u173,u174,u175,u176,u177,u178,u179,u180,u181,u182,u183,u184,u185,u186,u187,u188,u189,u190,u191,u192,u193,u194,u195,u196,u197,u198,u199,u200,u201,u202,u203,u204,u205,u206,u207,u208,u209,u210,u211,u212,u213,u214,u215,u216,u217,u218,u219,u220,u221,u222,u223,u224,u225,u226,u227,u228,u229,u230,u231,u232,u233,u234,u235,u236,u237,u238,u239,u240,u241,u242,u243,u244,u245,u246,u247,u248,u249,u250,u251,u252,u253,u254,u255,u256,u257,u258,u259,u260,u261,u262,u263,u264,u265,u266,u267,u268,u269,u270,u271,u272,u273,u274,u275,u276,u277,u278,v279,v280,v281,v282,v283,v284,v285,v286,v287,v288,v289,v290,v291,v292,v293,v294,v295,u296,u297,u298,u299,u300,u301,u302,u303,u304,u305,u306,u307,u308,u309,u310,u311,u312,u313,u314,u315,u316,u317,u318,u319,u320,u321,u322,u323,u324,u325,u326,u327,u328,u329,u330,u331,u332,u333,v334,v335,v336,v337,v338,v339,v340,v341,v342,v343,v344,v345,v346,v347,v348,v349,v350,v351,v352,v353,v354,v355,v356,v357,v358,v359,v360,v361,v362,v363,v364,v365,v366,v367,u368,u369,u370,u371,u372,u373,u374,u375,u376,u377,u378,u379,u380,u381,u382,u383,u384,u385,u386,u387,u388,u389,u390,u391,u392,u393,u394,u395,u396,u397,u398,u399,u400,u401,u402,u403,u404,u405,u406,u407,u408,u409,u410,u411,u412,u413,u414,u415,u416,u417,u418,u419,u420,u421,u422,u423,u424,u425,u426,u427,u428,u429,u430,u431,u432,u433,u434,u435,u436,u437,u438,u439,u440,u441],defers:=[] } wx):Code.wp Tryz.prog (List.foldl stepC ((Tryz.f3.body).getD .skip) [1,1,1,1,1,1,1,1,1,1,1,1,1,1,1,1,1,1,1,1,1,1,1,1,1,1,1,0,1,0,0,1,0,0,1,1,1,1,1,1,1,0,1,1]) Q { tmps:=#[u0,u1,u2,u3,.int .i64 (P:Int),u5,u6,u7,u8,u9,u10,u11,u12,u13,u14,u15,u16,u17,u18,u19,u20,u21,u22,u23,u24,.slice (some ⟨Z,0,none⟩) 2 2,u26,.slice (some ⟨Y,0,none⟩) 2 2,.pointer (some ⟨Y+1,0,none⟩),.pointer (some ⟨Y+1+1+1+1,0,none⟩),.pointer (some ⟨Y+1+1+1+1+1+1+1,0,none⟩),u31,u32,u33,.int .i64 0,u35,.int .i64 (m:Int),u37,u38,u39,u40,u41,u42,u43,u44,u45,u46,u47,u48,u49,u50,u51,u52,u53,u54,u55,u56,u57,u58,u59,u60,u61,u62,u63,u64,u65,u66,u67,u68,u69,u70,u71,u72,u73,u74,u75,u76,u77,u78,u79,u80,u81,u82,u83,u84,u85,u86,u87,u88,u89,u90,u91,u92,u93,u94,u95,u96,u97,u98,u99,u100,u101,u102,u103,u104,u105,u106,u107,u108,u109,u110,u111,u112,u113,u114,u115,u116,u117,u118,u119,u120,u121,u122,u123,u124,u125,u126,u127,u128,u129,u130,u131,u132,u133,u134,u135,u136,u137,u138,u139,u140,u141,u142,u143,u144,u145,u146,u147,u148,u149,u150,u151,u152,u153,u154,u155,u156,u157,u158,u159,u160,u161,u162,u163,u164,u165,u166,u167,u168,u169,u170,u171,u172,u173,u174,u175,u176,u177,u178,u179,u180,u181,u182,u183,u184,u185,u186,u187,u188,u189,u190,u191,u192,u193,u194,u195,u196,u197,u198,u199,u200,u201,u202,u203,u204,u205,u206,u207,u208,u209,u210,u211,u212,u213,u214,u215,u216,u217,u218,u219,u220,u221,u222,u223,u224,u225,u226,u227,u228,u229,u230,u231,u232,u233,u234,u235,u236,u237,u238,u239,u240,u241,u242,u243,u244,u245,u246,u247,u248,u249,u250,u251,u252,u253,u254,u255,u256,u257,u258,u259,u260,u261,u262,u263,u264,u265,u266,u267,u268,u269,u270,u271,u272,u273,u274,u275,u276,u277,u278,u279,u280,u281,u282,u283,u284,u285,u286,u287,u288,u289,u290,u291,u292,u293,u294,u295,u296,u297,u298,u299,u300,u301,u302,u303,u304,u305,u306,u307,u308,u309,u310,u311,u312,u313,u314,u315,u316,u317,u318,u319,u320,u321,u322,u323,u324,u325,u326,u327,u328,u329,u330,u331,u332,u333,u334,u335,u336,u337,u338,u339,u340,u341,u342,u343,u344,u345,u346,u347,u348,u349,u350,u351,u352,u353,u354,u355,u356,u357,u358,u359,u360,u361,u362,u363,u364,u365,u366,u367,u368,u369,u370,u371,u372,u373,u374,u375,u376,u377,u378,u379,u380,u381,u382,u383,u384,u385,u386,u387,u388,u389,u390,u391,u392,u393,u394,u395,u396,u397,u398,u399,u400,u401,u402,u403,u404,u405,u406,u407,u408,u409,u410,u411,u412,u413,u414,u415,u416,u417,u418,u419,u420,u421,u422,u423,u424,u425,u426,u427,u428,u429,u430,u431,u432,u433,u434,u435,u436,u437,u438,u439,u440,u441],defers:=[] } w:=by
 have hfx:=hf.now
 obtain ⟨cx,cy,cz,p0,p1,p2,p3,p4⟩:=hm.n0.cell (m:=m) (by rw[hP];exact hmP)
 obtain ⟨xr,xc,xa,xn,xk,rfl,rfl,rfl⟩:=p3.now.1
 have p0':w.cell? ⟨Y+1+1+1+1+1,m*3,none⟩=some (.int .i64 xr):=p0
 have p1':w.cell? ⟨Y+1+1+1+1+1,m*3+1,none⟩=some (.int .i64 xc):=p1
 have p2':w.cell? ⟨Y+1+1+1+1+1,m*3+2,none⟩=some (.slice xa xn xk):=p2
 have r2:w.cell? ⟨Y+1+1+1+1,0,none⟩=some (.slice (some ⟨Y+1+1+1+1+1,0,none⟩) P P):=by have:=hfx.in0;rw[hP]at this;exact this
 have HB1:=h_ (o_ w (.cells #[.int .i64 xr,.int .i64 xc,.slice xa xn xk] 28))
 have r0:(w.alloc (.cells #[.int .i64 xr,.int .i64 xc,.slice xa xn xk] 28)).cell? ⟨Y+1+1+1+1+1+1+1,0,none⟩=some (.slice (some ⟨Y+1+1+1+1+1+1+1+1,0,none⟩) P P):=by have:=c_ HB1.out hfx.cm0;rw[hP]at this;exact this
 have r1:(w.alloc (.cells #[.int .i64 xr,.int .i64 xc,.slice xa xn xk] 28)).cell? ⟨Y+1+1+1+1+1+1+1+1,m,none⟩=some (.bool true):=by
  obtain ⟨cv,q1,_,q3⟩:=hm.e0.cell (m:=m) (by rw[hP];exact hmP)
  have q4:cv=.bool (m0 m):=q3.now
  rw[q4,hc]at q1
  exact c_ HB1.out q1
 obtain ⟨e1,e2,hzi⟩:=p3.now.2 hg
 have hxr:xr=(bckH D.a D.b (D.at m)).rows:=by simpa using e1
 have hxc:xc=(bckH D.a D.b (D.at m)).cols:=by simpa using e2
 obtain ⟨V,hV⟩:=gM (w.alloc (.cells #[.int .i64 xr,.int .i64 xc,.slice xa xn xk] 28))
 have HV:=h_ hV
 have HBV:=h_ (show Below w.heap.size w V by rw[hV];exact HB1.out)
 have HKB:=h_ (show WBk V w.heap.size #[.int .i64 xr,.int .i64 xc,.slice xa xn xk] 28 by rw[hV];exact WBk.new w _ _)
 obtain ⟨sv,w1,_,w3⟩:=hm.w0.cell (m:=m) (by rw[hP];exact hmP)
 have HSV:=h_ (w3.now hd)
 obtain ⟨sva,svk,hsve,_⟩:=id HSV.out
 obtain ⟨svn,hsvn⟩:=gN ((ngX D.a (D.at m).1).length)
 rw[hsvn]at hsve
 subst hsve
 have w1':w.cell? ⟨Y+1+1,m,none⟩=some (.slice sva svn svk):=w1
 have w2':w.cell? ⟨Y+1,0,none⟩=some (.slice (some ⟨Y+1+1,0,none⟩) P P):=by have:=hfx.sw0;rw[hP]at this;exact this
 have HCE:=h_ (show ∀W',Below V.heap.size V W'→W'.cell? ⟨Z,0,none⟩=some (.slice na K nc)∧W'.cell? ⟨Y+1,0,none⟩=some (.slice (some ⟨Y+1+1,0,none⟩) P P)∧W'.cell? ⟨Y+1+1,m,none⟩=some (.slice sva svn svk)∧W'.cell? ⟨w.heap.size,0,none⟩=some (.int .i64 xr)∧W'.cell? ⟨w.heap.size,1,none⟩=some (.int .i64 xc)∧W'.cell? ⟨w.heap.size,2,none⟩=some (.slice xa xn xk) from fun W' hb=>⟨c_ (bel_on HBV.out hb) hfx.c0,c_ (bel_on HBV.out hb) w2',c_ (bel_on HBV.out hb) w1',(HKB.out.kept hb).c rfl,(HKB.out.kept hb).c rfl,(HKB.out.kept hb).c rfl⟩)
 obtain ⟨yr,hyr⟩:=gN ((nbX D.a (ngX D.a (D.at m).1) (bckH D.a D.b (D.at m))).rows)
 obtain ⟨yc,hyc⟩:=gN ((nbX D.a (ngX D.a (D.at m).1) (bckH D.a D.b (D.at m))).cols)
 have HBK:=h_ (show ∀W',Below V.heap.size V W'→∀lo,V.heap.size≤lo→lo≤W'.heap.size→_ from fun W' hb lo h1 h2=>netback_hold (.slice na K nc) (.slice sva svn svk) xa xn xk D.a (ngX D.a (D.at m).1) (bckH D.a D.b (D.at m)) W' (hfx.l0.u_ (bel_on HBV.out hb)) (HSV.out.u_ (bel_on HBV.out hb)) 0 lo h2 (part_old (hzi.u_ HBV.out) hb (fun b q=>by omega)) hK hp.bk0)
 rw[←hxr,←hxc,hyr,hyc]at HBK
 obtain ⟨TT,hTT⟩:=gN (nbX D.a (ngX D.a (D.at m).1) (bckH D.a D.b (D.at m)))
 have hGD:nbD D.a (ngX D.a (D.at m).1) (bckH D.a D.b (D.at m))=grd0 D.a D.b (D.at m):=rfl
 rw[hTT,hGD]at HBK
 have HM:=h_ hm
 have HFX:=h_ hf
 have HQ:=h_ hQ
 have HGA:=h_ (And.intro hga (And.intro hgy hyl))
 have HT3:=h_ (HBK.out (V.alloc (.cells #[.int .i64 0,.int .i64 0,.slice none 0 0] 28)).drew (wy_drew (o_ _ _)) V.heap.size (Nat.le_refl _) (by show V.heap.size≤(V.alloc (.cells #[.int .i64 0,.int .i64 0,.slice none 0 0] 28)).heap.size;rw[World.size_alloc];omega))
 have HT0:=h_ (HBK.out V.drew (wy_drew (Below.refl _ _)) V.heap.size (Nat.le_refl _) (Nat.le_refl _))
 have HSZ:=h_ (show (V.alloc (.cells #[.int .i64 0,.int .i64 0,.slice none 0 0] 28)).drew.heap.size=V.heap.size+1 from World.size_alloc _ _)
 have HP:=h_ hP
 clear hf hfx hm hQ hP hK hp hd hc hg hga hgy hyl p0 p1 p2 p3 p4 e1 e2 hzi hxr hxc hyr hyc hTT hGD w1 w3 hsvn hV
 simp only[List.foldl,stepC,Tryz.f3,Option.getD]
 go_wp2_with fail
 rw[←HV.out]
 go_cut [47,48,49] from 334 to 349 (fun pv dv ev wx=>∃(Bk:Nat) (ta:Option Addr) (tn tk:Nat),pv=.pointer (some ⟨Bk,0,none⟩)∧ev=.nilIface∧V.heap.size≤Bk∧WBk wx Bk #[.int .i64 yr,.int .i64 yc,.slice ta tn tk] 28∧I_ wx (.slice ta tn tk) TT.cells∧D_ wx dv (grd0 D.a D.b (D.at m))∧Below V.heap.size V wx)
 case first=>
  obtain ⟨lm0,lm1,lm2,lm3,lm4,lm5⟩:=HCE.out V (Below.refl _ _)
  go_region_held3 (fun W'=>W'.cell? ⟨Z,0,none⟩=some (.slice na K nc)∧W'.cell? ⟨Y+1,0,none⟩=some (.slice (some ⟨Y+1+1,0,none⟩) P P)∧W'.cell? ⟨Y+1+1,m,none⟩=some (.slice sva svn svk)∧W'.cell? ⟨w.heap.size,0,none⟩=some (.int .i64 xr)∧W'.cell? ⟨w.heap.size,1,none⟩=some (.int .i64 xc)∧W'.cell? ⟨w.heap.size,2,none⟩=some (.slice xa xn xk))
   ((refine HCE.out _ ?_;repeat' (first|with_reducible exact Below.refl _ _|with_reducible refine d_ ?_|with_reducible refine a_ ?_|with_reducible refine t_ ?_ ?_|with_reducible exact HB2.out|exact Nat.le_refl _|exact HB2.out.size)))
   (first
    |(go_at_call 18;guard_target=Calls _ _ _ (World.drew (World.alloc V (Obj.cells #[_,_,_] _))) _;refine HT3.out.mono ?_;rintro e wz ⟨ts,vd,rfl,hh,hbz⟩;obtain ⟨ta,tn,tk,rfl⟩:=hh.now.1.shape;have hc2:=bel_on (wy_drew (Below.refl _ (V.alloc (.cells #[.int .i64 0,.int .i64 0,.slice none 0 0] 28)))) hbz;have HB2:=h_ (show Below V.heap.size V wz from bel_on (o_ V (.cells #[.int .i64 0,.int .i64 0,.slice none 0 0] 28)) hc2);have hkz:=(WBk.new V #[.int .i64 0,.int .i64 0,.slice none 0 0] 28).kept hc2;have z30:=hkz.c (i:=0) rfl;have z31:=hkz.c (i:=1) rfl;have z32:=hkz.c (i:=2) rfl;have f30:=hkz.f 0;have f31:=hkz.f 1;have f32:=hkz.f 2;have HE:=h_ (show WBk (((wz.setCell ⟨V.heap.size,0,none⟩ (.int .i64 yr)).setCell ⟨V.heap.size,1,none⟩ (.int .i64 yc)).setCell ⟨V.heap.size,2,none⟩ (.slice ta tn tk)) V.heap.size #[.int .i64 yr,.int .i64 yc,.slice ta tn tk] 28 from ((hkz.set 0 _).set 1 _).set 2 _);have HHH:=h_ ((hh.kept (keep3 wz V.heap.size 0 (.int .i64 yr) (.int .i64 yc) (.slice ta tn tk)) (fun b e=>(show (b<0∨V.heap.size≤b)∧b<(V.alloc (.cells #[.int .i64 0,.int .i64 0,.slice none 0 0] 28)).drew.heap.size from by rw[HSZ.out];omega))).now);have HNb:=h_ (Nat.le_refl V.heap.size);clear hh hbz hc2 hkz)
    |(go_at_call 18;guard_target=Calls _ _ _ (World.drew V) _;refine HT0.out.mono ?_;rintro e wz ⟨ts,vd,rfl,hh,hbz⟩;obtain ⟨ta,tn,tk,rfl⟩:=hh.now.1.shape;have hc2:=bel_on (wy_drew (Below.refl _ V)) hbz;have HB2:=h_ (show Below V.heap.size V wz from hc2);have HE:=h_ (WBk.new wz #[.int .i64 yr,.int .i64 yc,.slice ta tn tk] 28);have HHH:=h_ ((hh.u_ (o_ wz (.cells #[.int .i64 yr,.int .i64 yc,.slice ta tn tk] 28))).now);have HNb:=h_ HB2.out.size;clear hh hbz hc2))
  all_goals go_wp2
  all_goals go_meet
  all_goals
   refine ⟨_,ta,tn,tk,rfl,rfl,HNb.out,?_,?_,?_,?_⟩
   ·with_reducible exact HE.out
   ·exact HHH.out.1
   ·exact HHH.out.2
   ·repeat' (first|with_reducible exact Below.refl _ _|with_reducible refine d_ ?_|with_reducible refine a_ ?_|with_reducible refine t_ ?_ ?_|with_reducible exact HB2.out|exact Nat.le_refl _|exact HB2.out.size)
 case rest=>
  obtain ⟨Bk,ta,tn,tk,rfl,rfl,hBk,hbk,hbi,hbd,hbc⟩:=hcut
  have HM1:=h_ (HM.out.u_ (bel_on HBV.out hbc))
  obtain ⟨yv,g1,_,g3⟩:=HM1.out.yy.cell (m:=0) (by omega)
  have hyv:D_ wc yv y0:=g3.now.1 rfl
  obtain ⟨ya,yk,hye,_,_⟩:=hyv.shape
  obtain ⟨yn,hyn⟩:=gN (y0.length)
  rw[hyn]at hye
  subst hye
  obtain ⟨da,dk,hde,_,_⟩:=hbd.shape
  obtain ⟨dn,hdn⟩:=gN ((grd0 D.a D.b (D.at m)).length)
  rw[hdn]at hde
  subst hde
  have g1':wc.cell? ⟨Y,0,none⟩=some (.slice ya yn yk):=g1
  have HGT:=h_ (netgather_owns _ _ y0 (grd0 D.a D.b (D.at m)) wc hyv hbd (by have:=HGA.out.2.2;omega))
  rw[HGA.out.1,e_ rfl,HGA.out.2.1]at HGT
  have HBC:=h_ hbc
  clear g1 g3 hyv hbd hbk hbi hBk hyn hdn hbc
  go_wp2_with fail
  refine HGT.out.mono ?_
  rintro e wg ⟨u,rfl,hu,hbg⟩
  have HM2:=h_ (HM1.out.u_ hbg)
  obtain ⟨old,o1,o2,_⟩:=HM2.out.yy.cell (m:=0) (by omega)
  have o1':wg.cell? ⟨Y,0,none⟩=some old:=o1
  have o2':wg.frozen? ⟨Y,0,none⟩=false:=o2
  have HM3:=h_ (HM2.out.gath0 (y:=y) u ((hu.hold.mono (fun b _ q=>HM1.out.lt b q)).imp (fun W q=>q)))
  obtain ⟨ua,uk,hue,_⟩:=hu.reads
  subst hue
  clear o1 o2 hu hbg
  go_wp2_with fail
  exact HQ.out _ _ _ _ _ _ _ _ _ _ _ _ _ _ _ _ _ _ _ _ _ _ _ _ _ _ _ _ _ _ _ _ _ _ _ _ _ _ _ _ _ _ _ _ _ _ _ _ _ _ _ _ _ _ _ _ HM3.out
end Go.Proofs.YtniloklglpchfakGreat
