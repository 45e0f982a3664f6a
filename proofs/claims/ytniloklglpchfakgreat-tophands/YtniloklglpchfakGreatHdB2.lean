/- The second stage goes back with a part. -/
import Derived.Test.YtniloklglpchfakGreatPkHdN
import Derived.Test.YtniloklglpchfakGreatPkHdT
import Derived.Test.YtniloklglpchfakGreatPkTrFact
import Derived.Deep.RegionHeld3
import Derived.Deep.CutRange
import Derived.Test.YtniloklglpchfakGreatPkHdB1
import Derived.Test.YtniloklglpchfakGreatPkLsBoth
import Derived.Test.YtniloklglpchfakGreatLsBack
namespace Go.Proofs.YtniloklglpchfakGreat
open Go.RowKit
theorem kp_drew{X:Nat→Prop}{w u:World}(h:Kept X w u):Kept X w u.drew:=h.trans (Kept.of (X:=fun _=>False) ((Below.refl _ _).drew)) (fun _ _ q=>q.elim)
theorem kp_set{X:Nat→Prop}{w u:World}{B q:Nat}{v:Value}(h:Kept X w u)(hB:X B):Kept X w (u.setCell ⟨B,q,none⟩ v):=h.trans (Kept.set (X:=fun b=>b=B) u rfl q v) (fun b _ e=>by rw[e];exact hB)
theorem kp_go{X:Nat→Prop}{w u v:World}(h:Kept X w u)(k:Below u.heap.size u v):Kept X w v:=h.trans (Kept.of (X:=fun _=>False) k) (fun _ _ q=>q.elim)
set_option maxHeartbeats 32000000 in
set_option maxRecDepth 100000 in
theorem bwd1{u0 u1 u2 u3 u5 u6 u7 u8 u9 u10 u11 u12 u13 u14 u15 u16 u17 u18 u20 u21 u22 u24 u26 u32 u33 u35 u37 u38 u39 u40 u41 u42 u43 u44 u45 u46 u47 u48 u49 u50 u51 u52 u53 u54 u55 u56 u57 u58 u59 u60 u61 u62 u63 u64 u65 u66 u67 u68 u69 u70 u71 u72 u73 u74 u75 u76 u77 u78 u79 u80 u81 u82 u83 u84 u85 u86 u87 u88 u89 u90 u91 u92 u93 u94 u95 u96 u97 u98 u99 u100 u101 u102 u103 u104 u105 u106 u107 u108 u109 u110 u111 u112 u113 u114 u115 u116 u117 u118 u119 u120 u121 u122 u123 u124 u125 u126 u127 u128 u129 u130 u131 u132 u133 u134 u135 u136 u137 u138 u139 u140 u141 u142 u143 u144 u145 u146 u147 u148 u149 u150 u151 u152 u153 u154 u155 u156 u157 u158 u159 u160 u161 u162 u163 u164 u165 u166 u167 u168 u169 u170 u171 u172 u173 u174 u175 u176 u177 u178 u179 u180 u181 u182 u183 u184 u185 u186 u187 u188 u189 u190 u191 u192 u193 u194 u195 u196 u197 u198 u199 u200 u201 u202 u203 u204 u205 u206 u207 u208 u209 u210 u211 u212 u213 u214 u215 u216 u217 u218 u219 u220 u221 u222 u223 u224 u225 u226 u227 u228 u229 u230 u231 u232 u233 u234 u235 u236 u237 u238 u239 u240 u241 u242 u243 u244 u245 u246 u247 u248 u249 u250 u251 u252 u253 u254 u255 u256 u257 u258 u259 u260 u261 u262 u263 u264 u265 u266 u267 u268 u269 u270 u271 u272 u273 u274 u275 u276 u277 u278 u279 u280 u281 u282 u283 u284 u285 u286 u287 u288 u289 u290 u291 u292 u293 u294 u295 u296 u297 u298 u299 u300 u301 u302 u303 u304 u305 u306 u307 u308 u309 u310 u311 u312 u313 u314 u315 u316 u317 u318 u319 u320 u321 u322 u323 u324 u325 u326 u327 u328 u329 u330 u331 u332 u333 u334 u335 u336 u337 u338 u339 u340 u341 u342 u343 u344 u345 u346 u347 u348 u349 u350 u351 u352 u353 u354 u355 u356 u357 u358 u359 u360 u361 u362 u363 u364 u365 u366 u367 u368 u369 u370 u371 u372 u373 u374 u375 u376 u377 u378 u379 u380 u381 u382 u383 u384 u385 u386 u387 u388 u389 u390 u391 u392 u393 u394 u395 u396 u397 u398 u399 u400 u401 u402 u403 u404 u405 u406 u407 u408 u409 u410 u411 u412 u413 u414 u415 u416 u417 u418 u419 u420 u421 u422 u423 u424 u425 u426 u427 u428 u429 u430 u431 u432 u433 u434 u435 u436 u437 u438 u439 u440 u441:Value}(la:Option Addr)(P lk B1 C1 B0 C0 Y Z m:Nat)(sm:Int)(w:World)(Q:Exit→Act→World→Prop)(D:HD)(W0:World)(c0 c1:Nat)(d0 d1:Nat→Prop)(y0 y1:List (Mx×Mx))(q1 q0:List Nat)(m1 m0 g1 g0:Nat→Bool)(y:List (Mx×Mx))(pv n0:Value)(na:Option Addr)(K nc:Nat)(hm:HMem D (HBk.of Y B1 C1 B0 C0) W0 w c0 c1 d0 d1 y0 y1 q1 q0 m1 m0 g1 g0)(hf:Hold (HBk.of Y B1 C1 B0 C0).A w (HFix D (HBk.of Y B1 C1 B0 C0) pv (.slice la P lk) n0 (.slice na K nc) Z))(hP:D.P=P)(hLP:D.L.length=P)(hK:D.b≠[])(hKl:D.b.length=K)(hmP:m<P)(hP12:P≤12)(hp:PartH D.a D.b (D.at m))(hd:d1 m)(hga:gaE y1 (grd1 D.a D.b (D.at m))=0)(hgy:gaX y1 (grd1 D.a D.b (D.at m))=y)(hyl:y1.length≤12)(hq:q0.length<16)(hQ:∀(v43 v44 v45 v46 v47 v48 v49 v279 v280 v281 v282 v283 v284 v285 v286 v287 v288 v289 v290 v291 v292 v293 v294 v295 v296 v297 v298 v299 v300 v301 v302 v303 v304 v305 v306 v307 v308 v309 v310 v311 v312 v313 v314 v315 v316 v317 v318 v319 v320 v321 v322 v323 v324 v325 v326 v327 v328 v329 v330 v331 v332 v333 v334 v335 v336 v337 v338 v339 v340 v341 v342 v343 v344 v345 v346 v347 v348 v349 v350 v351 v352 v353 v354 v355 v356 v357 v358 v359 v360 v361 v362 v363 v364 v365 v366 v367 v368 v369 v370 v371 v372:Value) (wx:World),HMem D (HBk.of Y B1 C1 B0 C0) W0 wx c0 c1 d0 d1 y0 y q1 (q0++[m]) m1 m0 g1 g0→Q .normal { tmps:=#[u0,u1,u2,u3,.int .i64 (P:Int),u5,u6,u7,u8,u9,u10,u11,u12,.bool true,u14,u15,u16,u17,u18,.slice la P lk,u20,u21,u22,.pointer (some ⟨B0,0,none⟩),u24,.slice (some ⟨Z,0,none⟩) 2 2,u26,.slice (some ⟨Y,0,none⟩) 2 2,.pointer (some ⟨Y+1,0,none⟩),.pointer (some ⟨Y+1+1+1+1,0,none⟩),.pointer (some ⟨Y+1+1+1+1+1+1+1,0,none⟩),.int .i64 (ad sm (lossX (gotH D.a D.b (D.at m)) (D.at m).2)),u32,u33,.int .i64 1,u35,.int .i64 (m:Int),u37,u38,u39,u40,u41,u42,v43,v44,v45,v46,v47,v48,v49,u50,u51,u52,u53,u54,u55,u56,u57,u58,u59,u60,u61,u62,u63,u64,u65,u66,u67,u68,u69,u70,u71,u72,u73,u74,u75,u76,u77,u78,u79,u80,u81,u82,u83,u84,u85,u86,u87,u88,u89,u90,u91,u92,u93,u94,u95,u96,u97,u98,u99,u100,u101,u102,u103,u104,u105,u106,u107,u108,u109,u110,u111,u112,u113,u114,u115,u116,u117,u118,u119,u120,u121,u122,u123,u124,u125,u126,u127,u128,u129,u130,u131,u132,u133,u134,u135,u136,u137,u138,u139,u140,u141,u142,u143,u144,u145,u146,u147,u148,u149,u150,u151,u152,u153,u154,u155,u156,u157,u158,u159,u160,u161,u162,u163,u164,u165,u166,u167,u168,u169,u170,u171,u172,u173,u174,u175,u176,u177,u178,u179,u180,u181,u182,u183,u184,u185,u186,u187,u188,u189,u190,u191,u192,u193,u194,u195,u196,u197,u198,u199,u200,u201,u202,u203,u204,u205,u206,u207,u208,u209,u210,u211,u212,u213,u214,u215,u216,u217,u218,u219,u220,u221,u222,u223,u224,u225,u226,u227,u228,u229,u230,u231,u232,u233,u234,u235,u236,u237,u238,u239,u240,u241,u242,u243,u244,u245,u246,u247,u248,u249,u250,u251,u252,u253,u254,u255,u256,u257,u258,u259,u260,u261,u262,u263,u264,u265,u266,u267,u268,u269,u270,u271,u272,u273,u274,u275,u276,u277,u278,v279,v280,v281,v282,v283,v284,v285,v286,v287,v288,v289,v290,v291,v292,v293,v294,v295,v296,v297,v298,v299,v300,v301,v302,v303,v304,v305,v306,v307,v308,v309,v310,v311,v312,v313,v314,v315,v316,v317,v318,v319,v320,v321,v322,v323,v324,v325,v326,v327,v328,v329,v330,v331,v332,v333,v334,v335,v336,v337,v338,v339,v340,v341,v342,v343,v344,v345,v346,v347,v348,v349,v350,v351,v352,v353,v354,v355,v356,v357,v358,v359,v360,v361,v362,v363,v364,v365,v366,v367,v368,v369,v370,v371,v372,u373,u374,u375,u376,u377,u378,u379,u380,u381,u382,u383,u384,u385,u386,u387,u388,u389,u390,u391,u392,u393,u394,u395,u396,u397,u398,u399,u400,u401,u402,u403,u404,u405,u406,u407,u408,u409,u410,u411,u412,u413,u414,u415,u416,u417,u418,u419,u420,u421,u422,u423,u424,u425,u426,u427,u428,u429,u430,u431,u432,u433,u434,u435,u436,u437,u438,u439,u440,u441],defers:=[] } wx):Code.wp Tryz.prog (List.foldl stepC ((Tryz.f3.body).getD .skip) [1,1,1,1,1,1,1,1,1,1,1,1,1,1,1,1,1,1,1,1,1,1,1,1,1,1,1,0,1,0,0,1,0,0,1,1,1,1,1,1,1,0,1,1]) Q { tmps:=#[u0,u1,u2,u3,.int .i64 (P:Int),u5,u6,u7,u8,u9,u10,u11,u12,u13,u14,u15,u16,u17,u18,.slice la P lk,u20,u21,u22,.pointer (some ⟨B0,0,none⟩),u24,.slice (some ⟨Z,0,none⟩) 2 2,u26,.slice (some ⟨Y,0,none⟩) 2 2,.pointer (some ⟨Y+1,0,none⟩),.pointer (some ⟨Y+1+1+1+1,0,none⟩),.pointer (some ⟨Y+1+1+1+1+1+1+1,0,none⟩),.int .i64 sm,u32,u33,.int .i64 1,u35,.int .i64 (m:Int),u37,u38,u39,u40,u41,u42,u43,u44,u45,u46,u47,u48,u49,u50,u51,u52,u53,u54,u55,u56,u57,u58,u59,u60,u61,u62,u63,u64,u65,u66,u67,u68,u69,u70,u71,u72,u73,u74,u75,u76,u77,u78,u79,u80,u81,u82,u83,u84,u85,u86,u87,u88,u89,u90,u91,u92,u93,u94,u95,u96,u97,u98,u99,u100,u101,u102,u103,u104,u105,u106,u107,u108,u109,u110,u111,u112,u113,u114,u115,u116,u117,u118,u119,u120,u121,u122,u123,u124,u125,u126,u127,u128,u129,u130,u131,u132,u133,u134,u135,u136,u137,u138,u139,u140,u141,u142,u143,u144,u145,u146,u147,u148,u149,u150,u151,u152,u153,u154,u155,u156,u157,u158,u159,u160,u161,u162,u163,u164,u165,u166,u167,u168,u169,u170,u171,u172,u173,u174,u175,u176,u177,u178,u179,u180,u181,u182,u183,u184,u185,u186,u187,u188,u189,u190,u191,u192,u193,u194,u195,u196,u197,u198,u199,u200,u201,u202,u203,u204,u205,u206,u207,u208,u209,u210,u211,u212,u213,u214,u215,u216,u217,u218,u219,u220,u221,u222,u223,u224,u225,u226,u227,u228,u229,u230,u231,u232,u233,u234,u235,u236,u237,u238,u239,u240,u241,u242,u243,u244,u245,u246,u247,u248,u249,u250,u251,u252,u253,u254,u255,u256,u257,u258,u259,u260,u261,u262,u263,u264,u265,u266,u267,u268,u269,u270,u271,u272,u273,u274,u275,u276,u277,u278,u279,u280,u281,u282,u283,u284,u285,u286,u287,u288,u289,u290,u291,u292,u293,u294,u295,u296,u297,u298,u299,u300,u301,u302,u303,u304,u305,u306,u307,u308,u309,u310,u311,u312,u313,u314,u315,u316,u317,u318,u319,u320,u321,u322,u323,u324,u325,u326,u327,u328,u329,u330,u331,u332,u333,u334,u335,u336,u337,u338,u339,u340,u341,u342,u343,u344,u345,u346,u347,u348,u349,u350,u351,u352,u353,u354,u355,u356,u357,u358,u359,u360,u361,u362,u363,u364,u365,u366,u367,u368,u369,u370,u371,u372,u373,u374,u375,u376,u377,u378,u379,u380,u381,u382,u383,u384,u385,u386,u387,u388,u389,u390,u391,u392,u393,u394,u395,u396,u397,u398,u399,u400,u401,u402,u403,u404,u405,u406,u407,u408,u409,u410,u411,u412,u413,u414,u415,u416,u417,u418,u419,u420,u421,u422,u423,u424,u425,u426,u427,u428,u429,u430,u431,u432,u433,u434,u435,u436,u437,u438,u439,u440,u441],defers:=[] } w:=by
 have hfx:=hf.now
 obtain ⟨cx,cy,cz,p0,p1,p2,p3,p4⟩:=hm.n0.cell (m:=m) (by rw[hP];exact hmP)
 obtain ⟨xr,xc,xa,xn,xk,rfl,rfl,rfl⟩:=p3.now.1
 have p0':w.cell? ⟨Y+1+1+1+1+1,m*3,none⟩=some (.int .i64 xr):=p0
 have p1':w.cell? ⟨Y+1+1+1+1+1,m*3+1,none⟩=some (.int .i64 xc):=p1
 have p2':w.cell? ⟨Y+1+1+1+1+1,m*3+2,none⟩=some (.slice xa xn xk):=p2
 have r2:w.cell? ⟨Y+1+1+1+1,0,none⟩=some (.slice (some ⟨Y+1+1+1+1+1,0,none⟩) P P):=by have:=hfx.in0;rw[hP]at this;exact this
 obtain ⟨V,hV⟩:=gM (w.alloc (.cells #[.int .i64 xr,.int .i64 xc,.slice xa xn xk] 28))
 have HV:=h_ hV
 have HBV:=h_ (show Below w.heap.size w V by rw[hV];exact o_ _ _)
 have HKB:=h_ (show WBk V w.heap.size #[.int .i64 xr,.int .i64 xc,.slice xa xn xk] 28 by rw[hV];exact WBk.new w _ _)
 obtain ⟨sv,w1,_,w3⟩:=hm.w1.cell (m:=m) (by rw[hP];exact hmP)
 have hsv:=w3.now hd
 obtain ⟨svb,svo,svk,ua,un,uk,hsve,s0,s1,s2,hui⟩:=hsv.at hp.last1.2
 obtain ⟨svn,hsvn⟩:=gN ((ngX D.b (midH D.a (D.at m))).length)
 have hsvK:svn=K+1:=by rw[←hsvn,hp.last1.1,hKl]
 rw[hsvn]at hsve
 subst hsve
 rw[hKl]at s0 s1 s2
 obtain ⟨gr,hgr⟩:=gN ((gotH D.a D.b (D.at m)).rows)
 obtain ⟨gc,hgc⟩:=gN ((gotH D.a D.b (D.at m)).cols)
 rw[hgr]at s0
 rw[hgc]at s1
 have w1':w.cell? ⟨Y+1+1+1,m,none⟩=some (.slice (some ⟨svb,svo,none⟩) svn svk):=w1
 have w2':w.cell? ⟨Y+1,1,none⟩=some (.slice (some ⟨Y+1+1+1,0,none⟩) P P):=by have:=hfx.sw1;rw[hP]at this;exact this
 have hat:D.L[m]?=some (D.at m):=by unfold HD.at;rw[List.getElem?_eq_getElem (by omega)];rfl
 obtain ⟨lb,lo,lcap,_,_,_,ta,tn,tk,he,_,_,_,t3,t4,t5,_,hti⟩:=D_.at (show D_ w (.slice la P lk) D.L from hfx.ll) hat
 injection he with e1 e2 e3
 subst e1 e3
 clear e2
 obtain ⟨tr,htr⟩:=gN ((D.at m).2.rows)
 obtain ⟨tc,htc⟩:=gN ((D.at m).2.cols)
 rw[htr]at t3
 rw[htc]at t4
 have HCE:=h_ (show ∀W',Below V.heap.size V W'→W'.cell? ⟨Y+1,1,none⟩=some (.slice (some ⟨Y+1+1+1,0,none⟩) P P)∧W'.cell? ⟨Y+1+1+1,m,none⟩=some (.slice (some ⟨svb,svo,none⟩) svn svk)∧W'.cell? ⟨Z,1,none⟩=some (.slice na K nc)∧W'.cell? ⟨svb,svo+K*3,none⟩=some (.int .i64 gr)∧W'.cell? ⟨svb,svo+K*3+1,none⟩=some (.int .i64 gc)∧W'.cell? ⟨svb,svo+K*3+2,none⟩=some (.slice ua un uk) from fun W' hb=>⟨c_ (bel_on HBV.out hb) w2',c_ (bel_on HBV.out hb) w1',c_ (bel_on HBV.out hb) hfx.c1,c_ (bel_on HBV.out hb) s0,c_ (bel_on HBV.out hb) s1,c_ (bel_on HBV.out hb) s2⟩)
 have HM:=h_ hm
 have HFX:=h_ hf
 have HQ:=h_ hQ
 have HGA:=h_ (And.intro hga (And.intro hgy (And.intro hyl hq)))
 have HPH:=h_ hp
 have HPP:=h_ (And.intro hP (And.intro hK hd))
 have HUI:=h_ hui
 have HTI:=h_ hti
 have HTC:=h_ (And.intro t3 (And.intro t4 t5))
 have HGG:=h_ (And.intro hgr (And.intro hgc (And.intro htr htc)))
 have HKN:=h_ hsvK
 have hKs:(K:Int)<(svn:Int):=by omega
 have hKn:K<svn:=by omega
 clear hf hfx hm hQ hP hLP hK hKl hp hd hga hgy hyl hq p0 p1 p2 p3 p4 w1 w3 hsv hsvn hui hti hgr hgc htr htc hat s0 s1 s2 w1' w2' t3 t4 t5 hV hsvK
 simp only[List.foldl,stepC,Tryz.f3,Option.getD]
 refine wp_seq_k (fun K1 hK1=>?_)
 have HK1:=h_ hK1
 clear hK1
 go_wp2_with fail
 refine HK1.out _ _ ?_
 refine wp_seq_k (fun K2 hK2=>?_)
 have HK2:=h_ hK2
 clear hK2
 go_wp2_with fail
 refine HK2.out _ _ ?_
 refine wp_seq_k (fun K3 hK3=>?_)
 have HK3:=h_ hK3
 clear hK3
 go_wp2_with fail
 rw[←HV.out]
 go_cut [44] from 296 to 306 (fun gv wx=>∃Bk:Nat,gv=.pointer (some ⟨Bk,0,none⟩)∧V.heap.size≤Bk∧WBk wx Bk #[.int .i64 gr,.int .i64 gc,.slice ua un uk] 28∧Below V.heap.size V wx)
 case first=>
  obtain ⟨lm0,lm1,lm2,lm3,lm4,lm5⟩:=HCE.out V (Below.refl _ _)
  go_region_held3 (fun W'=>W'.cell? ⟨Y+1,1,none⟩=some (.slice (some ⟨Y+1+1+1,0,none⟩) P P)∧W'.cell? ⟨Y+1+1+1,m,none⟩=some (.slice (some ⟨svb,svo,none⟩) svn svk)∧W'.cell? ⟨Z,1,none⟩=some (.slice na K nc)∧W'.cell? ⟨svb,svo+K*3,none⟩=some (.int .i64 gr)∧W'.cell? ⟨svb,svo+K*3+1,none⟩=some (.int .i64 gc)∧W'.cell? ⟨svb,svo+K*3+2,none⟩=some (.slice ua un uk))
   ((refine HCE.out _ ?_;repeat' (first|with_reducible exact Below.refl _ _|with_reducible refine d_ ?_|with_reducible refine a_ ?_|with_reducible refine t_ ?_ ?_|exact Nat.le_refl _)))
   (fail)
  all_goals go_wp2
  all_goals go_meet
  all_goals
   refine ⟨_,rfl,Nat.le_refl _,?_,?_⟩
   ·exact WBk.new V _ _
   ·repeat' (first|with_reducible exact Below.refl _ _|with_reducible refine d_ ?_|with_reducible refine a_ ?_|with_reducible refine t_ ?_ ?_|exact Nat.le_refl _)
 case rest=>
  obtain ⟨Bk,rfl,hBk,hbk,hbc⟩:=hcut
  obtain ⟨V2,hV2⟩:=gM (wc)
  subst hV2
  have HBK:=h_ hbk
  have HB2:=h_ (bel_on HBV.out hbc)
  have HG2:=h_ (HKB.out.kept hbc)
  have HLB:=h_ hBk
  have HCO:=h_ (show ∀W',Kept (fun b=>b=w.heap.size) V2 W'→W'.cell? ⟨Bk,0,none⟩=some (.int .i64 gr)∧W'.cell? ⟨Bk,1,none⟩=some (.int .i64 gc)∧W'.cell? ⟨Bk,2,none⟩=some (.slice ua un uk)∧W'.cell? ⟨lb,lo+m*6+3,none⟩=some (.int .i64 tr)∧W'.cell? ⟨lb,lo+m*6+3+1,none⟩=some (.int .i64 tc)∧W'.cell? ⟨lb,lo+m*6+3+2,none⟩=some (.slice ta tn tk) from fun W' hk=>by
   have n1:¬(fun b=>b=w.heap.size) Bk:=fun e=>by
    have e:Bk=w.heap.size:=e
    have h1:=HKB.out.lt
    have h2:=HLB.out
    omega
   have n2:¬(fun b=>b=w.heap.size) lb:=fun e=>by
    have e:lb=w.heap.size:=e
    have h1:=World.block_lt_of_cell? w _ HTC.out.1
    have h1:lb<w.heap.size:=h1
    omega
   exact ⟨hk.cell n1 (HBK.out.c rfl),hk.cell n1 (HBK.out.c rfl),hk.cell n1 (HBK.out.c rfl),hk.cell n2 (c_ HB2.out HTC.out.1),hk.cell n2 (c_ HB2.out HTC.out.2.1),hk.cell n2 (c_ HB2.out HTC.out.2.2)⟩)
  have HOF:=h_ (show ∀W',Below V2.heap.size V2 W'→_ from fun W' hb=>lof_any (.agg #[.int .i64 (gotH D.a D.b (D.at m)).rows,.int .i64 (gotH D.a D.b (D.at m)).cols,.slice ua un uk]) (.agg #[.int .i64 (D.at m).2.rows,.int .i64 (D.at m).2.cols,.slice ta tn tk]) (gotH D.a D.b (D.at m)) (D.at m).2 W' ⟨_,rfl,HUI.out.u_ (bel_on HB2.out hb)⟩ ⟨_,rfl,HTI.out.u_ (bel_on HB2.out hb)⟩)
  have HLO:=h_ (show ∀W',Below V2.heap.size V2 W'→_ from fun W' hb=>lsback_any (.agg #[.int .i64 (gotH D.a D.b (D.at m)).rows,.int .i64 (gotH D.a D.b (D.at m)).cols,.slice ua un uk]) (.agg #[.int .i64 (D.at m).2.rows,.int .i64 (D.at m).2.cols,.slice ta tn tk]) (gotH D.a D.b (D.at m)) (D.at m).2 W' ⟨_,rfl,HUI.out.u_ (bel_on HB2.out hb)⟩ ⟨_,rfl,HTI.out.u_ (bel_on HB2.out hb)⟩)
  rw[HPH.out.ad,e_ rfl,HGG.out.1,HGG.out.2.1,HGG.out.2.2.1,HGG.out.2.2.2]at HOF
  unfold MxErr at HLO
  rw[HPH.out.ad,e_ rfl,HGG.out.1,HGG.out.2.1,HGG.out.2.2.1,HGG.out.2.2.2]at HLO
  clear hbk hbc hBk
  go_wp2_with fail
  go_cut [45,46] from 307 to 316 (fun fv ev wx=>fv=.int .i64 (lossX (gotH D.a D.b (D.at m)) (D.at m).2)∧ev=.nilIface∧Below V2.heap.size V2 wx)
  case first=>
   obtain ⟨lm0,lm1,lm2,lm3,lm4,lm5⟩:=HCO.out V2 (Kept.refl _ _)
   go_region_held3 (fun W'=>W'.cell? ⟨Bk,0,none⟩=some (.int .i64 gr)∧W'.cell? ⟨Bk,1,none⟩=some (.int .i64 gc)∧W'.cell? ⟨Bk,2,none⟩=some (.slice ua un uk)∧W'.cell? ⟨lb,lo+m*6+3,none⟩=some (.int .i64 tr)∧W'.cell? ⟨lb,lo+m*6+3+1,none⟩=some (.int .i64 tc)∧W'.cell? ⟨lb,lo+m*6+3+2,none⟩=some (.slice ta tn tk))
    ((refine HCO.out _ (Kept.of ?_);repeat' (first|with_reducible exact Below.refl _ _|with_reducible refine wy_drew ?_|with_reducible refine wy_go ?_ hbz)))
    ((go_at_call 15;refine (HOF.out _ (by repeat' (first|with_reducible exact Below.refl _ _|with_reducible refine wy_drew ?_))).mono ?_;rintro e wz ⟨rfl,hbz⟩))
   all_goals go_wp2
   all_goals go_meet
   all_goals
    refine ⟨rfl,rfl,?_⟩
    repeat' (first|with_reducible exact Below.refl _ _|with_reducible refine wy_drew ?_|with_reducible refine wy_go ?_ hbz)
  case rest=>
   obtain ⟨rfl,rfl,hbc⟩:=hcut
   obtain ⟨V3,hV3⟩:=gM (wc)
   subst hV3
   have HB3:=h_ hbc
   clear hbc
   go_wp2_with (go_at_call 16;refine (radd_any _ _ _).mono ?_;rintro e wy ⟨rfl,hwy⟩;rw[hwy];clear hwy wy)
   have HYB:=h_ (show Y+11≤w.heap.size from by
    have h1:=HM.out.lt (Y+1+1+1+1+1+1+1+1+1+1) (.inr (.inr (.inr (.inr (.inr (.inr (.inr (.inl rfl))))))))
    omega)
   go_cut [46] from 322 to 331 (fun ev wx=>ev=.nilIface∧∃(oa:Option Addr) (on ok:Nat),WBk wx w.heap.size #[.int .i64 (offH D.a D.b (D.at m)).rows,.int .i64 (offH D.a D.b (D.at m)).cols,.slice oa on ok] 28∧P_ wx (fun b=>b<Y+11) (.inr (offH D.a D.b (D.at m)).cells) (.slice oa on ok)∧Below w.heap.size w wx)
   case first=>
    have hkk:Kept (fun b=>b=w.heap.size) V2 V3:=Kept.of HB3.out
    have HKK:=h_ hkk
    obtain ⟨lm0,lm1,lm2,lm3,lm4,lm5⟩:=HCO.out V3 hkk
    obtain ⟨or_,hor⟩:=gN ((offH D.a D.b (D.at m)).rows)
    obtain ⟨oc,hoc⟩:=gN ((offH D.a D.b (D.at m)).cols)
    have HORC:=h_ (And.intro hor hoc)
    clear hor hoc hkk
    go_region_held3 (fun W'=>W'.cell? ⟨Bk,0,none⟩=some (.int .i64 gr)∧W'.cell? ⟨Bk,1,none⟩=some (.int .i64 gc)∧W'.cell? ⟨Bk,2,none⟩=some (.slice ua un uk)∧W'.cell? ⟨lb,lo+m*6+3,none⟩=some (.int .i64 tr)∧W'.cell? ⟨lb,lo+m*6+3+1,none⟩=some (.int .i64 tc)∧W'.cell? ⟨lb,lo+m*6+3+2,none⟩=some (.slice ta tn tk))
     ((refine HCO.out _ ?_;repeat' (first|with_reducible exact HKK.out|with_reducible refine kp_drew ?_|with_reducible refine kp_set ?_ ?_|with_reducible refine kp_go ?_ hbz|exact rfl)))
     ((go_at_call 17;refine (HLO.out _ (wy_drew HB3.out)).mono ?_;rintro e wz ⟨v',rfl,⟨so,rfl,hso⟩,hbz,hfr⟩;obtain ⟨oa,on,ok,rfl⟩:=hso.shape;have hcz:=bel_on (wy_drew (Below.refl _ V3)) hbz;have HWZ:=h_ (bel_on HB2.out (bel_on HB3.out hcz));have hkz:=HG2.out.kept (bel_on HB3.out hcz);have z30:=hkz.c (i:=0) rfl;have z31:=hkz.c (i:=1) rfl;have z32:=hkz.c (i:=2) rfl;have f30:=hkz.f 0;have f31:=hkz.f 1;have f32:=hkz.f 2;have HHH:=h_ (And.intro hkz (And.intro hso hfr));rw[show (offX (gotH D.a D.b (D.at m)) (D.at m).2).rows=or_ from HORC.out.1,show (offX (gotH D.a D.b (D.at m)) (D.at m).2).cols=oc from HORC.out.2];clear hso hfr hcz hkz))
    all_goals go_wp2
    all_goals go_meet
    all_goals
     refine ⟨rfl,oa,on,ok,?_,?_,?_⟩
     ·rw[HORC.out.1,HORC.out.2];exact ((HHH.out.1.set 0 _).set 1 _).set 2 _
     ·have hp0:P_ wz (fun b=>b<V3.heap.size) (.inr (offH D.a D.b (D.at m)).cells) (.slice oa on ok):=x_ HHH.out.2.1 HHH.out.2.2 (fun b q=>q)
      have hg:w.heap.size<V3.heap.size:=by
       have h1:=HG2.out.lt
       have h2:=HB3.out.size
       omega
      exact (((hp0.set (B:=w.heap.size) hg 0 _).set (B:=w.heap.size) hg 1 _).set (B:=w.heap.size) hg 2 _).mono (fun b _ q=>by
       have q:b<Y+11:=q
       have h1:=HYB.out
       show b<V3.heap.size
       omega)
     ·exact ((HWZ.out.setCell (p:=⟨w.heap.size,0,none⟩) (Nat.le_refl _) _).setCell (p:=⟨w.heap.size,1,none⟩) (Nat.le_refl _) _).setCell (p:=⟨w.heap.size,2,none⟩) (Nat.le_refl _) _
   case rest=>
    obtain ⟨rfl,oa,on,ok,hgb,hzp,hbw⟩:=hcut
    go_wp2_with fail
    refine HK3.out _ _ ?_
    exact bwd1b P B1 C1 B0 C0 Y Z m w.heap.size wc Q D W0 c0 c1 d0 d1 y0 y1 q1 q0 m1 m0 g1 g0 y pv _ n0 na K nc oa on ok (HM.out.u_ hbw) (HFX.out.u_ hbw) HPP.out.1 HPP.out.2.1 hmP hP12 HPH.out HPP.out.2.2 hgb hzp HGA.out.1 HGA.out.2.1 HGA.out.2.2.1 HGA.out.2.2.2 (fun _ _ _ _ _ _ _ _ _ _ _ _ _ _ _ _ _ _ _ _ _ _ _ _ _ _ _ _ _ _ _ _ _ _ _ _ _ _ _ _ _ _ wx hh=>HQ.out _ _ _ _ _ _ _ _ _ _ _ _ _ _ _ _ _ _ _ _ _ _ _ _ _ _ _ _ _ _ _ _ _ _ _ _ _ _ _ _ _ _ _ _ _ _ _ _ _ _ _ _ _ _ _ _ _ _ _ _ _ _ _ _ _ _ _ _ _ _ _ _ _ _ _ _ _ _ _ _ _ _ _ _ _ _ _ _ _ _ _ _ _ _ _ _ _ _ _ _ _ wx hh)
end Go.Proofs.YtniloklglpchfakGreat
