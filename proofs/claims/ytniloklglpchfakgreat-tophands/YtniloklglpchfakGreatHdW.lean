/- The loop: both stages do all their acts. -/
import Derived.Test.YtniloklglpchfakGreatPkHdN
import Derived.Test.YtniloklglpchfakGreatPkHdT
import Derived.Test.YtniloklglpchfakGreatPkTrFact
import Derived.Deep.RegionHeld3
import Derived.Deep.CutRange
import Derived.Test.YtniloklglpchfakGreatHdH0
import Derived.Test.YtniloklglpchfakGreatHdH1
namespace Go.Proofs.YtniloklglpchfakGreat
open Go.RowKit
def nxOf (w:World) (b:Nat):Nat:=(intOf ((w.cell? ⟨b,0,none⟩).getD undef)).toNat+(intOf ((w.cell? ⟨b,1,none⟩).getD undef)).toNat
theorem nx_of{w:World}{b c0 c1:Nat}{t:TypeId}(h:WBk w b #[.int .i64 (c0:Int),.int .i64 (c1:Int)] t):nxOf w b=c0+c1:=by
 unfold nxOf
 rw[h.c (i:=0) rfl,h.c (i:=1) rfl]
 simp[intOf]
set_option maxHeartbeats 32000000 in
set_option maxRecDepth 100000 in
theorem hloop{u0 u1 u2 u5 u6 u7 u8 u9 u10 u11 u12 u14 u15 u16 u17 u18 u22 u24 u26 u34 u35 u36 u37 u38 u39 u40 u41 u42 u43 u44 u45 u46 u47 u48 u49 u50 u51 u52 u53 u54 u55 u56 u57 u58 u59 u60 u61 u62 u63 u64 u65 u66 u67 u68 u69 u70 u71 u72 u73 u74 u75 u76 u77 u78 u79 u80 u81 u82 u83 u84 u85 u86 u87 u88 u89 u90 u91 u92 u93 u94 u95 u96 u97 u98 u99 u100 u101 u102 u103 u104 u105 u106 u107 u108 u109 u110 u111 u112 u113 u114 u115 u116 u117 u118 u119 u120 u121 u122 u123 u124 u125 u126 u127 u128 u129 u130 u131 u132 u133 u134 u135 u136 u137 u138 u139 u140 u141 u142 u143 u144 u145 u146 u147 u148 u149 u150 u151 u152 u153 u154 u155 u156 u157 u158 u159 u160 u161 u162 u163 u164 u165 u166 u167 u168 u169 u170 u171 u172 u173 u174 u175 u176 u177 u178 u179 u180 u181 u182 u183 u184 u185 u186 u187 u188 u189 u190 u191 u192 u193 u194 u195 u196 u197 u198 u199 u200 u201 u202 u203 u204 u205 u206 u207 u208 u209 u210 u211 u212 u213 u214 u215 u216 u217 u218 u219 u220 u221 u222 u223 u224 u225 u226 u227 u228 u229 u230 u231 u232 u233 u234 u235 u236 u237 u238 u239 u240 u241 u242 u243 u244 u245 u246 u247 u248 u249 u250 u251 u252 u253 u254 u255 u256 u257 u258 u259 u260 u261 u262 u263 u264 u265 u266 u267 u268 u269 u270 u271 u272 u273 u274 u275 u276 u277 u278 u279 u280 u281 u282 u283 u284 u285 u286 u287 u288 u289 u290 u291 u292 u293 u294 u295 u296 u297 u298 u299 u300 u301 u302 u303 u304 u305 u306 u307 u308 u309 u310 u311 u312 u313 u314 u315 u316 u317 u318 u319 u320 u321 u322 u323 u324 u325 u326 u327 u328 u329 u330 u331 u332 u333 u334 u335 u336 u337 u338 u339 u340 u341 u342 u343 u344 u345 u346 u347 u348 u349 u350 u351 u352 u353 u354 u355 u356 u357 u358 u359 u360 u361 u362 u363 u364 u365 u366 u367 u368 u369 u370 u371 u372 u373 u374 u375 u376 u377 u378 u379 u380 u381 u382 u383 u384 u385 u386 u387 u388 u389 u390 u391 u392 u393 u394 u395 u396 u397 u398 u399 u400 u401 u402 u403 u404 u405 u406 u407 u408 u409 u410 u411 u412 u413 u414 u415 u416 u417 u418 u419 u420 u421 u422 u423 u424 u425 u426 u427 u428 u429 u430 u431 u432 u433 u434 u435 u436 u437 u438 u439 u440 u441:Value}(pa na nb la:Option Addr)(pk P lk K J B1 C1 B0 C0 Y Z nc nd:Nat)(w:World)(Q:Exit→Act→World→Prop)(D:HD)(hi:HInv D (HBk.of Y B1 C1 B0 C0) w w 0 0 [] [] (fun _=>false) (fun _=>false))(hf:Hold (HBk.of Y B1 C1 B0 C0).A w (HFix D (HBk.of Y B1 C1 B0 C0) (.slice pa 2 pk) (.slice la P lk) (.slice na K nc) (.slice nb J nd) Z))(hg:HGiv D P K J)(hQ:∀(v12 v33 v34 v35 v36 v37 v38 v39 v40 v41 v42 v43 v44 v45 v46 v47 v48 v49 v168 v169 v170 v171 v172 v173 v174 v175 v176 v177 v178 v179 v180 v181 v182 v183 v184 v185 v186 v187 v188 v189 v190 v191 v192 v193 v194 v195 v196 v197 v198 v199 v200 v201 v202 v203 v204 v205 v206 v207 v208 v209 v210 v211 v212 v213 v214 v215 v216 v217 v218 v219 v220 v221 v222 v223 v224 v225 v226 v227 v228 v229 v230 v231 v232 v233 v234 v235 v236 v237 v238 v239 v240 v241 v242 v243 v244 v245 v246 v247 v248 v249 v250 v251 v252 v253 v254 v255 v256 v257 v258 v259 v260 v261 v262 v263 v264 v265 v266 v267 v268 v269 v270 v271 v272 v273 v274 v275 v276 v277 v278 v279 v280 v281 v282 v283 v284 v285 v286 v287 v288 v289 v290 v291 v292 v293 v294 v295 v296 v297 v298 v299 v300 v301 v302 v303 v304 v305 v306 v307 v308 v309 v310 v311 v312 v313 v314 v315 v316 v317 v318 v319 v320 v321 v322 v323 v324 v325 v326 v327 v328 v329 v330 v331 v332 v333 v334 v335 v336 v337 v338 v339 v340 v341 v342 v343 v344 v345 v346 v347 v348 v349 v350 v351 v352 v353 v354 v355 v356 v357 v358 v359 v360 v361 v362 v363 v364 v365 v366 v367 v368 v369 v370 v371 v372 v373 v374 v375 v376 v377 v378 v379 v380 v381 v382 v383 v384 v385 v386 v387 v388 v389 v390 v391 v392:Value) (wx:World) (r1 r0:List Nat) (n1 n0:Nat→Bool),HInv D (HBk.of Y B1 C1 B0 C0) w wx (2*P) (2*P) r1 r0 n1 n0→Q .normal { tmps:=#[u0,u1,u2,.slice pa 2 pk,.int .i64 (P:Int),u5,u6,u7,u8,u9,u10,u11,v12,.bool true,u14,u15,u16,u17,u18,.slice la P lk,.int .i64 (K:Int),.pointer (some ⟨B1,0,none⟩),u22,.pointer (some ⟨B0,0,none⟩),u24,.slice (some ⟨Z,0,none⟩) 2 2,u26,.slice (some ⟨Y,0,none⟩) 2 2,.pointer (some ⟨Y+1,0,none⟩),.pointer (some ⟨Y+1+1+1+1,0,none⟩),.pointer (some ⟨Y+1+1+1+1+1+1+1,0,none⟩),.int .i64 (sumAt (D.a++D.b) D.L),.slice (some ⟨Y+1+1+1+1+1+1+1+1+1+1,0,none⟩) 2 2,v33,v34,v35,v36,v37,v38,v39,v40,v41,v42,v43,v44,v45,v46,v47,v48,v49,u50,u51,u52,u53,u54,u55,u56,u57,u58,u59,u60,u61,u62,u63,u64,u65,u66,u67,u68,u69,u70,u71,u72,u73,u74,u75,u76,u77,u78,u79,u80,u81,u82,u83,u84,u85,u86,u87,u88,u89,u90,u91,u92,u93,u94,u95,u96,u97,u98,u99,u100,u101,u102,u103,u104,u105,u106,u107,u108,u109,u110,u111,u112,u113,u114,u115,u116,u117,u118,u119,u120,u121,u122,u123,u124,u125,u126,u127,u128,u129,u130,u131,u132,u133,u134,u135,u136,u137,u138,u139,u140,u141,u142,u143,u144,u145,u146,u147,u148,u149,u150,u151,u152,u153,u154,u155,u156,u157,u158,u159,u160,u161,u162,u163,u164,u165,u166,u167,v168,v169,v170,v171,v172,v173,v174,v175,v176,v177,v178,v179,v180,v181,v182,v183,v184,v185,v186,v187,v188,v189,v190,v191,v192,v193,v194,v195,v196,v197,v198,v199,v200,v201,v202,v203,v204,v205,v206,v207,v208,v209,v210,v211,v212,v213,v214,v215,v216,v217,v218,v219,v220,v221,v222,v223,v224,v225,v226,v227,v228,v229,v230,v231,v232,v233,v234,v235,v236,v237,v238,v239,v240,v241,v242,v243,v244,v245,v246,v247,v248,v249,v250,v251,v252,v253,v254,v255,v256,v257,v258,v259,v260,v261,v262,v263,v264,v265,v266,v267,v268,v269,v270,v271,v272,v273,v274,v275,v276,v277,v278,v279,v280,v281,v282,v283,v284,v285,v286,v287,v288,v289,v290,v291,v292,v293,v294,v295,v296,v297,v298,v299,v300,v301,v302,v303,v304,v305,v306,v307,v308,v309,v310,v311,v312,v313,v314,v315,v316,v317,v318,v319,v320,v321,v322,v323,v324,v325,v326,v327,v328,v329,v330,v331,v332,v333,v334,v335,v336,v337,v338,v339,v340,v341,v342,v343,v344,v345,v346,v347,v348,v349,v350,v351,v352,v353,v354,v355,v356,v357,v358,v359,v360,v361,v362,v363,v364,v365,v366,v367,v368,v369,v370,v371,v372,v373,v374,v375,v376,v377,v378,v379,v380,v381,v382,v383,v384,v385,v386,v387,v388,v389,v390,v391,v392,u393,u394,u395,u396,u397,u398,u399,u400,u401,u402,u403,u404,u405,u406,u407,u408,u409,u410,u411,u412,u413,u414,u415,u416,u417,u418,u419,u420,u421,u422,u423,u424,u425,u426,u427,u428,u429,u430,u431,u432,u433,u434,u435,u436,u437,u438,u439,u440,u441],defers:=[] } wx):Code.wp Tryz.prog (List.foldl stepC ((Tryz.f3.body).getD .skip) [1,1,1,1,1,1,1,1,1,1,1,1,1,1,1,1,1,1,1,1,1,1,1,1,1,1,1,0,1]) Q { tmps:=#[u0,u1,u2,.slice pa 2 pk,.int .i64 (P:Int),u5,u6,u7,u8,u9,u10,u11,u12,.bool true,u14,u15,u16,u17,u18,.slice la P lk,.int .i64 (K:Int),.pointer (some ⟨B1,0,none⟩),u22,.pointer (some ⟨B0,0,none⟩),u24,.slice (some ⟨Z,0,none⟩) 2 2,u26,.slice (some ⟨Y,0,none⟩) 2 2,.pointer (some ⟨Y+1,0,none⟩),.pointer (some ⟨Y+1+1+1+1,0,none⟩),.pointer (some ⟨Y+1+1+1+1+1+1+1,0,none⟩),.int .i64 0,.slice (some ⟨Y+1+1+1+1+1+1+1+1+1+1,0,none⟩) 2 2,.int .i64 0,u34,u35,u36,u37,u38,u39,u40,u41,u42,u43,u44,u45,u46,u47,u48,u49,u50,u51,u52,u53,u54,u55,u56,u57,u58,u59,u60,u61,u62,u63,u64,u65,u66,u67,u68,u69,u70,u71,u72,u73,u74,u75,u76,u77,u78,u79,u80,u81,u82,u83,u84,u85,u86,u87,u88,u89,u90,u91,u92,u93,u94,u95,u96,u97,u98,u99,u100,u101,u102,u103,u104,u105,u106,u107,u108,u109,u110,u111,u112,u113,u114,u115,u116,u117,u118,u119,u120,u121,u122,u123,u124,u125,u126,u127,u128,u129,u130,u131,u132,u133,u134,u135,u136,u137,u138,u139,u140,u141,u142,u143,u144,u145,u146,u147,u148,u149,u150,u151,u152,u153,u154,u155,u156,u157,u158,u159,u160,u161,u162,u163,u164,u165,u166,u167,u168,u169,u170,u171,u172,u173,u174,u175,u176,u177,u178,u179,u180,u181,u182,u183,u184,u185,u186,u187,u188,u189,u190,u191,u192,u193,u194,u195,u196,u197,u198,u199,u200,u201,u202,u203,u204,u205,u206,u207,u208,u209,u210,u211,u212,u213,u214,u215,u216,u217,u218,u219,u220,u221,u222,u223,u224,u225,u226,u227,u228,u229,u230,u231,u232,u233,u234,u235,u236,u237,u238,u239,u240,u241,u242,u243,u244,u245,u246,u247,u248,u249,u250,u251,u252,u253,u254,u255,u256,u257,u258,u259,u260,u261,u262,u263,u264,u265,u266,u267,u268,u269,u270,u271,u272,u273,u274,u275,u276,u277,u278,u279,u280,u281,u282,u283,u284,u285,u286,u287,u288,u289,u290,u291,u292,u293,u294,u295,u296,u297,u298,u299,u300,u301,u302,u303,u304,u305,u306,u307,u308,u309,u310,u311,u312,u313,u314,u315,u316,u317,u318,u319,u320,u321,u322,u323,u324,u325,u326,u327,u328,u329,u330,u331,u332,u333,u334,u335,u336,u337,u338,u339,u340,u341,u342,u343,u344,u345,u346,u347,u348,u349,u350,u351,u352,u353,u354,u355,u356,u357,u358,u359,u360,u361,u362,u363,u364,u365,u366,u367,u368,u369,u370,u371,u372,u373,u374,u375,u376,u377,u378,u379,u380,u381,u382,u383,u384,u385,u386,u387,u388,u389,u390,u391,u392,u393,u394,u395,u396,u397,u398,u399,u400,u401,u402,u403,u404,u405,u406,u407,u408,u409,u410,u411,u412,u413,u414,u415,u416,u417,u418,u419,u420,u421,u422,u423,u424,u425,u426,u427,u428,u429,u430,u431,u432,u433,u434,u435,u436,u437,u438,u439,u440,u441],defers:=[] } w:=by
 have HI:=h_ hi
 have HF:=h_ hf
 have HG:=h_ hg
 have HQ:=h_ hQ
 have hP1:1≤P:=by have:=hg.hp.lo;rw[hg.pe]at this;exact this
 have hP12:=hg.p2
 clear hi hf hg hQ
 simp only[List.foldl,stepC,Tryz.f3,Option.getD]
 go_wp2_with fail
 go_loopw [13,31,33] (fun ov sv rv wr=>∃(c0 c1:Nat) (rho:Int) (q1 q0:List Nat) (m1 m0:Nat→Bool),ov=.bool true∧rv=.int .i64 rho∧0≤rho∧rho≤2∧sv=.int .i64 (sumAt (D.a++D.b) (D.L.take (bks D.p1 c1)))∧c0+c1<4*P∧(rho=2→¬Can [D.p0,D.p1] [c0,c1] 1)∧HInv D (HBk.of Y B1 C1 B0 C0) w wr c0 c1 q1 q0 m1 m0) (fun _ _ rv wr=>(4*P - nxOf wr (Y+1+1+1+1+1+1+1+1+1+1))*4+(3 - (intOf rv).toNat))
 case atStart=>exact ⟨0,0,0,[],[],_,_,rfl,rfl,by omega,by omega,by rw[bks_zero];rfl,by omega,fun e=>by omega,HI.out⟩
 case round=>
  obtain ⟨c0,c1,rho,q1,q0,m1,m0,rfl,rfl,hr0,hr2,rfl,hcc,hst,hinv⟩:=hrel
  have HINV:=h_ hinv
  have HST:=h_ hst
  have HFW:=h_ (HF.out.kept hinv.1.kp (fun b q=>q))
  have HLE:=h_ (show c0≤2*P∧c1≤2*P by have h1:=hinv.2.le0;have h2:=hinv.2.le1;rw[HG.out.pe]at h1 h2;exact ⟨h1,h2⟩)
  have HNX:=h_ (show nxOf wr (Y+1+1+1+1+1+1+1+1+1+1)=c0+c1 from nx_of hinv.1.nxt)
  clear hinv hst
  refine wp_seq_k (fun K1 hK1=>?_)
  have HK1:=h_ hK1
  clear hK1
  go_wp2_with fail
  refine HK1.out _ _ ?_
  clear HK1 K1
  refine wp_seq_k (fun K2 hK2=>?_)
  have HK2:=h_ hK2
  clear hK2
  refine wp_block ?_
  by_cases h1:rho=1
  ·subst h1
   refine rnd1 pa na nb la pk P lk K J B1 C1 B0 C0 Y Z nc nd 1 wr _ D w c0 c1 q1 q0 m1 m0 HINV.out HFW.out HG.out rfl ?_ ?_
   ·intro _ _ _ _ _ _ _ _ _ _ _ _ _ _ _ _ _ _ _ _ _ _ _ _ _ _ _ _ _ _ _ _ _ _ _ _ _ _ _ _ _ _ _ _ _ _ _ _ _ _ _ _ _ _ _ _ _ _ _ _ _ _ _ _ _ _ _ _ _ _ _ _ _ _ _ _ _ _ _ _ _ _ _ _ _ _ _ _ _ _ _ _ _ _ _ _ _ _ _ _ _ _ _ _ _ _ _ _ _ _ _ _ _ _ _ _ _ _ _ _ _ _ _ _ _ _ _ _ _ _ _ _ _ _ _ _ _ _ _ _ _ _ _ _ _ _ _ _ _ _ _ _ _ _ _ _ _ _ _ _ _ _ _ _ _ _ _ _ _ _ _ _ _ _ _ _ _ _ _ _ _ _ _ _ _ _ _ _ _ _ _ _ _ _ _ _ _ _ _ _ _ _ _ _ _ _ _ _ _ _ _ _ _ _ _ _ _ _ _ _ _ _ _ _ _ _ _ _ _ _ _ _ _ _ _ wx r1 r0 n1 n0 hv hcan
    simp only[Exit.inBlock,Exit.then,if_true]
    have HV:=h_ hv
    have HCN:=h_ hcan
    clear hv hcan
    refine HK2.out _ _ ?_
    go_wp2_with fail
    go_roundw
    case rel=>exact ⟨c0,c1,2,r1,r0,n1,n0,rfl,by rfl,by omega,by omega,rfl,hcc,fun _=>HCN.out,HV.out⟩
    case measure=>
     have h2:nxOf wx (Y+1+1+1+1+1+1+1+1+1+1)=c0+c1:=nx_of HV.out.1.nxt
     rw[HNX.out,h2]
     simp[intOf]
   ·intro _ _ _ _ _ _ _ _ _ _ _ _ _ _ _ _ _ _ _ _ _ _ _ _ _ _ _ _ _ _ _ _ _ _ _ _ _ _ _ _ _ _ _ _ _ _ _ _ _ _ _ _ _ _ _ _ _ _ _ _ _ _ _ _ _ _ _ _ _ _ _ _ _ _ _ _ _ _ _ _ _ _ _ _ _ _ _ _ _ _ _ _ _ _ _ _ _ _ _ _ _ _ _ _ _ _ _ _ _ _ _ _ _ _ _ _ _ _ _ _ _ _ _ _ _ _ _ _ _ _ _ _ _ _ _ _ _ _ _ _ _ _ _ _ _ _ _ _ _ _ _ _ _ _ _ _ _ _ _ _ _ _ _ _ _ _ _ _ _ _ _ _ _ _ _ _ _ _ _ _ _ _ _ _ _ _ _ _ _ _ _ _ _ _ _ _ _ _ _ _ _ _ _ _ _ _ _ _ _ _ _ _ _ _ _ _ _ _ _ _ _ _ _ _ _ _ _ _ _ _ _ _ _ _ _ wx r1 r0 n1 n0 hv
    have HV:=h_ hv
    clear hv
    by_cases hd:c0+c1+1=4*P
    ·rw[if_pos hd]
     have hle:=HV.out.2.le1
     rw[HG.out.pe]at hle
     have e0:c0=2*P:=by have:=HLE.out;omega
     have e1:c1+1=2*P:=by have:=HLE.out;omega
     have hv:=HV.out
     rw[e0,e1]at hv
     simp only[Exit.inBlock,Exit.then]
     rw[if_neg (show ¬(0=1) by decide),if_pos trivial,e1,HG.out.all.1]
     exact HQ.out _ _ _ _ _ _ _ _ _ _ _ _ _ _ _ _ _ _ _ _ _ _ _ _ _ _ _ _ _ _ _ _ _ _ _ _ _ _ _ _ _ _ _ _ _ _ _ _ _ _ _ _ _ _ _ _ _ _ _ _ _ _ _ _ _ _ _ _ _ _ _ _ _ _ _ _ _ _ _ _ _ _ _ _ _ _ _ _ _ _ _ _ _ _ _ _ _ _ _ _ _ _ _ _ _ _ _ _ _ _ _ _ _ _ _ _ _ _ _ _ _ _ _ _ _ _ _ _ _ _ _ _ _ _ _ _ _ _ _ _ _ _ _ _ _ _ _ _ _ _ _ _ _ _ _ _ _ _ _ _ _ _ _ _ _ _ _ _ _ _ _ _ _ _ _ _ _ _ _ _ _ _ _ _ _ _ _ _ _ _ _ _ _ _ _ _ _ _ _ _ _ _ _ _ _ _ _ _ _ _ _ _ _ _ _ _ _ _ _ _ _ _ _ _ _ _ _ _ _ _ _ _ _ _ _ _ _ _ _ _ _ _ _ wx r1 r0 n1 n0 hv
    ·rw[if_neg hd]
     simp only[Exit.inBlock,Exit.then]
     refine HK2.out _ _ ?_
     go_wp2_with fail
     go_roundw
     case rel=>exact ⟨c0,c1+1,1,r1,r0,n1,n0,rfl,by rfl,by omega,by omega,rfl,by omega,fun e=>by omega,HV.out⟩
     case measure=>
      have h2:nxOf wx (Y+1+1+1+1+1+1+1+1+1+1)=c0+(c1+1):=nx_of HV.out.1.nxt
      rw[HNX.out,h2]
      simp[intOf]
      omega
  ·have hrr:rho=0∨rho=2:=by omega
   refine rnd0 pa na nb la pk P lk K J B1 C1 B0 C0 Y Z nc nd rho wr _ D w c0 c1 q1 q0 m1 m0 HINV.out HFW.out HG.out (by rcases hrr with e|e<;>(subst e;rfl)) ?_ ?_
   ·intro _ _ _ _ _ _ _ _ _ _ _ _ _ _ _ _ _ _ _ _ _ _ _ _ _ _ _ _ _ _ _ _ _ _ _ _ _ _ _ _ _ _ _ _ _ _ _ _ _ _ _ _ _ _ _ _ _ _ _ _ _ _ _ _ _ _ _ _ _ _ _ _ _ _ _ _ _ _ _ _ _ _ _ _ _ _ _ _ _ _ _ _ _ _ _ _ _ _ _ _ _ _ _ _ _ _ _ _ _ _ _ _ _ _ _ _ _ _ _ _ _ _ _ _ _ _ _ _ _ _ _ _ _ _ _ _ _ _ _ _ _ _ _ _ _ _ _ _ _ _ _ _ _ _ _ _ _ _ _ _ _ _ _ _ _ _ _ _ _ _ _ _ _ _ _ _ _ _ _ _ _ _ _ _ _ _ _ _ _ _ _ _ _ _ _ _ _ _ _ _ _ _ _ _ _ _ _ _ _ _ _ _ _ _ _ _ _ _ _ _ _ _ _ _ _ _ _ _ _ _ _ _ _ _ _ wx r1 r0 n1 n0 hv hcan
    have hz:rho=0:=by
     rcases hrr with e|e
     ·exact e
     ·have:=hand_end HG.out.hp hv.2.und hcan (HST.out e)
      rw[HG.out.pe]at this
      omega
    subst hz
    simp only[Exit.inBlock,Exit.then,if_true]
    have HV:=h_ hv
    clear hv hcan hrr
    refine HK2.out _ _ ?_
    go_wp2_with fail
    go_roundw
    case rel=>exact ⟨c0,c1,1,r1,r0,n1,n0,rfl,by rfl,by omega,by omega,rfl,hcc,fun e=>by omega,HV.out⟩
    case measure=>
     have h2:nxOf wx (Y+1+1+1+1+1+1+1+1+1+1)=c0+c1:=nx_of HV.out.1.nxt
     rw[HNX.out,h2]
     simp[intOf]
   ·intro _ _ _ _ _ _ _ _ _ _ _ _ _ _ _ _ _ _ _ _ _ _ _ _ _ _ _ _ _ _ _ _ _ _ _ _ _ _ _ _ _ _ _ _ _ _ _ _ _ _ _ _ _ _ _ _ _ _ _ _ _ _ _ _ _ _ _ _ _ _ _ _ _ _ _ _ _ _ _ _ _ _ _ _ _ _ _ _ _ _ _ _ _ _ _ _ _ _ _ _ _ _ _ _ _ _ _ _ _ _ _ _ _ _ _ _ _ _ _ _ _ _ _ _ _ _ _ _ _ _ _ _ _ _ _ _ _ _ _ _ _ _ _ _ _ _ _ _ _ _ _ _ _ _ _ _ _ _ _ _ _ _ _ _ _ _ _ _ _ _ _ _ _ _ _ _ _ _ _ _ _ _ _ _ _ _ _ _ _ _ _ _ _ _ _ _ _ _ _ _ _ _ _ _ _ _ _ _ _ _ _ _ _ _ _ _ _ _ _ _ _ _ _ _ _ _ _ _ _ _ _ _ _ _ _ wx r1 r0 n1 n0 hv
    have HV:=h_ hv
    clear hv
    by_cases hd:c0+c1+1=4*P
    ·rw[if_pos hd]
     have hle:=HV.out.2.le0
     rw[HG.out.pe]at hle
     have e0:c0+1=2*P:=by have:=HLE.out;omega
     have e1:c1=2*P:=by have:=HLE.out;omega
     have hv:=HV.out
     rw[e0,e1]at hv
     simp only[Exit.inBlock,Exit.then]
     rw[if_neg (show ¬(0=1) by decide),if_pos trivial,e1,HG.out.all.1]
     exact HQ.out _ _ _ _ _ _ _ _ _ _ _ _ _ _ _ _ _ _ _ _ _ _ _ _ _ _ _ _ _ _ _ _ _ _ _ _ _ _ _ _ _ _ _ _ _ _ _ _ _ _ _ _ _ _ _ _ _ _ _ _ _ _ _ _ _ _ _ _ _ _ _ _ _ _ _ _ _ _ _ _ _ _ _ _ _ _ _ _ _ _ _ _ _ _ _ _ _ _ _ _ _ _ _ _ _ _ _ _ _ _ _ _ _ _ _ _ _ _ _ _ _ _ _ _ _ _ _ _ _ _ _ _ _ _ _ _ _ _ _ _ _ _ _ _ _ _ _ _ _ _ _ _ _ _ _ _ _ _ _ _ _ _ _ _ _ _ _ _ _ _ _ _ _ _ _ _ _ _ _ _ _ _ _ _ _ _ _ _ _ _ _ _ _ _ _ _ _ _ _ _ _ _ _ _ _ _ _ _ _ _ _ _ _ _ _ _ _ _ _ _ _ _ _ _ _ _ _ _ _ _ _ _ _ _ _ _ _ _ _ _ _ _ _ wx r1 r0 n1 n0 hv
    ·rw[if_neg hd]
     simp only[Exit.inBlock,Exit.then]
     refine HK2.out _ _ ?_
     go_wp2_with fail
     go_roundw
     case rel=>exact ⟨c0+1,c1,0,r1,r0,n1,n0,rfl,by rfl,by omega,by omega,rfl,by omega,fun e=>by omega,HV.out⟩
     case measure=>
      have h2:nxOf wx (Y+1+1+1+1+1+1+1+1+1+1)=c0+1+c1:=nx_of HV.out.1.nxt
      rw[HNX.out,h2]
      simp[intOf]
      omega
end Go.Proofs.YtniloklglpchfakGreat
