/- A round of the first stage. -/
import Derived.Test.YtniloklglpchfakGreatPkHdN
import Derived.Test.YtniloklglpchfakGreatPkHdT
import Derived.Test.YtniloklglpchfakGreatPkTrFact
import Derived.Deep.RegionHeld3
import Derived.Deep.CutRange
import Derived.Test.YtniloklglpchfakGreatHdJ
import Derived.Test.YtniloklglpchfakGreatHdF0
import Derived.Test.YtniloklglpchfakGreatHdB0
namespace Go.Proofs.YtniloklglpchfakGreat
open Go.RowKit
set_option maxHeartbeats 32000000 in
set_option maxRecDepth 100000 in
theorem rnd0{u0 u1 u2 u5 u6 u7 u8 u9 u10 u11 u12 u14 u15 u16 u17 u18 u22 u24 u26 u34 u35 u36 u37 u38 u39 u40 u41 u42 u43 u44 u45 u46 u47 u48 u49 u50 u51 u52 u53 u54 u55 u56 u57 u58 u59 u60 u61 u62 u63 u64 u65 u66 u67 u68 u69 u70 u71 u72 u73 u74 u75 u76 u77 u78 u79 u80 u81 u82 u83 u84 u85 u86 u87 u88 u89 u90 u91 u92 u93 u94 u95 u96 u97 u98 u99 u100 u101 u102 u103 u104 u105 u106 u107 u108 u109 u110 u111 u112 u113 u114 u115 u116 u117 u118 u119 u120 u121 u122 u123 u124 u125 u126 u127 u128 u129 u130 u131 u132 u133 u134 u135 u136 u137 u138 u139 u140 u141 u142 u143 u144 u145 u146 u147 u148 u149 u150 u151 u152 u153 u154 u155 u156 u157 u158 u159 u160 u161 u162 u163 u164 u165 u166 u167 u168 u169 u170 u171 u172 u173 u174 u175 u176 u177 u178 u179 u180 u181 u182 u183 u184 u185 u186 u187 u188 u189 u190 u191 u192 u193 u194 u195 u196 u197 u198 u199 u200 u201 u202 u203 u204 u205 u206 u207 u208 u209 u210 u211 u212 u213 u214 u215 u216 u217 u218 u219 u220 u221 u222 u223 u224 u225 u226 u227 u228 u229 u230 u231 u232 u233 u234 u235 u236 u237 u238 u239 u240 u241 u242 u243 u244 u245 u246 u247 u248 u249 u250 u251 u252 u253 u254 u255 u256 u257 u258 u259 u260 u261 u262 u263 u264 u265 u266 u267 u268 u269 u270 u271 u272 u273 u274 u275 u276 u277 u278 u279 u280 u281 u282 u283 u284 u285 u286 u287 u288 u289 u290 u291 u292 u293 u294 u295 u296 u297 u298 u299 u300 u301 u302 u303 u304 u305 u306 u307 u308 u309 u310 u311 u312 u313 u314 u315 u316 u317 u318 u319 u320 u321 u322 u323 u324 u325 u326 u327 u328 u329 u330 u331 u332 u333 u334 u335 u336 u337 u338 u339 u340 u341 u342 u343 u344 u345 u346 u347 u348 u349 u350 u351 u352 u353 u354 u355 u356 u357 u358 u359 u360 u361 u362 u363 u364 u365 u366 u367 u368 u369 u370 u371 u372 u373 u374 u375 u376 u377 u378 u379 u380 u381 u382 u383 u384 u385 u386 u387 u388 u389 u390 u391 u392 u393 u394 u395 u396 u397 u398 u399 u400 u401 u402 u403 u404 u405 u406 u407 u408 u409 u410 u411 u412 u413 u414 u415 u416 u417 u418 u419 u420 u421 u422 u423 u424 u425 u426 u427 u428 u429 u430 u431 u432 u433 u434 u435 u436 u437 u438 u439 u440 u441:Value}(pa na nb la:Option Addr)(pk P lk K J B1 C1 B0 C0 Y Z nc nd:Nat)(rho:Int)(w:World)(Q:Exit→Act→World→Prop)(D:HD)(W0:World)(c0 c1:Nat)(q1 q0:List Nat)(m1 m0:Nat→Bool)(hi:HInv D (HBk.of Y B1 C1 B0 C0) W0 w c0 c1 q1 q0 m1 m0)(hf:Hold (HBk.of Y B1 C1 B0 C0).A w (HFix D (HBk.of Y B1 C1 B0 C0) (.slice pa 2 pk) (.slice la P lk) (.slice na K nc) (.slice nb J nd) Z))(hg:HGiv D P K J)(hr:rho.tmod 2=0)(hE:∀(v34 v35 v36 v37 v38 v39 v40 v41 v42 v43 v44 v45 v46 v47 v48 v49 v174 v175 v176 v177 v178 v179 v180 v181 v182 v183 v184 v185 v186 v187 v188 v189 v190 v191 v192 v193 v194 v195 v196 v197 v198 v199 v200 v201 v202 v203 v204 v205 v206 v207 v208 v209 v210 v211 v212 v213 v214 v215 v216 v217 v218 v219 v220 v221 v222 v223 v224 v225 v226 v227 v228 v229 v230 v231 v232 v233 v234 v235 v236 v237 v238 v239 v240 v241 v242 v243 v244 v245 v246 v247 v248 v249 v250 v251 v252 v253 v254 v255 v256 v257 v258 v259 v260 v261 v262 v263 v264 v265 v266 v267 v268 v269 v270 v271 v272 v273 v274 v275 v276 v277 v278 v279 v280 v281 v282 v283 v284 v285 v286 v287 v288 v289 v290 v291 v292 v293 v294 v295 v296 v297 v298 v299 v300 v301 v302 v303 v304 v305 v306 v307 v308 v309 v310 v311 v312 v313 v314 v315 v316 v317 v318 v319 v320 v321 v322 v323 v324 v325 v326 v327 v328 v329 v330 v331 v332 v333 v334 v335 v336 v337 v338 v339 v340 v341 v342 v343 v344 v345 v346 v347 v348 v349 v350 v351 v352 v353 v354 v355 v356 v357 v358 v359 v360 v361 v362 v363 v364 v365 v366 v367 v368 v369 v370 v371 v372 v373 v374 v375 v376 v377 v378 v379 v380 v381 v382 v383 v384 v385 v386 v387 v388 v389 v390 v391 v392:Value) (wx:World) (r1 r0:List Nat) (n1 n0:Nat→Bool),HInv D (HBk.of Y B1 C1 B0 C0) W0 wx c0 c1 r1 r0 n1 n0→¬Can [D.p0,D.p1] [c0,c1] 0→Q (.exit 1) { tmps:=#[u0,u1,u2,.slice pa 2 pk,.int .i64 (P:Int),u5,u6,u7,u8,u9,u10,u11,u12,.bool true,u14,u15,u16,u17,u18,.slice la P lk,.int .i64 (K:Int),.pointer (some ⟨B1,0,none⟩),u22,.pointer (some ⟨B0,0,none⟩),u24,.slice (some ⟨Z,0,none⟩) 2 2,u26,.slice (some ⟨Y,0,none⟩) 2 2,.pointer (some ⟨Y+1,0,none⟩),.pointer (some ⟨Y+1+1+1+1,0,none⟩),.pointer (some ⟨Y+1+1+1+1+1+1+1,0,none⟩),.int .i64 (sumAt (D.a++D.b) (D.L.take (bks D.p1 c1))),.slice (some ⟨Y+1+1+1+1+1+1+1+1+1+1,0,none⟩) 2 2,.int .i64 rho,v34,v35,v36,v37,v38,v39,v40,v41,v42,v43,v44,v45,v46,v47,v48,v49,u50,u51,u52,u53,u54,u55,u56,u57,u58,u59,u60,u61,u62,u63,u64,u65,u66,u67,u68,u69,u70,u71,u72,u73,u74,u75,u76,u77,u78,u79,u80,u81,u82,u83,u84,u85,u86,u87,u88,u89,u90,u91,u92,u93,u94,u95,u96,u97,u98,u99,u100,u101,u102,u103,u104,u105,u106,u107,u108,u109,u110,u111,u112,u113,u114,u115,u116,u117,u118,u119,u120,u121,u122,u123,u124,u125,u126,u127,u128,u129,u130,u131,u132,u133,u134,u135,u136,u137,u138,u139,u140,u141,u142,u143,u144,u145,u146,u147,u148,u149,u150,u151,u152,u153,u154,u155,u156,u157,u158,u159,u160,u161,u162,u163,u164,u165,u166,u167,u168,u169,u170,u171,u172,u173,v174,v175,v176,v177,v178,v179,v180,v181,v182,v183,v184,v185,v186,v187,v188,v189,v190,v191,v192,v193,v194,v195,v196,v197,v198,v199,v200,v201,v202,v203,v204,v205,v206,v207,v208,v209,v210,v211,v212,v213,v214,v215,v216,v217,v218,v219,v220,v221,v222,v223,v224,v225,v226,v227,v228,v229,v230,v231,v232,v233,v234,v235,v236,v237,v238,v239,v240,v241,v242,v243,v244,v245,v246,v247,v248,v249,v250,v251,v252,v253,v254,v255,v256,v257,v258,v259,v260,v261,v262,v263,v264,v265,v266,v267,v268,v269,v270,v271,v272,v273,v274,v275,v276,v277,v278,v279,v280,v281,v282,v283,v284,v285,v286,v287,v288,v289,v290,v291,v292,v293,v294,v295,v296,v297,v298,v299,v300,v301,v302,v303,v304,v305,v306,v307,v308,v309,v310,v311,v312,v313,v314,v315,v316,v317,v318,v319,v320,v321,v322,v323,v324,v325,v326,v327,v328,v329,v330,v331,v332,v333,v334,v335,v336,v337,v338,v339,v340,v341,v342,v343,v344,v345,v346,v347,v348,v349,v350,v351,v352,v353,v354,v355,v356,v357,v358,v359,v360,v361,v362,v363,v364,v365,v366,v367,v368,v369,v370,v371,v372,v373,v374,v375,v376,v377,v378,v379,v380,v381,v382,v383,v384,v385,v386,v387,v388,v389,v390,v391,v392,u393,u394,u395,u396,u397,u398,u399,u400,u401,u402,u403,u404,u405,u406,u407,u408,u409,u410,u411,u412,u413,u414,u415,u416,u417,u418,u419,u420,u421,u422,u423,u424,u425,u426,u427,u428,u429,u430,u431,u432,u433,u434,u435,u436,u437,u438,u439,u440,u441],defers:=[] } wx)(hN:∀(v34 v35 v36 v37 v38 v39 v40 v41 v42 v43 v44 v45 v46 v47 v48 v49 v174 v175 v176 v177 v178 v179 v180 v181 v182 v183 v184 v185 v186 v187 v188 v189 v190 v191 v192 v193 v194 v195 v196 v197 v198 v199 v200 v201 v202 v203 v204 v205 v206 v207 v208 v209 v210 v211 v212 v213 v214 v215 v216 v217 v218 v219 v220 v221 v222 v223 v224 v225 v226 v227 v228 v229 v230 v231 v232 v233 v234 v235 v236 v237 v238 v239 v240 v241 v242 v243 v244 v245 v246 v247 v248 v249 v250 v251 v252 v253 v254 v255 v256 v257 v258 v259 v260 v261 v262 v263 v264 v265 v266 v267 v268 v269 v270 v271 v272 v273 v274 v275 v276 v277 v278 v279 v280 v281 v282 v283 v284 v285 v286 v287 v288 v289 v290 v291 v292 v293 v294 v295 v296 v297 v298 v299 v300 v301 v302 v303 v304 v305 v306 v307 v308 v309 v310 v311 v312 v313 v314 v315 v316 v317 v318 v319 v320 v321 v322 v323 v324 v325 v326 v327 v328 v329 v330 v331 v332 v333 v334 v335 v336 v337 v338 v339 v340 v341 v342 v343 v344 v345 v346 v347 v348 v349 v350 v351 v352 v353 v354 v355 v356 v357 v358 v359 v360 v361 v362 v363 v364 v365 v366 v367 v368 v369 v370 v371 v372 v373 v374 v375 v376 v377 v378 v379 v380 v381 v382 v383 v384 v385 v386 v387 v388 v389 v390 v391 v392:Value) (wx:World) (r1 r0:List Nat) (n1 n0:Nat→Bool),HInv D (HBk.of Y B1 C1 B0 C0) W0 wx (c0+1) c1 r1 r0 n1 n0→Q (if c0+c1+1=4*P then .exit 0 else .normal) { tmps:=#[u0,u1,u2,.slice pa 2 pk,.int .i64 (P:Int),u5,u6,u7,u8,u9,u10,u11,u12,.bool true,u14,u15,u16,u17,u18,.slice la P lk,.int .i64 (K:Int),.pointer (some ⟨B1,0,none⟩),u22,.pointer (some ⟨B0,0,none⟩),u24,.slice (some ⟨Z,0,none⟩) 2 2,u26,.slice (some ⟨Y,0,none⟩) 2 2,.pointer (some ⟨Y+1,0,none⟩),.pointer (some ⟨Y+1+1+1+1,0,none⟩),.pointer (some ⟨Y+1+1+1+1+1+1+1,0,none⟩),.int .i64 (sumAt (D.a++D.b) (D.L.take (bks D.p1 c1))),.slice (some ⟨Y+1+1+1+1+1+1+1+1+1+1,0,none⟩) 2 2,.int .i64 (-1),v34,v35,v36,v37,v38,v39,v40,v41,v42,v43,v44,v45,v46,v47,v48,v49,u50,u51,u52,u53,u54,u55,u56,u57,u58,u59,u60,u61,u62,u63,u64,u65,u66,u67,u68,u69,u70,u71,u72,u73,u74,u75,u76,u77,u78,u79,u80,u81,u82,u83,u84,u85,u86,u87,u88,u89,u90,u91,u92,u93,u94,u95,u96,u97,u98,u99,u100,u101,u102,u103,u104,u105,u106,u107,u108,u109,u110,u111,u112,u113,u114,u115,u116,u117,u118,u119,u120,u121,u122,u123,u124,u125,u126,u127,u128,u129,u130,u131,u132,u133,u134,u135,u136,u137,u138,u139,u140,u141,u142,u143,u144,u145,u146,u147,u148,u149,u150,u151,u152,u153,u154,u155,u156,u157,u158,u159,u160,u161,u162,u163,u164,u165,u166,u167,u168,u169,u170,u171,u172,u173,v174,v175,v176,v177,v178,v179,v180,v181,v182,v183,v184,v185,v186,v187,v188,v189,v190,v191,v192,v193,v194,v195,v196,v197,v198,v199,v200,v201,v202,v203,v204,v205,v206,v207,v208,v209,v210,v211,v212,v213,v214,v215,v216,v217,v218,v219,v220,v221,v222,v223,v224,v225,v226,v227,v228,v229,v230,v231,v232,v233,v234,v235,v236,v237,v238,v239,v240,v241,v242,v243,v244,v245,v246,v247,v248,v249,v250,v251,v252,v253,v254,v255,v256,v257,v258,v259,v260,v261,v262,v263,v264,v265,v266,v267,v268,v269,v270,v271,v272,v273,v274,v275,v276,v277,v278,v279,v280,v281,v282,v283,v284,v285,v286,v287,v288,v289,v290,v291,v292,v293,v294,v295,v296,v297,v298,v299,v300,v301,v302,v303,v304,v305,v306,v307,v308,v309,v310,v311,v312,v313,v314,v315,v316,v317,v318,v319,v320,v321,v322,v323,v324,v325,v326,v327,v328,v329,v330,v331,v332,v333,v334,v335,v336,v337,v338,v339,v340,v341,v342,v343,v344,v345,v346,v347,v348,v349,v350,v351,v352,v353,v354,v355,v356,v357,v358,v359,v360,v361,v362,v363,v364,v365,v366,v367,v368,v369,v370,v371,v372,v373,v374,v375,v376,v377,v378,v379,v380,v381,v382,v383,v384,v385,v386,v387,v388,v389,v390,v391,v392,u393,u394,u395,u396,u397,u398,u399,u400,u401,u402,u403,u404,u405,u406,u407,u408,u409,u410,u411,u412,u413,u414,u415,u416,u417,u418,u419,u420,u421,u422,u423,u424,u425,u426,u427,u428,u429,u430,u431,u432,u433,u434,u435,u436,u437,u438,u439,u440,u441],defers:=[] } wx):Code.wp Tryz.prog (List.foldl stepC ((Tryz.f3.body).getD .skip) [1,1,1,1,1,1,1,1,1,1,1,1,1,1,1,1,1,1,1,1,1,1,1,1,1,1,1,0,1,0,0,1,0,0]) Q { tmps:=#[u0,u1,u2,.slice pa 2 pk,.int .i64 (P:Int),u5,u6,u7,u8,u9,u10,u11,u12,.bool true,u14,u15,u16,u17,u18,.slice la P lk,.int .i64 (K:Int),.pointer (some ⟨B1,0,none⟩),u22,.pointer (some ⟨B0,0,none⟩),u24,.slice (some ⟨Z,0,none⟩) 2 2,u26,.slice (some ⟨Y,0,none⟩) 2 2,.pointer (some ⟨Y+1,0,none⟩),.pointer (some ⟨Y+1+1+1+1,0,none⟩),.pointer (some ⟨Y+1+1+1+1+1+1+1,0,none⟩),.int .i64 (sumAt (D.a++D.b) (D.L.take (bks D.p1 c1))),.slice (some ⟨Y+1+1+1+1+1+1+1+1+1+1,0,none⟩) 2 2,.int .i64 rho,u34,u35,u36,u37,u38,u39,u40,u41,u42,u43,u44,u45,u46,u47,u48,u49,u50,u51,u52,u53,u54,u55,u56,u57,u58,u59,u60,u61,u62,u63,u64,u65,u66,u67,u68,u69,u70,u71,u72,u73,u74,u75,u76,u77,u78,u79,u80,u81,u82,u83,u84,u85,u86,u87,u88,u89,u90,u91,u92,u93,u94,u95,u96,u97,u98,u99,u100,u101,u102,u103,u104,u105,u106,u107,u108,u109,u110,u111,u112,u113,u114,u115,u116,u117,u118,u119,u120,u121,u122,u123,u124,u125,u126,u127,u128,u129,u130,u131,u132,u133,u134,u135,u136,u137,u138,u139,u140,u141,u142,u143,u144,u145,u146,u147,u148,u149,u150,u151,u152,u153,u154,u155,u156,u157,u158,u159,u160,u161,u162,u163,u164,u165,u166,u167,u168,u169,u170,u171,u172,u173,u174,u175,u176,u177,u178,u179,u180,u181,u182,u183,u184,u185,u186,u187,u188,u189,u190,u191,u192,u193,u194,u195,u196,u197,u198,u199,u200,u201,u202,u203,u204,u205,u206,u207,u208,u209,u210,u211,u212,u213,u214,u215,u216,u217,u218,u219,u220,u221,u222,u223,u224,u225,u226,u227,u228,u229,u230,u231,u232,u233,u234,u235,u236,u237,u238,u239,u240,u241,u242,u243,u244,u245,u246,u247,u248,u249,u250,u251,u252,u253,u254,u255,u256,u257,u258,u259,u260,u261,u262,u263,u264,u265,u266,u267,u268,u269,u270,u271,u272,u273,u274,u275,u276,u277,u278,u279,u280,u281,u282,u283,u284,u285,u286,u287,u288,u289,u290,u291,u292,u293,u294,u295,u296,u297,u298,u299,u300,u301,u302,u303,u304,u305,u306,u307,u308,u309,u310,u311,u312,u313,u314,u315,u316,u317,u318,u319,u320,u321,u322,u323,u324,u325,u326,u327,u328,u329,u330,u331,u332,u333,u334,u335,u336,u337,u338,u339,u340,u341,u342,u343,u344,u345,u346,u347,u348,u349,u350,u351,u352,u353,u354,u355,u356,u357,u358,u359,u360,u361,u362,u363,u364,u365,u366,u367,u368,u369,u370,u371,u372,u373,u374,u375,u376,u377,u378,u379,u380,u381,u382,u383,u384,u385,u386,u387,u388,u389,u390,u391,u392,u393,u394,u395,u396,u397,u398,u399,u400,u401,u402,u403,u404,u405,u406,u407,u408,u409,u410,u411,u412,u413,u414,u415,u416,u417,u418,u419,u420,u421,u422,u423,u424,u425,u426,u427,u428,u429,u430,u431,u432,u433,u434,u435,u436,u437,u438,u439,u440,u441],defers:=[] } w:=by
 have hc0:c0≤2*P:=by have:=hi.2.le0;rw[hg.pe]at this;exact this
 have hc1:c1≤2*P:=by have:=hi.2.le1;rw[hg.pe]at this;exact this
 have hP12:=hg.p2
 have nx:w.cell? ⟨Y+1+1+1+1+1+1+1+1+1+1,0,none⟩=some (.int .i64 (c0:Int)):=hi.1.nxt.c (i:=0) rfl
 have HI:=h_ hi
 have HF:=h_ hf
 have HG:=h_ hg
 have HE:=h_ hE
 have HN:=h_ hN
 clear hi hf hg hE hN
 by_cases hd:c0=2*P
 ·have hb:((c0:Int)==2*(P:Int))=true:=by simp;omega
  have HX:=h_ (show ¬Can [D.p0,D.p1] [c0,c1] 0 from hand_no.1 (List.getElem?_eq_none (by rw[HG.out.hp.s0.len,HG.out.pe];omega)))
  clear hd
  simp only[List.foldl,stepC,Tryz.f3,Option.getD]
  refine wp_seq_k (fun K1 hK1=>?_)
  have HK1:=h_ hK1
  clear hK1
  go_wp2_with fail
  refine HK1.out _ _ ?_
  refine wp_seq_k (fun K2 hK2=>?_)
  have HK2:=h_ hK2
  clear hK2
  go_wp2_with fail
  exact HE.out _ _ _ _ _ _ _ _ _ _ _ _ _ _ _ _ _ _ _ _ _ _ _ _ _ _ _ _ _ _ _ _ _ _ _ _ _ _ _ _ _ _ _ _ _ _ _ _ _ _ _ _ _ _ _ _ _ _ _ _ _ _ _ _ _ _ _ _ _ _ _ _ _ _ _ _ _ _ _ _ _ _ _ _ _ _ _ _ _ _ _ _ _ _ _ _ _ _ _ _ _ _ _ _ _ _ _ _ _ _ _ _ _ _ _ _ _ _ _ _ _ _ _ _ _ _ _ _ _ _ _ _ _ _ _ _ _ _ _ _ _ _ _ _ _ _ _ _ _ _ _ _ _ _ _ _ _ _ _ _ _ _ _ _ _ _ _ _ _ _ _ _ _ _ _ _ _ _ _ _ _ _ _ _ _ _ _ _ _ _ _ _ _ _ _ _ _ _ _ _ _ _ _ _ _ _ _ _ _ _ _ _ _ _ _ _ _ _ _ _ _ _ _ _ _ _ _ _ _ _ _ _ _ _ _ _ q1 q0 m1 m0 HI.out HX.out
 ·have hb:((c0:Int)==2*(P:Int))=false:=by simp;omega
  obtain ⟨a,ha⟩:∃a,D.p0[c0]?=some a:=⟨_,List.getElem?_eq_getElem (by rw[HG.out.hp.s0.len,HG.out.pe];omega)⟩
  have HA:=h_ ha
  obtain ⟨pb,po,rfl,hs0,hs1⟩:=plan_at HF.out.now.pl
  obtain ⟨sv,hsv,hac⟩:=hs0
  obtain ⟨ab,ao,ak,rfl,ha0,ha1⟩:=acts_at hac ha
  obtain ⟨kd,hkd⟩:=gN (a.1)
  obtain ⟨mi,hmi⟩:=gN (a.2)
  rw[hkd]at ha0
  rw[hmi]at ha1
  have HKM:=h_ (And.intro hkd hmi)
  have hln:(c0:Int)<(D.p0.length:Int):=by rw[HG.out.hp.s0.len,HG.out.pe];omega
  obtain ⟨ln,hlne⟩:=gN (D.p0.length)
  rw[hlne]at hsv hln
  have hln2:c0<ln:=by omega
  have HCE:=h_ (show ∀W',Below w.heap.size w W'→W'.cell? ⟨pb,po,none⟩=some (.slice (some ⟨ab,ao,none⟩) ln ak)∧W'.cell? ⟨Y+1+1+1+1+1+1+1+1+1+1,0,none⟩=some (.int .i64 (c0:Int))∧W'.cell? ⟨ab,ao+c0*2,none⟩=some (.int .i64 kd)∧W'.cell? ⟨ab,ao+c0*2+1,none⟩=some (.int .i64 mi) from fun W' hb=>⟨c_ hb hsv,c_ hb nx,c_ hb ha0,c_ hb ha1⟩)
  clear hd hs1 hsv hac ha0 ha1 hkd hmi hlne ha
  simp only[List.foldl,stepC,Tryz.f3,Option.getD]
  refine wp_seq_k (fun K1 hK1=>?_)
  have HK1:=h_ hK1
  clear hK1
  go_wp2_with fail
  refine HK1.out _ _ ?_
  clear HK1 K1
  refine wp_seq_k (fun K2 hK2=>?_)
  have HK2:=h_ hK2
  clear hK2
  go_wp2_with fail
  refine HK2.out _ _ ?_
  clear HK2 K2
  refine wp_seq_k (fun K3 hK3=>?_)
  have HK3:=h_ hK3
  clear hK3
  go_cut [35] from 183 to 192 (fun av wx=>∃R:Nat,av=.pointer (some ⟨R,0,none⟩)∧w.heap.size≤R∧WBk wx R #[.int .i64 kd,.int .i64 mi] 60∧Below w.heap.size w wx)
  case first=>
   obtain ⟨lm0,lm1,lm2,lm3⟩:=HCE.out w (Below.refl _ _)
   go_region_held3 (fun W'=>W'.cell? ⟨pb,po,none⟩=some (.slice (some ⟨ab,ao,none⟩) ln ak)∧W'.cell? ⟨Y+1+1+1+1+1+1+1+1+1+1,0,none⟩=some (.int .i64 (c0:Int))∧W'.cell? ⟨ab,ao+c0*2,none⟩=some (.int .i64 kd)∧W'.cell? ⟨ab,ao+c0*2+1,none⟩=some (.int .i64 mi))
    ((refine HCE.out _ ?_;repeat' (first|with_reducible exact Below.refl _ _|with_reducible refine d_ ?_|with_reducible refine a_ ?_|with_reducible refine t_ ?_ ?_|exact Nat.le_refl _)))
    (fail)
   all_goals go_wp2
   all_goals go_meet
   all_goals
    refine ⟨_,rfl,Nat.le_refl _,?_,?_⟩
    ·exact WBk.new w _ _
    ·repeat' (first|with_reducible exact Below.refl _ _|with_reducible refine d_ ?_|with_reducible refine a_ ?_|with_reducible refine t_ ?_ ?_|exact Nat.le_refl _)
  case rest=>
   obtain ⟨R,rfl,hR,hbk,hbw⟩:=hcut
   obtain ⟨V,hV⟩:=gM (wc)
   subst hV
   have HBK:=h_ hbk
   have HM1:=h_ ((HI.out.1.u_ hbw).base)
   have HF1:=h_ (HF.out.u_ hbw)
   have HKV:=h_ (show Kept (HBk.of Y B1 C1 B0 C0).A W0 V from (HI.out.1.u_ hbw).kp)
   have HRA:=h_ (show ¬(HBk.of Y B1 C1 B0 C0).A R from fun q=>by have:=HI.out.1.lt R q;omega)
   have r1:=hbk.c (i:=1) rfl
   clear hbk hbw hR
   refine HK3.out _ _ ?_
   clear HK3 K3
   refine wp_seq_k (fun K4 hK4=>?_)
   have HK4:=h_ hK4
   clear hK4
   go_wp2_with fail
   refine HK4.out _ _ ?_
   clear HK4 K4
   refine wp_seq_k (fun K5 hK5=>?_)
   have HK5:=h_ hK5
   clear hK5
   go_wp2_with fail
   refine HK5.out _ _ ?_
   clear HK5 K5
   refine wp_seq_k (fun K6 hK6=>?_)
   have HK6:=h_ hK6
   clear hK6
   go_wp2_with fail
   refine HK6.out _ _ ?_
   clear HK6 K6 r1
   refine wp_seq_k (fun K7 hK7=>?_)
   refine take0 P B1 C1 B0 C0 Y V _ D V c0 c1 _ _ _ _ q1 q0 m1 m0 m1 (.slice (some ⟨pb,po,none⟩) 2 pk) (.slice la P lk) (.slice na K nc) (.slice nb J nd) Z HM1.out HI.out.2 HF1.out HG.out.pe ?_
   intro _ _ _ _ _ _ _ _ _ _ _ _ _ _ _ _ _ _ _ _ _ _ _ f V2 hm2 hl2
   refine hK7 _ _ ?_
   clear hK7 K7
   have HM2:=h_ hm2
   have HL2:=h_ hl2
   have HF2:=h_ (HF1.out.kept hm2.kp (fun b q=>q))
   have HMW:=h_ (hm2.from HKV.out)
   have hbk2:WBk V2 R #[.int .i64 kd,.int .i64 mi] 60:=(hm2.kp.block _ HBK.out.lt HRA.out).trans HBK.out
   have r0:=hbk2.c (i:=0) rfl
   clear hm2 hl2 hbk2
   obtain ⟨m,hmP,hk⟩:=act_nat HG.out.hp.s0 HA.out
   rw[HG.out.pe]at hmP
   have hm0:mi=(m:Int):=by rw[←HKM.out.2];rcases hk with e|e<;>rw[e]
   subst hm0
   rcases hk with hk|hk
   ·have hk1:kd=1:=by rw[←HKM.out.1,hk]
    subst hk1
    rw[hk]at HA
    have HHM:=h_ (hk.symm▸HKM.out)
    clear hk HKM HHM
    refine wp_seq_k (fun K8 hK8=>?_)
    have HK8:=h_ hK8
    clear hK8
    refine wp_seq_k (fun K9 hK9=>?_)
    have HK9:=h_ hK9
    clear hK9
    go_wp2_with fail
    refine HK9.out _ _ ?_
    refine wp_cond (t:=true) rfl ?_
    simp only[if_true]
    ·refine fwd0 la P lk K B1 C1 B0 C0 Y Z m _ _ D W0 c0 c1 _ _ (fun k=>(1,(k:Int))∈D.p0.take (c0+1)) _ _ _ _ _ _ _ _ (.slice (some ⟨pb,po,none⟩) 2 pk) (.slice nb J nd) na nc HMW.out HF2.out HG.out.pe HG.out.ll HG.out.al hmP HG.out.k2 HG.out.p2 (HG.out.pt m hmP) (HL2.out.few HG.out).1 (saw_forth HA.out) ?_
     intro _ _ _ _ _ _ _ _ _ _ _ _ _ _ _ _ _ _ _ _ _ _ _ _ _ _ _ _ _ _ _ _ _ _ _ _ _ _ _ _ _ _ _ _ _ _ _ _ _ _ _ _ _ _ _ _ _ _ _ wy hy
     refine HK8.out _ _ ?_
     exact end0 P B1 C1 B0 C0 Y _ Q D W0 c0 c1 _ _ _ _ _ _ _ _ _ _ hy HG.out.p2 (by omega) (by omega) (fun _ _ _ _ _ _ _ _ _ _ _ _ _ _ _ _ _ _ _ _ wx hx=>HN.out _ _ _ _ _ _ _ _ _ _ _ _ _ _ _ _ _ _ _ _ _ _ _ _ _ _ _ _ _ _ _ _ _ _ _ _ _ _ _ _ _ _ _ _ _ _ _ _ _ _ _ _ _ _ _ _ _ _ _ _ _ _ _ _ _ _ _ _ _ _ _ _ _ _ _ _ _ _ _ _ _ _ _ _ _ _ _ _ _ _ _ _ _ _ _ _ _ _ _ _ _ _ _ _ _ _ _ _ _ _ _ _ _ _ _ _ _ _ _ _ _ _ _ _ _ _ _ _ _ _ _ _ _ _ _ _ _ _ _ _ _ _ _ _ _ _ _ _ _ _ _ _ _ _ _ _ _ _ _ _ _ _ _ _ _ _ _ _ _ _ _ _ _ _ _ _ _ _ _ _ _ _ _ _ _ _ _ _ _ _ _ _ _ _ _ _ _ _ _ _ _ _ _ _ _ _ _ _ _ _ _ _ _ _ _ _ _ _ _ _ _ _ _ _ _ _ _ _ _ _ _ _ _ _ _ wx _ _ _ _ (hinv_f0 HG.out HA.out hmP HL2.out hx))
   ·have hk1:kd=2:=by rw[←HKM.out.1,hk]
    subst hk1
    rw[hk]at HA
    have HHM:=h_ (hk.symm▸HKM.out)
    clear hk HKM HHM
    refine wp_seq_k (fun K8 hK8=>?_)
    have HK8:=h_ hK8
    clear hK8
    refine wp_seq_k (fun K9 hK9=>?_)
    have HK9:=h_ hK9
    clear hK9
    go_wp2_with fail
    refine HK9.out _ _ ?_
    refine wp_cond (t:=false) rfl ?_
    simp only[if_false,Bool.false_eq_true]
    cases hc:f m with
    |false=>
     refine bwd0_no P B1 C1 B0 C0 Y Z m _ _ D W0 c0 c1 _ _ _ _ _ _ _ _ _ _ (.slice (some ⟨pb,po,none⟩) 2 pk) (.slice la P lk) (.slice na K nc) (.slice nb J nd) HMW.out HF2.out HG.out.pe hmP hc ?_
     intro _ _ _ _ _ _ _ _ _ _ _ _ _ _ _ _ wy hy
     exact HE.out _ _ _ _ _ _ _ _ _ _ _ _ _ _ _ _ _ _ _ _ _ _ _ _ _ _ _ _ _ _ _ _ _ _ _ _ _ _ _ _ _ _ _ _ _ _ _ _ _ _ _ _ _ _ _ _ _ _ _ _ _ _ _ _ _ _ _ _ _ _ _ _ _ _ _ _ _ _ _ _ _ _ _ _ _ _ _ _ _ _ _ _ _ _ _ _ _ _ _ _ _ _ _ _ _ _ _ _ _ _ _ _ _ _ _ _ _ _ _ _ _ _ _ _ _ _ _ _ _ _ _ _ _ _ _ _ _ _ _ _ _ _ _ _ _ _ _ _ _ _ _ _ _ _ _ _ _ _ _ _ _ _ _ _ _ _ _ _ _ _ _ _ _ _ _ _ _ _ _ _ _ _ _ _ _ _ _ _ _ _ _ _ _ _ _ _ _ _ _ _ _ _ _ _ _ _ _ _ _ _ _ _ _ _ _ _ _ _ _ _ _ _ _ _ _ _ _ _ _ _ _ _ _ _ _ wy _ _ _ _ ⟨hy,HL2.out⟩ (HL2.out.stop0 HG.out.hp HA.out (by rw[HG.out.pe];exact hmP) hc)
    |true=>
     have hbk0:=back_at HG.out.hp.s0 HA.out
     refine bwd0 P B1 C1 B0 C0 Y Z m _ _ D W0 c0 c1 _ _ _ _ _ _ _ _ _ _ (by0 D.a D.b (D.L.take (m+1))) (.slice (some ⟨pb,po,none⟩) 2 pk) (.slice la P lk) (.slice nb J nd) na K nc HMW.out HF2.out HG.out.pe HG.out.na hmP (HG.out.pt m hmP) (HG.out.hp.s0.fore HA.out) hc (HG.out.ge0 _ hmP) (by rw[hbk0.1];exact HG.out.yy0 hmP) (HG.out.l0 _) hc ?_
     intro _ _ _ _ _ _ _ _ _ _ _ _ _ _ _ _ _ _ _ _ _ _ _ _ _ _ _ _ _ _ _ _ _ _ _ _ _ _ _ _ _ _ _ _ _ _ _ _ _ _ _ _ _ _ _ wy hy
     refine HK8.out _ _ ?_
     exact end0 P B1 C1 B0 C0 Y _ Q D W0 c0 c1 _ _ _ _ _ _ _ _ _ _ hy HG.out.p2 (by omega) (by omega) (fun _ _ _ _ _ _ _ _ _ _ _ _ _ _ _ _ _ _ _ _ wx hx=>HN.out _ _ _ _ _ _ _ _ _ _ _ _ _ _ _ _ _ _ _ _ _ _ _ _ _ _ _ _ _ _ _ _ _ _ _ _ _ _ _ _ _ _ _ _ _ _ _ _ _ _ _ _ _ _ _ _ _ _ _ _ _ _ _ _ _ _ _ _ _ _ _ _ _ _ _ _ _ _ _ _ _ _ _ _ _ _ _ _ _ _ _ _ _ _ _ _ _ _ _ _ _ _ _ _ _ _ _ _ _ _ _ _ _ _ _ _ _ _ _ _ _ _ _ _ _ _ _ _ _ _ _ _ _ _ _ _ _ _ _ _ _ _ _ _ _ _ _ _ _ _ _ _ _ _ _ _ _ _ _ _ _ _ _ _ _ _ _ _ _ _ _ _ _ _ _ _ _ _ _ _ _ _ _ _ _ _ _ _ _ _ _ _ _ _ _ _ _ _ _ _ _ _ _ _ _ _ _ _ _ _ _ _ _ _ _ _ _ _ _ _ _ _ _ _ _ _ _ _ _ _ _ _ _ _ _ wx _ _ _ _ (hinv_b0 HG.out HA.out hmP hc HL2.out hx))
end Go.Proofs.YtniloklglpchfakGreat
