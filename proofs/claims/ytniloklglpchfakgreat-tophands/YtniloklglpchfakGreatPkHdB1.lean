/- The second stage goes back with a part: behind what is off. -/
import Derived.Test.YtniloklglpchfakGreatPkHdN
import Derived.Test.YtniloklglpchfakGreatPkHdT
import Derived.Test.YtniloklglpchfakGreatPkTrFact
import Derived.Deep.RegionHeld3
import Derived.Deep.CutRange
import Derived.Test.YtniloklglpchfakGreatNetC6
import Derived.Test.YtniloklglpchfakGreatRows
import Derived.Test.YtniloklglpchfakGreatPkLvOf
namespace Go.Proofs.YtniloklglpchfakGreat
open Go.RowKit
theorem part_two{w W:World}{s:Value}{zs:List Int}{hi lo:Nat}(h:P_ w (fun b=>b<hi) (.inr zs) s)(hb:Below w.heap.size w W)(hl:w.heap.size≤lo):P_ W (fun b=>(b<hi∨lo≤b)∧b<W.heap.size) (.inr zs) s:=by
 have h1:=part_old h.1 hb (G:=fun b=>w.heap.size≤b) (fun b q=>q)
 refine ⟨h1.1,?_⟩
 rcases h.2 with q|q
 ·exact .inl q
 rcases h1.2 with r|r
 ·exact .inl r
 exact .inr (fun b e hg=>by
  have q1:=q b e
  have q2:=r b e
  dsimp only at q1 q2
  omega)
set_option maxHeartbeats 32000000 in
set_option maxRecDepth 100000 in
theorem bwd1b{u0 u1 u2 u3 u5 u6 u7 u8 u9 u10 u11 u12 u13 u14 u15 u16 u17 u18 u19 u20 u21 u22 u24 u26 u29 u30 u31 u32 u33 u35 u37 u38 u39 u40 u41 u42 u44 u45 u46 u47 u48 u49 u50 u51 u52 u53 u54 u55 u56 u57 u58 u59 u60 u61 u62 u63 u64 u65 u66 u67 u68 u69 u70 u71 u72 u73 u74 u75 u76 u77 u78 u79 u80 u81 u82 u83 u84 u85 u86 u87 u88 u89 u90 u91 u92 u93 u94 u95 u96 u97 u98 u99 u100 u101 u102 u103 u104 u105 u106 u107 u108 u109 u110 u111 u112 u113 u114 u115 u116 u117 u118 u119 u120 u121 u122 u123 u124 u125 u126 u127 u128 u129 u130 u131 u132 u133 u134 u135 u136 u137 u138 u139 u140 u141 u142 u143 u144 u145 u146 u147 u148 u149 u150 u151 u152 u153 u154 u155 u156 u157 u158 u159 u160 u161 u162 u163 u164 u165 u166 u167 u168 u169 u170 u171 u172 u173 u174 u175 u176 u177 u178 u179 u180 u181 u182 u183 u184 u185 u186 u187 u188 u189 u190 u191 u192 u193 u194 u195 u196 u197 u198 u199 u200 u201 u202 u203 u204 u205 u206 u207 u208 u209 u210 u211 u212 u213 u214 u215 u216 u217 u218 u219 u220 u221 u222 u223 u224 u225 u226 u227 u228 u229 u230 u231 u232 u233 u234 u235 u236 u237 u238 u239 u240 u241 u242 u243 u244 u245 u246 u247 u248 u249 u250 u251 u252 u253 u254 u255 u256 u257 u258 u259 u260 u261 u262 u263 u264 u265 u266 u267 u268 u269 u270 u271 u272 u273 u274 u275 u276 u277 u278 u279 u280 u281 u282 u283 u284 u285 u286 u287 u288 u289 u290 u291 u292 u293 u294 u295 u296 u297 u298 u299 u300 u301 u302 u303 u304 u305 u306 u307 u308 u309 u310 u311 u312 u313 u314 u315 u316 u317 u318 u319 u320 u321 u322 u323 u324 u325 u326 u327 u328 u329 u330 u331 u332 u333 u334 u335 u336 u337 u338 u339 u340 u341 u342 u343 u344 u345 u346 u347 u348 u349 u350 u351 u352 u353 u354 u355 u356 u357 u358 u359 u360 u361 u362 u363 u364 u365 u366 u367 u368 u369 u370 u371 u372 u373 u374 u375 u376 u377 u378 u379 u380 u381 u382 u383 u384 u385 u386 u387 u388 u389 u390 u391 u392 u393 u394 u395 u396 u397 u398 u399 u400 u401 u402 u403 u404 u405 u406 u407 u408 u409 u410 u411 u412 u413 u414 u415 u416 u417 u418 u419 u420 u421 u422 u423 u424 u425 u426 u427 u428 u429 u430 u431 u432 u433 u434 u435 u436 u437 u438 u439 u440 u441:Value}(P B1 C1 B0 C0 Y Z m gb:Nat)(w:World)(Q:Exit→Act→World→Prop)(D:HD)(W0:World)(c0 c1:Nat)(d0 d1:Nat→Prop)(y0 y1:List (Mx×Mx))(q1 q0:List Nat)(m1 m0 g1 g0:Nat→Bool)(y:List (Mx×Mx))(pv lv n0:Value)(na:Option Addr)(K nc:Nat)(xa:Option Addr)(xn xk:Nat)(hm:HMem D (HBk.of Y B1 C1 B0 C0) W0 w c0 c1 d0 d1 y0 y1 q1 q0 m1 m0 g1 g0)(hf:Hold (HBk.of Y B1 C1 B0 C0).A w (HFix D (HBk.of Y B1 C1 B0 C0) pv lv n0 (.slice na K nc) Z))(hP:D.P=P)(hK:D.b≠[])(hmP:m<P)(hP12:P≤12)(hp:PartH D.a D.b (D.at m))(hd:d1 m)(hgb:WBk w gb #[.int .i64 (offH D.a D.b (D.at m)).rows,.int .i64 (offH D.a D.b (D.at m)).cols,.slice xa xn xk] 28)(hzp:P_ w (fun b=>b<Y+11) (.inr (offH D.a D.b (D.at m)).cells) (.slice xa xn xk))(hga:gaE y1 (grd1 D.a D.b (D.at m))=0)(hgy:gaX y1 (grd1 D.a D.b (D.at m))=y)(hyl:y1.length≤12)(hq:q0.length<16)(hQ:∀(v47 v48 v49 v334 v335 v336 v337 v338 v339 v340 v341 v342 v343 v344 v345 v346 v347 v348 v349 v350 v351 v352 v353 v354 v355 v356 v357 v358 v359 v360 v361 v362 v363 v364 v365 v366 v367 v368 v369 v370 v371 v372:Value) (wx:World),HMem D (HBk.of Y B1 C1 B0 C0) W0 wx c0 c1 d0 d1 y0 y q1 (q0++[m]) m1 m0 g1 g0→Q .normal { tmps:=#[u0,u1,u2,u3,.int .i64 (P:Int),u5,u6,u7,u8,u9,u10,u11,u12,.bool true,u14,u15,u16,u17,u18,u19,u20,u21,u22,.pointer (some ⟨B0,0,none⟩),u24,.slice (some ⟨Z,0,none⟩) 2 2,u26,.slice (some ⟨Y,0,none⟩) 2 2,.pointer (some ⟨Y+1,0,none⟩),u29,u30,u31,u32,u33,.int .i64 1,u35,.int .i64 (m:Int),u37,u38,u39,u40,u41,u42,.pointer (some ⟨gb,0,none⟩),u44,u45,u46,v47,v48,v49,u50,u51,u52,u53,u54,u55,u56,u57,u58,u59,u60,u61,u62,u63,u64,u65,u66,u67,u68,u69,u70,u71,u72,u73,u74,u75,u76,u77,u78,u79,u80,u81,u82,u83,u84,u85,u86,u87,u88,u89,u90,u91,u92,u93,u94,u95,u96,u97,u98,u99,u100,u101,u102,u103,u104,u105,u106,u107,u108,u109,u110,u111,u112,u113,u114,u115,u116,u117,u118,u119,u120,u121,u122,u123,u124,u125,u126,u127,u128,u129,u130,u131,u132,u133,u134,u135,u136,u137,u138,u139,u140,u141,u142,u143,u144,u145,u146,u147,u148,u149,u150,u151,u152,u153,u154,u155,u156,u157,u158,u159,u160,u161,u162,u163,u164,u165,u166,u167,u168,u169,u170,u171,u172,u173,u174,u175,u176,u177,u178,u179,u180,u181,u182,u183,u184,u185,u186,u187,u188,u189,u190,u191,u192,u193,u194,u195,u196,u197,u198,u199,u200,u201,u202,u203,u204,u205,u206,u207,u208,u209,u210,u211,u212,u213,u214,u215,u216,u217,u218,u219,u220,u221,u222,u223,u224,u225,u226,u227,u228,u229,u230,u231,u232,u233,u234,u235,u236,u237,u238,u239,u240,u241,u242,u243,u244,u245,u246,u247,u248,u249,u250,u251,u252,u253,u254,u255,u256,u257,u258,u259,u260,u261,u262,u263,u264,u265,u266,u267,u268,u269,u270,u271,u272,u273,u274,u275,u276,u277,u278,u279,u280,u281,u282,u283,u284,u285,u286,u287,u288,u289,u290,u291,u292,u293,u294,u295,u296,u297,u298,u299,u300,u301,u302,u303,u304,u305,u306,u307,u308,u309,u310,u311,u312,u313,u314,u315,u316,u317,u318,u319,u320,u321,u322,u323,u324,u325,u326,u327,u328,u329,u330,u331,u332,u333,v334,v335,v336,v337,v338,v339,v340,v341,v342,v343,v344,v345,v346,v347,v348,v349,v350,v351,v352,v353,v354,v355,v356,v357,v358,v359,v360,v361,v362,v363,v364,v365,v366,v367,v368,v369,v370,v371,v372,u373,u374,u375,u376,u377,u378,u379,u380,u381,u382,u383,u384,u385,u386,u387,u388,u389,u390,u391,u392,u393,u394,u395,u396,u397,u398,u399,u400,u401,u402,u403,u404,u405,u406,u407,u408,u409,u410,u411,u412,u413,u414,u415,u416,u417,u418,u419,u420,u421,u422,u423,u424,u425,u426,u427,u428,u429,u430,u431,u432,u433,u434,u435,u436,u437,u438,u439,u440,u441],defers:=[] } wx):Code.wp Tryz.prog (List.foldl stepC ((Tryz.f3.body).getD .skip) [1,1,1,1,1,1,1,1,1,1,1,1,1,1,1,1,1,1,1,1,1,1,1,1,1,1,1,0,1,0,0,1,0,0,1,1,1,1,1,1,1,0,1,1,1,1,1]) Q { tmps:=#[u0,u1,u2,u3,.int .i64 (P:Int),u5,u6,u7,u8,u9,u10,u11,u12,u13,u14,u15,u16,u17,u18,u19,u20,u21,u22,.pointer (some ⟨B0,0,none⟩),u24,.slice (some ⟨Z,0,none⟩) 2 2,u26,.slice (some ⟨Y,0,none⟩) 2 2,.pointer (some ⟨Y+1,0,none⟩),u29,u30,u31,u32,u33,.int .i64 1,u35,.int .i64 (m:Int),u37,u38,u39,u40,u41,u42,.pointer (some ⟨gb,0,none⟩),u44,u45,u46,u47,u48,u49,u50,u51,u52,u53,u54,u55,u56,u57,u58,u59,u60,u61,u62,u63,u64,u65,u66,u67,u68,u69,u70,u71,u72,u73,u74,u75,u76,u77,u78,u79,u80,u81,u82,u83,u84,u85,u86,u87,u88,u89,u90,u91,u92,u93,u94,u95,u96,u97,u98,u99,u100,u101,u102,u103,u104,u105,u106,u107,u108,u109,u110,u111,u112,u113,u114,u115,u116,u117,u118,u119,u120,u121,u122,u123,u124,u125,u126,u127,u128,u129,u130,u131,u132,u133,u134,u135,u136,u137,u138,u139,u140,u141,u142,u143,u144,u145,u146,u147,u148,u149,u150,u151,u152,u153,u154,u155,u156,u157,u158,u159,u160,u161,u162,u163,u164,u165,u166,u167,u168,u169,u170,u171,u172,u173,u174,u175,u176,u177,u178,u179,u180,u181,u182,u183,u184,u185,u186,u187,u188,u189,u190,u191,u192,u193,u194,u195,u196,u197,u198,u199,u200,u201,u202,u203,u204,u205,u206,u207,u208,u209,u210,u211,u212,u213,u214,u215,u216,u217,u218,u219,u220,u221,u222,u223,u224,u225,u226,u227,u228,u229,u230,u231,u232,u233,u234,u235,u236,u237,u238,u239,u240,u241,u242,u243,u244,u245,u246,u247,u248,u249,u250,u251,u252,u253,u254,u255,u256,u257,u258,u259,u260,u261,u262,u263,u264,u265,u266,u267,u268,u269,u270,u271,u272,u273,u274,u275,u276,u277,u278,u279,u280,u281,u282,u283,u284,u285,u286,u287,u288,u289,u290,u291,u292,u293,u294,u295,u296,u297,u298,u299,u300,u301,u302,u303,u304,u305,u306,u307,u308,u309,u310,u311,u312,u313,u314,u315,u316,u317,u318,u319,u320,u321,u322,u323,u324,u325,u326,u327,u328,u329,u330,u331,u332,u333,u334,u335,u336,u337,u338,u339,u340,u341,u342,u343,u344,u345,u346,u347,u348,u349,u350,u351,u352,u353,u354,u355,u356,u357,u358,u359,u360,u361,u362,u363,u364,u365,u366,u367,u368,u369,u370,u371,u372,u373,u374,u375,u376,u377,u378,u379,u380,u381,u382,u383,u384,u385,u386,u387,u388,u389,u390,u391,u392,u393,u394,u395,u396,u397,u398,u399,u400,u401,u402,u403,u404,u405,u406,u407,u408,u409,u410,u411,u412,u413,u414,u415,u416,u417,u418,u419,u420,u421,u422,u423,u424,u425,u426,u427,u428,u429,u430,u431,u432,u433,u434,u435,u436,u437,u438,u439,u440,u441],defers:=[] } w:=by
 have hfx:=hf.now
 obtain ⟨xr,hxr⟩:=gN ((offH D.a D.b (D.at m)).rows)
 obtain ⟨xc,hxc⟩:=gN ((offH D.a D.b (D.at m)).cols)
 rw[hxr,hxc]at hgb
 obtain ⟨sv,w1,_,w3⟩:=hm.w1.cell (m:=m) (by rw[hP];exact hmP)
 have HSV:=h_ (w3.now hd)
 obtain ⟨sva,svk,hsve,_⟩:=id HSV.out
 obtain ⟨svn,hsvn⟩:=gN ((ngX D.b (midH D.a (D.at m))).length)
 rw[hsvn]at hsve
 subst hsve
 have w1':w.cell? ⟨Y+1+1+1,m,none⟩=some (.slice sva svn svk):=w1
 have w2':w.cell? ⟨Y+1,1,none⟩=some (.slice (some ⟨Y+1+1+1,0,none⟩) P P):=by have:=hfx.sw1;rw[hP]at this;exact this
 have HCE:=h_ (show ∀W',Below w.heap.size w W'→W'.cell? ⟨Z,1,none⟩=some (.slice na K nc)∧W'.cell? ⟨Y+1,1,none⟩=some (.slice (some ⟨Y+1+1+1,0,none⟩) P P)∧W'.cell? ⟨Y+1+1+1,m,none⟩=some (.slice sva svn svk)∧W'.cell? ⟨gb,0,none⟩=some (.int .i64 xr)∧W'.cell? ⟨gb,1,none⟩=some (.int .i64 xc)∧W'.cell? ⟨gb,2,none⟩=some (.slice xa xn xk) from fun W' hb=>⟨c_ hb hfx.c1,c_ hb w2',c_ hb w1',(hgb.kept hb).c rfl,(hgb.kept hb).c rfl,(hgb.kept hb).c rfl⟩)
 obtain ⟨yr,hyr⟩:=gN ((bckH D.a D.b (D.at m)).rows)
 obtain ⟨yc,hyc⟩:=gN ((bckH D.a D.b (D.at m)).cols)
 have hBB:nbX D.b (ngX D.b (midH D.a (D.at m))) (offH D.a D.b (D.at m))=(bckH D.a D.b (D.at m)):=rfl
 have hGD:nbD D.b (ngX D.b (midH D.a (D.at m))) (offH D.a D.b (D.at m))=(grd1 D.a D.b (D.at m)):=rfl
 have HBK:=h_ (show ∀W',Below w.heap.size w W'→∀lo,w.heap.size≤lo→lo≤W'.heap.size→_ from fun W' hb lo h1 h2=>netback_hold (.slice na K nc) (.slice sva svn svk) xa xn xk D.b (ngX D.b (midH D.a (D.at m))) (offH D.a D.b (D.at m)) W' (hfx.l1.u_ hb) (HSV.out.u_ hb) (Y+11) lo h2 (part_two hzp hb h1) hK hp.bk1)
 rw[hBB,hGD,hxr,hxc,hyr,hyc]at HBK
 have HM:=h_ hm
 have HQ:=h_ hQ
 have HGA:=h_ (And.intro hga (And.intro hgy hyl))
 have HQL:=h_ hq
 have HPH:=h_ hp
 have HYY:=h_ (And.intro hyr hyc)
 have HT3:=h_ (HBK.out (w.alloc (.cells #[.int .i64 0,.int .i64 0,.slice none 0 0] 28)).drew (wy_drew (o_ _ _)) w.heap.size (Nat.le_refl _) (by show w.heap.size≤(w.alloc (.cells #[.int .i64 0,.int .i64 0,.slice none 0 0] 28)).heap.size;rw[World.size_alloc];omega))
 have HT0:=h_ (HBK.out w.drew (wy_drew (Below.refl _ _)) w.heap.size (Nat.le_refl _) (Nat.le_refl _))
 have HAB:=h_ (show ∀b,(HBk.of Y B1 C1 B0 C0).A b→(b<Y+11∨w.heap.size≤b)∧b<w.heap.size from fun b q=>by
  have h1:=hm.lt b q
  obtain ⟨_,⟨o1,o2,o3,o4⟩,_⟩:=hm.od
  unfold HBk.A HBk.of at q
  unfold HBk.of at o1 o2 o3 o4
  dsimp only at q o1 o2 o3 o4
  omega)
 have HSZ:=h_ (show (w.alloc (.cells #[.int .i64 0,.int .i64 0,.slice none 0 0] 28)).drew.heap.size=w.heap.size+1 from World.size_alloc _ _)
 clear hf hfx hm hQ hP hK hp hd hga hgy hyl hq hxr hxc hyr hyc hBB hGD w1 w3 hsvn hgb hzp
 simp only[List.foldl,stepC,Tryz.f3,Option.getD]
 go_wp2_with fail
 go_cut [47,48,49] from 334 to 349 (fun pv dv ev wx=>∃(Bk:Nat) (ta:Option Addr) (tn tk:Nat),pv=.pointer (some ⟨Bk,0,none⟩)∧ev=.nilIface∧w.heap.size≤Bk∧WBk wx Bk #[.int .i64 yr,.int .i64 yc,.slice ta tn tk] 28∧Hold (HBk.of Y B1 C1 B0 C0).A wx (fun W=>I_ W (.slice ta tn tk) (bckH D.a D.b (D.at m)).cells)∧D_ wx dv (grd1 D.a D.b (D.at m))∧Below w.heap.size w wx)
 case first=>
  obtain ⟨lm0,lm1,lm2,lm3,lm4,lm5⟩:=HCE.out w (Below.refl _ _)
  go_region_held3 (fun W'=>W'.cell? ⟨Z,1,none⟩=some (.slice na K nc)∧W'.cell? ⟨Y+1,1,none⟩=some (.slice (some ⟨Y+1+1+1,0,none⟩) P P)∧W'.cell? ⟨Y+1+1+1,m,none⟩=some (.slice sva svn svk)∧W'.cell? ⟨gb,0,none⟩=some (.int .i64 xr)∧W'.cell? ⟨gb,1,none⟩=some (.int .i64 xc)∧W'.cell? ⟨gb,2,none⟩=some (.slice xa xn xk))
   ((refine HCE.out _ ?_;repeat' (first|with_reducible exact Below.refl _ _|with_reducible refine d_ ?_|with_reducible refine a_ ?_|with_reducible refine t_ ?_ ?_|with_reducible exact HB2.out|exact Nat.le_refl _|exact HB2.out.size)))
   (first
    |(go_at_call 18;guard_target=Calls _ _ _ (World.drew (World.alloc w (Obj.cells #[_,_,_] _))) _;refine HT3.out.mono ?_;rintro e wz ⟨ts,vd,rfl,hh,hbz⟩;obtain ⟨ta,tn,tk,rfl⟩:=hh.now.1.shape;have hc2:=bel_on (wy_drew (Below.refl _ (w.alloc (.cells #[.int .i64 0,.int .i64 0,.slice none 0 0] 28)))) hbz;have HB2:=h_ (show Below w.heap.size w wz from bel_on (o_ w (.cells #[.int .i64 0,.int .i64 0,.slice none 0 0] 28)) hc2);have hkz:=(WBk.new w #[.int .i64 0,.int .i64 0,.slice none 0 0] 28).kept hc2;have z30:=hkz.c (i:=0) rfl;have z31:=hkz.c (i:=1) rfl;have z32:=hkz.c (i:=2) rfl;have f30:=hkz.f 0;have f31:=hkz.f 1;have f32:=hkz.f 2;have HE:=h_ (show WBk (((wz.setCell ⟨w.heap.size,0,none⟩ (.int .i64 yr)).setCell ⟨w.heap.size,1,none⟩ (.int .i64 yc)).setCell ⟨w.heap.size,2,none⟩ (.slice ta tn tk)) w.heap.size #[.int .i64 yr,.int .i64 yc,.slice ta tn tk] 28 from ((hkz.set 0 _).set 1 _).set 2 _);have HHH:=h_ (hh.kept (keep3 wz w.heap.size 0 (.int .i64 yr) (.int .i64 yc) (.slice ta tn tk)) (fun b e=>(show (b<Y+11∨w.heap.size≤b)∧b<(w.alloc (.cells #[.int .i64 0,.int .i64 0,.slice none 0 0] 28)).drew.heap.size from by rw[HSZ.out];omega)));have HNb:=h_ (Nat.le_refl w.heap.size);clear hh hbz hc2 hkz)
    |(go_at_call 18;guard_target=Calls _ _ _ (World.drew w) _;refine HT0.out.mono ?_;rintro e wz ⟨ts,vd,rfl,hh,hbz⟩;obtain ⟨ta,tn,tk,rfl⟩:=hh.now.1.shape;have hc2:=bel_on (wy_drew (Below.refl _ w)) hbz;have HB2:=h_ (show Below w.heap.size w wz from hc2);have HE:=h_ (WBk.new wz #[.int .i64 yr,.int .i64 yc,.slice ta tn tk] 28);have HHH:=h_ (hh.u_ (o_ wz (.cells #[.int .i64 yr,.int .i64 yc,.slice ta tn tk] 28)));have HNb:=h_ HB2.out.size;clear hh hbz hc2))
  all_goals go_wp2
  all_goals go_meet
  all_goals
   refine ⟨_,ta,tn,tk,rfl,rfl,HNb.out,?_,?_,?_,?_⟩
   ·with_reducible exact HE.out
   ·exact (HHH.out.mono (fun b _ q=>⟨(HAB.out b q).1,Nat.lt_of_lt_of_le (HAB.out b q).2 (by first|(rw[HSZ.out];exact Nat.le_succ _)|exact Nat.le_refl _)⟩)).imp (fun W q=>q.1)
   ·exact HHH.out.now.2
   ·repeat' (first|with_reducible exact Below.refl _ _|with_reducible refine d_ ?_|with_reducible refine a_ ?_|with_reducible refine t_ ?_ ?_|with_reducible exact HB2.out|exact Nat.le_refl _|exact HB2.out.size)
 case rest=>
  obtain ⟨Bk,ta,tn,tk,rfl,rfl,hBk,hbk,hbi,hbd,hbc⟩:=hcut
  have HM1:=h_ (HM.out.u_ hbc)
  obtain ⟨yv,g1,_,g3⟩:=HM1.out.yy.cell (m:=1) (by omega)
  have hyv:D_ wc yv y1:=g3.now.2 rfl
  obtain ⟨ya,yk,hye,_,_⟩:=hyv.shape
  obtain ⟨yn,hyn⟩:=gN (y1.length)
  rw[hyn]at hye
  subst hye
  obtain ⟨da,dk,hde,_,_⟩:=hbd.shape
  obtain ⟨dn,hdn⟩:=gN ((grd1 D.a D.b (D.at m)).length)
  rw[hdn]at hde
  subst hde
  have g1':wc.cell? ⟨Y,1,none⟩=some (.slice ya yn yk):=g1
  have HGT:=h_ (netgather_owns _ _ y1 (grd1 D.a D.b (D.at m)) wc hyv hbd (by have:=HGA.out.2.2;omega))
  rw[HGA.out.1,e_ rfl,HGA.out.2.1]at HGT
  have HBKC:=h_ (And.intro hBk (And.intro hbk hbi))
  clear g1 g3 hyv hbd hbk hbi hBk hyn hdn
  go_wp2_with fail
  refine HGT.out.mono ?_
  rintro e wg ⟨u,rfl,hu,hbg⟩
  have HM2:=h_ (HM1.out.u_ hbg)
  obtain ⟨old,o1,o2,_⟩:=HM2.out.yy.cell (m:=1) (by omega)
  have o1':wg.cell? ⟨Y,1,none⟩=some old:=o1
  have o2':wg.frozen? ⟨Y,1,none⟩=false:=o2
  have HM3:=h_ (HM2.out.gath1 (y:=y) u ((hu.hold.mono (fun b _ q=>HM1.out.lt b q)).imp (fun W q=>q)))
  obtain ⟨ua,uk,hue,_⟩:=hu.reads
  subst hue
  have hne:Bk≠Y:=fun e=>by
   have h1:=HM.out.lt Y (.inl rfl)
   have h2:=HBKC.out.1
   omega
  obtain ⟨W3,hW3⟩:=gM (wg.setCell ⟨Y,1,none⟩ (.slice ua y.length uk))
  have hkB:WBk W3 Bk #[.int .i64 yr,.int .i64 yc,.slice ta tn tk] 28:=by rw[hW3];exact (HBKC.out.2.1.kept hbg).other hne _
  have b0:=hkB.c (i:=0) rfl
  have b1:=hkB.c (i:=1) rfl
  have b2:=hkB.c (i:=2) rfl
  have HW3:=h_ hW3
  have hbi3:I_ W3 (.slice ta tn tk) (bckH D.a D.b (D.at m)).cells:=by
   rw[hW3]
   exact (((HBKC.out.2.2.u_ hbg).set (B:=Y) (.inl rfl) 1 _).now)
  have HMW:=h_ (show HMem D (HBk.of Y B1 C1 B0 C0) W0 W3 c0 c1 d0 d1 y0 y q1 q0 m1 m0 g1 g0 by rw[hW3];exact HM3.out)
  have HPU:=h_ (hput_any (v:=.agg #[.int .i64 2,.int .i64 (m:Int),.int .i64 (bckH D.a D.b (D.at m)).rows,.int .i64 (bckH D.a D.b (D.at m)).cols,.slice ta tn tk]) HMW.out.x0 (by rw[List.length_map];exact HQL.out) HMW.out.lt ⟨_,rfl,hbi3⟩ (HPH.out.msg2 (m:=(m:Int)) (by omega) (by omega)))
  rw[HYY.out.1,HYY.out.2]at HPU
  rw[hW3]at b0 b1 b2
  clear o1 o2 hu hbg hkB hbi3 hW3 hne hbc
  go_wp2_with fail
  rw[←HW3.out]
  refine HPU.out.mono ?_
  rintro e W4 ⟨rfl,hbx,hkx⟩
  have HM4:=h_ (HMW.out.box0 (q:=q0++[m]) hkx (by rw[List.map_append];exact hbx))
  clear hbx hkx
  go_wp2_with fail
  exact HQ.out _ _ _ _ _ _ _ _ _ _ _ _ _ _ _ _ _ _ _ _ _ _ _ _ _ _ _ _ _ _ _ _ _ _ _ _ _ _ _ _ _ _ _ HM4.out
set_option maxHeartbeats 400000 in
theorem rclamp_any(x:Int)(w:World):Calls Tryz.prog 42 #[.int .i64 x] w fun e w'=>e=.returned (.int .i64 (cl x))∧w'=w:=by
 by_cases h1:x < -2147483647
 ·rw[cl_lo x h1]
  go_enter Tryz.func42,Tryz.ntmps42
  go_wp2
  go_ret
  exact ⟨rfl,rfl⟩
 ·by_cases h2:2147483647<x
  ·rw[cl_hi x h2]
   go_enter Tryz.func42,Tryz.ntmps42
   go_wp2
   go_ret
   exact ⟨rfl,rfl⟩
  ·rw[cl_in x (by omega) (by omega)]
   go_enter Tryz.func42,Tryz.ntmps42
   go_wp2
   go_ret
   exact ⟨rfl,rfl⟩
set_option maxHeartbeats 400000 in
theorem radd_any(a b:Int)(w:World):Calls Tryz.prog 16 #[.int .i64 a,.int .i64 b] w fun e w'=>e=.returned (.int .i64 (ad a b))∧w'=w:=by
 have ha:=cl_bd a
 have hb:=cl_bd b
 unfold ad
 go_enter Tryz.func16,Tryz.ntmps16
 go_wp2_with (go_at_call 42;refine (rclamp_any _ _).mono ?_;rintro e w' ⟨rfl,rfl⟩)
 go_ret
 exact ⟨rfl,rfl⟩
end Go.Proofs.YtniloklglpchfakGreat
