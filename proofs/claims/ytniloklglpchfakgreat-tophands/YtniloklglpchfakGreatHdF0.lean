/- The first stage goes forth with a part. -/
import Derived.Test.YtniloklglpchfakGreatPkHdN
import Derived.Test.YtniloklglpchfakGreatPkHdT
import Derived.Test.YtniloklglpchfakGreatPkTrFact
import Derived.Deep.RegionHeld3
import Derived.Deep.CutRange
namespace Go.Proofs.YtniloklglpchfakGreat
open Go.RowKit
set_option maxHeartbeats 32000000 in
set_option maxRecDepth 100000 in
theorem fwd0{u0 u1 u2 u3 u5 u6 u7 u8 u9 u10 u11 u12 u13 u14 u15 u16 u17 u18 u22 u23 u24 u26 u27 u29 u30 u31 u32 u33 u35 u37 u38 u39 u40 u41 u42 u43 u44 u45 u46 u47 u48 u49 u50 u51 u52 u53 u54 u55 u56 u57 u58 u59 u60 u61 u62 u63 u64 u65 u66 u67 u68 u69 u70 u71 u72 u73 u74 u75 u76 u77 u78 u79 u80 u81 u82 u83 u84 u85 u86 u87 u88 u89 u90 u91 u92 u93 u94 u95 u96 u97 u98 u99 u100 u101 u102 u103 u104 u105 u106 u107 u108 u109 u110 u111 u112 u113 u114 u115 u116 u117 u118 u119 u120 u121 u122 u123 u124 u125 u126 u127 u128 u129 u130 u131 u132 u133 u134 u135 u136 u137 u138 u139 u140 u141 u142 u143 u144 u145 u146 u147 u148 u149 u150 u151 u152 u153 u154 u155 u156 u157 u158 u159 u160 u161 u162 u163 u164 u165 u166 u167 u168 u169 u170 u171 u172 u173 u174 u175 u176 u177 u178 u179 u180 u181 u182 u183 u184 u185 u186 u187 u188 u189 u190 u191 u192 u193 u194 u195 u196 u197 u198 u199 u200 u201 u202 u203 u204 u205 u206 u207 u208 u209 u210 u211 u212 u213 u214 u215 u216 u217 u218 u219 u220 u221 u222 u223 u224 u225 u226 u227 u228 u229 u230 u231 u232 u233 u234 u235 u236 u237 u238 u239 u240 u241 u242 u243 u244 u245 u246 u247 u248 u249 u250 u251 u252 u253 u254 u255 u256 u257 u258 u259 u260 u261 u262 u263 u264 u265 u266 u267 u268 u269 u270 u271 u272 u273 u274 u275 u276 u277 u278 u279 u280 u281 u282 u283 u284 u285 u286 u287 u288 u289 u290 u291 u292 u293 u294 u295 u296 u297 u298 u299 u300 u301 u302 u303 u304 u305 u306 u307 u308 u309 u310 u311 u312 u313 u314 u315 u316 u317 u318 u319 u320 u321 u322 u323 u324 u325 u326 u327 u328 u329 u330 u331 u332 u333 u334 u335 u336 u337 u338 u339 u340 u341 u342 u343 u344 u345 u346 u347 u348 u349 u350 u351 u352 u353 u354 u355 u356 u357 u358 u359 u360 u361 u362 u363 u364 u365 u366 u367 u368 u369 u370 u371 u372 u373 u374 u375 u376 u377 u378 u379 u380 u381 u382 u383 u384 u385 u386 u387 u388 u389 u390 u391 u392 u393 u394 u395 u396 u397 u398 u399 u400 u401 u402 u403 u404 u405 u406 u407 u408 u409 u410 u411 u412 u413 u414 u415 u416 u417 u418 u419 u420 u421 u422 u423 u424 u425 u426 u427 u428 u429 u430 u431 u432 u433 u434 u435 u436 u437 u438 u439 u440 u441:Value}(la:Option Addr)(P lk K B1 C1 B0 C0 Y Z m:Nat)(w:World)(Q:Exit→Act→World→Prop)(D:HD)(W0:World)(c0 c1:Nat)(d0 d1 d:Nat→Prop)(y0 y1:List (Mx×Mx))(q1 q0:List Nat)(m1 m0 g1 g0:Nat→Bool)(pv n1:Value)(na:Option Addr)(nc:Nat)(hm:HMem D (HBk.of Y B1 C1 B0 C0) W0 w c0 c1 d0 d1 y0 y1 q1 q0 m1 m0 g1 g0)(hf:Hold (HBk.of Y B1 C1 B0 C0).A w (HFix D (HBk.of Y B1 C1 B0 C0) pv (.slice la P lk) (.slice na K nc) n1 Z))(hP:D.P=P)(hLP:D.L.length=P)(hK:D.a.length=K)(hmP:m<P)(hK12:K≤12)(hP12:P≤12)(hp:PartH D.a D.b (D.at m))(hq:q1.length<16)(hd:∀k,k≠m→d k→d0 k)(hQ:∀(v40 v41 v42 v223 v224 v225 v226 v227 v228 v229 v230 v231 v232 v233 v234 v235 v236 v237 v238 v239 v240 v241 v242 v243 v244 v245 v246 v247 v248 v249 v250 v251 v252 v253 v254 v255 v256 v257 v258 v259 v260 v261 v262 v263 v264 v265 v266 v267 v268 v269 v270 v271 v272 v273 v274 v275 v276 v277 v278:Value) (wx:World),HMem D (HBk.of Y B1 C1 B0 C0) W0 wx c0 c1 d d1 y0 y1 (q1++[m]) q0 m1 m0 g1 g0→Q .normal { tmps:=#[u0,u1,u2,u3,.int .i64 (P:Int),u5,u6,u7,u8,u9,u10,u11,u12,.bool true,u14,u15,u16,u17,u18,.slice la P lk,.int .i64 (K:Int),.pointer (some ⟨B1,0,none⟩),u22,u23,u24,.slice (some ⟨Z,0,none⟩) 2 2,u26,u27,.pointer (some ⟨Y+1,0,none⟩),u29,u30,u31,u32,u33,.int .i64 0,u35,.int .i64 (m:Int),u37,u38,u39,v40,v41,v42,u43,u44,u45,u46,u47,u48,u49,u50,u51,u52,u53,u54,u55,u56,u57,u58,u59,u60,u61,u62,u63,u64,u65,u66,u67,u68,u69,u70,u71,u72,u73,u74,u75,u76,u77,u78,u79,u80,u81,u82,u83,u84,u85,u86,u87,u88,u89,u90,u91,u92,u93,u94,u95,u96,u97,u98,u99,u100,u101,u102,u103,u104,u105,u106,u107,u108,u109,u110,u111,u112,u113,u114,u115,u116,u117,u118,u119,u120,u121,u122,u123,u124,u125,u126,u127,u128,u129,u130,u131,u132,u133,u134,u135,u136,u137,u138,u139,u140,u141,u142,u143,u144,u145,u146,u147,u148,u149,u150,u151,u152,u153,u154,u155,u156,u157,u158,u159,u160,u161,u162,u163,u164,u165,u166,u167,u168,u169,u170,u171,u172,u173,u174,u175,u176,u177,u178,u179,u180,u181,u182,u183,u184,u185,u186,u187,u188,u189,u190,u191,u192,u193,u194,u195,u196,u197,u198,u199,u200,u201,u202,u203,u204,u205,u206,u207,u208,u209,u210,u211,u212,u213,u214,u215,u216,u217,u218,u219,u220,u221,u222,v223,v224,v225,v226,v227,v228,v229,v230,v231,v232,v233,v234,v235,v236,v237,v238,v239,v240,v241,v242,v243,v244,v245,v246,v247,v248,v249,v250,v251,v252,v253,v254,v255,v256,v257,v258,v259,v260,v261,v262,v263,v264,v265,v266,v267,v268,v269,v270,v271,v272,v273,v274,v275,v276,v277,v278,u279,u280,u281,u282,u283,u284,u285,u286,u287,u288,u289,u290,u291,u292,u293,u294,u295,u296,u297,u298,u299,u300,u301,u302,u303,u304,u305,u306,u307,u308,u309,u310,u311,u312,u313,u314,u315,u316,u317,u318,u319,u320,u321,u322,u323,u324,u325,u326,u327,u328,u329,u330,u331,u332,u333,u334,u335,u336,u337,u338,u339,u340,u341,u342,u343,u344,u345,u346,u347,u348,u349,u350,u351,u352,u353,u354,u355,u356,u357,u358,u359,u360,u361,u362,u363,u364,u365,u366,u367,u368,u369,u370,u371,u372,u373,u374,u375,u376,u377,u378,u379,u380,u381,u382,u383,u384,u385,u386,u387,u388,u389,u390,u391,u392,u393,u394,u395,u396,u397,u398,u399,u400,u401,u402,u403,u404,u405,u406,u407,u408,u409,u410,u411,u412,u413,u414,u415,u416,u417,u418,u419,u420,u421,u422,u423,u424,u425,u426,u427,u428,u429,u430,u431,u432,u433,u434,u435,u436,u437,u438,u439,u440,u441],defers:=[] } wx):Code.wp Tryz.prog (List.foldl stepC ((Tryz.f3.body).getD .skip) [1,1,1,1,1,1,1,1,1,1,1,1,1,1,1,1,1,1,1,1,1,1,1,1,1,1,1,0,1,0,0,1,0,0,1,1,1,1,1,1,1,0,1,0]) Q { tmps:=#[u0,u1,u2,u3,.int .i64 (P:Int),u5,u6,u7,u8,u9,u10,u11,u12,u13,u14,u15,u16,u17,u18,.slice la P lk,.int .i64 (K:Int),.pointer (some ⟨B1,0,none⟩),u22,u23,u24,.slice (some ⟨Z,0,none⟩) 2 2,u26,u27,.pointer (some ⟨Y+1,0,none⟩),u29,u30,u31,u32,u33,.int .i64 0,u35,.int .i64 (m:Int),u37,u38,u39,u40,u41,u42,u43,u44,u45,u46,u47,u48,u49,u50,u51,u52,u53,u54,u55,u56,u57,u58,u59,u60,u61,u62,u63,u64,u65,u66,u67,u68,u69,u70,u71,u72,u73,u74,u75,u76,u77,u78,u79,u80,u81,u82,u83,u84,u85,u86,u87,u88,u89,u90,u91,u92,u93,u94,u95,u96,u97,u98,u99,u100,u101,u102,u103,u104,u105,u106,u107,u108,u109,u110,u111,u112,u113,u114,u115,u116,u117,u118,u119,u120,u121,u122,u123,u124,u125,u126,u127,u128,u129,u130,u131,u132,u133,u134,u135,u136,u137,u138,u139,u140,u141,u142,u143,u144,u145,u146,u147,u148,u149,u150,u151,u152,u153,u154,u155,u156,u157,u158,u159,u160,u161,u162,u163,u164,u165,u166,u167,u168,u169,u170,u171,u172,u173,u174,u175,u176,u177,u178,u179,u180,u181,u182,u183,u184,u185,u186,u187,u188,u189,u190,u191,u192,u193,u194,u195,u196,u197,u198,u199,u200,u201,u202,u203,u204,u205,u206,u207,u208,u209,u210,u211,u212,u213,u214,u215,u216,u217,u218,u219,u220,u221,u222,u223,u224,u225,u226,u227,u228,u229,u230,u231,u232,u233,u234,u235,u236,u237,u238,u239,u240,u241,u242,u243,u244,u245,u246,u247,u248,u249,u250,u251,u252,u253,u254,u255,u256,u257,u258,u259,u260,u261,u262,u263,u264,u265,u266,u267,u268,u269,u270,u271,u272,u273,u274,u275,u276,u277,u278,u279,u280,u281,u282,u283,u284,u285,u286,u287,u288,u289,u290,u291,u292,u293,u294,u295,u296,u297,u298,u299,u300,u301,u302,u303,u304,u305,u306,u307,u308,u309,u310,u311,u312,u313,u314,u315,u316,u317,u318,u319,u320,u321,u322,u323,u324,u325,u326,u327,u328,u329,u330,u331,u332,u333,u334,u335,u336,u337,u338,u339,u340,u341,u342,u343,u344,u345,u346,u347,u348,u349,u350,u351,u352,u353,u354,u355,u356,u357,u358,u359,u360,u361,u362,u363,u364,u365,u366,u367,u368,u369,u370,u371,u372,u373,u374,u375,u376,u377,u378,u379,u380,u381,u382,u383,u384,u385,u386,u387,u388,u389,u390,u391,u392,u393,u394,u395,u396,u397,u398,u399,u400,u401,u402,u403,u404,u405,u406,u407,u408,u409,u410,u411,u412,u413,u414,u415,u416,u417,u418,u419,u420,u421,u422,u423,u424,u425,u426,u427,u428,u429,u430,u431,u432,u433,u434,u435,u436,u437,u438,u439,u440,u441],defers:=[] } w:=by
 have hfx:=hf.now
 have hat:D.L[m]?=some (D.at m):=by unfold HD.at;rw[List.getElem?_eq_getElem (by omega)];rfl
 obtain ⟨lb,lo,lcap,sa,sn,sk,ta,tn,tk,he,t0,t1,t2,_,_,_,hsi,_⟩:=D_.at (show D_ w (.slice la P lk) D.L from hfx.ll) hat
 injection he with e1 e2 e3
 subst e1 e3
 clear e2
 obtain ⟨xr,hxr⟩:=gN ((D.at m).1.rows)
 obtain ⟨xc,hxc⟩:=gN ((D.at m).1.cols)
 rw[hxr]at t0
 rw[hxc]at t1
 have HB1:=h_ (o_ w (.cells #[.int .i64 xr,.int .i64 xc,.slice sa sn sk] 28))
 obtain ⟨V,hV⟩:=gM (w.alloc (.cells #[.int .i64 xr,.int .i64 xc,.slice sa sn sk] 28))
 rw[←hV]at HB1
 have HFX:=h_ hf
 have HM:=h_ hm
 have HQ:=h_ hQ
 have HP:=h_ (And.intro hP (And.intro hLP hK))
 have HPH:=h_ hp
 have HQL:=h_ (And.intro hq hd)
 have HKB:=h_ (show WBk V w.heap.size #[.int .i64 xr,.int .i64 xc,.slice sa sn sk] 28 by rw[hV];exact WBk.new w _ _)
 have HCE:=h_ (show ∀W',Below V.heap.size V W'→W'.cell? ⟨Z,0,none⟩=some (.slice na K nc)∧W'.cell? ⟨w.heap.size,0,none⟩=some (.int .i64 xr)∧W'.cell? ⟨w.heap.size,1,none⟩=some (.int .i64 xc)∧W'.cell? ⟨w.heap.size,2,none⟩=some (.slice sa sn sk) from fun W' hb=>⟨c_ (bel_on HB1.out hb) hfx.c0,(HKB.out.kept hb).c rfl,(HKB.out.kept hb).c rfl,(HKB.out.kept hb).c rfl⟩)
 have HGO:=h_ (show ∀W',Below V.heap.size V W'→_ from fun W' hb=>netgo_owns (.slice na K nc) (.agg #[.int .i64 (D.at m).1.rows,.int .i64 (D.at m).1.cols,.slice sa sn sk]) D.a (D.at m).1 W' (hfx.l0.u_ (bel_on HB1.out hb)) ⟨_,rfl,hsi.u_ (bel_on HB1.out hb)⟩)
 rw[hp.go0,e_ rfl,hxr,hxc]at HGO
 have HV:=h_ hV
 clear hf hfx hm hQ hP hLP hK hp hq hd hsi hxr hxc hV hat
 simp only[List.foldl,stepC,Tryz.f3,Option.getD]
 go_wp2_with fail
 rw[←HV.out]
 go_cut [41,42] from 241 to 249 (fun gv ev wx=>ev=.nilIface∧Owns 0 V.heap.size wx 28 3 gv (ngX D.a (D.at m).1).length ((ngX D.a (D.at m).1).flatMap mxS)∧Below V.heap.size V wx)
 case first=>
  obtain ⟨lm0,lm1,lm2,lm3⟩:=HCE.out V (Below.refl _ _)
  go_region_held3 (fun W'=>W'.cell? ⟨Z,0,none⟩=some (.slice na K nc)∧W'.cell? ⟨w.heap.size,0,none⟩=some (.int .i64 xr)∧W'.cell? ⟨w.heap.size,1,none⟩=some (.int .i64 xc)∧W'.cell? ⟨w.heap.size,2,none⟩=some (.slice sa sn sk))
   ((refine HCE.out _ ?_;repeat' (first|with_reducible exact Below.refl _ _|with_reducible refine wy_drew ?_|with_reducible refine wy_go ?_ hbz)))
   ((go_at_call 13;refine (HGO.out _ (by repeat' (first|with_reducible exact Below.refl _ _|with_reducible refine wy_drew ?_))).mono ?_;rintro e wz ⟨gv,rfl,hgv,hbz⟩))
  all_goals go_wp2
  all_goals go_meet
  all_goals
   refine ⟨rfl,?_,?_⟩
   ·exact hgv
   ·repeat' (first|with_reducible exact Below.refl _ _|with_reducible refine wy_drew ?_|with_reducible refine wy_go ?_ hbz)
 case rest=>
  obtain ⟨rfl,hgv,hbc⟩:=hcut
  obtain ⟨ga,gk,hge,_⟩:=hgv.reads
  have hgl:(ngX D.a (D.at m).1).length=K+1:=by rw[HPH.out.last0.1,HP.out.2.2]
  rw[hgl]at hge
  subst hge
  have HM1:=h_ (HM.out.u_ (bel_on HB1.out hbc))
  have hfc:=(HFX.out.u_ (bel_on HB1.out hbc)).now
  have z0:=hfc.c0
  have z1:wc.cell? ⟨Y+1,0,none⟩=some (.slice (some ⟨Y+1+1,0,none⟩) P P):=by have:=hfc.sw0;rw[HP.out.1]at this;exact this
  obtain ⟨old,z2,z3,_⟩:=HM1.out.w0.cell (m:=m) (by rw[HP.out.1];exact hmP)
  have z2':wc.cell? ⟨Y+1+1,m,none⟩=some old:=z2
  have z3':wc.frozen? ⟨Y+1+1,m,none⟩=false:=z3
  have hlt:∀b,(HBk.of Y B1 C1 B0 C0).A b→b<V.heap.size:=fun b q=>Nat.lt_of_lt_of_le (HM.out.lt b q) HB1.out.size
  have hhold:Hold (HBk.of Y B1 C1 B0 C0).A wc (fun W=>IsMxs W (.slice ga (K+1) gk) (ngX D.a (D.at m).1)):=(hgv.hold.mono (fun b _ q=>hlt b q)).imp (fun W q=>reads_mxs q)
  have HM2:=h_ (HM1.out.saw0 (m:=m) (d:=d) _ hhold HQL.out.2)
  obtain ⟨W2,hW2⟩:=gM (wc.setCell ⟨Y+1+1,m,none⟩ (.slice ga (K+1) gk))
  have HW2:=h_ hW2
  have hk2:Kept (HBk.of Y B1 C1 B0 C0).A wc W2:=by rw[hW2];exact Kept.set wc (show (HBk.of Y B1 C1 B0 C0).A (Y+1+1) from .inr (.inl rfl)) m _
  have hmx:=(hhold.kept hk2 (fun b q=>q)).now
  obtain ⟨gb,go,gcap,va,vn,vk,he,s0,s1,s2,hvi⟩:=hmx.at HPH.out.last0.2
  rw[HP.out.2.2]at s0 s1 s2
  injection he with e1 e2 e3
  subst e1 e3
  clear e2
  obtain ⟨yr,hyr⟩:=gN ((midH D.a (D.at m)).rows)
  obtain ⟨yc,hyc⟩:=gN ((midH D.a (D.at m)).cols)
  have HM3:=h_ (show HMem D (HBk.of Y B1 C1 B0 C0) W0 W2 c0 c1 d d1 y0 y1 q1 q0 m1 m0 g1 g0 by rw[hW2];exact HM2.out)
  have HPU:=h_ (hput_any (v:=.agg #[.int .i64 1,.int .i64 (m:Int),.int .i64 (midH D.a (D.at m)).rows,.int .i64 (midH D.a (D.at m)).cols,.slice va vn vk]) HM3.out.x1 (by rw[List.length_map];exact HQL.out.1) HM3.out.lt ⟨_,rfl,hvi⟩ (HPH.out.msg1 (m:=(m:Int)) (by omega) (by omega)))
  rw[hyr]at s0 HPU
  rw[hyc]at s1 HPU
  rw[hW2]at s0 s1 s2
  clear hgv hbc hfc z2 z3 hlt hhold hmx hk2 hvi hyr hyc hW2 hgl
  have hKc:((K+1:Nat):Int)=(K:Int)+1:=by omega
  have hKb:((K:Int)+1 !=(K:Int)+1)=false:=by simp
  go_wp2_with fail
  rw[←HW2.out]
  refine HPU.out.mono ?_
  rintro e W3 ⟨rfl,hbx,hkx⟩
  have HM4:=h_ (HM3.out.box1 (q:=q1++[m]) hkx (by rw[List.map_append];exact hbx))
  clear hbx hkx
  go_wp2_with fail
  exact HQ.out _ _ _ _ _ _ _ _ _ _ _ _ _ _ _ _ _ _ _ _ _ _ _ _ _ _ _ _ _ _ _ _ _ _ _ _ _ _ _ _ _ _ _ _ _ _ _ _ _ _ _ _ _ _ _ _ _ _ _ W3 HM4.out
end Go.Proofs.YtniloklglpchfakGreat
