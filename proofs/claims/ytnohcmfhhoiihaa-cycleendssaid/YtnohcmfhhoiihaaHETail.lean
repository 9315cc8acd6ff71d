/- CycleEnds: the tail of a round. -/
import Derived.Test.YtnohcmfhhoiihaaHELoop2
namespace Go.Proofs.Ytnohcmfhhoiihaa
open Go.RowKit

set_option maxRecDepth 100000 in
set_option maxHeartbeats 16000000 in
theorem tail_ok {u0 u1 u2 u3 u4 u5 u6 u7 u8 u9 u13 u15 u16 u17 u18 u19 u20 u22 u25 u26 u28 u29 u30 u31 u32 u33 u34 u35 u36 u37 u38 u39 u40 u41 u42 u43 u44 u45 u46 u47 u48 u49 u50 u51 u52 u53 u54 u55 u56 u57 u58 u59 u60 u61 u62 u63 u64 u65 u66 u67 u68 u69 u70 u71 u72 u73 u74 u75 u76 u77 u78 u79 u80 u81 u82 u83 u84 u85 u86 u87 u88 u89 u90 u91 u92 u93 u94 u95 u96 u97 u98 u99 u100 u101 u102 u103 u104 u105 u106 u107 u108 u109 u110 u111 u112 u113 u114 u115 u116 u117 u118 u119 u120 u121 u122 u123 u124 u125 u126 u127 u128 u129 u130 u131 u132 u133 u134 u135 u136 u137 u138 u139 u140 u141 u142 u143 u144 u145 u146 u147 u148 u149 u150 u151 u152 u153 u154 u155 u156 u157 u158 u159 u160 u161 u162 u163 u164 u165 u166 u167 u168 u169 u170 u171 u172 u173 u174 u175 u176 u177 u178 u179 u180 u181 u182 u183 u184 u185 u186 u187 u188 u189 u190 u191 u192 u193 u194 u195 u196 u197 u198 u199 u200 u201 u202 u203 u204 u205 u206 u207 u208 u209 u210 u211 u212 u213 u214 u215 u216 u217 u218 u219 u220 u221 u222 u223 u224 u225 u226 u227 u228 u229 u230 u231 u232 u233 u234 u235 u236 u237 u238 u239 u240 u241 u242 u243 u244 u245 u246 u247 u248 u249 u250 u251 u252 u253 u254 u255 u256 u257 u258 u259 u260 u261 u262 u263 u264 u265 u266 u267 u268 u269 u270 u271 u272 u273 u274 u275 u276 u277 u278 u279 u280 u281 u282 u283 u284 u285 u286 u287 u288 u289 u290 u291 u292 u293 u294 u295 u296 u297 u298 u299 u300 u301 u302 u303 u304 u305 u306 u307 u308 u309 u310 u311 u312 u313 u314 u315 u316 u317 u318 u319 u320 u321 u322 u323 u324 u325 u326 u327 u328 u329 u330 u331 u332 u333 u334 u335 u336 u337 u338 u339 u340 u341 u342 u343 u344 u345 u346 u347 u348 u349 u350 u351 u352 u353 u354 u355 u356 u357 u358 : Value} {w W : World} {b sb ab db n g i1 steps1 c18 c19 c20 c21 : Nat} {s : Cy} {th r : Int} {st tl gb bk : Bool} (Q : Exit → Act → World → Prop) (hA : Aft w W b sb ab db n g s th st tl gb bk i1 steps1 r c18 c19 c20 c21) (hph : 0 ≤ s.ph) (hbg : s.bg ≤ 9223372036854775807) (hn : n < 300) (hg : g < 65)
    (hGo : ∀ {v28 v29 v287 v288 v289 v290 v291 v292 v293 v294 v295 v296 v297 v298 v299 v300 v301 v302 v303 v304 v305 v306 v307 v308 : Value} {wx : World} {T : List Th} {gr lf last : Nat} {s' : Cy}, Hid (Iv n g T gr lf s' i1 steps1 last c18 c19 c20 c21) → Hid (LS w wx b sb T gr lf s') → Hid (r = last) → Q .normal ⟨#[u0, u1, u2, u3, u4, u5, u6, u7, u8, u9, .int .i64 n, .int .i64 g, .pointer (some ⟨b, 0, none⟩), u13, .pointer (some ⟨sb, 0, none⟩), u15, u16, u17, u18, u19, u20, .int .i64 c21, u22, .pointer (some ⟨ab, 0, none⟩), .pointer (some ⟨db, 0, none⟩), u25, u26, .bool bk, v28, v29, u30, u31, u32, u33, u34, u35, u36, u37, u38, u39, u40, u41, u42, u43, u44, u45, u46, u47, u48, u49, u50, u51, u52, u53, u54, u55, u56, u57, u58, u59, u60, u61, u62, u63, u64, u65, u66, u67, u68, u69, u70, u71, u72, u73, u74, u75, u76, u77, u78, u79, u80, u81, u82, u83, u84, u85, u86, u87, u88, u89, u90, u91, u92, u93, u94, u95, u96, u97, u98, u99, u100, u101, u102, u103, u104, u105, u106, u107, u108, u109, u110, u111, u112, u113, u114, u115, u116, u117, u118, u119, u120, u121, u122, u123, u124, u125, u126, u127, u128, u129, u130, u131, u132, u133, u134, u135, u136, u137, u138, u139, u140, u141, u142, u143, u144, u145, u146, u147, u148, u149, u150, u151, u152, u153, u154, u155, u156, u157, u158, u159, u160, u161, u162, u163, u164, u165, u166, u167, u168, u169, u170, u171, u172, u173, u174, u175, u176, u177, u178, u179, u180, u181, u182, u183, u184, u185, u186, u187, u188, u189, u190, u191, u192, u193, u194, u195, u196, u197, u198, u199, u200, u201, u202, u203, u204, u205, u206, u207, u208, u209, u210, u211, u212, u213, u214, u215, u216, u217, u218, u219, u220, u221, u222, u223, u224, u225, u226, u227, u228, u229, u230, u231, u232, u233, u234, u235, u236, u237, u238, u239, u240, u241, u242, u243, u244, u245, u246, u247, u248, u249, u250, u251, u252, u253, u254, u255, u256, u257, u258, u259, u260, u261, u262, u263, u264, u265, u266, u267, u268, u269, u270, u271, u272, u273, u274, u275, u276, u277, u278, u279, u280, u281, u282, u283, u284, u285, u286, v287, v288, v289, v290, v291, v292, v293, v294, v295, v296, v297, v298, v299, v300, v301, v302, v303, v304, v305, v306, v307, v308, u309, u310, u311, u312, u313, u314, u315, u316, u317, u318, u319, u320, u321, u322, u323, u324, u325, u326, u327, u328, u329, u330, u331, u332, u333, u334, u335, u336, u337, u338, u339, u340, u341, u342, u343, u344, u345, u346, u347, u348, u349, u350, u351, u352, u353, u354, u355, u356, u357, u358], []⟩ wx)
    (hBr : ∀ {v28 v29 v287 v288 v289 v290 v291 v292 v293 v294 v295 v296 v297 v298 v299 v300 v301 v302 v303 v304 v305 v306 v307 v308 : Value} {wx : World}, Hid (Fin w wx b sb n g steps1 6 c18 c19 c20) → Hid (r = 6) → Q (.exit 2) ⟨#[u0, u1, u2, u3, u4, u5, u6, u7, u8, u9, .int .i64 n, .int .i64 g, .pointer (some ⟨b, 0, none⟩), u13, .pointer (some ⟨sb, 0, none⟩), u15, u16, u17, u18, u19, u20, .int .i64 c21, u22, .pointer (some ⟨ab, 0, none⟩), .pointer (some ⟨db, 0, none⟩), u25, u26, .bool bk, v28, v29, u30, u31, u32, u33, u34, u35, u36, u37, u38, u39, u40, u41, u42, u43, u44, u45, u46, u47, u48, u49, u50, u51, u52, u53, u54, u55, u56, u57, u58, u59, u60, u61, u62, u63, u64, u65, u66, u67, u68, u69, u70, u71, u72, u73, u74, u75, u76, u77, u78, u79, u80, u81, u82, u83, u84, u85, u86, u87, u88, u89, u90, u91, u92, u93, u94, u95, u96, u97, u98, u99, u100, u101, u102, u103, u104, u105, u106, u107, u108, u109, u110, u111, u112, u113, u114, u115, u116, u117, u118, u119, u120, u121, u122, u123, u124, u125, u126, u127, u128, u129, u130, u131, u132, u133, u134, u135, u136, u137, u138, u139, u140, u141, u142, u143, u144, u145, u146, u147, u148, u149, u150, u151, u152, u153, u154, u155, u156, u157, u158, u159, u160, u161, u162, u163, u164, u165, u166, u167, u168, u169, u170, u171, u172, u173, u174, u175, u176, u177, u178, u179, u180, u181, u182, u183, u184, u185, u186, u187, u188, u189, u190, u191, u192, u193, u194, u195, u196, u197, u198, u199, u200, u201, u202, u203, u204, u205, u206, u207, u208, u209, u210, u211, u212, u213, u214, u215, u216, u217, u218, u219, u220, u221, u222, u223, u224, u225, u226, u227, u228, u229, u230, u231, u232, u233, u234, u235, u236, u237, u238, u239, u240, u241, u242, u243, u244, u245, u246, u247, u248, u249, u250, u251, u252, u253, u254, u255, u256, u257, u258, u259, u260, u261, u262, u263, u264, u265, u266, u267, u268, u269, u270, u271, u272, u273, u274, u275, u276, u277, u278, u279, u280, u281, u282, u283, u284, u285, u286, v287, v288, v289, v290, v291, v292, v293, v294, v295, v296, v297, v298, v299, v300, v301, v302, v303, v304, v305, v306, v307, v308, u309, u310, u311, u312, u313, u314, u315, u316, u317, u318, u319, u320, u321, u322, u323, u324, u325, u326, u327, u328, u329, u330, u331, u332, u333, u334, u335, u336, u337, u338, u339, u340, u341, u342, u343, u344, u345, u346, u347, u348, u349, u350, u351, u352, u353, u354, u355, u356, u357, u358], []⟩ wx) :
    tailE.wp Try.prog Q ⟨#[u0, u1, u2, u3, u4, u5, u6, u7, u8, u9, .int .i64 n, .int .i64 g, .pointer (some ⟨b, 0, none⟩), u13, .pointer (some ⟨sb, 0, none⟩), u15, u16, u17, u18, u19, u20, .int .i64 c21, u22, .pointer (some ⟨ab, 0, none⟩), .pointer (some ⟨db, 0, none⟩), u25, u26, .bool bk, u28, u29, u30, u31, u32, u33, u34, u35, u36, u37, u38, u39, u40, u41, u42, u43, u44, u45, u46, u47, u48, u49, u50, u51, u52, u53, u54, u55, u56, u57, u58, u59, u60, u61, u62, u63, u64, u65, u66, u67, u68, u69, u70, u71, u72, u73, u74, u75, u76, u77, u78, u79, u80, u81, u82, u83, u84, u85, u86, u87, u88, u89, u90, u91, u92, u93, u94, u95, u96, u97, u98, u99, u100, u101, u102, u103, u104, u105, u106, u107, u108, u109, u110, u111, u112, u113, u114, u115, u116, u117, u118, u119, u120, u121, u122, u123, u124, u125, u126, u127, u128, u129, u130, u131, u132, u133, u134, u135, u136, u137, u138, u139, u140, u141, u142, u143, u144, u145, u146, u147, u148, u149, u150, u151, u152, u153, u154, u155, u156, u157, u158, u159, u160, u161, u162, u163, u164, u165, u166, u167, u168, u169, u170, u171, u172, u173, u174, u175, u176, u177, u178, u179, u180, u181, u182, u183, u184, u185, u186, u187, u188, u189, u190, u191, u192, u193, u194, u195, u196, u197, u198, u199, u200, u201, u202, u203, u204, u205, u206, u207, u208, u209, u210, u211, u212, u213, u214, u215, u216, u217, u218, u219, u220, u221, u222, u223, u224, u225, u226, u227, u228, u229, u230, u231, u232, u233, u234, u235, u236, u237, u238, u239, u240, u241, u242, u243, u244, u245, u246, u247, u248, u249, u250, u251, u252, u253, u254, u255, u256, u257, u258, u259, u260, u261, u262, u263, u264, u265, u266, u267, u268, u269, u270, u271, u272, u273, u274, u275, u276, u277, u278, u279, u280, u281, u282, u283, u284, u285, u286, u287, u288, u289, u290, u291, u292, u293, u294, u295, u296, u297, u298, u299, u300, u301, u302, u303, u304, u305, u306, u307, u308, u309, u310, u311, u312, u313, u314, u315, u316, u317, u318, u319, u320, u321, u322, u323, u324, u325, u326, u327, u328, u329, u330, u331, u332, u333, u334, u335, u336, u337, u338, u339, u340, u341, u342, u343, u344, u345, u346, u347, u348, u349, u350, u351, u352, u353, u354, u355, u356, u357, u358], []⟩ W := by
  obtain ⟨T, gr, lf, s', M, hR, hst, hd⟩ := hA
  have HS : Hid (RS w W b sb ab db T gr lf s n g th st tl gb M) := hR
  have HST : Hid (∀ w : World, Calls Try.prog 10 #[.agg #[.int .u8 s.ph, .int .i64 s.gl, .int .i64 s.sw, .int .i64 s.fr, .int .i64 s.bg, .bool s.ak], .agg #[.int .i64 n, .int .i64 g, .int .i64 th, .bool st, .bool tl, .bool gb], .bool bk] w fun e w' => e = .returned (.tuple #[.agg #[.int .u8 s'.ph, .int .i64 s'.gl, .int .i64 s'.sw, .int .i64 s'.fr, .int .i64 s'.bg, .bool s'.ak], .int .i64 0]) ∧ Below w.heap.size w w') := fun w => by
    have h := step_any s.ph s.gl s.sw s.fr s.bg s.ak n g th st tl gb bk w hph hbg (by omega) (by omega)
    rw [hst] at h
    exact h
  have HGo : Hid _ := @hGo
  have HBr : Hid _ := @hBr
  clear hR hst hph hbg hn hg hGo hBr
  have c0 := heap_cell (j := 0) HS.out.cb rfl
  have c1 := heap_cell (j := 1) HS.out.cb rfl
  have c2 := heap_cell (j := 2) HS.out.cb rfl
  have c3 := heap_cell (j := 3) HS.out.cb rfl
  have c4 := heap_cell (j := 4) HS.out.cb rfl
  have c5 := heap_cell (j := 5) HS.out.cb rfl
  have lsb := heap_lt HS.out.cb
  have a0 := heap_cell (j := 0) HS.out.hab rfl
  have a1 := heap_cell (j := 1) HS.out.hab rfl
  have a2 := heap_cell (j := 2) HS.out.hab rfl
  have a3 := heap_cell (j := 3) HS.out.hab rfl
  have a4 := heap_cell (j := 4) HS.out.hab rfl
  have a5 := heap_cell (j := 5) HS.out.hab rfl
  have lab := heap_lt HS.out.hab
  have d0 := heap_cell (j := 0) HS.out.hdb rfl
  have d1 := heap_cell (j := 1) HS.out.hdb rfl
  have d2 := heap_cell (j := 2) HS.out.hdb rfl
  have d3 := heap_cell (j := 3) HS.out.hdb rfl
  have ldb := heap_lt HS.out.hdb
  rcases hd with ⟨h25, last, hr, hI⟩ | ⟨h25, hr, hfr, hs', h3, h8, h4, h5, h6⟩
  · have k25 : (M.wh == 25) = false := by simpa using h25
    have HI : Hid (Iv n g T gr lf s' i1 steps1 last c18 c19 c20 c21) := hI
    have HRl : Hid (r = (last : Int)) := hr
    clear h25 hI hr
    unfold tailE bodyE topE
    simp only [Try.f5, Option.getD, cL, cR, cB, cLp]
    go_wp2_with fail
    refine Calls.mono (HST.out _) ?_
    rintro e w5 ⟨rfl, hb⟩
    have HS5 : Hid (RS w (w5.alloc (.cells #[.int .u8 s'.ph, .int .i64 s'.gl, .int .i64 s'.sw, .int .i64 s'.fr, .int .i64 s'.bg, .bool s'.ak] 27)) b sb ab db T gr lf s n g th st tl gb M) := HS.out.keep (hb.alloc hb.size _)
    have hn5 := heap_alloc_new w5 (.cells #[.int .u8 s'.ph, .int .i64 s'.gl, .int .i64 s'.sw, .int .i64 s'.fr, .int .i64 s'.bg, .bool s'.ak] 27)
    have hne : w5.heap.size ≠ sb := fun e => by have := Nat.lt_of_lt_of_le (heap_lt HS.out.cb) hb.size; omega
    clear hb HS c0 c1 c2 c3 c4 c5 lsb a0 a1 a2 a3 a4 a5 lab d0 d1 d2 d3 ldb HST
    go_upto_region 71 with fail
    generalize w5.alloc (.cells #[.int .u8 s'.ph, .int .i64 s'.gl, .int .i64 s'.sw, .int .i64 s'.fr, .int .i64 s'.bg, .bool s'.ak] 27) = W5 at HS5 hn5 ⊢
    generalize w5.heap.size = tb at hn5 hne ⊢
    have t0 := heap_cell (j := 0) hn5 rfl
    have t1 := heap_cell (j := 1) hn5 rfl
    have t2 := heap_cell (j := 2) hn5 rfl
    have t3 := heap_cell (j := 3) hn5 rfl
    have t4 := heap_cell (j := 4) hn5 rfl
    have t5 := heap_cell (j := 5) hn5 rfl
    have ltb := heap_lt hn5
    have c0 := heap_cell (j := 0) HS5.out.cb rfl
    have z0 := fz_of HS5.out.cb 0
    have c1 := heap_cell (j := 1) HS5.out.cb rfl
    have z1 := fz_of HS5.out.cb 1
    have c2 := heap_cell (j := 2) HS5.out.cb rfl
    have z2 := fz_of HS5.out.cb 2
    have c3 := heap_cell (j := 3) HS5.out.cb rfl
    have z3 := fz_of HS5.out.cb 3
    have c4 := heap_cell (j := 4) HS5.out.cb rfl
    have z4 := fz_of HS5.out.cb 4
    have c5 := heap_cell (j := 5) HS5.out.cb rfl
    have z5 := fz_of HS5.out.cb 5
    have lsb := heap_lt HS5.out.cb
    have d0 := heap_cell (j := 0) HS5.out.hdb rfl
    have ldb := heap_lt HS5.out.hdb
    have ndb : db ≠ sb := fun e => ty_ne HS5.out.hdb HS5.out.cb (by decide) e
    have HL : Hid (LS w ((((((W5.setCell ⟨sb, 0, none⟩ (.int .u8 s'.ph)).setCell ⟨sb, 1, none⟩ (.int .i64 s'.gl)).setCell ⟨sb, 2, none⟩ (.int .i64 s'.sw)).setCell ⟨sb, 3, none⟩ (.int .i64 s'.fr)).setCell ⟨sb, 4, none⟩ (.int .i64 s'.bg)).setCell ⟨sb, 5, none⟩ (.bool s'.ak)) b sb T gr lf s') := HS5.out.ls.next s'
    have HD : Hid (((((((W5.setCell ⟨sb, 0, none⟩ (.int .u8 s'.ph)).setCell ⟨sb, 1, none⟩ (.int .i64 s'.gl)).setCell ⟨sb, 2, none⟩ (.int .i64 s'.sw)).setCell ⟨sb, 3, none⟩ (.int .i64 s'.fr)).setCell ⟨sb, 4, none⟩ (.int .i64 s'.bg)).setCell ⟨sb, 5, none⟩ (.bool s'.ak)).cell? ⟨db, 0, none⟩ = some (.int .u8 M.wh) ∧ db < ((((((W5.setCell ⟨sb, 0, none⟩ (.int .u8 s'.ph)).setCell ⟨sb, 1, none⟩ (.int .i64 s'.gl)).setCell ⟨sb, 2, none⟩ (.int .i64 s'.sw)).setCell ⟨sb, 3, none⟩ (.int .i64 s'.fr)).setCell ⟨sb, 4, none⟩ (.int .i64 s'.bg)).setCell ⟨sb, 5, none⟩ (.bool s'.ak)).heap.size) := ⟨(World.cell?_of_block (w := W5) ((Below.heap_setCell _ _ _ _ ndb).trans ((Below.heap_setCell _ _ _ _ ndb).trans ((Below.heap_setCell _ _ _ _ ndb).trans ((Below.heap_setCell _ _ _ _ ndb).trans ((Below.heap_setCell _ _ _ _ ndb).trans (Below.heap_setCell _ _ _ _ ndb))))))).trans d0, by simp only [World.size_setCell]; exact ldb⟩
    clear HS5 hn5
    go_upto_region 74 with fail
    generalize ((((((W5.setCell ⟨sb, 0, none⟩ (.int .u8 s'.ph)).setCell ⟨sb, 1, none⟩ (.int .i64 s'.gl)).setCell ⟨sb, 2, none⟩ (.int .i64 s'.sw)).setCell ⟨sb, 3, none⟩ (.int .i64 s'.fr)).setCell ⟨sb, 4, none⟩ (.int .i64 s'.bg)).setCell ⟨sb, 5, none⟩ (.bool s'.ak)) = W6 at HL HD ⊢
    clear d0 ldb lsb ltb c0 c1 c2 c3 c4 c5 z0 z1 z2 z3 z4 z5 t0 t1 t2 t3 t4 t5 hne ndb
    obtain ⟨d0, ldb⟩ := HD.out
    clear HD
    go_wp2
    exact HGo.out HI HL HRl
  · rw [h25] at d0
    rw [hfr] at c3 HST
    have HF : Hid (s' = ⟨0, 0, 0, 0, 6, false⟩ ∧ steps1 ≤ 2 * n + g + T.length + 3 ∧ T.length ≤ 8 ∧ c18 = 1 ∧ c19 = g ∧ c20 = n) := ⟨hs', h3, h8, h4, h5, h6⟩
    have HRl : Hid (r = 6) := hr
    have H25 : Hid (M.wh = 25) := h25
    clear h25 hr hfr hs' h3 h8 h4 h5 h6
    unfold tailE bodyE topE
    simp only [Try.f5, Option.getD, cL, cR, cB, cLp]
    go_wp2_with fail
    refine Calls.mono (HST.out _) ?_
    rintro e w5 ⟨rfl, hb⟩
    have HS5 : Hid (RS w (w5.alloc (.cells #[.int .u8 s'.ph, .int .i64 s'.gl, .int .i64 s'.sw, .int .i64 s'.fr, .int .i64 s'.bg, .bool s'.ak] 27)) b sb ab db T gr lf s n g th st tl gb M) := HS.out.keep (hb.alloc hb.size _)
    have hn5 := heap_alloc_new w5 (.cells #[.int .u8 s'.ph, .int .i64 s'.gl, .int .i64 s'.sw, .int .i64 s'.fr, .int .i64 s'.bg, .bool s'.ak] 27)
    have hne : w5.heap.size ≠ sb := fun e => by have := Nat.lt_of_lt_of_le (heap_lt HS.out.cb) hb.size; omega
    clear hb HS c0 c1 c2 c3 c4 c5 lsb a0 a1 a2 a3 a4 a5 lab d0 d1 d2 d3 ldb HST
    go_upto_region 71 with fail
    generalize w5.alloc (.cells #[.int .u8 s'.ph, .int .i64 s'.gl, .int .i64 s'.sw, .int .i64 s'.fr, .int .i64 s'.bg, .bool s'.ak] 27) = W5 at HS5 hn5 ⊢
    generalize w5.heap.size = tb at hn5 hne ⊢
    have t0 := heap_cell (j := 0) hn5 rfl
    have t1 := heap_cell (j := 1) hn5 rfl
    have t2 := heap_cell (j := 2) hn5 rfl
    have t3 := heap_cell (j := 3) hn5 rfl
    have t4 := heap_cell (j := 4) hn5 rfl
    have t5 := heap_cell (j := 5) hn5 rfl
    have ltb := heap_lt hn5
    have c0 := heap_cell (j := 0) HS5.out.cb rfl
    have z0 := fz_of HS5.out.cb 0
    have c1 := heap_cell (j := 1) HS5.out.cb rfl
    have z1 := fz_of HS5.out.cb 1
    have c2 := heap_cell (j := 2) HS5.out.cb rfl
    have z2 := fz_of HS5.out.cb 2
    have c3 := heap_cell (j := 3) HS5.out.cb rfl
    have z3 := fz_of HS5.out.cb 3
    have c4 := heap_cell (j := 4) HS5.out.cb rfl
    have z4 := fz_of HS5.out.cb 4
    have c5 := heap_cell (j := 5) HS5.out.cb rfl
    have z5 := fz_of HS5.out.cb 5
    have lsb := heap_lt HS5.out.cb
    have d0 := heap_cell (j := 0) HS5.out.hdb rfl
    rw [H25.out] at d0
    have ldb := heap_lt HS5.out.hdb
    have ndb : db ≠ sb := fun e => ty_ne HS5.out.hdb HS5.out.cb (by decide) e
    have HL : Hid (LS w ((((((W5.setCell ⟨sb, 0, none⟩ (.int .u8 s'.ph)).setCell ⟨sb, 1, none⟩ (.int .i64 s'.gl)).setCell ⟨sb, 2, none⟩ (.int .i64 s'.sw)).setCell ⟨sb, 3, none⟩ (.int .i64 s'.fr)).setCell ⟨sb, 4, none⟩ (.int .i64 s'.bg)).setCell ⟨sb, 5, none⟩ (.bool s'.ak)) b sb T gr lf s') := HS5.out.ls.next s'
    have HD : Hid (((((((W5.setCell ⟨sb, 0, none⟩ (.int .u8 s'.ph)).setCell ⟨sb, 1, none⟩ (.int .i64 s'.gl)).setCell ⟨sb, 2, none⟩ (.int .i64 s'.sw)).setCell ⟨sb, 3, none⟩ (.int .i64 s'.fr)).setCell ⟨sb, 4, none⟩ (.int .i64 s'.bg)).setCell ⟨sb, 5, none⟩ (.bool s'.ak)).cell? ⟨db, 0, none⟩ = some (.int .u8 25) ∧ db < ((((((W5.setCell ⟨sb, 0, none⟩ (.int .u8 s'.ph)).setCell ⟨sb, 1, none⟩ (.int .i64 s'.gl)).setCell ⟨sb, 2, none⟩ (.int .i64 s'.sw)).setCell ⟨sb, 3, none⟩ (.int .i64 s'.fr)).setCell ⟨sb, 4, none⟩ (.int .i64 s'.bg)).setCell ⟨sb, 5, none⟩ (.bool s'.ak)).heap.size) := ⟨(World.cell?_of_block (w := W5) ((Below.heap_setCell _ _ _ _ ndb).trans ((Below.heap_setCell _ _ _ _ ndb).trans ((Below.heap_setCell _ _ _ _ ndb).trans ((Below.heap_setCell _ _ _ _ ndb).trans ((Below.heap_setCell _ _ _ _ ndb).trans (Below.heap_setCell _ _ _ _ ndb))))))).trans d0, by simp only [World.size_setCell]; exact ldb⟩
    clear HS5 hn5
    go_upto_region 74 with fail
    generalize ((((((W5.setCell ⟨sb, 0, none⟩ (.int .u8 s'.ph)).setCell ⟨sb, 1, none⟩ (.int .i64 s'.gl)).setCell ⟨sb, 2, none⟩ (.int .i64 s'.sw)).setCell ⟨sb, 3, none⟩ (.int .i64 s'.fr)).setCell ⟨sb, 4, none⟩ (.int .i64 s'.bg)).setCell ⟨sb, 5, none⟩ (.bool s'.ak)) = W6 at HL HD ⊢
    clear d0 ldb lsb ltb c0 c1 c2 c3 c4 c5 z0 z1 z2 z3 z4 z5 t0 t1 t2 t3 t4 t5 hne ndb
    obtain ⟨d0, ldb⟩ := HD.out
    clear HD
    go_wp2
    refine HBr.out ?_ HRl
    obtain ⟨q1, q2, q3, q4, q5, q6⟩ := HF.out
    have hl := HL.out
    rw [q1] at hl
    exact ⟨T, gr, lf, hl, q2, q3, rfl, q4, q5, q6⟩
end Go.Proofs.Ytnohcmfhhoiihaa
