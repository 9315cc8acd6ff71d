/- CycleEnds: a thread that was told lays its roots. -/
import Derived.Test.YtnohcmfhhoiihaaHELoop2
namespace Go.Proofs.Ytnohcmfhhoiihaa
open Go.RowKit

set_option maxRecDepth 100000 in
set_option maxHeartbeats 16000000 in
theorem zero_ok {u0 u1 u2 u3 u4 u5 u6 u7 u8 u9 u13 u15 u16 u17 u18 u19 u20 u21 u22 u25 u26 u27 u28 u29 u30 u31 u32 u33 u34 u35 u36 u37 u38 u39 u40 u41 u42 u43 u44 u45 u46 u47 u48 u49 u50 u51 u52 u53 u54 u55 u56 u57 u58 u59 u60 u61 u62 u63 u64 u65 u66 u67 u68 u69 u70 u71 u72 u73 u74 u75 u76 u77 u78 u79 u80 u81 u82 u83 u84 u85 u86 u87 u88 u89 u90 u91 u92 u93 u94 u95 u96 u97 u98 u99 u100 u101 u102 u103 u104 u105 u106 u107 u108 u109 u110 u111 u112 u113 u114 u115 u116 u118 u119 u120 u121 u122 u123 u124 u125 u126 u127 u128 u129 u130 u131 u132 u133 u134 u135 u136 u137 u138 u139 u140 u141 u142 u143 u144 u145 u146 u147 u148 u149 u150 u151 u152 u153 u154 u155 u156 u157 u158 u159 u160 u161 u162 u163 u164 u165 u166 u167 u168 u169 u170 u171 u172 u173 u174 u175 u176 u177 u178 u179 u180 u181 u182 u183 u184 u185 u186 u187 u188 u189 u190 u191 u192 u193 u194 u195 u196 u197 u198 u199 u200 u201 u202 u203 u204 u205 u206 u207 u208 u209 u210 u211 u212 u213 u214 u215 u216 u217 u218 u219 u220 u221 u222 u223 u224 u225 u226 u227 u228 u229 u230 u231 u232 u233 u234 u235 u236 u237 u238 u239 u240 u241 u242 u243 u244 u245 u246 u247 u248 u249 u250 u251 u252 u253 u254 u255 u256 u257 u258 u259 u260 u261 u262 u263 u264 u265 u266 u267 u268 u269 u270 u271 u272 u273 u274 u275 u276 u277 u278 u279 u280 u281 u282 u283 u284 u285 u286 u287 u288 u289 u290 u291 u292 u293 u294 u295 u296 u297 u298 u299 u300 u301 u302 u303 u304 u305 u306 u307 u308 u309 u310 u311 u312 u313 u314 u315 u316 u317 u318 u319 u320 u321 u322 u323 u324 u325 u326 u327 u328 u329 u330 u331 u332 u333 u334 u335 u336 u337 u338 u339 u340 u341 u342 u343 u344 u345 u346 u347 u348 u349 u350 u351 u352 u353 u354 u355 u356 u357 u358 : Value} {w W2 : World} {b sb ab db n g i steps last gr lf k : Nat} {T : List Th} {t : Th} {st tl gb : Bool} (Q : Exit → Act → World → Prop) (hS : RS w W2 b sb ab db T gr lf (⟨1, (g : Int), 0, 0, 6, false⟩ : Cy) n g ((k : Int) + 1) st tl gb d0) (hI : Iv n g T gr lf (⟨1, (g : Int), 0, 0, 6, false⟩ : Cy) i steps last 0 g 0 0) (ht : T[k]? = some t) (hsc : t.sc = false) (htl : t.tl = true) (hl2 : last ≤ 2) (hst : steps = 1 + g + sm fP T) (hgl : gr + lf = n)
    (hC : ∀ {v25 v118 v119 v120 v121 v122 v123 v124 v125 v126 v127 v128 v129 v130 v131 v132 v133 v134 v135 : Value} {wx : World} {T' : List Th} {gr' lf' : Nat}, Hid (Iv n g T' gr' lf' (⟨1, (g : Int), 0, 0, 6, false⟩ : Cy) (i + 1) steps last 0 g 0 0) → Hid (LS w wx b sb T' gr' lf' (⟨1, (g : Int), 0, 0, 6, false⟩ : Cy)) → Q (.exit 3) ⟨#[u0, u1, u2, u3, u4, u5, u6, u7, u8, u9, .int .i64 n, .int .i64 g, .pointer (some ⟨b, 0, none⟩), u13, .pointer (some ⟨sb, 0, none⟩), u15, u16, u17, u18, u19, u20, u21, u22, .pointer (some ⟨ab, 0, none⟩), .pointer (some ⟨db, 0, none⟩), v25, u26, u27, u28, u29, u30, u31, u32, u33, u34, u35, u36, u37, u38, u39, u40, u41, u42, u43, u44, u45, u46, u47, u48, u49, u50, u51, u52, u53, u54, u55, u56, u57, u58, u59, u60, u61, u62, u63, u64, u65, u66, u67, u68, u69, u70, u71, u72, u73, u74, u75, u76, u77, u78, u79, u80, u81, u82, u83, u84, u85, u86, u87, u88, u89, u90, u91, u92, u93, u94, u95, u96, u97, u98, u99, u100, u101, u102, u103, u104, u105, u106, u107, u108, u109, u110, u111, u112, u113, u114, u115, u116, .bool true, v118, v119, v120, v121, v122, v123, v124, v125, v126, v127, v128, v129, v130, v131, v132, v133, v134, v135, u136, u137, u138, u139, u140, u141, u142, u143, u144, u145, u146, u147, u148, u149, u150, u151, u152, u153, u154, u155, u156, u157, u158, u159, u160, u161, u162, u163, u164, u165, u166, u167, u168, u169, u170, u171, u172, u173, u174, u175, u176, u177, u178, u179, u180, u181, u182, u183, u184, u185, u186, u187, u188, u189, u190, u191, u192, u193, u194, u195, u196, u197, u198, u199, u200, u201, u202, u203, u204, u205, u206, u207, u208, u209, u210, u211, u212, u213, u214, u215, u216, u217, u218, u219, u220, u221, u222, u223, u224, u225, u226, u227, u228, u229, u230, u231, u232, u233, u234, u235, u236, u237, u238, u239, u240, u241, u242, u243, u244, u245, u246, u247, u248, u249, u250, u251, u252, u253, u254, u255, u256, u257, u258, u259, u260, u261, u262, u263, u264, u265, u266, u267, u268, u269, u270, u271, u272, u273, u274, u275, u276, u277, u278, u279, u280, u281, u282, u283, u284, u285, u286, u287, u288, u289, u290, u291, u292, u293, u294, u295, u296, u297, u298, u299, u300, u301, u302, u303, u304, u305, u306, u307, u308, u309, u310, u311, u312, u313, u314, u315, u316, u317, u318, u319, u320, u321, u322, u323, u324, u325, u326, u327, u328, u329, u330, u331, u332, u333, u334, u335, u336, u337, u338, u339, u340, u341, u342, u343, u344, u345, u346, u347, u348, u349, u350, u351, u352, u353, u354, u355, u356, u357, u358], []⟩ wx) :
    condE.wp Try.prog Q ⟨#[u0, u1, u2, u3, u4, u5, u6, u7, u8, u9, .int .i64 n, .int .i64 g, .pointer (some ⟨b, 0, none⟩), u13, .pointer (some ⟨sb, 0, none⟩), u15, u16, u17, u18, u19, u20, u21, u22, .pointer (some ⟨ab, 0, none⟩), .pointer (some ⟨db, 0, none⟩), u25, u26, u27, u28, u29, u30, u31, u32, u33, u34, u35, u36, u37, u38, u39, u40, u41, u42, u43, u44, u45, u46, u47, u48, u49, u50, u51, u52, u53, u54, u55, u56, u57, u58, u59, u60, u61, u62, u63, u64, u65, u66, u67, u68, u69, u70, u71, u72, u73, u74, u75, u76, u77, u78, u79, u80, u81, u82, u83, u84, u85, u86, u87, u88, u89, u90, u91, u92, u93, u94, u95, u96, u97, u98, u99, u100, u101, u102, u103, u104, u105, u106, u107, u108, u109, u110, u111, u112, u113, u114, u115, u116, .bool true, u118, u119, u120, u121, u122, u123, u124, u125, u126, u127, u128, u129, u130, u131, u132, u133, u134, u135, u136, u137, u138, u139, u140, u141, u142, u143, u144, u145, u146, u147, u148, u149, u150, u151, u152, u153, u154, u155, u156, u157, u158, u159, u160, u161, u162, u163, u164, u165, u166, u167, u168, u169, u170, u171, u172, u173, u174, u175, u176, u177, u178, u179, u180, u181, u182, u183, u184, u185, u186, u187, u188, u189, u190, u191, u192, u193, u194, u195, u196, u197, u198, u199, u200, u201, u202, u203, u204, u205, u206, u207, u208, u209, u210, u211, u212, u213, u214, u215, u216, u217, u218, u219, u220, u221, u222, u223, u224, u225, u226, u227, u228, u229, u230, u231, u232, u233, u234, u235, u236, u237, u238, u239, u240, u241, u242, u243, u244, u245, u246, u247, u248, u249, u250, u251, u252, u253, u254, u255, u256, u257, u258, u259, u260, u261, u262, u263, u264, u265, u266, u267, u268, u269, u270, u271, u272, u273, u274, u275, u276, u277, u278, u279, u280, u281, u282, u283, u284, u285, u286, u287, u288, u289, u290, u291, u292, u293, u294, u295, u296, u297, u298, u299, u300, u301, u302, u303, u304, u305, u306, u307, u308, u309, u310, u311, u312, u313, u314, u315, u316, u317, u318, u319, u320, u321, u322, u323, u324, u325, u326, u327, u328, u329, u330, u331, u332, u333, u334, u335, u336, u337, u338, u339, u340, u341, u342, u343, u344, u345, u346, u347, u348, u349, u350, u351, u352, u353, u354, u355, u356, u357, u358], []⟩ W2 := by
  have HS : Hid (RS w W2 b sb ab db T gr lf (⟨1, (g : Int), 0, 0, 6, false⟩ : Cy) n g ((k : Int) + 1) st tl gb Go.Proofs.Ytnohcmfhhoiihaa.d0) := hS
  have HI : Hid (Iv n g T gr lf (⟨1, (g : Int), 0, 0, 6, false⟩ : Cy) i steps last 0 g 0 0) := hI
  have HT8 : Hid (T.length ≤ 8) := hI.ok.1
  have HC : Hid _ := @hC
  have hkT := (List.getElem?_eq_some_iff.1 ht).1
  obtain ⟨v, hx⟩ := HS.out.tx
  obtain ⟨gt, ct, hvt, _, lt⟩ := own_form hx.t (show 0 < (rows T).nt from by show 0 < T.length; omega)
  have f2 : W2.cell? ⟨b, 2, none⟩ = some (.slice (some ⟨gt, 0, none⟩) T.length ct) := (heap_cell (j := 2) hx.bl rfl).trans (congrArg some hvt)
  have ot := hx.t
  rw [hvt] at ot
  have r2 : W2.cell? ⟨gt, k, none⟩ = some (.bool t.tl) := own_cell ot (by show (T.map _)[k]? = _; rw [List.getElem?_map, ht]; rfl)
  have z2 : W2.frozen? ⟨gt, k, none⟩ = false := own_fz ot k
  have lb := hx.lt
  rw [htl] at r2
  have kk1 : (k : Int) < (T.length : Int) := by omega
  have kk2 : (k : Int) < 8 := by have := HT8.out; omega
  have HLa : Hid (Calls Try.prog 17 #[.pointer (some ⟨b, 0, none⟩), .int .i64 k] W2 fun e w' => LaR w W2 b T k t gr lf e w') := lays_any w W2 W2 b k gr lf T t HS.out.tx hI.ok ht (Nat.lt_of_le_of_lt hI.gl hI.n300)
  have HTT : Hid (T[k]? = some t ∧ t.sc = false ∧ t.tl = true ∧ last ≤ 2 ∧ steps = 1 + g + sm fP T ∧ gr + lf = n) := ⟨ht, hsc, htl, hl2, hst, hgl⟩
  have a2 := heap_cell (j := 2) HS.out.hab rfl
  have lab := heap_lt HS.out.hab
  clear hx hvt ot ht hsc htl hl2 hst hgl hkT hS hI hC
  unfold condE bodyE topE
  simp only [Try.f5, Option.getD, cL, cR, cB, cLp]
  go_wp2_with fail
  refine Calls.mono HLa.out ?_
  rintro e w3 hLa
  obtain ⟨rfl, hLa⟩ := hLa
  have HN : Hid (∃ T' gr' lf', Iv n g T' gr' lf' (⟨1, (g : Int), 0, 0, 6, false⟩ : Cy) (i + 1) steps last 0 g 0 0 ∧ LS w w3 b sb T' gr' lf' (⟨1, (g : Int), 0, 0, 6, false⟩ : Cy)) := by
    obtain ⟨ht, hsc, htl, hl2, hst, hgl⟩ := HTT.out
    rcases hLa with ⟨h1, h2⟩ | ⟨h1, gr', lf', h2, h3⟩
    · exact ⟨_, _, _, iv_lays HI.out hst hgl hl2 ht h1, (HS.out.call h2).ls⟩
    · exact ⟨_, _, _, iv_laid HI.out hst hgl h2 hl2 ht hsc htl, (HS.out.call h3).ls⟩
  clear hLa HLa lt lb f2 r2 z2 a2 lab
  go_wp2
  obtain ⟨T', gr', lf', h1, h2⟩ := HN.out
  exact HC.out h1 h2
end Go.Proofs.Ytnohcmfhhoiihaa
