/- CycleEnds: the step scan. -/
import Derived.Test.YtnohcmfhhoiihaaHELoop2
namespace Go.Proofs.Ytnohcmfhhoiihaa
open Go.RowKit

set_option maxRecDepth 100000 in
set_option maxHeartbeats 16000000 in
theorem sw_scan {u0 u1 u2 u3 u4 u5 u6 u7 u8 u9 u13 u15 u16 u17 u22 u25 u26 u28 u29 u30 u31 u32 u33 u34 u35 u36 u37 u38 u39 u40 u41 u42 u43 u44 u45 u46 u47 u48 u49 u50 u51 u52 u53 u54 u55 u56 u57 u58 u59 u60 u61 u62 u63 u64 u65 u66 u67 u68 u69 u70 u71 u72 u73 u74 u75 u76 u77 u78 u79 u80 u81 u82 u83 u84 u85 u86 u87 u88 u89 u90 u91 u92 u93 u94 u95 u96 u97 u98 u99 u100 u101 u102 u103 u104 u105 u106 u107 u108 u109 u110 u111 u112 u113 u114 u115 u116 u117 u118 u119 u120 u121 u122 u123 u124 u125 u126 u127 u128 u129 u130 u131 u132 u133 u134 u135 u136 u137 u138 u139 u140 u141 u142 u143 u144 u145 u146 u147 u148 u149 u150 u151 u152 u153 u154 u155 u156 u157 u158 u159 u160 u161 u162 u163 u164 u165 u166 u167 u168 u169 u170 u171 u173 u174 u175 u176 u177 u178 u179 u180 u181 u182 u183 u184 u185 u186 u187 u188 u189 u190 u191 u192 u193 u194 u195 u196 u197 u198 u199 u200 u201 u202 u203 u204 u205 u206 u207 u208 u209 u210 u211 u212 u213 u214 u215 u216 u217 u218 u219 u220 u221 u222 u223 u224 u225 u226 u227 u228 u229 u230 u231 u232 u233 u234 u235 u236 u237 u238 u239 u240 u241 u242 u243 u244 u245 u246 u247 u248 u249 u250 u251 u252 u253 u254 u255 u256 u257 u258 u259 u260 u261 u262 u263 u264 u265 u266 u267 u268 u269 u270 u271 u272 u273 u274 u275 u276 u277 u278 u279 u280 u281 u282 u283 u284 u285 u286 u287 u288 u289 u290 u291 u292 u293 u294 u295 u296 u297 u298 u299 u300 u301 u302 u303 u304 u305 u306 u307 u308 u309 u310 u311 u312 u313 u314 u315 u316 u317 u318 u319 u320 u321 u322 u323 u324 u325 u326 u327 u328 u329 u330 u331 u332 u333 u334 u335 u336 u337 u338 u339 u340 u341 u342 u343 u344 u345 u346 u347 u348 u349 u350 u351 u352 u353 u354 u355 u356 u357 u358 : Value} {w W2 : World} {b sb ab db n g i lf : Nat} {T : List Th} {gb : Bool} {m steps last : Nat} {th : Int} {st tl bk : Bool} {s : Cy} (K : Act → World → Prop) (Q : Exit → Act → World → Prop) (hS : RS w W2 b sb ab db T (m + 1) lf s n g th st tl gb ⟨22, 0, 0, 0⟩) (hI : Iv n g T (m + 1) lf s i steps last 0 g 0 0) (hM : (⟨22, 0, 0, 0⟩ : Dn) = nextM (Cy.ph s) (Cy.gl s) (Cy.sw s) (Cy.fr s) (Cy.bg s) (Cy.ak s) n g th st tl gb) (e2 : steps + (m + 1) + lf = 1 + g + sm fP T + n) (e5 : (s = ⟨1, (g : Int), 0, 0, 6, false⟩ ∧ th = 0) ∨ s = ⟨2, 0, 0, 0, 6, false⟩) (hK : ∀ {v173 v174 v175 v176 v177 v178 v179 v180 v181 v182 v183 v184 v185 v186 v187 v188 v189 v190 v191 v192 v193 v194 v195 v196 v197 v198 v199 v200 v201 v202 v203 v204 v205 v206 v207 v208 v209 v210 v211 v212 v213 v214 v215 v216 v217 v218 v219 v220 v221 v222 v223 v224 v225 v226 v227 v228 v229 v230 v231 v232 v233 v234 v235 v236 v237 v238 v239 v240 v241 v242 v243 v244 v245 v246 v247 v248 v249 v250 v251 v252 v253 v254 v255 v256 v257 v258 v259 v260 v261 v262 v263 v264 v265 v266 v267 v268 v269 v270 v271 v272 v273 v274 v275 v276 v277 v278 v279 v280 v281 v282 v283 v284 v285 v286 : Value} {wx : World} {c18 c19 c20 c21 : Nat}, Hid (Aft w wx b sb ab db n g s th st tl gb bk (i + 1) (steps + 1) 3 c18 c19 c20 c21) → K ⟨#[u0, u1, u2, u3, u4, u5, u6, u7, u8, u9, .int .i64 n, .int .i64 g, .pointer (some ⟨b, 0, none⟩), u13, .pointer (some ⟨sb, 0, none⟩), u15, u16, u17, .int .i64 c18, .int .i64 c19, .int .i64 c20, .int .i64 c21, u22, .pointer (some ⟨ab, 0, none⟩), .pointer (some ⟨db, 0, none⟩), u25, u26, .bool bk, u28, u29, u30, u31, u32, u33, u34, u35, u36, u37, u38, u39, u40, u41, u42, u43, u44, u45, u46, u47, u48, u49, u50, u51, u52, u53, u54, u55, u56, u57, u58, u59, u60, u61, u62, u63, u64, u65, u66, u67, u68, u69, u70, u71, u72, u73, u74, u75, u76, u77, u78, u79, u80, u81, u82, u83, u84, u85, u86, u87, u88, u89, u90, u91, u92, u93, u94, u95, u96, u97, u98, u99, u100, u101, u102, u103, u104, u105, u106, u107, u108, u109, u110, u111, u112, u113, u114, u115, u116, u117, u118, u119, u120, u121, u122, u123, u124, u125, u126, u127, u128, u129, u130, u131, u132, u133, u134, u135, u136, u137, u138, u139, u140, u141, u142, u143, u144, u145, u146, u147, u148, u149, u150, u151, u152, u153, u154, u155, u156, u157, u158, u159, u160, u161, u162, u163, u164, u165, u166, u167, u168, u169, u170, u171, .int .u8 22, v173, v174, v175, v176, v177, v178, v179, v180, v181, v182, v183, v184, v185, v186, v187, v188, v189, v190, v191, v192, v193, v194, v195, v196, v197, v198, v199, v200, v201, v202, v203, v204, v205, v206, v207, v208, v209, v210, v211, v212, v213, v214, v215, v216, v217, v218, v219, v220, v221, v222, v223, v224, v225, v226, v227, v228, v229, v230, v231, v232, v233, v234, v235, v236, v237, v238, v239, v240, v241, v242, v243, v244, v245, v246, v247, v248, v249, v250, v251, v252, v253, v254, v255, v256, v257, v258, v259, v260, v261, v262, v263, v264, v265, v266, v267, v268, v269, v270, v271, v272, v273, v274, v275, v276, v277, v278, v279, v280, v281, v282, v283, v284, v285, v286, u287, u288, u289, u290, u291, u292, u293, u294, u295, u296, u297, u298, u299, u300, u301, u302, u303, u304, u305, u306, u307, u308, u309, u310, u311, u312, u313, u314, u315, u316, u317, u318, u319, u320, u321, u322, u323, u324, u325, u326, u327, u328, u329, u330, u331, u332, u333, u334, u335, u336, u337, u338, u339, u340, u341, u342, u343, u344, u345, u346, u347, u348, u349, u350, u351, u352, u353, u354, u355, u356, u357, u358], []⟩ wx) :
    swE.wp Try.prog (Exit.then K Q) ⟨#[u0, u1, u2, u3, u4, u5, u6, u7, u8, u9, .int .i64 n, .int .i64 g, .pointer (some ⟨b, 0, none⟩), u13, .pointer (some ⟨sb, 0, none⟩), u15, u16, u17, .int .i64 0, .int .i64 g, .int .i64 0, .int .i64 0, u22, .pointer (some ⟨ab, 0, none⟩), .pointer (some ⟨db, 0, none⟩), u25, u26, .bool bk, u28, u29, u30, u31, u32, u33, u34, u35, u36, u37, u38, u39, u40, u41, u42, u43, u44, u45, u46, u47, u48, u49, u50, u51, u52, u53, u54, u55, u56, u57, u58, u59, u60, u61, u62, u63, u64, u65, u66, u67, u68, u69, u70, u71, u72, u73, u74, u75, u76, u77, u78, u79, u80, u81, u82, u83, u84, u85, u86, u87, u88, u89, u90, u91, u92, u93, u94, u95, u96, u97, u98, u99, u100, u101, u102, u103, u104, u105, u106, u107, u108, u109, u110, u111, u112, u113, u114, u115, u116, u117, u118, u119, u120, u121, u122, u123, u124, u125, u126, u127, u128, u129, u130, u131, u132, u133, u134, u135, u136, u137, u138, u139, u140, u141, u142, u143, u144, u145, u146, u147, u148, u149, u150, u151, u152, u153, u154, u155, u156, u157, u158, u159, u160, u161, u162, u163, u164, u165, u166, u167, u168, u169, u170, u171, .int .u8 22, u173, u174, u175, u176, u177, u178, u179, u180, u181, u182, u183, u184, u185, u186, u187, u188, u189, u190, u191, u192, u193, u194, u195, u196, u197, u198, u199, u200, u201, u202, u203, u204, u205, u206, u207, u208, u209, u210, u211, u212, u213, u214, u215, u216, u217, u218, u219, u220, u221, u222, u223, u224, u225, u226, u227, u228, u229, u230, u231, u232, u233, u234, u235, u236, u237, u238, u239, u240, u241, u242, u243, u244, u245, u246, u247, u248, u249, u250, u251, u252, u253, u254, u255, u256, u257, u258, u259, u260, u261, u262, u263, u264, u265, u266, u267, u268, u269, u270, u271, u272, u273, u274, u275, u276, u277, u278, u279, u280, u281, u282, u283, u284, u285, u286, u287, u288, u289, u290, u291, u292, u293, u294, u295, u296, u297, u298, u299, u300, u301, u302, u303, u304, u305, u306, u307, u308, u309, u310, u311, u312, u313, u314, u315, u316, u317, u318, u319, u320, u321, u322, u323, u324, u325, u326, u327, u328, u329, u330, u331, u332, u333, u334, u335, u336, u337, u338, u339, u340, u341, u342, u343, u344, u345, u346, u347, u348, u349, u350, u351, u352, u353, u354, u355, u356, u357, u358], []⟩ W2 := by
  have HS : Hid (RS w W2 b sb ab db T (m + 1) lf s n g th st tl gb ⟨22, 0, 0, 0⟩) := hS
  have HI : Hid (Iv n g T (m + 1) lf s i steps last 0 g 0 0) := hI
  have HM : Hid ((⟨22, 0, 0, 0⟩ : Dn) = nextM (Cy.ph s) (Cy.gl s) (Cy.sw s) (Cy.fr s) (Cy.bg s) (Cy.ak s) n g th st tl gb) := hM
  have HG300 : Hid ((m + 1) + lf < 300) := Nat.lt_of_le_of_lt hI.gl hI.n300
  have HT8 : Hid (T.length ≤ 8) := hI.ok.1
  have hK' : Hid _ := @hK
  have b17 := hI.small
  obtain ⟨b1, b2, b3, b4, b5, b6, b7⟩ := b17
  clear hS hI hM hK
  have c0 := heap_cell (j := 0) HS.out.cb rfl
  have c1 := heap_cell (j := 1) HS.out.cb rfl
  have c2 := heap_cell (j := 2) HS.out.cb rfl
  have c3 := heap_cell (j := 3) HS.out.cb rfl
  have c4 := heap_cell (j := 4) HS.out.cb rfl
  have c5 := heap_cell (j := 5) HS.out.cb rfl
  have lsb := heap_lt HS.out.cb
  have a0 := heap_cell (j := 0) HS.out.hab rfl
  have a1 := heap_cell (j := 1) HS.out.hab rfl
  have a2 := heap_cell (j := 2) HS.out.hab rfl
  have a3 := heap_cell (j := 3) HS.out.hab rfl
  have a4 := heap_cell (j := 4) HS.out.hab rfl
  have a5 := heap_cell (j := 5) HS.out.hab rfl
  have lab := heap_lt HS.out.hab
  have d0 := heap_cell (j := 0) HS.out.hdb rfl
  have d1 := heap_cell (j := 1) HS.out.hdb rfl
  have d2 := heap_cell (j := 2) HS.out.hdb rfl
  have d3 := heap_cell (j := 3) HS.out.hdb rfl
  have ldb := heap_lt HS.out.hdb
  unfold swE bodyE topE
  simp only [Try.f5, Option.getD, cL, cR, cB, cLp]
  obtain ⟨v, hx⟩ := HS.out.tx
  obtain ⟨G, hG⟩ : ∃ G : Int, G = ((m + 1 : Nat) : Int) := ⟨_, rfl⟩
  have g4 : W2.cell? ⟨b, 4, none⟩ = some (.int .i64 G) := by rw [hG]; exact heap_cell (j := 4) hx.bl rfl
  have y4 := fz_of hx.bl 4
  have lb := hx.lt
  have hm300 := HG300.out
  have kG : (G == 0) = false := by simp; omega
  have kG1 : (0 : Int) < G := by omega
  have kG2 : G < 400 := by omega
  have eG : G - 1 = (m : Int) := by omega
  have HS3 : Hid (RS w (W2.setCell ⟨b, 4, none⟩ (.int .i64 (G - 1))) b sb ab db T m lf s n g th st tl gb ⟨22, 0, 0, 0⟩) := by
    show RS _ _ _ _ _ _ _ _ _ _ _ _ _ _ _ _ _
    rw [eG]
    exact HS.out.less
  have HSh : Hid (Calls Try.prog 19 #[.pointer (some ⟨b, 0, none⟩), .int .i64 2] (W2.setCell ⟨b, 4, none⟩ (.int .i64 (G - 1))) fun e w' => e = .returned (.tuple #[]) ∧ TX w (W2.setCell ⟨b, 4, none⟩ (.int .i64 (G - 1))) w' b T (m + min 2 lf) (lf - min 2 lf)) := shade_any w _ _ b 2 m lf T HS3.out.tx (by omega) (by omega)
  have HAf : Hid (∀ w3, TX w (W2.setCell ⟨b, 4, none⟩ (.int .i64 (G - 1))) w3 b T (m + min 2 lf) (lf - min 2 lf) → Aft w w3 b sb ab db n g s th st tl gb bk (i + 1) (steps + 1) 3 0 g 0 0) := fun w3 h3 => ⟨T, _, _, ⟨2, 0, 0, 0, 6, false⟩, ⟨22, 0, 0, 0⟩, HS3.out.call h3, stp HM.out (by dsimp only; decide) (by rcases e5 with ⟨rfl, _⟩ | rfl <;> rfl), .inl ⟨(by dsimp only; decide), 3, rfl, iv_scan HI.out e2 (by omega) (by omega)⟩⟩
  clear hx e2 e5 hG eG hm300 HS3 b1 b2 b3 b4 b5 b6 b7
  go_wp2_with fail
  refine Calls.mono HSh.out ?_
  rintro e w3 ⟨rfl, h3⟩
  have HAg : Hid (Aft w w3 b sb ab db n g s th st tl gb bk (i + 1) (steps + 1) 3 0 g 0 0) := HAf.out w3 h3
  clear h3 HSh HAf c0 c1 c2 c3 c4 c5 lsb a0 a1 a2 a3 a4 a5 lab d0 d1 d2 d3 ldb g4 y4 lb
  go_wp2
  exact hK'.out HAg
end Go.Proofs.Ytnohcmfhhoiihaa
