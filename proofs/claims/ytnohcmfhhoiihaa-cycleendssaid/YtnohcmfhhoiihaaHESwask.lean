/- CycleEnds: the step ask. -/
import Derived.Test.YtnohcmfhhoiihaaHELoop2
namespace Go.Proofs.Ytnohcmfhhoiihaa
open Go.RowKit

set_option maxRecDepth 100000 in
set_option maxHeartbeats 16000000 in
theorem sw_ask {u0 u1 u2 u3 u4 u5 u6 u7 u8 u9 u13 u15 u16 u17 u22 u25 u26 u28 u29 u30 u31 u32 u33 u34 u35 u36 u37 u38 u39 u40 u41 u42 u43 u44 u45 u46 u47 u48 u49 u50 u51 u52 u53 u54 u55 u56 u57 u58 u59 u60 u61 u62 u63 u64 u65 u66 u67 u68 u69 u70 u71 u72 u73 u74 u75 u76 u77 u78 u79 u80 u81 u82 u83 u84 u85 u86 u87 u88 u89 u90 u91 u92 u93 u94 u95 u96 u97 u98 u99 u100 u101 u102 u103 u104 u105 u106 u107 u108 u109 u110 u111 u112 u113 u114 u115 u116 u117 u118 u119 u120 u121 u122 u123 u124 u125 u126 u127 u128 u129 u130 u131 u132 u133 u134 u135 u136 u137 u138 u139 u140 u141 u142 u143 u144 u145 u146 u147 u148 u149 u150 u151 u152 u153 u154 u155 u156 u157 u158 u159 u160 u161 u162 u163 u164 u165 u166 u167 u168 u169 u170 u171 u173 u174 u175 u176 u177 u178 u179 u180 u181 u182 u183 u184 u185 u186 u187 u188 u189 u190 u191 u192 u193 u194 u195 u196 u197 u198 u199 u200 u201 u202 u203 u204 u205 u206 u207 u208 u209 u210 u211 u212 u213 u214 u215 u216 u217 u218 u219 u220 u221 u222 u223 u224 u225 u226 u227 u228 u229 u230 u231 u232 u233 u234 u235 u236 u237 u238 u239 u240 u241 u242 u243 u244 u245 u246 u247 u248 u249 u250 u251 u252 u253 u254 u255 u256 u257 u258 u259 u260 u261 u262 u263 u264 u265 u266 u267 u268 u269 u270 u271 u272 u273 u274 u275 u276 u277 u278 u279 u280 u281 u282 u283 u284 u285 u286 u287 u288 u289 u290 u291 u292 u293 u294 u295 u296 u297 u298 u299 u300 u301 u302 u303 u304 u305 u306 u307 u308 u309 u310 u311 u312 u313 u314 u315 u316 u317 u318 u319 u320 u321 u322 u323 u324 u325 u326 u327 u328 u329 u330 u331 u332 u333 u334 u335 u336 u337 u338 u339 u340 u341 u342 u343 u344 u345 u346 u347 u348 u349 u350 u351 u352 u353 u354 u355 u356 u357 u358 : Value} {w W2 : World} {b sb ab db n g i lf : Nat} {T : List Th} {gb : Bool} {gr steps last k : Nat} {bk : Bool} {t : Th} (K : Act → World → Prop) (Q : Exit → Act → World → Prop) (hS : RS w W2 b sb ab db T gr lf (⟨1, (g : Int), 0, 0, 6, false⟩ : Cy) n g ((k : Int) + 1) false false gb ⟨20, 0, (k : Int) + 1, 0⟩) (hI : Iv n g T gr lf (⟨1, (g : Int), 0, 0, 6, false⟩ : Cy) i steps last 0 g 0 0) (hM : (⟨20, 0, (k : Int) + 1, 0⟩ : Dn) = nextM (Cy.ph (⟨1, (g : Int), 0, 0, 6, false⟩ : Cy)) (Cy.gl (⟨1, (g : Int), 0, 0, 6, false⟩ : Cy)) (Cy.sw (⟨1, (g : Int), 0, 0, 6, false⟩ : Cy)) (Cy.fr (⟨1, (g : Int), 0, 0, 6, false⟩ : Cy)) (Cy.bg (⟨1, (g : Int), 0, 0, 6, false⟩ : Cy)) (Cy.ak (⟨1, (g : Int), 0, 0, 6, false⟩ : Cy)) n g ((k : Int) + 1) false false gb) (e2 : steps = 1 + g + sm fP T) (e3 : gr + lf = n) (ht : T[k]? = some t) (hsc : t.sc = false) (hst : t.st = false) (htl : t.tl = false) (hK : ∀ {v173 v174 v175 v176 v177 v178 v179 v180 v181 v182 v183 v184 v185 v186 v187 v188 v189 v190 v191 v192 v193 v194 v195 v196 v197 v198 v199 v200 v201 v202 v203 v204 v205 v206 v207 v208 v209 v210 v211 v212 v213 v214 v215 v216 v217 v218 v219 v220 v221 v222 v223 v224 v225 v226 v227 v228 v229 v230 v231 v232 v233 v234 v235 v236 v237 v238 v239 v240 v241 v242 v243 v244 v245 v246 v247 v248 v249 v250 v251 v252 v253 v254 v255 v256 v257 v258 v259 v260 v261 v262 v263 v264 v265 v266 v267 v268 v269 v270 v271 v272 v273 v274 v275 v276 v277 v278 v279 v280 v281 v282 v283 v284 v285 v286 : Value} {wx : World} {c18 c19 c20 c21 : Nat}, Hid (Aft w wx b sb ab db n g (⟨1, (g : Int), 0, 0, 6, false⟩ : Cy) ((k : Int) + 1) false false gb bk (i + 1) (steps + 1) 2 c18 c19 c20 c21) → K ⟨#[u0, u1, u2, u3, u4, u5, u6, u7, u8, u9, .int .i64 n, .int .i64 g, .pointer (some ⟨b, 0, none⟩), u13, .pointer (some ⟨sb, 0, none⟩), u15, u16, u17, .int .i64 c18, .int .i64 c19, .int .i64 c20, .int .i64 c21, u22, .pointer (some ⟨ab, 0, none⟩), .pointer (some ⟨db, 0, none⟩), u25, u26, .bool bk, u28, u29, u30, u31, u32, u33, u34, u35, u36, u37, u38, u39, u40, u41, u42, u43, u44, u45, u46, u47, u48, u49, u50, u51, u52, u53, u54, u55, u56, u57, u58, u59, u60, u61, u62, u63, u64, u65, u66, u67, u68, u69, u70, u71, u72, u73, u74, u75, u76, u77, u78, u79, u80, u81, u82, u83, u84, u85, u86, u87, u88, u89, u90, u91, u92, u93, u94, u95, u96, u97, u98, u99, u100, u101, u102, u103, u104, u105, u106, u107, u108, u109, u110, u111, u112, u113, u114, u115, u116, u117, u118, u119, u120, u121, u122, u123, u124, u125, u126, u127, u128, u129, u130, u131, u132, u133, u134, u135, u136, u137, u138, u139, u140, u141, u142, u143, u144, u145, u146, u147, u148, u149, u150, u151, u152, u153, u154, u155, u156, u157, u158, u159, u160, u161, u162, u163, u164, u165, u166, u167, u168, u169, u170, u171, .int .u8 20, v173, v174, v175, v176, v177, v178, v179, v180, v181, v182, v183, v184, v185, v186, v187, v188, v189, v190, v191, v192, v193, v194, v195, v196, v197, v198, v199, v200, v201, v202, v203, v204, v205, v206, v207, v208, v209, v210, v211, v212, v213, v214, v215, v216, v217, v218, v219, v220, v221, v222, v223, v224, v225, v226, v227, v228, v229, v230, v231, v232, v233, v234, v235, v236, v237, v238, v239, v240, v241, v242, v243, v244, v245, v246, v247, v248, v249, v250, v251, v252, v253, v254, v255, v256, v257, v258, v259, v260, v261, v262, v263, v264, v265, v266, v267, v268, v269, v270, v271, v272, v273, v274, v275, v276, v277, v278, v279, v280, v281, v282, v283, v284, v285, v286, u287, u288, u289, u290, u291, u292, u293, u294, u295, u296, u297, u298, u299, u300, u301, u302, u303, u304, u305, u306, u307, u308, u309, u310, u311, u312, u313, u314, u315, u316, u317, u318, u319, u320, u321, u322, u323, u324, u325, u326, u327, u328, u329, u330, u331, u332, u333, u334, u335, u336, u337, u338, u339, u340, u341, u342, u343, u344, u345, u346, u347, u348, u349, u350, u351, u352, u353, u354, u355, u356, u357, u358], []⟩ wx) :
    swE.wp Try.prog (Exit.then K Q) ⟨#[u0, u1, u2, u3, u4, u5, u6, u7, u8, u9, .int .i64 n, .int .i64 g, .pointer (some ⟨b, 0, none⟩), u13, .pointer (some ⟨sb, 0, none⟩), u15, u16, u17, .int .i64 0, .int .i64 g, .int .i64 0, .int .i64 0, u22, .pointer (some ⟨ab, 0, none⟩), .pointer (some ⟨db, 0, none⟩), u25, u26, .bool bk, u28, u29, u30, u31, u32, u33, u34, u35, u36, u37, u38, u39, u40, u41, u42, u43, u44, u45, u46, u47, u48, u49, u50, u51, u52, u53, u54, u55, u56, u57, u58, u59, u60, u61, u62, u63, u64, u65, u66, u67, u68, u69, u70, u71, u72, u73, u74, u75, u76, u77, u78, u79, u80, u81, u82, u83, u84, u85, u86, u87, u88, u89, u90, u91, u92, u93, u94, u95, u96, u97, u98, u99, u100, u101, u102, u103, u104, u105, u106, u107, u108, u109, u110, u111, u112, u113, u114, u115, u116, u117, u118, u119, u120, u121, u122, u123, u124, u125, u126, u127, u128, u129, u130, u131, u132, u133, u134, u135, u136, u137, u138, u139, u140, u141, u142, u143, u144, u145, u146, u147, u148, u149, u150, u151, u152, u153, u154, u155, u156, u157, u158, u159, u160, u161, u162, u163, u164, u165, u166, u167, u168, u169, u170, u171, .int .u8 20, u173, u174, u175, u176, u177, u178, u179, u180, u181, u182, u183, u184, u185, u186, u187, u188, u189, u190, u191, u192, u193, u194, u195, u196, u197, u198, u199, u200, u201, u202, u203, u204, u205, u206, u207, u208, u209, u210, u211, u212, u213, u214, u215, u216, u217, u218, u219, u220, u221, u222, u223, u224, u225, u226, u227, u228, u229, u230, u231, u232, u233, u234, u235, u236, u237, u238, u239, u240, u241, u242, u243, u244, u245, u246, u247, u248, u249, u250, u251, u252, u253, u254, u255, u256, u257, u258, u259, u260, u261, u262, u263, u264, u265, u266, u267, u268, u269, u270, u271, u272, u273, u274, u275, u276, u277, u278, u279, u280, u281, u282, u283, u284, u285, u286, u287, u288, u289, u290, u291, u292, u293, u294, u295, u296, u297, u298, u299, u300, u301, u302, u303, u304, u305, u306, u307, u308, u309, u310, u311, u312, u313, u314, u315, u316, u317, u318, u319, u320, u321, u322, u323, u324, u325, u326, u327, u328, u329, u330, u331, u332, u333, u334, u335, u336, u337, u338, u339, u340, u341, u342, u343, u344, u345, u346, u347, u348, u349, u350, u351, u352, u353, u354, u355, u356, u357, u358], []⟩ W2 := by
  have HS : Hid (RS w W2 b sb ab db T gr lf (⟨1, (g : Int), 0, 0, 6, false⟩ : Cy) n g ((k : Int) + 1) false false gb ⟨20, 0, (k : Int) + 1, 0⟩) := hS
  have HI : Hid (Iv n g T gr lf (⟨1, (g : Int), 0, 0, 6, false⟩ : Cy) i steps last 0 g 0 0) := hI
  have HM : Hid ((⟨20, 0, (k : Int) + 1, 0⟩ : Dn) = nextM (Cy.ph (⟨1, (g : Int), 0, 0, 6, false⟩ : Cy)) (Cy.gl (⟨1, (g : Int), 0, 0, 6, false⟩ : Cy)) (Cy.sw (⟨1, (g : Int), 0, 0, 6, false⟩ : Cy)) (Cy.fr (⟨1, (g : Int), 0, 0, 6, false⟩ : Cy)) (Cy.bg (⟨1, (g : Int), 0, 0, 6, false⟩ : Cy)) (Cy.ak (⟨1, (g : Int), 0, 0, 6, false⟩ : Cy)) n g ((k : Int) + 1) false false gb) := hM
  have HG300 : Hid (gr + lf < 300) := Nat.lt_of_le_of_lt hI.gl hI.n300
  have HT8 : Hid (T.length ≤ 8) := hI.ok.1
  have hK' : Hid _ := @hK
  have b17 := hI.small
  obtain ⟨b1, b2, b3, b4, b5, b6, b7⟩ := b17
  clear hS hI hM hK
  have c0 := heap_cell (j := 0) HS.out.cb rfl
  have c1 := heap_cell (j := 1) HS.out.cb rfl
  have c2 := heap_cell (j := 2) HS.out.cb rfl
  have c3 := heap_cell (j := 3) HS.out.cb rfl
  have c4 := heap_cell (j := 4) HS.out.cb rfl
  have c5 := heap_cell (j := 5) HS.out.cb rfl
  have lsb := heap_lt HS.out.cb
  have a0 := heap_cell (j := 0) HS.out.hab rfl
  have a1 := heap_cell (j := 1) HS.out.hab rfl
  have a2 := heap_cell (j := 2) HS.out.hab rfl
  have a3 := heap_cell (j := 3) HS.out.hab rfl
  have a4 := heap_cell (j := 4) HS.out.hab rfl
  have a5 := heap_cell (j := 5) HS.out.hab rfl
  have lab := heap_lt HS.out.hab
  have d0 := heap_cell (j := 0) HS.out.hdb rfl
  have d1 := heap_cell (j := 1) HS.out.hdb rfl
  have d2 := heap_cell (j := 2) HS.out.hdb rfl
  have d3 := heap_cell (j := 3) HS.out.hdb rfl
  have ldb := heap_lt HS.out.hdb
  unfold swE bodyE topE
  simp only [Try.f5, Option.getD, cL, cR, cB, cLp]
  have hkT := (List.getElem?_eq_some_iff.1 ht).1
  obtain ⟨v, hx⟩ := HS.out.tx
  obtain ⟨gt, ct, hvt, _, lt⟩ := own_form hx.t (show 0 < (rows T).nt from by show 0 < T.length; omega)
  have f2 : W2.cell? ⟨b, 2, none⟩ = some (.slice (some ⟨gt, 0, none⟩) T.length ct) := (heap_cell (j := 2) hx.bl rfl).trans (congrArg some hvt)
  have ot := hx.t
  rw [hvt] at ot
  have r2 : W2.cell? ⟨gt, k, none⟩ = some (.bool t.tl) := own_cell ot (by show (T.map _)[k]? = _; rw [List.getElem?_map, ht]; rfl)
  have z2 : W2.frozen? ⟨gt, k, none⟩ = false := own_fz ot k
  have lb := hx.lt
  rw [htl] at r2
  have kk1 : (k : Int) < (T.length : Int) := by omega
  have kk2 : (k : Int) < 8 := by have := HT8.out; omega
  have HBo : Hid (Calls Try.prog 20 #[.pointer (some ⟨b, 0, none⟩), .int .i64 k] W2 fun e w' => e = .returned (.tuple #[]) ∧ TX w W2 w' b (bornT T k t) gr lf) := born_any w W2 W2 b k gr lf T t HS.out.tx HT8.out ht
  have HAf : Hid (∀ w4, RS w w4 b sb ab db ((bornT T k t).set k { bornO T t with tl := true }) gr lf (⟨1, (g : Int), 0, 0, 6, false⟩ : Cy) n g ((k : Int) + 1) false false gb ⟨20, 0, (k : Int) + 1, 0⟩ → Aft w w4 b sb ab db n g (⟨1, (g : Int), 0, 0, 6, false⟩ : Cy) ((k : Int) + 1) false false gb bk (i + 1) (steps + 1) 2 0 g 0 0) := fun w4 h4 => ⟨_, _, _, ⟨1, (g : Int), 0, 0, 6, false⟩, ⟨20, 0, (k : Int) + 1, 0⟩, h4, stp HM.out (by dsimp only; decide) rfl, .inl ⟨(by dsimp only; decide), 2, rfl, iv_ask HI.out e2 e3 ht hsc hst htl⟩⟩
  have HTT : Hid ((bornT T k t)[k]? = some (bornO T t)) := bornT_at ht
  have HTK : Hid (T[k]? = some t) := ht
  clear hx hvt ot ht hsc hst htl e2 e3 b1 b2 b3 b4 b5 b6 b7 HBo
  go_upto_region 44 with fail
  go_quiet (fail)
  have HSq : Hid (RS w (W2.drewN nq) b sb ab db T gr lf (⟨1, (g : Int), 0, 0, 6, false⟩ : Cy) n g ((k : Int) + 1) false false gb ⟨20, 0, (k : Int) + 1, 0⟩) := HS.out.keep (below_drewN (Below.refl _ _) nq)
  go_upto_region 46 with fail
  generalize W2.drewN nq = W3 at HSq ⊢
  clear HS c0 c1 c2 c3 c4 c5 lsb a0 a1 a2 a3 a4 a5 lab d0 d1 d2 d3 ldb lt lb f2 r2 z2
  have HBo : Hid (Calls Try.prog 20 #[.pointer (some ⟨b, 0, none⟩), .int .i64 k] W3 fun e w' => e = .returned (.tuple #[]) ∧ TX w W3 w' b (bornT T k t) gr lf) := born_any w W3 W3 b k gr lf T t HSq.out.tx HT8.out HTK.out
  have d2 := heap_cell (j := 2) HSq.out.hdb rfl
  have ldb := heap_lt HSq.out.hdb
  go_wp2_with fail
  refine Calls.mono HBo.out ?_
  rintro e w3 ⟨rfl, h3⟩
  have HS3 : Hid _ := HSq.out.call h3
  clear h3 HBo HSq d2 ldb kk1 hkT
  obtain ⟨v, hx⟩ := HS3.out.tx
  have hkT := (List.getElem?_eq_some_iff.1 HTT.out).1
  obtain ⟨gt, ct, hvt, _, lt⟩ := own_form hx.t (show 0 < (rows (bornT T k t)).nt from by show 0 < (bornT T k t).length; omega)
  have ot := hx.t
  rw [hvt] at ot
  have f2 : w3.cell? ⟨b, 2, none⟩ = some (.slice (some ⟨gt, 0, none⟩) (bornT T k t).length ct) := (heap_cell (j := 2) hx.bl rfl).trans (congrArg some hvt)
  have r2 : w3.cell? ⟨gt, k, none⟩ = some (.bool (bornO T t).tl) := own_cell ot (by show ((bornT T k t).map _)[k]? = _; rw [List.getElem?_map, HTT.out]; rfl)
  have z2 : w3.frozen? ⟨gt, k, none⟩ = false := own_fz ot k
  have lb := hx.lt
  have d2 := heap_cell (j := 2) HS3.out.hdb rfl
  have ldb := heap_lt HS3.out.hdb
  have kk1 : (k : Int) < ((bornT T k t).length : Int) := by omega
  have HAg : Hid (Aft w (w3.setCell ⟨gt, k, none⟩ (.bool true)).drew b sb ab db n g (⟨1, (g : Int), 0, 0, 6, false⟩ : Cy) ((k : Int) + 1) false false gb bk (i + 1) (steps + 1) 2 0 g 0 0) := HAf.out _ ((HS3.out.told hx hvt HTT.out).keep ((Below.refl _ _).drew))
  generalize (bornT T k t).length = bl at f2 kk1
  have hmx : Try.prog.follows .mixedOrders = true := by kernel_rfl
  clear hx hvt ot HS3 hkT HAf
  go_upto_region 47 with fail
  go_region
  go_wp2
  exact hK'.out HAg
end Go.Proofs.Ytnohcmfhhoiihaa
