/- CycleEnds: the step thread. -/
import Derived.Test.YtnohcmfhhoiihaaHELoop2
namespace Go.Proofs.Ytnohcmfhhoiihaa
open Go.RowKit

set_option maxRecDepth 100000 in
set_option maxHeartbeats 16000000 in
theorem sw_thread {u0 u1 u2 u3 u4 u5 u6 u7 u8 u9 u13 u15 u16 u17 u22 u25 u26 u28 u29 u30 u31 u32 u33 u34 u35 u36 u37 u38 u39 u40 u41 u42 u43 u44 u45 u46 u47 u48 u49 u50 u51 u52 u53 u54 u55 u56 u57 u58 u59 u60 u61 u62 u63 u64 u65 u66 u67 u68 u69 u70 u71 u72 u73 u74 u75 u76 u77 u78 u79 u80 u81 u82 u83 u84 u85 u86 u87 u88 u89 u90 u91 u92 u93 u94 u95 u96 u97 u98 u99 u100 u101 u102 u103 u104 u105 u106 u107 u108 u109 u110 u111 u112 u113 u114 u115 u116 u117 u118 u119 u120 u121 u122 u123 u124 u125 u126 u127 u128 u129 u130 u131 u132 u133 u134 u135 u136 u137 u138 u139 u140 u141 u142 u143 u144 u145 u146 u147 u148 u149 u150 u151 u152 u153 u154 u155 u156 u157 u158 u159 u160 u161 u162 u163 u164 u165 u166 u167 u168 u169 u170 u171 u173 u174 u175 u176 u177 u178 u179 u180 u181 u182 u183 u184 u185 u186 u187 u188 u189 u190 u191 u192 u193 u194 u195 u196 u197 u198 u199 u200 u201 u202 u203 u204 u205 u206 u207 u208 u209 u210 u211 u212 u213 u214 u215 u216 u217 u218 u219 u220 u221 u222 u223 u224 u225 u226 u227 u228 u229 u230 u231 u232 u233 u234 u235 u236 u237 u238 u239 u240 u241 u242 u243 u244 u245 u246 u247 u248 u249 u250 u251 u252 u253 u254 u255 u256 u257 u258 u259 u260 u261 u262 u263 u264 u265 u266 u267 u268 u269 u270 u271 u272 u273 u274 u275 u276 u277 u278 u279 u280 u281 u282 u283 u284 u285 u286 u287 u288 u289 u290 u291 u292 u293 u294 u295 u296 u297 u298 u299 u300 u301 u302 u303 u304 u305 u306 u307 u308 u309 u310 u311 u312 u313 u314 u315 u316 u317 u318 u319 u320 u321 u322 u323 u324 u325 u326 u327 u328 u329 u330 u331 u332 u333 u334 u335 u336 u337 u338 u339 u340 u341 u342 u343 u344 u345 u346 u347 u348 u349 u350 u351 u352 u353 u354 u355 u356 u357 u358 : Value} {w W2 : World} {b sb ab db n g i lf : Nat} {T : List Th} {gb : Bool} {gr steps last k : Nat} {tl bk : Bool} {t : Th} (K : Act → World → Prop) (Q : Exit → Act → World → Prop) (hS : RS w W2 b sb ab db T gr lf (⟨1, (g : Int), 0, 0, 6, false⟩ : Cy) n g ((k : Int) + 1) true tl gb ⟨21, 0, (k : Int) + 1, 0⟩) (hI : Iv n g T gr lf (⟨1, (g : Int), 0, 0, 6, false⟩ : Cy) i steps last 0 g 0 0) (hM : (⟨21, 0, (k : Int) + 1, 0⟩ : Dn) = nextM (Cy.ph (⟨1, (g : Int), 0, 0, 6, false⟩ : Cy)) (Cy.gl (⟨1, (g : Int), 0, 0, 6, false⟩ : Cy)) (Cy.sw (⟨1, (g : Int), 0, 0, 6, false⟩ : Cy)) (Cy.fr (⟨1, (g : Int), 0, 0, 6, false⟩ : Cy)) (Cy.bg (⟨1, (g : Int), 0, 0, 6, false⟩ : Cy)) (Cy.ak (⟨1, (g : Int), 0, 0, 6, false⟩ : Cy)) n g ((k : Int) + 1) true tl gb) (e2 : steps = 1 + g + sm fP T) (e3 : gr + lf = n) (ht : T[k]? = some t) (hsc : t.sc = false) (hst : t.st = true) (hK : ∀ {v173 v174 v175 v176 v177 v178 v179 v180 v181 v182 v183 v184 v185 v186 v187 v188 v189 v190 v191 v192 v193 v194 v195 v196 v197 v198 v199 v200 v201 v202 v203 v204 v205 v206 v207 v208 v209 v210 v211 v212 v213 v214 v215 v216 v217 v218 v219 v220 v221 v222 v223 v224 v225 v226 v227 v228 v229 v230 v231 v232 v233 v234 v235 v236 v237 v238 v239 v240 v241 v242 v243 v244 v245 v246 v247 v248 v249 v250 v251 v252 v253 v254 v255 v256 v257 v258 v259 v260 v261 v262 v263 v264 v265 v266 v267 v268 v269 v270 v271 v272 v273 v274 v275 v276 v277 v278 v279 v280 v281 v282 v283 v284 v285 v286 : Value} {wx : World} {c18 c19 c20 c21 : Nat}, Hid (Aft w wx b sb ab db n g (⟨1, (g : Int), 0, 0, 6, false⟩ : Cy) ((k : Int) + 1) true tl gb bk (i + 1) (steps + 1) 2 c18 c19 c20 c21) → K ⟨#[u0, u1, u2, u3, u4, u5, u6, u7, u8, u9, .int .i64 n, .int .i64 g, .pointer (some ⟨b, 0, none⟩), u13, .pointer (some ⟨sb, 0, none⟩), u15, u16, u17, .int .i64 c18, .int .i64 c19, .int .i64 c20, .int .i64 c21, u22, .pointer (some ⟨ab, 0, none⟩), .pointer (some ⟨db, 0, none⟩), u25, u26, .bool bk, u28, u29, u30, u31, u32, u33, u34, u35, u36, u37, u38, u39, u40, u41, u42, u43, u44, u45, u46, u47, u48, u49, u50, u51, u52, u53, u54, u55, u56, u57, u58, u59, u60, u61, u62, u63, u64, u65, u66, u67, u68, u69, u70, u71, u72, u73, u74, u75, u76, u77, u78, u79, u80, u81, u82, u83, u84, u85, u86, u87, u88, u89, u90, u91, u92, u93, u94, u95, u96, u97, u98, u99, u100, u101, u102, u103, u104, u105, u106, u107, u108, u109, u110, u111, u112, u113, u114, u115, u116, u117, u118, u119, u120, u121, u122, u123, u124, u125, u126, u127, u128, u129, u130, u131, u132, u133, u134, u135, u136, u137, u138, u139, u140, u141, u142, u143, u144, u145, u146, u147, u148, u149, u150, u151, u152, u153, u154, u155, u156, u157, u158, u159, u160, u161, u162, u163, u164, u165, u166, u167, u168, u169, u170, u171, .int .u8 21, v173, v174, v175, v176, v177, v178, v179, v180, v181, v182, v183, v184, v185, v186, v187, v188, v189, v190, v191, v192, v193, v194, v195, v196, v197, v198, v199, v200, v201, v202, v203, v204, v205, v206, v207, v208, v209, v210, v211, v212, v213, v214, v215, v216, v217, v218, v219, v220, v221, v222, v223, v224, v225, v226, v227, v228, v229, v230, v231, v232, v233, v234, v235, v236, v237, v238, v239, v240, v241, v242, v243, v244, v245, v246, v247, v248, v249, v250, v251, v252, v253, v254, v255, v256, v257, v258, v259, v260, v261, v262, v263, v264, v265, v266, v267, v268, v269, v270, v271, v272, v273, v274, v275, v276, v277, v278, v279, v280, v281, v282, v283, v284, v285, v286, u287, u288, u289, u290, u291, u292, u293, u294, u295, u296, u297, u298, u299, u300, u301, u302, u303, u304, u305, u306, u307, u308, u309, u310, u311, u312, u313, u314, u315, u316, u317, u318, u319, u320, u321, u322, u323, u324, u325, u326, u327, u328, u329, u330, u331, u332, u333, u334, u335, u336, u337, u338, u339, u340, u341, u342, u343, u344, u345, u346, u347, u348, u349, u350, u351, u352, u353, u354, u355, u356, u357, u358], []⟩ wx) :
    swE.wp Try.prog (Exit.then K Q) ⟨#[u0, u1, u2, u3, u4, u5, u6, u7, u8, u9, .int .i64 n, .int .i64 g, .pointer (some ⟨b, 0, none⟩), u13, .pointer (some ⟨sb, 0, none⟩), u15, u16, u17, .int .i64 0, .int .i64 g, .int .i64 0, .int .i64 0, u22, .pointer (some ⟨ab, 0, none⟩), .pointer (some ⟨db, 0, none⟩), u25, u26, .bool bk, u28, u29, u30, u31, u32, u33, u34, u35, u36, u37, u38, u39, u40, u41, u42, u43, u44, u45, u46, u47, u48, u49, u50, u51, u52, u53, u54, u55, u56, u57, u58, u59, u60, u61, u62, u63, u64, u65, u66, u67, u68, u69, u70, u71, u72, u73, u74, u75, u76, u77, u78, u79, u80, u81, u82, u83, u84, u85, u86, u87, u88, u89, u90, u91, u92, u93, u94, u95, u96, u97, u98, u99, u100, u101, u102, u103, u104, u105, u106, u107, u108, u109, u110, u111, u112, u113, u114, u115, u116, u117, u118, u119, u120, u121, u122, u123, u124, u125, u126, u127, u128, u129, u130, u131, u132, u133, u134, u135, u136, u137, u138, u139, u140, u141, u142, u143, u144, u145, u146, u147, u148, u149, u150, u151, u152, u153, u154, u155, u156, u157, u158, u159, u160, u161, u162, u163, u164, u165, u166, u167, u168, u169, u170, u171, .int .u8 21, u173, u174, u175, u176, u177, u178, u179, u180, u181, u182, u183, u184, u185, u186, u187, u188, u189, u190, u191, u192, u193, u194, u195, u196, u197, u198, u199, u200, u201, u202, u203, u204, u205, u206, u207, u208, u209, u210, u211, u212, u213, u214, u215, u216, u217, u218, u219, u220, u221, u222, u223, u224, u225, u226, u227, u228, u229, u230, u231, u232, u233, u234, u235, u236, u237, u238, u239, u240, u241, u242, u243, u244, u245, u246, u247, u248, u249, u250, u251, u252, u253, u254, u255, u256, u257, u258, u259, u260, u261, u262, u263, u264, u265, u266, u267, u268, u269, u270, u271, u272, u273, u274, u275, u276, u277, u278, u279, u280, u281, u282, u283, u284, u285, u286, u287, u288, u289, u290, u291, u292, u293, u294, u295, u296, u297, u298, u299, u300, u301, u302, u303, u304, u305, u306, u307, u308, u309, u310, u311, u312, u313, u314, u315, u316, u317, u318, u319, u320, u321, u322, u323, u324, u325, u326, u327, u328, u329, u330, u331, u332, u333, u334, u335, u336, u337, u338, u339, u340, u341, u342, u343, u344, u345, u346, u347, u348, u349, u350, u351, u352, u353, u354, u355, u356, u357, u358], []⟩ W2 := by
  have HS : Hid (RS w W2 b sb ab db T gr lf (⟨1, (g : Int), 0, 0, 6, false⟩ : Cy) n g ((k : Int) + 1) true tl gb ⟨21, 0, (k : Int) + 1, 0⟩) := hS
  have HI : Hid (Iv n g T gr lf (⟨1, (g : Int), 0, 0, 6, false⟩ : Cy) i steps last 0 g 0 0) := hI
  have HM : Hid ((⟨21, 0, (k : Int) + 1, 0⟩ : Dn) = nextM (Cy.ph (⟨1, (g : Int), 0, 0, 6, false⟩ : Cy)) (Cy.gl (⟨1, (g : Int), 0, 0, 6, false⟩ : Cy)) (Cy.sw (⟨1, (g : Int), 0, 0, 6, false⟩ : Cy)) (Cy.fr (⟨1, (g : Int), 0, 0, 6, false⟩ : Cy)) (Cy.bg (⟨1, (g : Int), 0, 0, 6, false⟩ : Cy)) (Cy.ak (⟨1, (g : Int), 0, 0, 6, false⟩ : Cy)) n g ((k : Int) + 1) true tl gb) := hM
  have HG300 : Hid (gr + lf < 300) := Nat.lt_of_le_of_lt hI.gl hI.n300
  have HT8 : Hid (T.length ≤ 8) := hI.ok.1
  have hK' : Hid _ := @hK
  have b17 := hI.small
  obtain ⟨b1, b2, b3, b4, b5, b6, b7⟩ := b17
  clear hS hI hM hK
  have c0 := heap_cell (j := 0) HS.out.cb rfl
  have c1 := heap_cell (j := 1) HS.out.cb rfl
  have c2 := heap_cell (j := 2) HS.out.cb rfl
  have c3 := heap_cell (j := 3) HS.out.cb rfl
  have c4 := heap_cell (j := 4) HS.out.cb rfl
  have c5 := heap_cell (j := 5) HS.out.cb rfl
  have lsb := heap_lt HS.out.cb
  have a0 := heap_cell (j := 0) HS.out.hab rfl
  have a1 := heap_cell (j := 1) HS.out.hab rfl
  have a2 := heap_cell (j := 2) HS.out.hab rfl
  have a3 := heap_cell (j := 3) HS.out.hab rfl
  have a4 := heap_cell (j := 4) HS.out.hab rfl
  have a5 := heap_cell (j := 5) HS.out.hab rfl
  have lab := heap_lt HS.out.hab
  have d0 := heap_cell (j := 0) HS.out.hdb rfl
  have d1 := heap_cell (j := 1) HS.out.hdb rfl
  have d2 := heap_cell (j := 2) HS.out.hdb rfl
  have d3 := heap_cell (j := 3) HS.out.hdb rfl
  have ldb := heap_lt HS.out.hdb
  unfold swE bodyE topE
  simp only [Try.f5, Option.getD, cL, cR, cB, cLp]
  have hkT := (List.getElem?_eq_some_iff.1 ht).1
  obtain ⟨v, hx⟩ := HS.out.tx
  obtain ⟨gs, cs, hvs, _, ls⟩ := own_form hx.s (show 0 < (rows T).ns from by show 0 < T.length; omega)
  have f1 : W2.cell? ⟨b, 1, none⟩ = some (.slice (some ⟨gs, 0, none⟩) T.length cs) := (heap_cell (j := 1) hx.bl rfl).trans (congrArg some hvs)
  have os := hx.s
  rw [hvs] at os
  have r1 : W2.cell? ⟨gs, k, none⟩ = some (.bool t.sc) := own_cell os (by show (T.map _)[k]? = _; rw [List.getElem?_map, ht]; rfl)
  have z1 : W2.frozen? ⟨gs, k, none⟩ = false := own_fz os k
  have lb := hx.lt
  have kk1 : (k : Int) < (T.length : Int) := by omega
  have kk2 : (k : Int) < 8 := by have := HT8.out; omega
  obtain ⟨p, hp, hq⟩ := pick_fix t.sh 5 (HI.out.ok.at ht).2.2 (by omega) (by omega)
  have HP : Hid (∀ w : World, Calls Try.prog 15 #[.int .i64 t.sh, .int .i64 5] w fun e w' => e = .returned (.int .i64 p) ∧ w' = w) := hq
  have HS3 : Hid (RS w (W2.setCell ⟨gs, k, none⟩ (.bool true)).drew b sb ab db (T.set k { t with sc := true }) gr lf (⟨1, (g : Int), 0, 0, 6, false⟩ : Cy) n g ((k : Int) + 1) true tl gb ⟨21, 0, (k : Int) + 1, 0⟩) := (HS.out.scan hx hvs ht).keep ((Below.refl _ _).drew)
  have HAf : Hid (∀ w4 gr' lf', gr' + lf' = gr + lf → RS w w4 b sb ab db (T.set k { t with sc := true }) gr' lf' (⟨1, (g : Int), 0, 0, 6, false⟩ : Cy) n g ((k : Int) + 1) true tl gb ⟨21, 0, (k : Int) + 1, 0⟩ → Aft w w4 b sb ab db n g (⟨1, (g : Int), 0, 0, 6, false⟩ : Cy) ((k : Int) + 1) true tl gb bk (i + 1) (steps + 1) 2 0 g 0 0) := fun w4 gr' lf' he h4 => ⟨_, _, _, ⟨1, (g : Int), 0, 0, 6, false⟩, ⟨21, 0, (k : Int) + 1, 0⟩, h4, stp HM.out (by dsimp only; decide) rfl, .inl ⟨(by dsimp only; decide), 2, rfl, iv_thread HI.out e2 e3 he ht hsc hst⟩⟩
  have HTT : Hid ((T.set k { t with sc := true })[k]? = some { t with sc := true }) := List.getElem?_set_self hkT
  have hTl : (T.set k { t with sc := true }).length = T.length := List.length_set
  have hmx : Try.prog.follows .mixedOrders = true := by kernel_rfl
  clear hx hvs os ht hsc hst e2 e3 hq b1 b2 b3 b4 b5 b6 b7
  go_upto_region 51 with fail
  go_region
  go_upto_region 52 with fail
  generalize (W2.setCell ⟨gs, k, none⟩ (.bool true)).drew = W3 at HS3 ⊢
  clear c0 c1 c2 c3 c4 c5 lsb a0 a1 a2 a3 a4 a5 lab d0 d1 d2 d3 ldb ls lb f1 r1 z1
  obtain ⟨v, hx⟩ := HS3.out.tx
  obtain ⟨gl, cl, hvl, _, ll⟩ := own_form hx.l (show 0 < (rows (T.set k { t with sc := true })).nl from by show 0 < (T.set k { t with sc := true }).length; rw [hTl]; omega)
  have f0 : W3.cell? ⟨b, 0, none⟩ = some (.slice (some ⟨gl, 0, none⟩) T.length cl) := by
    have h1 := (heap_cell (j := 0) hx.bl rfl).trans (congrArg some hvl)
    have h2 : (rows (T.set k { t with sc := true })).nl = T.length := hTl
    rw [h2] at h1
    exact h1
  have ol := hx.l
  rw [hvl] at ol
  have r0s : W3.cell? ⟨gl, k * 4 + 3, none⟩ = some (.int .i64 t.sh) := own_cell ol (lf4_at _ k _ HTT.out).2.2.2
  have lb := hx.lt
  have d2 := heap_cell (j := 2) HS3.out.hdb rfl
  have ldb := heap_lt HS3.out.hdb
  have HSh : Hid (Calls Try.prog 19 #[.pointer (some ⟨b, 0, none⟩), .int .i64 p] W3.drew fun e w' => e = .returned (.tuple #[]) ∧ TX w W3.drew w' b (T.set k { t with sc := true }) (gr + min p lf) (lf - min p lf) ∧ ShR b W3.drew w') := shade_set w _ W3.drew b p gr lf _ (HS3.out.tx.keep ((Below.refl _ _).drew)).re (by omega) HG300.out
  have nb1 : gl ≠ b := fun e => own_ty hx.l hx.bl (by decide) (by rw [hvl, e]; rfl)
  have nb2 : db ≠ b := ty_ne HS3.out.hdb hx.bl (by decide)
  have HKp : Hid (∀ wq, ShR b W3.drew wq → wq.cell? ⟨b, 0, none⟩ = some (.slice (some ⟨gl, 0, none⟩) T.length cl) ∧ wq.cell? ⟨gl, k * 4 + 3, none⟩ = some (.int .i64 t.sh) ∧ wq.cell? ⟨db, 2, none⟩ = some (.int .i64 ((k : Int) + 1)) ∧ b < wq.heap.size ∧ gl < wq.heap.size ∧ db < wq.heap.size) := by
    rintro wq ⟨x, y, rfl⟩
    have r0' : W3.drew.cell? ⟨gl, k * 4 + 3, none⟩ = some (.int .i64 t.sh) := r0s
    have d2' : W3.drew.cell? ⟨db, 2, none⟩ = some (.int .i64 ((k : Int) + 1)) := d2
    refine ⟨?_, ?_, ?_, by simp only [World.size_setCell]; exact lb, by simp only [World.size_setCell]; exact ll, by simp only [World.size_setCell]; exact ldb⟩
    · have q := set_atC (W := W3.drew.setCell ⟨b, 4, none⟩ x) (j := 5) (set_atC (W := W3.drew) (j := 4) hx.bl x) y
      exact (heap_cell (j := 0) q rfl).trans ((heap_cell (j := 0) hx.bl rfl).symm.trans f0)
    · rw [World.cell?_of_block (w := W3.drew) ((Below.heap_setCell _ _ _ _ nb1).trans (Below.heap_setCell _ _ _ _ nb1))]
      exact r0'
    · rw [World.cell?_of_block (w := W3.drew) ((Below.heap_setCell _ _ _ _ nb2).trans (Below.heap_setCell _ _ _ _ nb2))]
      exact d2'
  clear hx hvl ol hTl nb1 nb2
  have hwr : IntKind.i64.wrap (k : Int) = (k : Int) := wrapK (by omega)
  have hwr2 : IntKind.i64.wrap ((k : Int) + 1 - 1) = (k : Int) := by rw [Int.add_sub_cancel]; exact hwr
  have kk0 : (0 : Int) ≤ (k : Int) := by omega
  go_region_held3 (fun wq : World => wq.cell? ⟨b, 0, none⟩ = some (.slice (some ⟨gl, 0, none⟩) T.length cl) ∧ wq.cell? ⟨gl, k * 4 + 3, none⟩ = some (.int .i64 t.sh) ∧ wq.cell? ⟨db, 2, none⟩ = some (.int .i64 ((k : Int) + 1)) ∧ b < wq.heap.size ∧ gl < wq.heap.size ∧ db < wq.heap.size) (first | exact ⟨f0, r0s, d2, lb, ll, ldb⟩ | (go_keep; done) | exact HKp.out _ hsr) (first | (go_at_call 15; refine (HP.out _).mono ?_; rintro e wp ⟨rfl, rfl⟩) | (go_at_call 19; refine HSh.out.mono ?_; rintro e wq ⟨rfl, h3, hsr⟩) | fail)
  have HAg : Hid (Aft w wq b sb ab db n g (⟨1, (g : Int), 0, 0, 6, false⟩ : Cy) ((k : Int) + 1) true tl gb bk (i + 1) (steps + 1) 2 0 g 0 0) := HAf.out _ _ _ (by omega) ((HS3.out.keep ((Below.refl _ _).drew)).call h3)
  clear h3 hsr HSh HAf HKp
  go_wp2
  exact hK'.out HAg
end Go.Proofs.Ytnohcmfhhoiihaa
