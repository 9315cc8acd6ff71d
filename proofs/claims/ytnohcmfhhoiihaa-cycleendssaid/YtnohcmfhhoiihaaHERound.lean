/- CycleEnds: a round. -/
import Derived.Test.YtnohcmfhhoiihaaHESw
import Derived.Test.YtnohcmfhhoiihaaHETail
import Derived.Test.YtnohcmfhhoiihaaHEZero
namespace Go.Proofs.Ytnohcmfhhoiihaa
open Go.RowKit

def BX (w : World) (ra : Option Addr) (l : List Bool) : Prop := ∃ b o, (l.length = 0 ∨ ra = some ⟨b, o, none⟩) ∧ ∀ (j : Nat) (x : Bool), l[j]? = some x → b < w.heap.size ∧ w.cell? ⟨b, o + j, none⟩ = some (.bool x)
set_option maxRecDepth 100000 in
set_option maxHeartbeats 32000000 in
theorem round_ok {u0 u1 u2 u4 u5 u6 u7 u8 u9 u13 u15 u22 u23 u24 u25 u26 u27 u28 u29 u30 u31 u32 u33 u34 u35 u36 u37 u38 u39 u40 u41 u42 u43 u44 u45 u46 u47 u48 u49 u50 u51 u52 u53 u54 u55 u56 u57 u58 u59 u60 u61 u62 u63 u64 u65 u66 u67 u68 u69 u70 u71 u72 u73 u74 u75 u76 u77 u78 u79 u80 u81 u82 u83 u84 u85 u86 u87 u88 u89 u90 u91 u92 u93 u94 u95 u96 u97 u98 u99 u100 u101 u102 u103 u104 u105 u106 u107 u108 u109 u110 u111 u112 u113 u114 u115 u116 u117 u118 u119 u120 u121 u122 u123 u124 u125 u126 u127 u128 u129 u130 u131 u132 u133 u134 u135 u136 u137 u138 u139 u140 u141 u142 u143 u144 u145 u146 u147 u148 u149 u150 u151 u152 u153 u154 u155 u156 u157 u158 u159 u160 u161 u162 u163 u164 u165 u166 u167 u168 u169 u170 u171 u172 u173 u174 u175 u176 u177 u178 u179 u180 u181 u182 u183 u184 u185 u186 u187 u188 u189 u190 u191 u192 u193 u194 u195 u196 u197 u198 u199 u200 u201 u202 u203 u204 u205 u206 u207 u208 u209 u210 u211 u212 u213 u214 u215 u216 u217 u218 u219 u220 u221 u222 u223 u224 u225 u226 u227 u228 u229 u230 u231 u232 u233 u234 u235 u236 u237 u238 u239 u240 u241 u242 u243 u244 u245 u246 u247 u248 u249 u250 u251 u252 u253 u254 u255 u256 u257 u258 u259 u260 u261 u262 u263 u264 u265 u266 u267 u268 u269 u270 u271 u272 u273 u274 u275 u276 u277 u278 u279 u280 u281 u282 u283 u284 u285 u286 u287 u288 u289 u290 u291 u292 u293 u294 u295 u296 u297 u298 u299 u300 u301 u302 u303 u304 u305 u306 u307 u308 u309 u310 u311 u312 u313 u314 u315 u316 u317 u318 u319 u320 u321 u322 u323 u324 u325 u326 u327 u328 u329 u330 u331 u332 u333 u334 u335 u336 u337 u338 u339 u340 u341 u342 u343 u344 u345 u346 u347 u348 u349 u350 u351 u352 u353 u354 u355 u356 u357 u358 : Value} {w wr : World} {b sb n g i gr lf steps last checks root swept freed : Nat} {T : List Th} {s : Cy} {bs : List Bool} {rb : Option Addr} {cb : Nat} (Q : Exit → Act → World → Prop) (hI : Iv n g T gr lf s i steps last checks root swept freed) (hL : LS w wr b sb T gr lf s) (hB : BX w rb bs)
    (hGo : ∀ {v23 v24 v25 v26 v27 v28 v29 v108 v109 v110 v111 v112 v113 v114 v115 v116 v117 v118 v119 v120 v121 v122 v123 v124 v125 v126 v127 v128 v129 v130 v131 v132 v133 v134 v135 v136 v137 v138 v139 v140 v141 v142 v143 v144 v145 v146 v147 v148 v149 v150 v151 v152 v153 v154 v155 v156 v157 v158 v159 v160 v161 v162 v163 v164 v165 v166 v167 v168 v169 v170 v171 v172 v173 v174 v175 v176 v177 v178 v179 v180 v181 v182 v183 v184 v185 v186 v187 v188 v189 v190 v191 v192 v193 v194 v195 v196 v197 v198 v199 v200 v201 v202 v203 v204 v205 v206 v207 v208 v209 v210 v211 v212 v213 v214 v215 v216 v217 v218 v219 v220 v221 v222 v223 v224 v225 v226 v227 v228 v229 v230 v231 v232 v233 v234 v235 v236 v237 v238 v239 v240 v241 v242 v243 v244 v245 v246 v247 v248 v249 v250 v251 v252 v253 v254 v255 v256 v257 v258 v259 v260 v261 v262 v263 v264 v265 v266 v267 v268 v269 v270 v271 v272 v273 v274 v275 v276 v277 v278 v279 v280 v281 v282 v283 v284 v285 v286 v287 v288 v289 v290 v291 v292 v293 v294 v295 v296 v297 v298 v299 v300 v301 v302 v303 v304 v305 v306 v307 v308 : Value} {wx : World} {T1 : List Th} {gr1 lf1 : Nat} {s1 : Cy} {steps1 last1 checks1 root1 swept1 freed1 : Nat}, Hid (Iv n g T1 gr1 lf1 s1 (i + 1) steps1 last1 checks1 root1 swept1 freed1) → Hid (LS w wx b sb T1 gr1 lf1 s1) → Q .normal ⟨#[u0, u1, u2, .slice rb bs.length cb, u4, u5, u6, u7, u8, u9, .int .i64 n, .int .i64 g, .pointer (some ⟨b, 0, none⟩), u13, .pointer (some ⟨sb, 0, none⟩), u15, .int .i64 steps1, .int .i64 last1, .int .i64 checks1, .int .i64 root1, .int .i64 swept1, .int .i64 freed1, u22, v23, v24, v25, v26, v27, v28, v29, u30, u31, u32, u33, u34, u35, u36, u37, u38, u39, u40, u41, u42, u43, u44, u45, u46, u47, u48, u49, u50, u51, u52, u53, u54, u55, u56, u57, u58, u59, u60, u61, u62, u63, u64, u65, u66, u67, u68, u69, u70, u71, u72, u73, u74, u75, u76, u77, u78, u79, u80, u81, u82, u83, u84, u85, u86, u87, u88, u89, u90, u91, u92, u93, u94, u95, u96, u97, u98, u99, u100, u101, u102, u103, u104, u105, u106, u107, v108, v109, v110, v111, v112, v113, v114, v115, v116, v117, v118, v119, v120, v121, v122, v123, v124, v125, v126, v127, v128, v129, v130, v131, v132, v133, v134, v135, v136, v137, v138, v139, v140, v141, v142, v143, v144, v145, v146, v147, v148, v149, v150, v151, v152, v153, v154, v155, v156, v157, v158, v159, v160, v161, v162, v163, v164, v165, v166, v167, v168, v169, v170, v171, v172, v173, v174, v175, v176, v177, v178, v179, v180, v181, v182, v183, v184, v185, v186, v187, v188, v189, v190, v191, v192, v193, v194, v195, v196, v197, v198, v199, v200, v201, v202, v203, v204, v205, v206, v207, v208, v209, v210, v211, v212, v213, v214, v215, v216, v217, v218, v219, v220, v221, v222, v223, v224, v225, v226, v227, v228, v229, v230, v231, v232, v233, v234, v235, v236, v237, v238, v239, v240, v241, v242, v243, v244, v245, v246, v247, v248, v249, v250, v251, v252, v253, v254, v255, v256, v257, v258, v259, v260, v261, v262, v263, v264, v265, v266, v267, v268, v269, v270, v271, v272, v273, v274, v275, v276, v277, v278, v279, v280, v281, v282, v283, v284, v285, v286, v287, v288, v289, v290, v291, v292, v293, v294, v295, v296, v297, v298, v299, v300, v301, v302, v303, v304, v305, v306, v307, v308, u309, u310, u311, u312, u313, u314, u315, u316, u317, u318, u319, u320, u321, u322, u323, u324, u325, u326, u327, u328, u329, u330, u331, u332, u333, u334, u335, u336, u337, u338, u339, u340, u341, u342, u343, u344, u345, u346, u347, u348, u349, u350, u351, u352, u353, u354, u355, u356, u357, u358], []⟩ wx)
    (hCo : ∀ {v23 v24 v25 v26 v27 v28 v29 v108 v109 v110 v111 v112 v113 v114 v115 v116 v117 v118 v119 v120 v121 v122 v123 v124 v125 v126 v127 v128 v129 v130 v131 v132 v133 v134 v135 v136 v137 v138 v139 v140 v141 v142 v143 v144 v145 v146 v147 v148 v149 v150 v151 v152 v153 v154 v155 v156 v157 v158 v159 v160 v161 v162 v163 v164 v165 v166 v167 v168 v169 v170 v171 v172 v173 v174 v175 v176 v177 v178 v179 v180 v181 v182 v183 v184 v185 v186 v187 v188 v189 v190 v191 v192 v193 v194 v195 v196 v197 v198 v199 v200 v201 v202 v203 v204 v205 v206 v207 v208 v209 v210 v211 v212 v213 v214 v215 v216 v217 v218 v219 v220 v221 v222 v223 v224 v225 v226 v227 v228 v229 v230 v231 v232 v233 v234 v235 v236 v237 v238 v239 v240 v241 v242 v243 v244 v245 v246 v247 v248 v249 v250 v251 v252 v253 v254 v255 v256 v257 v258 v259 v260 v261 v262 v263 v264 v265 v266 v267 v268 v269 v270 v271 v272 v273 v274 v275 v276 v277 v278 v279 v280 v281 v282 v283 v284 v285 v286 v287 v288 v289 v290 v291 v292 v293 v294 v295 v296 v297 v298 v299 v300 v301 v302 v303 v304 v305 v306 v307 v308 : Value} {wx : World} {T1 : List Th} {gr1 lf1 : Nat} {s1 : Cy} {steps1 last1 checks1 root1 swept1 freed1 : Nat}, Hid (Iv n g T1 gr1 lf1 s1 (i + 1) steps1 last1 checks1 root1 swept1 freed1) → Hid (LS w wx b sb T1 gr1 lf1 s1) → Q (.exit 3) ⟨#[u0, u1, u2, .slice rb bs.length cb, u4, u5, u6, u7, u8, u9, .int .i64 n, .int .i64 g, .pointer (some ⟨b, 0, none⟩), u13, .pointer (some ⟨sb, 0, none⟩), u15, .int .i64 steps1, .int .i64 last1, .int .i64 checks1, .int .i64 root1, .int .i64 swept1, .int .i64 freed1, u22, v23, v24, v25, v26, v27, v28, v29, u30, u31, u32, u33, u34, u35, u36, u37, u38, u39, u40, u41, u42, u43, u44, u45, u46, u47, u48, u49, u50, u51, u52, u53, u54, u55, u56, u57, u58, u59, u60, u61, u62, u63, u64, u65, u66, u67, u68, u69, u70, u71, u72, u73, u74, u75, u76, u77, u78, u79, u80, u81, u82, u83, u84, u85, u86, u87, u88, u89, u90, u91, u92, u93, u94, u95, u96, u97, u98, u99, u100, u101, u102, u103, u104, u105, u106, u107, v108, v109, v110, v111, v112, v113, v114, v115, v116, v117, v118, v119, v120, v121, v122, v123, v124, v125, v126, v127, v128, v129, v130, v131, v132, v133, v134, v135, v136, v137, v138, v139, v140, v141, v142, v143, v144, v145, v146, v147, v148, v149, v150, v151, v152, v153, v154, v155, v156, v157, v158, v159, v160, v161, v162, v163, v164, v165, v166, v167, v168, v169, v170, v171, v172, v173, v174, v175, v176, v177, v178, v179, v180, v181, v182, v183, v184, v185, v186, v187, v188, v189, v190, v191, v192, v193, v194, v195, v196, v197, v198, v199, v200, v201, v202, v203, v204, v205, v206, v207, v208, v209, v210, v211, v212, v213, v214, v215, v216, v217, v218, v219, v220, v221, v222, v223, v224, v225, v226, v227, v228, v229, v230, v231, v232, v233, v234, v235, v236, v237, v238, v239, v240, v241, v242, v243, v244, v245, v246, v247, v248, v249, v250, v251, v252, v253, v254, v255, v256, v257, v258, v259, v260, v261, v262, v263, v264, v265, v266, v267, v268, v269, v270, v271, v272, v273, v274, v275, v276, v277, v278, v279, v280, v281, v282, v283, v284, v285, v286, v287, v288, v289, v290, v291, v292, v293, v294, v295, v296, v297, v298, v299, v300, v301, v302, v303, v304, v305, v306, v307, v308, u309, u310, u311, u312, u313, u314, u315, u316, u317, u318, u319, u320, u321, u322, u323, u324, u325, u326, u327, u328, u329, u330, u331, u332, u333, u334, u335, u336, u337, u338, u339, u340, u341, u342, u343, u344, u345, u346, u347, u348, u349, u350, u351, u352, u353, u354, u355, u356, u357, u358], []⟩ wx)
    (hBr : ∀ {v23 v24 v25 v26 v27 v28 v29 v108 v109 v110 v111 v112 v113 v114 v115 v116 v117 v118 v119 v120 v121 v122 v123 v124 v125 v126 v127 v128 v129 v130 v131 v132 v133 v134 v135 v136 v137 v138 v139 v140 v141 v142 v143 v144 v145 v146 v147 v148 v149 v150 v151 v152 v153 v154 v155 v156 v157 v158 v159 v160 v161 v162 v163 v164 v165 v166 v167 v168 v169 v170 v171 v172 v173 v174 v175 v176 v177 v178 v179 v180 v181 v182 v183 v184 v185 v186 v187 v188 v189 v190 v191 v192 v193 v194 v195 v196 v197 v198 v199 v200 v201 v202 v203 v204 v205 v206 v207 v208 v209 v210 v211 v212 v213 v214 v215 v216 v217 v218 v219 v220 v221 v222 v223 v224 v225 v226 v227 v228 v229 v230 v231 v232 v233 v234 v235 v236 v237 v238 v239 v240 v241 v242 v243 v244 v245 v246 v247 v248 v249 v250 v251 v252 v253 v254 v255 v256 v257 v258 v259 v260 v261 v262 v263 v264 v265 v266 v267 v268 v269 v270 v271 v272 v273 v274 v275 v276 v277 v278 v279 v280 v281 v282 v283 v284 v285 v286 v287 v288 v289 v290 v291 v292 v293 v294 v295 v296 v297 v298 v299 v300 v301 v302 v303 v304 v305 v306 v307 v308 : Value} {wx : World} {steps1 last1 checks1 root1 swept1 freed1 : Nat}, Hid (Fin w wx b sb n g steps1 last1 checks1 root1 swept1) → Q (.exit 2) ⟨#[u0, u1, u2, .slice rb bs.length cb, u4, u5, u6, u7, u8, u9, .int .i64 n, .int .i64 g, .pointer (some ⟨b, 0, none⟩), u13, .pointer (some ⟨sb, 0, none⟩), u15, .int .i64 steps1, .int .i64 last1, .int .i64 checks1, .int .i64 root1, .int .i64 swept1, .int .i64 freed1, u22, v23, v24, v25, v26, v27, v28, v29, u30, u31, u32, u33, u34, u35, u36, u37, u38, u39, u40, u41, u42, u43, u44, u45, u46, u47, u48, u49, u50, u51, u52, u53, u54, u55, u56, u57, u58, u59, u60, u61, u62, u63, u64, u65, u66, u67, u68, u69, u70, u71, u72, u73, u74, u75, u76, u77, u78, u79, u80, u81, u82, u83, u84, u85, u86, u87, u88, u89, u90, u91, u92, u93, u94, u95, u96, u97, u98, u99, u100, u101, u102, u103, u104, u105, u106, u107, v108, v109, v110, v111, v112, v113, v114, v115, v116, v117, v118, v119, v120, v121, v122, v123, v124, v125, v126, v127, v128, v129, v130, v131, v132, v133, v134, v135, v136, v137, v138, v139, v140, v141, v142, v143, v144, v145, v146, v147, v148, v149, v150, v151, v152, v153, v154, v155, v156, v157, v158, v159, v160, v161, v162, v163, v164, v165, v166, v167, v168, v169, v170, v171, v172, v173, v174, v175, v176, v177, v178, v179, v180, v181, v182, v183, v184, v185, v186, v187, v188, v189, v190, v191, v192, v193, v194, v195, v196, v197, v198, v199, v200, v201, v202, v203, v204, v205, v206, v207, v208, v209, v210, v211, v212, v213, v214, v215, v216, v217, v218, v219, v220, v221, v222, v223, v224, v225, v226, v227, v228, v229, v230, v231, v232, v233, v234, v235, v236, v237, v238, v239, v240, v241, v242, v243, v244, v245, v246, v247, v248, v249, v250, v251, v252, v253, v254, v255, v256, v257, v258, v259, v260, v261, v262, v263, v264, v265, v266, v267, v268, v269, v270, v271, v272, v273, v274, v275, v276, v277, v278, v279, v280, v281, v282, v283, v284, v285, v286, v287, v288, v289, v290, v291, v292, v293, v294, v295, v296, v297, v298, v299, v300, v301, v302, v303, v304, v305, v306, v307, v308, u309, u310, u311, u312, u313, u314, u315, u316, u317, u318, u319, u320, u321, u322, u323, u324, u325, u326, u327, u328, u329, u330, u331, u332, u333, u334, u335, u336, u337, u338, u339, u340, u341, u342, u343, u344, u345, u346, u347, u348, u349, u350, u351, u352, u353, u354, u355, u356, u357, u358], []⟩ wx) :
    bodyE.wp Try.prog Q ⟨#[u0, u1, u2, .slice rb bs.length cb, u4, u5, u6, u7, u8, u9, .int .i64 n, .int .i64 g, .pointer (some ⟨b, 0, none⟩), u13, .pointer (some ⟨sb, 0, none⟩), u15, .int .i64 steps, .int .i64 last, .int .i64 checks, .int .i64 root, .int .i64 swept, .int .i64 freed, u22, u23, u24, u25, u26, u27, u28, u29, u30, u31, u32, u33, u34, u35, u36, u37, u38, u39, u40, u41, u42, u43, u44, u45, u46, u47, u48, u49, u50, u51, u52, u53, u54, u55, u56, u57, u58, u59, u60, u61, u62, u63, u64, u65, u66, u67, u68, u69, u70, u71, u72, u73, u74, u75, u76, u77, u78, u79, u80, u81, u82, u83, u84, u85, u86, u87, u88, u89, u90, u91, u92, u93, u94, u95, u96, u97, u98, u99, u100, u101, u102, u103, u104, u105, u106, u107, u108, u109, u110, u111, u112, u113, u114, u115, u116, u117, u118, u119, u120, u121, u122, u123, u124, u125, u126, u127, u128, u129, u130, u131, u132, u133, u134, u135, u136, u137, u138, u139, u140, u141, u142, u143, u144, u145, u146, u147, u148, u149, u150, u151, u152, u153, u154, u155, u156, u157, u158, u159, u160, u161, u162, u163, u164, u165, u166, u167, u168, u169, u170, u171, u172, u173, u174, u175, u176, u177, u178, u179, u180, u181, u182, u183, u184, u185, u186, u187, u188, u189, u190, u191, u192, u193, u194, u195, u196, u197, u198, u199, u200, u201, u202, u203, u204, u205, u206, u207, u208, u209, u210, u211, u212, u213, u214, u215, u216, u217, u218, u219, u220, u221, u222, u223, u224, u225, u226, u227, u228, u229, u230, u231, u232, u233, u234, u235, u236, u237, u238, u239, u240, u241, u242, u243, u244, u245, u246, u247, u248, u249, u250, u251, u252, u253, u254, u255, u256, u257, u258, u259, u260, u261, u262, u263, u264, u265, u266, u267, u268, u269, u270, u271, u272, u273, u274, u275, u276, u277, u278, u279, u280, u281, u282, u283, u284, u285, u286, u287, u288, u289, u290, u291, u292, u293, u294, u295, u296, u297, u298, u299, u300, u301, u302, u303, u304, u305, u306, u307, u308, u309, u310, u311, u312, u313, u314, u315, u316, u317, u318, u319, u320, u321, u322, u323, u324, u325, u326, u327, u328, u329, u330, u331, u332, u333, u334, u335, u336, u337, u338, u339, u340, u341, u342, u343, u344, u345, u346, u347, u348, u349, u350, u351, u352, u353, u354, u355, u356, u357, u358], []⟩ wr := by
  have HI : Hid (Iv n g T gr lf s i steps last checks root swept freed) := hI
  have HL : Hid (LS w wr b sb T gr lf s) := hL
  have HBk : Hid (BX w rb bs) := hB
  have HGo : Hid _ := @hGo
  have HCo : Hid _ := @hCo
  have HBr : Hid _ := @hBr
  have HT8 : Hid (T.length ≤ 8) := hI.ok.1
  obtain ⟨b1, b2, b3, b4, b5, b6, b7⟩ := hI.small
  have hph : 0 ≤ s.ph := by
    have hp := hI.ps
    cases hp <;> (dsimp only; decide)
  have hbg : s.bg ≤ 9223372036854775807 := by
    have hp := hI.ps
    cases hp <;> (dsimp only; decide)
  clear hI hL hB hGo hCo hBr
  unfold bodyE topE
  simp only [Try.f5, Option.getD, cL, cR, cB, cLp]
  go_wp2_with fail
  refine Calls.mono (around_any w wr wr b gr lf n g T HL.out.tx HT8.out) ?_
  rintro e w1 hAro
  obtain ⟨th, st, tl, rfl, hao, hb⟩ := hAro
  obtain ⟨gb, hgb⟩ : ∃ gb, gb = decide (0 < gr) := ⟨_, rfl⟩
  rw [← hgb]
  dsimp only
  have HGB : Hid (gb = decide (0 < gr)) := hgb
  have HO : Hid (ArOk T th st tl) := hao
  have HL1 : Hid (LS w (w1.alloc (.cells #[.int .i64 n, .int .i64 g, .int .i64 th, .bool st, .bool tl, .bool gb] 29)) b sb T gr lf s) := HL.out.keep (hb.alloc hb.size _)
  have HA1 : Hid (AB (w1.alloc (.cells #[.int .i64 n, .int .i64 g, .int .i64 th, .bool st, .bool tl, .bool gb] 29)) w1.heap.size n g th st tl gb) := heap_alloc_new _ _
  clear hgb hao hb HL
  go_upto_region 25 with fail
  generalize w1.alloc (.cells #[.int .i64 n, .int .i64 g, .int .i64 th, .bool st, .bool tl, .bool gb] 29) = W1 at HL1 HA1 ⊢
  generalize w1.heap.size = ab at HA1 ⊢
  have c0 := heap_cell (j := 0) HL1.out.cb rfl
  have c1 := heap_cell (j := 1) HL1.out.cb rfl
  have c2 := heap_cell (j := 2) HL1.out.cb rfl
  have c3 := heap_cell (j := 3) HL1.out.cb rfl
  have c4 := heap_cell (j := 4) HL1.out.cb rfl
  have c5 := heap_cell (j := 5) HL1.out.cb rfl
  have lsb := heap_lt HL1.out.cb
  have a0 := heap_cell (j := 0) HA1.out rfl
  have a1 := heap_cell (j := 1) HA1.out rfl
  have a2 := heap_cell (j := 2) HA1.out rfl
  have a3 := heap_cell (j := 3) HA1.out rfl
  have a4 := heap_cell (j := 4) HA1.out rfl
  have a5 := heap_cell (j := 5) HA1.out rfl
  have lab := heap_lt HA1.out
  go_wp2_with fail
  refine Calls.mono (next_any s.ph s.gl s.sw s.fr s.bg s.ak n g th st tl gb _ hph) ?_
  rintro e w2 ⟨rfl, hb⟩
  obtain ⟨M, hM⟩ : ∃ M, M = nextM s.ph s.gl s.sw s.fr s.bg s.ak n g th st tl gb := ⟨_, rfl⟩
  rw [← hM]
  dsimp only
  have HM : Hid (M = nextM s.ph s.gl s.sw s.fr s.bg s.ak n g th st tl gb) := hM
  clear c0 c1 c2 c3 c4 c5 lsb a0 a1 a2 a3 a4 a5 lab hM
  have HS : Hid (RS w (w2.alloc (.cells #[.int .u8 M.wh, .int .i64 M.gl, .int .i64 M.th, .int .i64 M.ce] 34)) b sb ab w2.heap.size T gr lf s n g th st tl gb M) := by
    have hb2 := hb.alloc hb.size (.cells #[.int .u8 M.wh, .int .i64 M.gl, .int .i64 M.th, .int .i64 M.ce] 34)
    exact (HL1.out.keep hb2).rs ((hb2.block _ (heap_lt HA1.out)).trans HA1.out) (heap_alloc_new _ _)
  clear HL1 HA1 hb
  go_upto_region 26 with fail
  generalize w2.alloc (.cells #[.int .u8 M.wh, .int .i64 M.gl, .int .i64 M.th, .int .i64 M.ce] 34) = W2 at HS ⊢
  generalize w2.heap.size = db at HS ⊢
  have HW : Hid (WyZ n g T gr lf th steps last checks root swept freed s M ∨ ∃ r, Wy n g T gr lf th st tl steps last checks root swept freed s r M) := by
    have := way HI.out HO.out
    rw [← HGB.out, ← HM.out] at this
    exact this
  have dd := heap_cell (j := 0) HS.out.hdb rfl
  have ldb := heap_lt HS.out.hdb
  rcases HW.out with hz | ⟨r, hw⟩
  · obtain ⟨k, t, rfl, rfl, ht, hsc, htl, hro, rfl, rfl, rfl, hl2, hst, hgl, rfl⟩ := hz
    obtain rfl := hro.symm
    clear hph hbg HW b1 b2 b3 b4 b5 b6 b7
    go_upto_if 117 with fail
    exact zero_ok _ HS.out HI.out ht hsc htl hl2 hst hgl (fun h1 h2 => HCo.out (steps1 := steps) (last1 := last) (checks1 := 0) (root1 := g) (swept1 := 0) (freed1 := 0) h1 h2)
  · obtain ⟨q1, q2, q3⟩ := hw.rank
    have HWy : Hid (Wy n g T gr lf th st tl steps last checks root swept freed s r M) := hw
    have k0 : (M.wh == 0) = false := by simp; omega
    have HRk : Hid (∀ w : World, Calls Try.prog 18 #[.int .u8 M.wh] w fun e w' => e = .returned (.int .i64 r) ∧ w' = w) := fun w => rank_any M.wh r w q1
    have HGx : Hid (n < 300 ∧ g < 65 ∧ 0 ≤ s.ph ∧ s.bg ≤ 9223372036854775807) := ⟨HI.out.n300, HI.out.g65, hph, hbg⟩
    obtain ⟨S, hS⟩ : ∃ S : Int, S = (steps : Int) := ⟨_, rfl⟩
    obtain ⟨L, hLl⟩ : ∃ L : Int, L = (last : Int) := ⟨_, rfl⟩
    have HSS : Hid (S = (steps : Int) ∧ L = (last : Int)) := ⟨hS, hLl⟩
    rw [← hS, ← hLl]
    have kS : S < 1000 := by omega
    have kS0 : 0 ≤ S := by omega
    have lwW : w.heap.size ≤ W2.heap.size := HS.out.tx.bel.size
    clear q1 hw HW b1 b2 b3 b4 b5 b6 b7 hph hbg
    go_wp2_with fail
    refine Calls.mono (HRk.out _) ?_
    rintro e w3 ⟨rfl, hw3⟩
    rw [hw3]
    dsimp only
    clear hw3 HRk
    rcases q3 with ⟨e1, e2⟩ | ⟨e1, e2⟩
    · have e3 : S = 0 := by omega
      have e4 : L = 0 := by omega
      subst e1
      subst e2
      obtain rfl : last = 0 := by omega
      clear hS hLl q2
      rw [e3, e4] at *
      clear e3 e4
      go_upto_region 36 with fail
      by_cases hsl : swept < bs.length
      · obtain ⟨x, hx⟩ : ∃ x, bs[swept]? = some x := ⟨_, List.getElem?_eq_getElem hsl⟩
        obtain ⟨bb, bo, hrb, hcs⟩ := HBk.out
        obtain ⟨lbb, e0⟩ := hcs swept x hx
        have hrb' : rb = some ⟨bb, bo, none⟩ := hrb.resolve_left (by omega)
        subst hrb'
        have e1 := (HS.out.tx.bel.cell (p := ⟨bb, bo + swept, none⟩) lbb).trans e0
        have lb2 : bb < W2.heap.size := Nat.lt_of_lt_of_le lbb lwW
        have kk1 : (swept : Int) < (bs.length : Int) := by omega
        have kk0 : (0 : Int) ≤ (swept : Int) := by omega
        clear hcs hrb hx e0
        go_upto_block 4 with fail
        refine sw_all (bk := x) _ _ HWy.out HS.out HI.out HM.out (fun h => ?_)
        apply_assumption
        obtain ⟨g1, g2, g3, g4⟩ := HGx.out
        refine tail_ok _ h.out g3 g4 g1 g2
          (fun hI hL hr => (by
            rename_i T1 gr1 lf1 last1 s1
            have e0 := hr.out
            obtain rfl : last1 = 0 := by omega
            exact HGo.out (steps1 := 0 + 1) (last1 := 0) hI hL))
          (fun hF hr => absurd hr.out (by decide))
      · have kk1 : decide ((swept : Int) < (bs.length : Int)) = false := decide_eq_false (by omega)
        go_upto_block 4 with fail
        refine sw_all (bk := false) _ _ HWy.out HS.out HI.out HM.out (fun h => ?_)
        apply_assumption
        obtain ⟨g1, g2, g3, g4⟩ := HGx.out
        refine tail_ok _ h.out g3 g4 g1 g2
          (fun hI hL hr => (by
            rename_i T1 gr1 lf1 last1 s1
            have e0 := hr.out
            obtain rfl : last1 = 0 := by omega
            exact HGo.out (steps1 := 0 + 1) (last1 := 0) hI hL))
          (fun hF hr => absurd hr.out (by decide))
    · have z1 : decide (r < L) = false := decide_eq_false (by omega)
      have z2 : (S == 0) = false := by simp; omega
      have z3 : decide (S > 0) = true := decide_eq_true (by omega)
      have z4 : (r == 0) = false := by simp; omega
      clear q2 e1 e2 hS hLl
      go_upto_region 36 with fail
      by_cases hsl : swept < bs.length
      · obtain ⟨x, hx⟩ : ∃ x, bs[swept]? = some x := ⟨_, List.getElem?_eq_getElem hsl⟩
        obtain ⟨bb, bo, hrb, hcs⟩ := HBk.out
        obtain ⟨lbb, e0⟩ := hcs swept x hx
        have hrb' : rb = some ⟨bb, bo, none⟩ := hrb.resolve_left (by omega)
        subst hrb'
        have e1 := (HS.out.tx.bel.cell (p := ⟨bb, bo + swept, none⟩) lbb).trans e0
        have lb2 : bb < W2.heap.size := Nat.lt_of_lt_of_le lbb lwW
        have kk1 : (swept : Int) < (bs.length : Int) := by omega
        have kk0 : (0 : Int) ≤ (swept : Int) := by omega
        clear hcs hrb hx e0
        go_upto_block 4 with fail
        refine sw_all (bk := x) _ _ HWy.out HS.out HI.out HM.out (fun h => ?_)
        apply_assumption
        obtain ⟨g1, g2, g3, g4⟩ := HGx.out
        refine tail_ok _ h.out g3 g4 g1 g2
          (fun hI hL hr => (by
            have e0 : S + 1 = ((steps + 1 : Nat) : Int) := by rw [HSS.out.1]; rfl
            rw [e0, hr.out]
            exact HGo.out hI hL))
          (fun hF hr => (by
            have e0 : S + 1 = ((steps + 1 : Nat) : Int) := by rw [HSS.out.1]; rfl
            rw [e0, hr.out]
            exact HBr.out (last1 := 6) hF))
      · have kk1 : decide ((swept : Int) < (bs.length : Int)) = false := decide_eq_false (by omega)
        go_upto_block 4 with fail
        refine sw_all (bk := false) _ _ HWy.out HS.out HI.out HM.out (fun h => ?_)
        apply_assumption
        obtain ⟨g1, g2, g3, g4⟩ := HGx.out
        refine tail_ok _ h.out g3 g4 g1 g2
          (fun hI hL hr => (by
            have e0 : S + 1 = ((steps + 1 : Nat) : Int) := by rw [HSS.out.1]; rfl
            rw [e0, hr.out]
            exact HGo.out hI hL))
          (fun hF hr => (by
            have e0 : S + 1 = ((steps + 1 : Nat) : Int) := by rw [HSS.out.1]; rfl
            rw [e0, hr.out]
            exact HBr.out (last1 := 6) hF))
end Go.Proofs.Ytnohcmfhhoiihaa
