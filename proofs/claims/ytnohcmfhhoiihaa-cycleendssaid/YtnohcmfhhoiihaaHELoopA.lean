/- CycleEnds: the first loop: threads are laid down. -/
import Derived.Test.YtnohcmfhhoiihaaHELoop2
namespace Go.Proofs.Ytnohcmfhhoiihaa
open Go.RowKit

/-- A life that comes in. -/
structure Lf where
  st : Bool
  lt : Int
  bo : Bool
  sh : Int
def LX (w : World) (ra : Option Addr) (l : List Lf) : Prop := ∃ b o, (l.length = 0 ∨ ra = some ⟨b, o, none⟩) ∧ ∀ (j : Nat) (x : Lf), l[j]? = some x → b < w.heap.size ∧ w.cell? ⟨b, o + j * 4, none⟩ = some (.bool x.st) ∧ w.cell? ⟨b, o + j * 4 + 1, none⟩ = some (.int .i64 x.lt) ∧ w.cell? ⟨b, o + j * 4 + 2, none⟩ = some (.bool x.bo) ∧ w.cell? ⟨b, o + j * 4 + 3, none⟩ = some (.int .i64 x.sh) ∧ (-9223372036854775808 ≤ x.lt ∧ x.lt ≤ 9223372036854775807) ∧ (-9223372036854775808 ≤ x.sh ∧ x.sh ≤ 9223372036854775807)
/-- Threads that have just been laid down. -/
def NewT (w W : World) (b n j : Nat) : Prop := ∃ T, T.length = j ∧ OkT T ∧ (∀ t ∈ T, t.tl = false ∧ t.sc = false) ∧ TX w w W b T 0 n
noncomputable def loopA : Code := cR (cL (cR (cR (cR (cR (cR (topE)))))))
set_option maxRecDepth 100000 in
set_option maxHeartbeats 64000000 in
theorem loopA_ok {u0 u1 u3 u4 u5 u6 u7 u8 u9 u10 u11 u14 u15 u16 u17 u18 u19 u20 u21 u22 u23 u24 u25 u26 u27 u28 u29 u30 u31 u32 u33 u34 u35 u36 u37 u38 u39 u40 u41 u42 u43 u44 u45 u46 u47 u48 u49 u50 u51 u52 u53 u54 u55 u56 u57 u58 u59 u60 u61 u62 u63 u64 u65 u66 u67 u68 u69 u70 u71 u72 u73 u74 u75 u76 u77 u78 u79 u80 u81 u82 u83 u84 u85 u86 u87 u88 u89 u90 u91 u92 u93 u94 u95 u96 u97 u98 u99 u100 u101 u102 u103 u104 u105 u106 u107 u108 u109 u110 u111 u112 u113 u114 u115 u116 u117 u118 u119 u120 u121 u122 u123 u124 u125 u126 u127 u128 u129 u130 u131 u132 u133 u134 u135 u136 u137 u138 u139 u140 u141 u142 u143 u144 u145 u146 u147 u148 u149 u150 u151 u152 u153 u154 u155 u156 u157 u158 u159 u160 u161 u162 u163 u164 u165 u166 u167 u168 u169 u170 u171 u172 u173 u174 u175 u176 u177 u178 u179 u180 u181 u182 u183 u184 u185 u186 u187 u188 u189 u190 u191 u192 u193 u194 u195 u196 u197 u198 u199 u200 u201 u202 u203 u204 u205 u206 u207 u208 u209 u210 u211 u212 u213 u214 u215 u216 u217 u218 u219 u220 u221 u222 u223 u224 u225 u226 u227 u228 u229 u230 u231 u232 u233 u234 u235 u236 u237 u238 u239 u240 u241 u242 u243 u244 u245 u246 u247 u248 u249 u250 u251 u252 u253 u254 u255 u256 u257 u258 u259 u260 u261 u262 u263 u264 u265 u266 u267 u268 u269 u270 u271 u272 u273 u274 u275 u276 u277 u278 u279 u280 u281 u282 u283 u284 u285 u286 u287 u288 u289 u290 u291 u292 u293 u294 u295 u296 u297 u298 u299 u300 u301 u302 u303 u304 u305 u306 u307 u308 u309 u310 u311 u312 u313 u314 u315 u316 u317 u318 u319 u320 u321 u322 u323 u324 u325 u326 u327 u328 u329 u330 u331 u332 u333 u334 u335 u336 u337 u338 u339 u340 u341 u342 u343 u344 u345 u346 u347 u348 u349 u350 u351 u352 u353 u354 u355 u356 u357 u358 : Value} {w W0 : World} {b n : Nat} {l : List Lf} {ra : Option Addr} {ca : Nat} (K : Act → World → Prop) (R : Ending → World → Prop) (hA : LX w ra l) (hT : NewT w W0 b n 0)
    (hK : ∀ {v13 v41 v42 v43 v44 v45 v46 v47 v48 v49 v50 v51 v52 v53 v54 v55 v56 v57 v58 v59 v60 v61 v62 v63 v64 v65 v66 v67 v68 v69 v70 v71 v72 v73 v74 v75 v76 v77 v78 v79 v80 v81 v82 v83 v84 v85 v86 v87 v88 v89 v90 v91 v92 v93 v94 v95 v96 : Value} {wx : World}, Hid (∃ T, OkT T ∧ (∀ t ∈ T, t.tl = false ∧ t.sc = false) ∧ TX w w wx b T 0 n) → K ⟨#[u0, u1, .slice ra l.length ca, u3, u4, u5, u6, u7, u8, u9, u10, u11, .pointer (some ⟨b, 0, none⟩), v13, u14, u15, u16, u17, u18, u19, u20, u21, u22, u23, u24, u25, u26, u27, u28, u29, u30, u31, u32, u33, u34, u35, u36, u37, u38, u39, u40, v41, v42, v43, v44, v45, v46, v47, v48, v49, v50, v51, v52, v53, v54, v55, v56, v57, v58, v59, v60, v61, v62, v63, v64, v65, v66, v67, v68, v69, v70, v71, v72, v73, v74, v75, v76, v77, v78, v79, v80, v81, v82, v83, v84, v85, v86, v87, v88, v89, v90, v91, v92, v93, v94, v95, v96, u97, u98, u99, u100, u101, u102, u103, u104, u105, u106, u107, u108, u109, u110, u111, u112, u113, u114, u115, u116, u117, u118, u119, u120, u121, u122, u123, u124, u125, u126, u127, u128, u129, u130, u131, u132, u133, u134, u135, u136, u137, u138, u139, u140, u141, u142, u143, u144, u145, u146, u147, u148, u149, u150, u151, u152, u153, u154, u155, u156, u157, u158, u159, u160, u161, u162, u163, u164, u165, u166, u167, u168, u169, u170, u171, u172, u173, u174, u175, u176, u177, u178, u179, u180, u181, u182, u183, u184, u185, u186, u187, u188, u189, u190, u191, u192, u193, u194, u195, u196, u197, u198, u199, u200, u201, u202, u203, u204, u205, u206, u207, u208, u209, u210, u211, u212, u213, u214, u215, u216, u217, u218, u219, u220, u221, u222, u223, u224, u225, u226, u227, u228, u229, u230, u231, u232, u233, u234, u235, u236, u237, u238, u239, u240, u241, u242, u243, u244, u245, u246, u247, u248, u249, u250, u251, u252, u253, u254, u255, u256, u257, u258, u259, u260, u261, u262, u263, u264, u265, u266, u267, u268, u269, u270, u271, u272, u273, u274, u275, u276, u277, u278, u279, u280, u281, u282, u283, u284, u285, u286, u287, u288, u289, u290, u291, u292, u293, u294, u295, u296, u297, u298, u299, u300, u301, u302, u303, u304, u305, u306, u307, u308, u309, u310, u311, u312, u313, u314, u315, u316, u317, u318, u319, u320, u321, u322, u323, u324, u325, u326, u327, u328, u329, u330, u331, u332, u333, u334, u335, u336, u337, u338, u339, u340, u341, u342, u343, u344, u345, u346, u347, u348, u349, u350, u351, u352, u353, u354, u355, u356, u357, u358], []⟩ wx) :
    loopA.wp Try.prog (Exit.then K (bodyPost Try.prog Try.f5 R)) ⟨#[u0, u1, .slice ra l.length ca, u3, u4, u5, u6, u7, u8, u9, u10, u11, .pointer (some ⟨b, 0, none⟩), .int .i64 0, u14, u15, u16, u17, u18, u19, u20, u21, u22, u23, u24, u25, u26, u27, u28, u29, u30, u31, u32, u33, u34, u35, u36, u37, u38, u39, u40, u41, u42, u43, u44, u45, u46, u47, u48, u49, u50, u51, u52, u53, u54, u55, u56, u57, u58, u59, u60, u61, u62, u63, u64, u65, u66, u67, u68, u69, u70, u71, u72, u73, u74, u75, u76, u77, u78, u79, u80, u81, u82, u83, u84, u85, u86, u87, u88, u89, u90, u91, u92, u93, u94, u95, u96, u97, u98, u99, u100, u101, u102, u103, u104, u105, u106, u107, u108, u109, u110, u111, u112, u113, u114, u115, u116, u117, u118, u119, u120, u121, u122, u123, u124, u125, u126, u127, u128, u129, u130, u131, u132, u133, u134, u135, u136, u137, u138, u139, u140, u141, u142, u143, u144, u145, u146, u147, u148, u149, u150, u151, u152, u153, u154, u155, u156, u157, u158, u159, u160, u161, u162, u163, u164, u165, u166, u167, u168, u169, u170, u171, u172, u173, u174, u175, u176, u177, u178, u179, u180, u181, u182, u183, u184, u185, u186, u187, u188, u189, u190, u191, u192, u193, u194, u195, u196, u197, u198, u199, u200, u201, u202, u203, u204, u205, u206, u207, u208, u209, u210, u211, u212, u213, u214, u215, u216, u217, u218, u219, u220, u221, u222, u223, u224, u225, u226, u227, u228, u229, u230, u231, u232, u233, u234, u235, u236, u237, u238, u239, u240, u241, u242, u243, u244, u245, u246, u247, u248, u249, u250, u251, u252, u253, u254, u255, u256, u257, u258, u259, u260, u261, u262, u263, u264, u265, u266, u267, u268, u269, u270, u271, u272, u273, u274, u275, u276, u277, u278, u279, u280, u281, u282, u283, u284, u285, u286, u287, u288, u289, u290, u291, u292, u293, u294, u295, u296, u297, u298, u299, u300, u301, u302, u303, u304, u305, u306, u307, u308, u309, u310, u311, u312, u313, u314, u315, u316, u317, u318, u319, u320, u321, u322, u323, u324, u325, u326, u327, u328, u329, u330, u331, u332, u333, u334, u335, u336, u337, u338, u339, u340, u341, u342, u343, u344, u345, u346, u347, u348, u349, u350, u351, u352, u353, u354, u355, u356, u357, u358], []⟩ W0 := by
  have HA : Hid (LX w ra l) := hA
  have HT : Hid (NewT w W0 b n 0) := hT
  have HKK : Hid _ := @hK
  clear hA hT hK
  obtain ⟨i0, hi0, hz0, hz1, hz2⟩ := info_parts infoLf
  obtain ⟨i1, hi1, hy0, hy1, hy2⟩ := info_parts infoB
  obtain ⟨i2, hi2, hx0, hx1, hx2⟩ := info_parts infoI
  have hmx : Try.prog.follows .mixedOrders = true := by kernel_rfl
  unfold loopA topE
  simp only [Try.f5, Option.getD, cL, cR]
  go_wp2_with fail
  go_loopw [13] (fun i wr => ∃ j : Nat, i = .int .i64 j ∧ j ≤ l.length ∧ j ≤ 8 ∧ Hid (NewT w wr b n j)) (fun i _ => l.length - (intOf i).toNat)
  case atStart => exact ⟨0, rfl, Nat.zero_le _, Nat.zero_le _, HT⟩
  case round =>
    clear HT
    obtain ⟨j, rfl, hj, hj8, HT⟩ := hrel
    by_cases hlt : j < l.length ∧ j < 8
    · obtain ⟨hlt1, hlt2⟩ := hlt
      have kk1 : (j : Int) < (l.length : Int) := by omega
      have kk2 : (j : Int) < 8 := by omega
      have kk0 : (0 : Int) ≤ (j : Int) := by omega
      obtain ⟨x, hx⟩ : ∃ x, l[j]? = some x := ⟨_, List.getElem?_eq_getElem hlt1⟩
      obtain ⟨lb, lo, hra, hcs⟩ := HA.out
      obtain ⟨ll, e0, e1, e2, e3, hlt', hsh⟩ := hcs j x hx
      have hra' : ra = some ⟨lb, lo, none⟩ := hra.resolve_left (by omega)
      subst hra'
      obtain ⟨T, hTj, hok, hnew, ⟨vl, vs, vt, va⟩, hwx⟩ := HT.out
      obtain ⟨p, hp, hq⟩ := pick_fix x.lt 4 hlt' (by omega) (by omega)
      have HP : Hid (∀ w : World, Calls Try.prog 15 #[.int .i64 x.lt, .int .i64 4] w fun e w' => e = .returned (.int .i64 p) ∧ w' = w) := hq
      have HNT : Hid (OkT (T ++ [⟨x.st, x.lt, x.bo, x.sh, false, false, p⟩]) ∧ (∀ t ∈ T ++ [⟨x.st, x.lt, x.bo, x.sh, false, false, p⟩], t.tl = false ∧ t.sc = false)) := by
        refine ⟨hok.app (by omega) ⟨(by dsimp only; omega), fun h => (by cases h), hsh⟩, fun t ht => ?_⟩
        rcases List.mem_append.1 ht with h | h
        · exact hnew t h
        · have e : t = _ := List.mem_singleton.1 h
          subst e
          exact ⟨rfl, rfl⟩
      subst hTj
      obtain ⟨rl, cl, hvl⟩ := own_sl hwx.l
      obtain ⟨rs, cs, hvs⟩ := own_sl hwx.s
      obtain ⟨rt, ct, hvt⟩ := own_sl hwx.t
      obtain ⟨rv, cv, hva⟩ := own_sl hwx.a
      dsimp only [rows] at hvs hvt hvl hva
      subst hvs hvt hvl hva
      have HX1 : Hid (WX w w wr b ⟨(.slice rl T.length cl), (.slice rs T.length cs), (.slice rt T.length ct), (.slice rv T.length cv)⟩ ⟨T.length, lf4 T, T.length, T.map (fun t => Value.bool t.sc), T.length, T.map (fun t => Value.bool t.tl), T.length, T.map (fun t => Value.int .i64 (t.la : Int))⟩ ((0 : Nat) : Int) n) := hwx
      have bc := fun q => HX1.out.bel.cell (p := ⟨lb, q, none⟩) ll
      have HE : Hid (∀ W : World, Below w.heap.size w W → lb < W.heap.size ∧ W.cell? ⟨lb, lo + T.length * 4, none⟩ = some (.bool x.st) ∧ W.cell? ⟨lb, lo + T.length * 4 + 1, none⟩ = some (.int .i64 x.lt) ∧ W.cell? ⟨lb, lo + T.length * 4 + 2, none⟩ = some (.bool x.bo) ∧ W.cell? ⟨lb, lo + T.length * 4 + 3, none⟩ = some (.int .i64 x.sh)) := fun W hb => ⟨Nat.lt_of_lt_of_le ll hb.size, (hb.cell (p := ⟨lb, _, none⟩) ll).trans e0, (hb.cell (p := ⟨lb, _, none⟩) ll).trans e1, (hb.cell (p := ⟨lb, _, none⟩) ll).trans e2, (hb.cell (p := ⟨lb, _, none⟩) ll).trans e3⟩
      clear hwx hra hcs e0 e1 e2 e3 hx hq hok hnew HT bc ll hsh hlt'
      obtain ⟨ll, e0, e1, e2, e3⟩ := HE.out wr HX1.out.bel
      obtain ⟨s2, s3, lw⟩ := HX1.out.cellF 0 _ rfl
      have hnb : (Value.ownBlock (.slice rl T.length cl)) ≠ some b := fun e => own_ty HX1.out.l HX1.out.bl (by decide) e
      have hbs : w.heap.size ≤ wr.heap.size := HX1.out.bel.size
      go_upto_region 8 with fail
      go_cut [13] from 41 to 96 (fun v13 wx => v13 = .int .i64 T.length ∧ Hid (∃ gq kq, WX w w wx b ⟨(.slice (some ⟨gq, 0, none⟩) (T.length + 1) kq), (.slice rs T.length cs), (.slice rt T.length ct), (.slice rv T.length cv)⟩ ⟨(T.length + 1), lf4 T ++ [.bool x.st, .int .i64 x.lt, .bool x.bo, .int .i64 x.sh], T.length, T.map (fun t => Value.bool t.sc), T.length, T.map (fun t => Value.bool t.tl), T.length, T.map (fun t => Value.int .i64 (t.la : Int))⟩ ((0 : Nat) : Int) n))
      case first =>
        go_region_law (refine step_append_lies _ rfl _ _ 39 rfl w.heap.size 47 i0 (.agg #[.bool false, .int .i64 0, .bool false, .int .i64 0]) 4 32 Try.underlying39 hi0 hz0 hz1 hz2 rfl (by decide) (.slice rl T.length cl) T.length (lf4 T) rfl (World.ownsRow.alloc (w := wr.drew) HX1.out.drew.l _) ⟨_, 0, none⟩ 1 1 [.bool x.st, .int .i64 x.lt, .bool x.bo, .int .i64 x.sh] rfl rfl (World.news_of_block (cs := #[.bool x.st, .int .i64 x.lt, .bool x.bo, .int .i64 x.sh]) (heap_alloc_new wr.drew _)) (by intro u hu; simp at hu; rcases hu with rfl | rfl | rfl | rfl <;> rfl) (by omega) (by unfold maxLen; omega) (by omega) (by show w.heap.size ≤ (wr.alloc _).heap.size; rw [World.size_alloc]; omega) _ rfl ?_; intro g7 k7 w7 hown7 hgr7 hat7 hlt7; obtain ⟨c7, z7, l7⟩ := grow_fact (W := wr.drew) hgr7 hnb ⟨s2, s3, lw⟩)
        all_goals
          have HX7 : Hid (∃ gq kq, WX w w (w7.setCell ⟨b, 0, none⟩ (.slice (some ⟨g7, 0, none⟩) (T.length + 1) k7)) b ⟨(.slice (some ⟨gq, 0, none⟩) (T.length + 1) kq), (.slice rs T.length cs), (.slice rt T.length ct), (.slice rv T.length cv)⟩ ⟨(T.length + 1), lf4 T ++ [.bool x.st, .int .i64 x.lt, .bool x.bo, .int .i64 x.sh], T.length, T.map (fun t => Value.bool t.sc), T.length, T.map (fun t => Value.bool t.tl), T.length, T.map (fun t => Value.int .i64 (t.la : Int))⟩ ((0 : Nat) : Int) n) := ⟨g7, k7, (HX1.out.drew.alloc _).growL hgr7 hown7⟩
          clear hown7 hgr7 hat7 hlt7 HX1 s2 s3 hnb lw ll hbs e0 e1 e2 e3
          go_wp2
          go_meet
          exact ⟨rfl, HX7⟩
      case rest =>
        obtain ⟨rfl, HXc⟩ := hcut
        obtain ⟨g7, k7, hX7⟩ := HXc.out
        have HX7 : Hid (WX w w wc b ⟨(.slice (some ⟨g7, 0, none⟩) (T.length + 1) k7), (.slice rs T.length cs), (.slice rt T.length ct), (.slice rv T.length cv)⟩ ⟨(T.length + 1), lf4 T ++ [.bool x.st, .int .i64 x.lt, .bool x.bo, .int .i64 x.sh], T.length, T.map (fun t => Value.bool t.sc), T.length, T.map (fun t => Value.bool t.tl), T.length, T.map (fun t => Value.int .i64 (t.la : Int))⟩ ((0 : Nat) : Int) n) := hX7
        clear HX1 s2 s3 hnb lw ll hbs e0 e1 e2 e3 HXc hX7
        go_upto_region 9 with fail
        obtain ⟨W7, hW7⟩ : ∃ W7, W7 = wc := ⟨_, rfl⟩
        rw [← hW7] at HX7 ⊢
        clear hW7
        obtain ⟨s2, s3, lw⟩ := HX7.out.cellF 1 _ rfl
        have hnb : (Value.ownBlock (.slice rs T.length cs)) ≠ some b := fun e => own_ty HX7.out.s HX7.out.bl (by decide) e
        have hbs : w.heap.size ≤ W7.heap.size := HX7.out.bel.size
        go_wp2_with (at_builtin; refine stop_of ?_)
        unfold Hid
        refine wpList_append_lies _ rfl _ _ 40 rfl w.heap.size 4 i1 (.bool false) 1 1 Try.underlying40 hi1 hy0 hy1 hy2 rfl (by decide) (.slice rs T.length cs) T.length (T.map (fun t => Value.bool t.sc)) rfl (HX7.out.s.alloc _) ⟨W7.heap.size, 0, none⟩ 1 1 [.bool false] rfl rfl (World.news_of_block (cs := #[.bool false]) (heap_alloc_new W7 _)) (by intro u hu; simp at hu; subst hu; rfl) (by omega) (by unfold maxLen; omega) (by omega) (by rw [World.size_alloc]; omega) _ rfl ?_
        intro g8 k8 w8 hown hgr hat _
        obtain ⟨c7, z7, l7⟩ := grow_fact hgr hnb ⟨s2, s3, lw⟩
        have HX8 : Hid (WX w w (w8.setCell ⟨b, 1, none⟩ (.slice (some ⟨g8, 0, none⟩) (T.length + 1) k8)) b ⟨(.slice (some ⟨g7, 0, none⟩) (T.length + 1) k7), (.slice (some ⟨g8, 0, none⟩) (T.length + 1) k8), (.slice rt T.length ct), (.slice rv T.length cv)⟩ ⟨(T.length + 1), lf4 T ++ [.bool x.st, .int .i64 x.lt, .bool x.bo, .int .i64 x.sh], (T.length + 1), T.map (fun t => Value.bool t.sc) ++ [.bool false], T.length, T.map (fun t => Value.bool t.tl), T.length, T.map (fun t => Value.int .i64 (t.la : Int))⟩ ((0 : Nat) : Int) n) := (HX7.out.alloc _).growS hgr hown (own_or hat)
        clear hown hgr hat HX7 s2 s3 lw hnb hbs
        go_upto_region 10 with fail
        generalize w8.setCell ⟨b, 1, none⟩ (.slice (some ⟨g8, 0, none⟩) (T.length + 1) k8) = W8 at HX8 ⊢
        clear c7 z7 l7
        obtain ⟨s2, s3, lw⟩ := HX8.out.cellF 2 _ rfl
        have hnb : (Value.ownBlock (.slice rt T.length ct)) ≠ some b := fun e => own_ty HX8.out.t HX8.out.bl (by decide) e
        have hbs : w.heap.size ≤ W8.heap.size := HX8.out.bel.size
        go_wp2_with (at_builtin; refine stop_of ?_)
        unfold Hid
        refine wpList_append_lies _ rfl _ _ 40 rfl w.heap.size 4 i1 (.bool false) 1 1 Try.underlying40 hi1 hy0 hy1 hy2 rfl (by decide) (.slice rt T.length ct) T.length (T.map (fun t => Value.bool t.tl)) rfl (HX8.out.t.alloc _) ⟨W8.heap.size, 0, none⟩ 1 1 [.bool false] rfl rfl (World.news_of_block (cs := #[.bool false]) (heap_alloc_new W8 _)) (by intro u hu; simp at hu; subst hu; rfl) (by omega) (by unfold maxLen; omega) (by omega) (by rw [World.size_alloc]; omega) _ rfl ?_
        intro g9 k9 w9 hown hgr hat _
        obtain ⟨c7, z7, l7⟩ := grow_fact hgr hnb ⟨s2, s3, lw⟩
        have HX9 : Hid (WX w w (w9.setCell ⟨b, 2, none⟩ (.slice (some ⟨g9, 0, none⟩) (T.length + 1) k9)) b ⟨(.slice (some ⟨g7, 0, none⟩) (T.length + 1) k7), (.slice (some ⟨g8, 0, none⟩) (T.length + 1) k8), (.slice (some ⟨g9, 0, none⟩) (T.length + 1) k9), (.slice rv T.length cv)⟩ ⟨(T.length + 1), lf4 T ++ [.bool x.st, .int .i64 x.lt, .bool x.bo, .int .i64 x.sh], (T.length + 1), T.map (fun t => Value.bool t.sc) ++ [.bool false], (T.length + 1), T.map (fun t => Value.bool t.tl) ++ [.bool false], T.length, T.map (fun t => Value.int .i64 (t.la : Int))⟩ ((0 : Nat) : Int) n) := (HX8.out.alloc _).growT hgr hown (own_or hat)
        clear hown hgr hat HX8 s2 s3 lw hnb hbs
        go_upto_region 11 with fail
        generalize w9.setCell ⟨b, 2, none⟩ (.slice (some ⟨g9, 0, none⟩) (T.length + 1) k9) = W9 at HX9 ⊢
        clear c7 z7 l7
        obtain ⟨ll, e0, e1, e2, e3⟩ := HE.out W9 HX9.out.bel
        obtain ⟨s2, s3, lw⟩ := HX9.out.cellF 3 _ rfl
        have hnb : (Value.ownBlock (.slice rv T.length cv)) ≠ some b := fun e => own_ty HX9.out.a HX9.out.bl (by decide) e
        have hbs : w.heap.size ≤ W9.heap.size := HX9.out.bel.size
        clear e0 e2 e3
        go_region_law (first | (go_simp; go_at_call 15; refine (HP.out _).mono ?_; rintro e wp ⟨rfl, rfl⟩) | (refine step_append_lies _ rfl _ _ 43 rfl w.heap.size 3 i2 (.int .i64 0) 1 8 Try.underlying43 hi2 hx0 hx1 hx2 rfl (by decide) (.slice rv T.length cv) T.length _ rfl (World.ownsRow.alloc (w := W9.drew) HX9.out.drew.a _) ⟨_, 0, none⟩ 1 1 [.int .i64 p] rfl rfl (World.news_of_block (cs := #[.int .i64 p]) (heap_alloc_new W9.drew _)) (by intro u hu; simp at hu; subst hu; rfl) (by omega) (by unfold maxLen; omega) (by omega) (by show w.heap.size ≤ (W9.alloc _).heap.size; rw [World.size_alloc]; omega) _ rfl ?_; intro g10 k10 w10 hown10 hgr10 hat10 hlt10; obtain ⟨c7, z7, l7⟩ := grow_fact (W := W9.drew) hgr10 hnb ⟨s2, s3, lw⟩))
        all_goals
          have HX10 : Hid (WX w w (w10.setCell ⟨b, 3, none⟩ (.slice (some ⟨g10, 0, none⟩) (T.length + 1) k10)) b ⟨(.slice (some ⟨g7, 0, none⟩) (T.length + 1) k7), (.slice (some ⟨g8, 0, none⟩) (T.length + 1) k8), (.slice (some ⟨g9, 0, none⟩) (T.length + 1) k9), (.slice (some ⟨g10, 0, none⟩) (T.length + 1) k10)⟩ ⟨(T.length + 1), lf4 T ++ [.bool x.st, .int .i64 x.lt, .bool x.bo, .int .i64 x.sh], (T.length + 1), T.map (fun t => Value.bool t.sc) ++ [.bool false], (T.length + 1), T.map (fun t => Value.bool t.tl) ++ [.bool false], (T.length + 1), T.map (fun t => Value.int .i64 (t.la : Int)) ++ [.int .i64 p]⟩ ((0 : Nat) : Int) n) := (HX9.out.drew.alloc _).growA hgr10 hown10
          clear hown10 hgr10 hat10 hlt10 HX9 s2 s3 hnb lw ll hbs e1
          have HTn : Hid (NewT w (w10.setCell ⟨b, 3, none⟩ (.slice (some ⟨g10, 0, none⟩) (T.length + 1) k10)) b n (T.length + 1)) := by
            refine ⟨T ++ [⟨x.st, x.lt, x.bo, x.sh, false, false, p⟩], by simp, HNT.out.1, HNT.out.2, ⟨(.slice (some ⟨g7, 0, none⟩) (T.length + 1) k7), (.slice (some ⟨g8, 0, none⟩) (T.length + 1) k8), (.slice (some ⟨g9, 0, none⟩) (T.length + 1) k9), (.slice (some ⟨g10, 0, none⟩) (T.length + 1) k10)⟩, ?_⟩
            rw [rows_app]
            exact HX10.out
          go_wp2
          go_roundw
          case rel => exact ⟨T.length + 1, by go_num, by omega, by omega, HTn⟩
          case measure => simp [intOf]; omega
    · have kk : (j : Int) < (l.length : Int) ∧ (8 : Int) ≤ (j : Int) ∨ (l.length : Int) ≤ (j : Int) := by omega
      have HTe : Hid (∃ T, OkT T ∧ (∀ t ∈ T, t.tl = false ∧ t.sc = false) ∧ TX w w wr b T 0 n) := by
        obtain ⟨T, h1, h2, h3, h4⟩ := HT.out
        exact ⟨T, h2, h3, h4⟩
      rcases kk with ⟨kk1, kk2⟩ | kk1
      · have kk3 : decide ((j : Int) < 8) = false := decide_eq_false (by omega)
        clear kk2
        go_wp2
        all_goals exact HKK.out HTe
      · have kk3 : decide ((j : Int) < (l.length : Int)) = false := decide_eq_false (by omega)
        clear kk1
        go_wp2
        all_goals exact HKK.out HTe
end Go.Proofs.Ytnohcmfhhoiihaa
