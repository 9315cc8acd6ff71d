/- The walk of LexTokens, first part: its loops. -/
import Derived.Test.YtfdpbmbafpieoaaDoorRangeAll
import Derived.Test.YtfdpbmbafpieoaaDoorBookPut
import Derived.Test.YtfdpbmbafpieoaaDoorNeq
import Derived.Test.YtfdpbmbafpieoaaDoorWorks
import Derived.Test.YtfdpbmbafpieoaaDoorQuietR
namespace Go.Proofs.YtfdpbmbafpieoaaDoor
open Go.RowKit Go.Shelf

attribute [local go_sem] Oper.semAt_some

def cL : Code → Code | .seq x _ => x | c => c
def cR : Code → Code | .seq _ y => y | c => c
def cB : Code → Code | .block _ c => c | c => c
def cLp : Code → Code | .loop c => c | c => c
def cTh : Code → Code | .cond _ x _ => x | c => c
def cRb : Code → Code | .rangeFunc _ _ _ x => x | c => c
noncomputable def top4 : Code := Tryd.f4.body.getD .skip
noncomputable def loop4 : Code := cLp (cB (cR (cL (cR (cR (cR (cR (cR (cR (cR (cR top4)))))))))))
noncomputable def pass4 : Code := cB (cL (cR loop4))
def cRa : Code → Code | .rangeFunc _ _ x _ => x | c => c
noncomputable def range1 : Code := cB (cR (cL (cR (cR (cR (cR (cR pass4)))))))
noncomputable def body1 : Code := cRb range1
noncomputable def range2 : Code := cB (cR (cL (cR (cTh (cR (cR (cB body1)))))))
noncomputable def body2 : Code := cRb range2
noncomputable def range3 : Code := cB (cR (cR (cR (cR (cR (cR (cR (cR (cR (cR pass4))))))))))
noncomputable def body3 : Code := cRb range3
theorem range1_eq : range1 = .rangeFunc (.tmp 72) #[73] (cRa range1) body1 := by kernel_rfl
theorem range2_eq : range2 = .rangeFunc (.tmp 81) #[82] (cRa range2) body2 := by kernel_rfl
theorem range3_eq : range3 = .rangeFunc (.tmp 106) #[107] (cRa range3) body3 := by kernel_rfl

theorem kp5_below {n₀ B : Nat} {A C : World} (hn : n₀ ≤ A.heap.size) (h : Below A.heap.size A C) : Kp5 n₀ B A C :=
  ⟨kp4_below hn h, (KeepsOthers.of_below h).from _, fun k _ hk => (h.block k (Array.getElem?_eq_some_iff.1 hk).1).trans hk⟩
theorem kp5_set {n₀ B b : Nat} {t : TypeId} {W : World} {v : Value} (h : Boxed W b t v) (hn : n₀ ≤ b) (h9 : t ≠ 9) (h56 : t ≠ 56) (h67 : t ≠ 67) (u : Value) : Kp5 n₀ B W (W.setCell ⟨b, 0, none⟩ u) := by
  have key : ∀ (j : Nat) (cs : Array Value) (t' : TypeId), t ≠ t' → W.heap[j]? = some (.cells cs t' (0, 0)) → (W.setCell ⟨b, 0, none⟩ u).heap[j]? = some (.cells cs t' (0, 0)) := fun j cs t' ht hj => by
    rw [Below.heap_setCell _ _ _ _ (by rintro rfl; rw [show W.heap[_]? = _ from h] at hj; cases hj; exact ht rfl)]
    exact hj
  exact ⟨⟨(Below.refl _ _).setCell (p := ⟨b, 0, none⟩) hn u, fun j cs hj => key j cs 9 h9 hj, fun j cs hj _ => key j cs 56 h56 hj⟩, (KeepsOthers.setCell _ _ _).from _, fun j cs hj => key j cs 67 h67 hj⟩
theorem kp5_drew {n₀ B : Nat} {W W' : World} (h : Kp5 n₀ B W W') : Kp5 n₀ B W W'.drew := ⟨⟨h.1.1.drew, h.1.2.1, h.1.2.2⟩, h.2.1.trans ((KeepsOthers.drew _).from _), h.2.2⟩

/-- A counting loop's own block. -/
def I2 (bk Sz : Nat) (w₁ : World) (pre : List (Tok × Int)) (W : World) : Prop := Boxed W bk 3 (.int .i64 pre.length) ∧ Below Sz w₁ W
/-- How it may leave. -/
def Ix3 (xs : List (Tok × Int)) (Sz : Nat) (w₁ : World) (c : Code) (pre : List (Tok × Int)) (W : World) : Prop := (c = .ret ∧ ¬ pre <+: xs) ∨ (c = .exit 6 ∧ Below Sz w₁ W)

theorem not_prefix {pre xs : List (Tok × Int)} {x y : Tok × Int} (hy : xs[pre.length]? = some y) (h : ¬ x.1 = y.1) : ¬ pre ++ [x] <+: xs := by
  rintro ⟨r, rfl⟩
  rw [List.append_assoc, List.getElem?_append_right (Nat.le_refl _), Nat.sub_self] at hy
  simp at hy
  exact h (by rw [hy])
theorem not_prefix_len {pre xs : List (Tok × Int)} {x : Tok × Int} (h : ¬ pre.length < xs.length) : ¬ pre ++ [x] <+: xs := fun hp => by
  have := hp.length_le; simp at this; omega

set_option maxRecDepth 100000 in
set_option maxHeartbeats 2000000 in
theorem body2_ok {u0 u1 u2 u3 u5 u6 u7 u8 u10 u11 u12 u13 u14 u15 u16 u17 u18 u21 u22 u23 u24 u25 u26 u27 u28 u29 u30 u31 u32 u33 u34 u35 u36 u37 u38 u39 u40 u41 u42 u43 u44 u45 u46 u47 u48 u49 u50 u51 u52 u53 u54 u55 u56 u57 u58 u59 u60 u61 u62 u63 u64 u65 u66 u67 u68 u69 u70 u71 u72 u73 u74 u75 u76 u77 u78 u79 u80 u81 u82 u83 u84 u85 u86 u87 u88 u89 u90 u91 u92 u93 u94 u95 u96 u97 u98 u99 u100 u101 u102 u103 u104 u105 u106 u107 u108 u109 u110 u111 u112 u113 u114 u115 u116 u117 u118 u119 u120 u121 u122 u123 u124 u125 u126 u127 u128 u129 u130 : Value} (m l n₀ B Sz br b9 bk Bx K cap : Nat) (ra : Option Addr) (xs pre : List (Tok × Int)) (x : Tok × Int) (w₁ W : World) (hnr : n₀ ≤ br) (hnk : n₀ ≤ bk) (hSk : Sz ≤ bk) (hK : xs.length = K) (hpm : pre.length ≤ 1000000)
    (hk : Boxed W bk 3 (.int .i64 pre.length)) (hB : Below Sz w₁ W) (h9 : Boxed W b9 25 (.slice ra K cap)) (hr : Boxed W br 4 (.bool false)) (hTS : TS W ra xs)
    (hx : W.heap[Bx]? = some (.cells #[.int .u8 x.1.kind, S x.1.text, .int .i64 x.1.n, .int .i64 x.1.pos] 56 (0, 0))) :
    body2.wpIn (Fence.wide.inRound l) m Tryd.prog (PostA n₀ B (I2 bk Sz w₁) (fun _ pre _ => ¬ pre <+: xs) (pre ++ [x]) W) ⟨#[u0, u1, u2, u3, .pointer (some ⟨br, 0, none⟩), u5, u6, u7, u8, .pointer (some ⟨b9, 0, none⟩), u10, u11, u12, u13, u14, u15, u16, u17, u18, .pointer (some ⟨bk, 0, none⟩), .pointer (some ⟨Bx, 0, none⟩), u21, u22, u23, u24, u25, u26, u27, u28, u29, u30, u31, u32, u33, u34, u35, u36, u37, u38, u39, u40, u41, u42, u43, u44, u45, u46, u47, u48, u49, u50, u51, u52, u53, u54, u55, u56, u57, u58, u59, u60, u61, u62, u63, u64, u65, u66, u67, u68, u69, u70, u71, u72, u73, u74, u75, u76, u77, u78, u79, u80, u81, u82, u83, u84, u85, u86, u87, u88, u89, u90, u91, u92, u93, u94, u95, u96, u97, u98, u99, u100, u101, u102, u103, u104, u105, u106, u107, u108, u109, u110, u111, u112, u113, u114, u115, u116, u117, u118, u119, u120, u121, u122, u123, u124, u125, u126, u127, u128, u129, u130], []⟩ W := by
  have hx0 : W.cell? ⟨Bx, 0, none⟩ = some (.int .u8 x.1.kind) := by simp [World.cell?, hx]
  have hx1 : W.cell? ⟨Bx, 1, none⟩ = some (S x.1.text) := by simp [World.cell?, hx]
  have hx2 : W.cell? ⟨Bx, 2, none⟩ = some (.int .i64 x.1.n) := by simp [World.cell?, hx]
  have hx3 : W.cell? ⟨Bx, 3, none⟩ = some (.int .i64 x.1.pos) := by simp [World.cell?, hx]
  have ck := hk.cell
  have fk := hk.frozen
  have c9 := h9.cell
  have cr := hr.cell
  have fr := hr.frozen
  have hlk := hk.lt
  have HX : Hid _ := hx
  have HK : Hid (Boxed W bk 3 (.int .i64 pre.length)) := hk
  have HR : Hid (Boxed W br 4 (.bool false)) := hr
  have HTS : Hid (TS W ra xs) := hTS
  have HxK : Hid _ := hK
  have HB : Hid _ := hB
  clear hx hk h9 hr hTS hK hB
  have hmx : Tryd.prog.follows .mixedOrders = true := by kernel_rfl
  by_cases hlt : pre.length < K
  · obtain ⟨y, hy⟩ : ∃ y, xs[pre.length]? = some y := ⟨_, List.getElem?_eq_getElem (by rw [HxK.out]; exact hlt)⟩
    obtain ⟨g, rfl, hg, y0, y1, y2, y3⟩ := HTS.out pre.length y hy
    have d2 : decide (K ≤ pre.length) = false := decide_eq_false (by omega)
    by_cases e : x.1 = y.1
    · have hq : ∀ wx, (binOp .neq 56 (.agg #[.int .u8 x.1.kind, S x.1.text, .int .i64 x.1.n, .int .i64 x.1.pos]) (.agg #[.int .u8 y.1.kind, S y.1.text, .int .i64 y.1.n, .int .i64 y.1.pos])).run Tryd.prog wx = .ok (.bool false) wx := fun wx => by rw [e]; exact neqTok_same _ _ _ _ wx
      clear e hy
      unfold body2 range2 body1 range1 pass4 loop4 top4; simp only [Tryd.f4, Option.getD, cL, cR, cB, cLp, cTh, cRb]
      gi_wp2_with fail
      refine wpIn_region_quietR rfl (by kernel_rfl) (by kernel_rfl) ?_
      repeat (gi_big_quiet_step (fail))
      refine wpQuietIn_nil ?_
      intro _ hw'
      obtain ⟨nq, hw''⟩ := hw'
      subst hw''
      have hD : Below W.heap.size W (W.drewN nq) := ⟨rfl, rfl, rfl, Nat.le_refl _, fun _ _ => rfl⟩
      have ck2 : (W.drewN nq).cell? ⟨bk, 0, none⟩ = some (.int .i64 pre.length) := ck
      have fk2 : (W.drewN nq).frozen? ⟨bk, 0, none⟩ = false := fk
      have cr2 : (W.drewN nq).cell? ⟨br, 0, none⟩ = some (.bool false) := cr
      have fr2 : (W.drewN nq).frozen? ⟨br, 0, none⟩ = false := fr
      have HK2 : Hid (Boxed (W.drewN nq) bk 3 (.int .i64 pre.length)) := HK.out
      have HR2 : Hid (Boxed (W.drewN nq) br 4 (.bool false)) := HR.out
      
      obtain ⟨W2, hW2⟩ : ∃ W2, W.drewN nq = W2 := ⟨_, rfl⟩
      rw [hW2] at hD ck2 fk2 cr2 fr2 HK2 HR2 ⊢
      clear hW2
      gi_wp2
      refine ⟨kp5_t (kp5_below (by omega) hD) (kp5_set HK2.out hnk (by decide) (by decide) (by decide) _), ?_, (HB.out.trans (hD.mono (by omega))).setCell (p := ⟨bk, 0, none⟩) hSk _⟩
      rw [List.length_append]
      exact HK2.out.set _
    · have hnp : ¬ pre ++ [x] <+: xs := not_prefix hy e
      have hq := neqTok_ne x.1 y.1 e
      have Hnp : Hid _ := hnp
      clear hnp e hy
      unfold body2 range2 body1 range1 pass4 loop4 top4; simp only [Tryd.f4, Option.getD, cL, cR, cB, cLp, cTh, cRb]
      gi_wp2_with fail
      refine wpIn_region_quietR rfl (by kernel_rfl) (by kernel_rfl) ?_
      repeat (gi_big_quiet_step (fail))
      refine wpQuietIn_nil ?_
      intro _ hw'
      obtain ⟨nq, hw''⟩ := hw'
      subst hw''
      have hD : Below W.heap.size W (W.drewN nq) := ⟨rfl, rfl, rfl, Nat.le_refl _, fun _ _ => rfl⟩
      have ck2 : (W.drewN nq).cell? ⟨bk, 0, none⟩ = some (.int .i64 pre.length) := ck
      have fk2 : (W.drewN nq).frozen? ⟨bk, 0, none⟩ = false := fk
      have cr2 : (W.drewN nq).cell? ⟨br, 0, none⟩ = some (.bool false) := cr
      have fr2 : (W.drewN nq).frozen? ⟨br, 0, none⟩ = false := fr
      have HK2 : Hid (Boxed (W.drewN nq) bk 3 (.int .i64 pre.length)) := HK.out
      have HR2 : Hid (Boxed (W.drewN nq) br 4 (.bool false)) := HR.out
      
      obtain ⟨W2, hW2⟩ : ∃ W2, W.drewN nq = W2 := ⟨_, rfl⟩
      rw [hW2] at hD ck2 fk2 cr2 fr2 HK2 HR2 ⊢
      clear hW2
      gi_wp2
      exact ⟨kp5_t (kp5_below (by omega) hD) (kp5_set HR2.out hnr (by decide) (by decide) (by decide) _), Hnp.out⟩
  · have Hnp : Hid (¬ pre ++ [x] <+: xs) := not_prefix_len (by rw [HxK.out]; exact hlt)
    have d2 : decide (K ≤ pre.length) = true := decide_eq_true (by omega)
    unfold body2 range2 body1 range1 pass4 loop4 top4; simp only [Tryd.f4, Option.getD, cL, cR, cB, cLp, cTh, cRb]
    gi_wp2_with fail
    refine wpIn_region_quietR rfl (by kernel_rfl) (by kernel_rfl) ?_
    repeat (gi_big_quiet_step (fail))
    refine wpQuietIn_nil ?_
    intro _ hw'
    obtain ⟨nq, hw''⟩ := hw'
    subst hw''
    have hD : Below W.heap.size W (W.drewN nq) := ⟨rfl, rfl, rfl, Nat.le_refl _, fun _ _ => rfl⟩
    have ck2 : (W.drewN nq).cell? ⟨bk, 0, none⟩ = some (.int .i64 pre.length) := ck
    have fk2 : (W.drewN nq).frozen? ⟨bk, 0, none⟩ = false := fk
    have cr2 : (W.drewN nq).cell? ⟨br, 0, none⟩ = some (.bool false) := cr
    have fr2 : (W.drewN nq).frozen? ⟨br, 0, none⟩ = false := fr
    have HK2 : Hid (Boxed (W.drewN nq) bk 3 (.int .i64 pre.length)) := HK.out
    have HR2 : Hid (Boxed (W.drewN nq) br 4 (.bool false)) := HR.out
    
    obtain ⟨W2, hW2⟩ : ∃ W2, W.drewN nq = W2 := ⟨_, rfl⟩
    rw [hW2] at hD ck2 fk2 cr2 fr2 HK2 HR2 ⊢
    clear hW2
    gi_wp2
    exact ⟨kp5_t (kp5_below (by omega) hD) (kp5_set HR2.out hnr (by decide) (by decide) (by decide) _), Hnp.out⟩

set_option maxRecDepth 100000 in
set_option maxHeartbeats 2000000 in
theorem body3_ok {u0 u1 u2 u5 u6 u7 u8 u10 u11 u12 u13 u14 u15 u16 u17 u18 u19 u20 u21 u24 u25 u26 u27 u28 u29 u30 u31 u32 u33 u34 u35 u36 u37 u38 u39 u40 u41 u42 u43 u44 u45 u46 u47 u48 u49 u50 u51 u52 u53 u54 u55 u56 u57 u58 u59 u60 u61 u62 u63 u64 u65 u66 u67 u68 u69 u70 u71 u72 u73 u74 u75 u76 u77 u78 u79 u80 u81 u82 u83 u84 u85 u86 u87 u88 u89 u90 u91 u92 u93 u94 u95 u96 u97 u98 u99 u100 u101 u102 u103 u104 u105 u106 u107 u108 u109 u110 u111 u112 u113 u114 u115 u116 u117 u118 u119 u120 u121 u122 u123 u124 u125 u126 u127 u128 u129 u130 : Value} (m l n₀ B Sz br b9 bk Bx K cap : Nat) (ra : Option Addr) (xs pre : List (Tok × Int)) (x : Tok × Int) (w₁ W : World) (hnr : n₀ ≤ br) (hnk : n₀ ≤ bk) (hSk : Sz ≤ bk) (hK : xs.length = K) (hpm : pre.length ≤ 1000000)
    (hk : Boxed W bk 3 (.int .i64 pre.length)) (hB : Below Sz w₁ W) (h9 : Boxed W b9 25 (.slice ra K cap)) (hr : Boxed W br 4 (.bool false)) (hTS : TS W ra xs)
    (hx : W.heap[Bx]? = some (.cells #[.int .u8 x.1.kind, S x.1.text, .int .i64 x.1.n, .int .i64 x.1.pos] 56 (0, 0))) (bm : Nat) (most : Int) (hm : Boxed W bm 3 (.int .i64 most)) (hbm : bm < bk) :
    body3.wpIn (Fence.wide.inRound l) m Tryd.prog (PostA n₀ B (I2 bk Sz w₁) (Ix3 xs Sz w₁) (pre ++ [x]) W) ⟨#[u0, u1, u2, .pointer (some ⟨bm, 0, none⟩), .pointer (some ⟨br, 0, none⟩), u5, u6, u7, u8, .pointer (some ⟨b9, 0, none⟩), u10, u11, u12, u13, u14, u15, u16, u17, u18, u19, u20, u21, .pointer (some ⟨bk, 0, none⟩), .pointer (some ⟨Bx, 0, none⟩), u24, u25, u26, u27, u28, u29, u30, u31, u32, u33, u34, u35, u36, u37, u38, u39, u40, u41, u42, u43, u44, u45, u46, u47, u48, u49, u50, u51, u52, u53, u54, u55, u56, u57, u58, u59, u60, u61, u62, u63, u64, u65, u66, u67, u68, u69, u70, u71, u72, u73, u74, u75, u76, u77, u78, u79, u80, u81, u82, u83, u84, u85, u86, u87, u88, u89, u90, u91, u92, u93, u94, u95, u96, u97, u98, u99, u100, u101, u102, u103, u104, u105, u106, u107, u108, u109, u110, u111, u112, u113, u114, u115, u116, u117, u118, u119, u120, u121, u122, u123, u124, u125, u126, u127, u128, u129, u130], []⟩ W := by
  have hx0 : W.cell? ⟨Bx, 0, none⟩ = some (.int .u8 x.1.kind) := by simp [World.cell?, hx]
  have hx1 : W.cell? ⟨Bx, 1, none⟩ = some (S x.1.text) := by simp [World.cell?, hx]
  have hx2 : W.cell? ⟨Bx, 2, none⟩ = some (.int .i64 x.1.n) := by simp [World.cell?, hx]
  have hx3 : W.cell? ⟨Bx, 3, none⟩ = some (.int .i64 x.1.pos) := by simp [World.cell?, hx]
  have ck := hk.cell
  have fk := hk.frozen
  have c9 := h9.cell
  have cr := hr.cell
  have fr := hr.frozen
  have cm := hm.cell
  have hlk := hk.lt
  have HX : Hid _ := hx
  have HK : Hid (Boxed W bk 3 (.int .i64 pre.length)) := hk
  have HR : Hid (Boxed W br 4 (.bool false)) := hr
  have HTS : Hid (TS W ra xs) := hTS
  have HxK : Hid _ := hK
  have HB : Hid _ := hB
  clear hx hk h9 hr hTS hK hB
  have hmx : Tryd.prog.follows .mixedOrders = true := by kernel_rfl
  by_cases hlt : pre.length < K
  · obtain ⟨y, hy⟩ : ∃ y, xs[pre.length]? = some y := ⟨_, List.getElem?_eq_getElem (by rw [HxK.out]; exact hlt)⟩
    obtain ⟨g, rfl, hg, y0, y1, y2, y3⟩ := HTS.out pre.length y hy
    have d2 : decide (K ≤ pre.length) = false := decide_eq_false (by omega)
    by_cases e : x.1 = y.1
    · have hq : ∀ wx, (binOp .neq 56 (.agg #[.int .u8 x.1.kind, S x.1.text, .int .i64 x.1.n, .int .i64 x.1.pos]) (.agg #[.int .u8 y.1.kind, S y.1.text, .int .i64 y.1.n, .int .i64 y.1.pos])).run Tryd.prog wx = .ok (.bool false) wx := fun wx => by rw [e]; exact neqTok_same _ _ _ _ wx
      clear e hy
      unfold body3 range3 pass4 loop4 top4; simp only [Tryd.f4, Option.getD, cL, cR, cB, cLp, cRb]
      gi_wp2_with fail
      refine wpIn_region_quietR rfl (by kernel_rfl) (by kernel_rfl) ?_
      repeat (gi_big_quiet_step (fail))
      refine wpQuietIn_nil ?_
      intro _ hw'
      obtain ⟨nq, hw''⟩ := hw'
      subst hw''
      have hD : Below W.heap.size W (W.drewN nq) := ⟨rfl, rfl, rfl, Nat.le_refl _, fun _ _ => rfl⟩
      have ck2 : (W.drewN nq).cell? ⟨bk, 0, none⟩ = some (.int .i64 pre.length) := ck
      have fk2 : (W.drewN nq).frozen? ⟨bk, 0, none⟩ = false := fk
      have cr2 : (W.drewN nq).cell? ⟨br, 0, none⟩ = some (.bool false) := cr
      have fr2 : (W.drewN nq).frozen? ⟨br, 0, none⟩ = false := fr
      have HK2 : Hid (Boxed (W.drewN nq) bk 3 (.int .i64 pre.length)) := HK.out
      have HR2 : Hid (Boxed (W.drewN nq) br 4 (.bool false)) := HR.out
      have cm2 : (W.drewN nq).cell? ⟨bm, 0, none⟩ = some (.int .i64 most) := cm
      obtain ⟨W2, hW2⟩ : ∃ W2, W.drewN nq = W2 := ⟨_, rfl⟩
      rw [hW2] at hD ck2 fk2 cr2 fr2 HK2 HR2 cm2 ⊢
      clear hW2
      have cm3 : ∀ u, (W2.setCell ⟨bk, 0, none⟩ u).cell? ⟨bm, 0, none⟩ = some (.int .i64 most) := fun u => by rw [World.cell?_of_block (w := W2) (Below.heap_setCell _ _ _ _ (by show bm ≠ bk; omega))]; exact cm2
      cases hmm : ((pre.length : Int) + 1 == most)
      · gi_wp2
        refine ⟨kp5_t (kp5_below (by omega) hD) (kp5_set HK2.out hnk (by decide) (by decide) (by decide) _), ?_, (HB.out.trans (hD.mono (by omega))).setCell (p := ⟨bk, 0, none⟩) hSk _⟩
        rw [List.length_append]
        exact HK2.out.set _
      · gi_wp2
        exact ⟨kp5_t (kp5_below (by omega) hD) (kp5_set HK2.out hnk (by decide) (by decide) (by decide) _), .inr ⟨rfl, (HB.out.trans (hD.mono (by omega))).setCell (p := ⟨bk, 0, none⟩) hSk _⟩⟩
    · have hnp : ¬ pre ++ [x] <+: xs := not_prefix hy e
      have hq := neqTok_ne x.1 y.1 e
      have Hnp : Hid _ := hnp
      clear hnp e hy
      unfold body3 range3 pass4 loop4 top4; simp only [Tryd.f4, Option.getD, cL, cR, cB, cLp, cRb]
      gi_wp2_with fail
      refine wpIn_region_quietR rfl (by kernel_rfl) (by kernel_rfl) ?_
      repeat (gi_big_quiet_step (fail))
      refine wpQuietIn_nil ?_
      intro _ hw'
      obtain ⟨nq, hw''⟩ := hw'
      subst hw''
      have hD : Below W.heap.size W (W.drewN nq) := ⟨rfl, rfl, rfl, Nat.le_refl _, fun _ _ => rfl⟩
      have ck2 : (W.drewN nq).cell? ⟨bk, 0, none⟩ = some (.int .i64 pre.length) := ck
      have fk2 : (W.drewN nq).frozen? ⟨bk, 0, none⟩ = false := fk
      have cr2 : (W.drewN nq).cell? ⟨br, 0, none⟩ = some (.bool false) := cr
      have fr2 : (W.drewN nq).frozen? ⟨br, 0, none⟩ = false := fr
      have HK2 : Hid (Boxed (W.drewN nq) bk 3 (.int .i64 pre.length)) := HK.out
      have HR2 : Hid (Boxed (W.drewN nq) br 4 (.bool false)) := HR.out
      have cm2 : (W.drewN nq).cell? ⟨bm, 0, none⟩ = some (.int .i64 most) := cm
      obtain ⟨W2, hW2⟩ : ∃ W2, W.drewN nq = W2 := ⟨_, rfl⟩
      rw [hW2] at hD ck2 fk2 cr2 fr2 HK2 HR2 cm2 ⊢
      clear hW2
      gi_wp2
      exact ⟨kp5_t (kp5_below (by omega) hD) (kp5_set HR2.out hnr (by decide) (by decide) (by decide) _), .inl ⟨rfl, Hnp.out⟩⟩
  · have Hnp : Hid (¬ pre ++ [x] <+: xs) := not_prefix_len (by rw [HxK.out]; exact hlt)
    have d2 : decide (K ≤ pre.length) = true := decide_eq_true (by omega)
    unfold body3 range3 pass4 loop4 top4; simp only [Tryd.f4, Option.getD, cL, cR, cB, cLp, cRb]
    gi_wp2_with fail
    refine wpIn_region_quietR rfl (by kernel_rfl) (by kernel_rfl) ?_
    repeat (gi_big_quiet_step (fail))
    refine wpQuietIn_nil ?_
    intro _ hw'
    obtain ⟨nq, hw''⟩ := hw'
    subst hw''
    have hD : Below W.heap.size W (W.drewN nq) := ⟨rfl, rfl, rfl, Nat.le_refl _, fun _ _ => rfl⟩
    have ck2 : (W.drewN nq).cell? ⟨bk, 0, none⟩ = some (.int .i64 pre.length) := ck
    have fk2 : (W.drewN nq).frozen? ⟨bk, 0, none⟩ = false := fk
    have cr2 : (W.drewN nq).cell? ⟨br, 0, none⟩ = some (.bool false) := cr
    have fr2 : (W.drewN nq).frozen? ⟨br, 0, none⟩ = false := fr
    have HK2 : Hid (Boxed (W.drewN nq) bk 3 (.int .i64 pre.length)) := HK.out
    have HR2 : Hid (Boxed (W.drewN nq) br 4 (.bool false)) := HR.out
    have cm2 : (W.drewN nq).cell? ⟨bm, 0, none⟩ = some (.int .i64 most) := cm
    obtain ⟨W2, hW2⟩ : ∃ W2, W.drewN nq = W2 := ⟨_, rfl⟩
    rw [hW2] at hD ck2 fk2 cr2 fr2 HK2 HR2 cm2 ⊢
    clear hW2
    gi_wp2
    exact ⟨kp5_t (kp5_below (by omega) hD) (kp5_set HR2.out hnr (by decide) (by decide) (by decide) _), .inl ⟨rfl, Hnp.out⟩⟩
end Go.Proofs.YtfdpbmbafpieoaaDoor
