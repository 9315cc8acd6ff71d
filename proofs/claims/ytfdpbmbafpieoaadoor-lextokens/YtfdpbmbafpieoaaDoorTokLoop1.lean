/- The walk of LexTokens, second part: the first loop's round. -/
import Derived.Test.YtfdpbmbafpieoaaDoorTokLoops
namespace Go.Proofs.YtfdpbmbafpieoaaDoor
open Go.RowKit Go.Shelf

attribute [local go_sem] Oper.semAt_some

/-- What the loops find in memory. -/
structure Env (Sz br b9 b11 Bs K cap : Nat) (ra : Option Addr) (s : ByteArray) (W : World) : Prop where
  res : Boxed W br 4 (.bool false)
  some9 : Boxed W b9 25 (.slice ra K cap)
  it : Boxed W b11 51 (.func (.func 23) #[] #[.pointer (some ⟨Bs, 0, none⟩)])
  str : W.heap[Bs]? = some (.cells #[.string s] 9 (0, 0))
  ts : TS W ra (ahead (items s.data.toList))
  ev : EV W
  lr : br < Sz
  l9 : b9 < Sz
  l11 : b11 < Sz
  ls : Bs < Sz
  lra : ∀ g, ra = some ⟨g, 0, none⟩ → g < Sz
  l1 : 1 < Sz
theorem Env.below {Sz br b9 b11 Bs K cap : Nat} {ra : Option Addr} {s : ByteArray} {W W' : World} (h : Env Sz br b9 b11 Bs K cap ra s W) (hb : Below Sz W W') : Env Sz br b9 b11 Bs K cap ra s W' :=
  ⟨(hb.block _ h.lr).trans h.res, (hb.block _ h.l9).trans h.some9, (hb.block _ h.l11).trans h.it, (hb.block _ h.ls).trans h.str, h.ts.kept (fun g hg _ => hb.block g (h.lra g hg)), h.ev.below hb h.l1, h.lr, h.l9, h.l11, h.ls, h.lra, h.l1⟩
theorem Env.mono {Sz Sz' br b9 b11 Bs K cap : Nat} {ra : Option Addr} {s : ByteArray} {W : World} (h : Env Sz br b9 b11 Bs K cap ra s W) (hS : Sz ≤ Sz') : Env Sz' br b9 b11 Bs K cap ra s W :=
  ⟨h.res, h.some9, h.it, h.str, h.ts, h.ev, Nat.lt_of_lt_of_le h.lr hS, Nat.lt_of_lt_of_le h.l9 hS, Nat.lt_of_lt_of_le h.l11 hS, Nat.lt_of_lt_of_le h.ls hS, fun g hg => Nat.lt_of_lt_of_le (h.lra g hg) hS, Nat.lt_of_lt_of_le h.l1 hS⟩
theorem wpIn_any {l n n' : Nat} {P : Program} {c : Code} {Q : Exit → Act → World → Prop} {a : Act} {w : World} (h : c.wpIn (Fence.wide.inRound l) n' P Q a w) : c.wpIn (Fence.wide.inRound l) n P Q a w :=
  fun b k cs h1 h2 _ => h b k cs h1 h2 (room_wide _)

theorem kp5_appended {W w1 : World} {n₀ Sz B b : Nat} {v v' : Value} {k : Nat} {xs : List Value} {tmp : Obj} (hn : n₀ ≤ Sz) (hv : Boxed W B 25 v) (hrow : W.ownsRow Sz 56 4 v k xs) (h1 : ¬ v = .slice none 0 0 → 1 ≤ k)
    (hgrow : (W.alloc tmp).grownBy w1 v.ownBlock) (hfull : ∀ g cap, v = .slice (some ⟨g, 0, none⟩) k cap → cap < k + 1 → Below (W.alloc tmp).heap.size (W.alloc tmp) w1) (hb : Below Sz W (w1.setCell ⟨B, 0, none⟩ v')) :
    Kp5 n₀ b W (w1.setCell ⟨B, 0, none⟩ v') := by
  have h4 := kp4_appended hv hrow h1 hgrow hfull hb
  refine ⟨⟨h4.1.mono hn, h4.2⟩, ?_, ?_⟩
  · refine (((KeepsOthers.alloc W tmp).trans (KeepsOthers.of_grownBy hgrow fun j o ej hj => own_isCells (hrow.alloc tmp) j o ej hj)).trans (KeepsOthers.setCell _ _ _)).from _
  · intro j cs hj
    rw [Below.heap_setCell _ _ _ _ (by rintro rfl; rw [show W.heap[_]? = _ from hv] at hj; simp at hj)]
    have hlt := (Array.getElem?_eq_some_iff.1 hj).1
    rw [hgrow.block j (by simp; omega) ?_, Below.heap_alloc _ _ _ hlt]
    · exact hj
    · rcases hrow.2 with ⟨rfl, _⟩ | ⟨g, cap, cur, rfl, _, hg, _⟩
      · simp [Value.ownBlock]
      · intro e
        obtain rfl : j = g := by simpa [Value.ownBlock] using e
        rw [hg] at hj; simp at hj

/-- The list of the first loop. -/
def I1 (ball Sz : Nat) (w₁ : World) (pre : List (Tok × Int)) (W : World) : Prop := (∃ v, Boxed W ball 25 v ∧ W.ownsRow Sz 56 4 v pre.length (rowOf pre) ∧ (v = .slice none 0 0 ↔ pre = [])) ∧ Below Sz w₁ W

theorem i2_own (bk Sz B : Nat) (w₁ : World) (hw : Sz ≤ w₁.heap.size) (hB : Sz ≤ B) : OwnFrom B (I2 bk Sz w₁) := OwnFrom.and (Own.from (boxed_own _ _ _) _) (ownFrom_below hw hB)

set_option maxRecDepth 100000 in
set_option maxHeartbeats 4000000 in
theorem inner_ok {u0 u1 u2 u3 u5 u6 u7 u8 u10 u11 u12 u13 u14 u15 u16 u17 u18 u20 u21 u22 u23 u24 u25 u26 u27 u28 u29 u30 u31 u32 u33 u34 u35 u36 u37 u38 u39 u40 u41 u42 u43 u44 u45 u46 u47 u48 u49 u50 u51 u52 u53 u54 u55 u56 u57 u58 u59 u60 u61 u62 u63 u64 u65 u66 u67 u68 u69 u70 u71 u72 u73 u74 u75 u76 u77 u78 u79 u80 u82 u83 u84 u85 u86 u87 u88 u89 u90 u91 u92 u93 u94 u95 u96 u97 u98 u99 u100 u101 u102 u103 u104 u105 u106 u107 u108 u109 u110 u111 u112 u113 u114 u115 u116 u117 u118 u119 u120 u121 u122 u123 u124 u125 u126 u127 u128 u129 u130 : Value} (l n₀ Sz br b9 b11 Bs K cap : Nat) (ra : Option Addr) (s : ByteArray) (hs : s.size ≤ 281474976710656) (W1 : World) (hnr : n₀ ≤ br) (h1n : 1 < n₀) (hn1 : n₀ ≤ W1.heap.size) (hS1 : Sz ≤ W1.heap.size) (hK : (ahead (items s.data.toList)).length = K)
    (hlen : (items s.data.toList).length ≤ 1000000) (hl : ∃ r, W1.heap[l]? = some (.loop r)) (hEnv : Env Sz br b9 b11 Bs K cap ra s W1) (Q : Exit → Act → World → Prop)
    (hQ : ∀ W3, Below W1.heap.size W1 W3 → Boxed W3 W1.heap.size 3 (.int .i64 K) → Q .normal ⟨#[u0, u1, u2, u3, .pointer (some ⟨br, 0, none⟩), u5, u6, u7, u8, .pointer (some ⟨b9, 0, none⟩), u10, u11, u12, u13, u14, u15, u16, u17, u18, .pointer (some ⟨W1.heap.size, 0, none⟩), u20, u21, u22, u23, u24, u25, u26, u27, u28, u29, u30, u31, u32, u33, u34, u35, u36, u37, u38, u39, u40, u41, u42, u43, u44, u45, u46, u47, u48, u49, u50, u51, u52, u53, u54, u55, u56, u57, u58, u59, u60, u61, u62, u63, u64, u65, u66, u67, u68, u69, u70, u71, u72, u73, u74, u75, u76, u77, u78, u79, u80, .func (.func 23) #[] #[.pointer (some ⟨Bs, 0, none⟩)], u82, u83, u84, u85, u86, u87, u88, u89, u90, u91, u92, u93, u94, u95, u96, u97, u98, u99, u100, u101, u102, u103, u104, u105, u106, u107, u108, u109, u110, u111, u112, u113, u114, u115, u116, u117, u118, u119, u120, u121, u122, u123, u124, u125, u126, u127, u128, u129, u130], []⟩ W3) :
    range2.wpIn (Fence.wide.inRound l) 1 Tryd.prog Q ⟨#[u0, u1, u2, u3, .pointer (some ⟨br, 0, none⟩), u5, u6, u7, u8, .pointer (some ⟨b9, 0, none⟩), u10, u11, u12, u13, u14, u15, u16, u17, u18, .pointer (some ⟨W1.heap.size, 0, none⟩), u20, u21, u22, u23, u24, u25, u26, u27, u28, u29, u30, u31, u32, u33, u34, u35, u36, u37, u38, u39, u40, u41, u42, u43, u44, u45, u46, u47, u48, u49, u50, u51, u52, u53, u54, u55, u56, u57, u58, u59, u60, u61, u62, u63, u64, u65, u66, u67, u68, u69, u70, u71, u72, u73, u74, u75, u76, u77, u78, u79, u80, .func (.func 23) #[] #[.pointer (some ⟨Bs, 0, none⟩)], u82, u83, u84, u85, u86, u87, u88, u89, u90, u91, u92, u93, u94, u95, u96, u97, u98, u99, u100, u101, u102, u103, u104, u105, u106, u107, u108, u109, u110, u111, u112, u113, u114, u115, u116, u117, u118, u119, u120, u121, u122, u123, u124, u125, u126, u127, u128, u129, u130], []⟩ (W1.alloc (.cells #[.int .i64 0] 3)) := by
  rw [range2_eq]
  have hb : Below W1.heap.size W1 (W1.alloc (.cells #[.int .i64 0] 3)) := (Below.refl _ _).alloc (Nat.le_refl _) _
  have hbx : Boxed (W1.alloc (.cells #[.int .i64 0] 3)) W1.heap.size 3 (.int .i64 0) := Boxed.new _ _ _
  have hE2 : Env W1.heap.size br b9 b11 Bs K cap ra s (W1.alloc (.cells #[.int .i64 0] 3)) := (hEnv.mono hS1).below hb
  obtain ⟨r, hr⟩ := hl
  have hl2 := (hb.block l (Array.getElem?_eq_some_iff.1 hr).1).trans hr
  have hsz : (W1.alloc (.cells #[.int .i64 0] 3)).heap.size = W1.heap.size + 1 := by rw [World.size_alloc]
  obtain ⟨W2, hW2⟩ : ∃ W2, W1.alloc (.cells #[.int .i64 0] 3) = W2 := ⟨_, rfl⟩
  rw [hW2] at hb hbx hE2 hl2 hsz ⊢
  clear hW2 hr
  refine range_all_in (n₀ := n₀) (Bs := Bs) (s := s) hl2 (Nat.le_refl 1) hs rfl rfl hE2.str hE2.ev h1n (by omega) (I2 W1.heap.size W1.heap.size W1) (fun _ pre _ => ¬ pre <+: ahead (items s.data.toList)) (i2_own _ _ _ _ (Nat.le_refl _) (by omega)) (fun _ => ?own) ⟨hbx, hb⟩
    (fun x a' W => ∃ Bx, W.heap[Bx]? = some (.cells #[.int .u8 x.1.kind, S x.1.text, .int .i64 x.1.n, .int .i64 x.1.pos] 56 (0, 0)) ∧ a' = ⟨#[u0, u1, u2, u3, .pointer (some ⟨br, 0, none⟩), u5, u6, u7, u8, .pointer (some ⟨b9, 0, none⟩), u10, u11, u12, u13, u14, u15, u16, u17, u18, .pointer (some ⟨W1.heap.size, 0, none⟩), .pointer (some ⟨Bx, 0, none⟩), u21, u22, u23, u24, u25, u26, u27, u28, u29, u30, u31, u32, u33, u34, u35, u36, u37, u38, u39, u40, u41, u42, u43, u44, u45, u46, u47, u48, u49, u50, u51, u52, u53, u54, u55, u56, u57, u58, u59, u60, u61, u62, u63, u64, u65, u66, u67, u68, u69, u70, u71, u72, u73, u74, u75, u76, u77, u78, u79, u80, .func (.func 23) #[] #[.pointer (some ⟨Bs, 0, none⟩)], .agg #[.int .u8 x.1.kind, S x.1.text, .int .i64 x.1.n, .int .i64 x.1.pos], u83, u84, u85, u86, u87, u88, u89, u90, u91, u92, u93, u94, u95, u96, u97, u98, u99, u100, u101, u102, u103, u104, u105, u106, u107, u108, u109, u110, u111, u112, u113, u114, u115, u116, u117, u118, u119, u120, u121, u122, u123, u124, u125, u126, u127, u128, u129, u130], []⟩) ?hAx ?assign ?body ?done ?stop
  case own => intro q X Y row h _ _; exact h
  case hAx =>
    rintro x a' _ A B row ⟨Bx, h2, h3⟩ hg hr
    refine ⟨Bx, (hg.block Bx (Array.getElem?_eq_some_iff.1 h2).1 (fun e => ?_)).trans h2, h3⟩
    obtain ⟨_, o, ho, hn⟩ := hr _ e.symm
    rw [h2] at ho; cases ho; cases hn
  case assign =>
    rintro m l' pre x W K' hi hK'
    have hal : Below W.heap.size W (W.alloc (.cells #[.int .u8 x.1.kind, S x.1.text, .int .i64 x.1.n, .int .i64 x.1.pos] 56)) := (Below.refl _ W).alloc (Nat.le_refl _) _
    have hlt := hi.1.lt
    unfold range2 body1 range1 pass4 loop4 top4; simp only [Tryd.f4, Option.getD, cL, cR, cB, cLp, cTh, cRb, cRa]
    simp only [encT]
    gi_wp2
    exact hK' _ _ (kp5_below (by omega) hal) ⟨hi.1.alloc _, hi.2.alloc (by omega) _⟩ ⟨W.heap.size, World.alloc_heap_new _ _, rfl⟩
  case body =>
    rintro m l' pre x a' W hl' hrec hi ⟨Bx, hx, rfl⟩ hlt
    have hEW := (hEnv.mono hS1).below hi.2
    exact body2_ok m l' n₀ _ _ br b9 _ Bx K cap ra _ pre x _ W hnr hn1 (Nat.le_refl _) hK (by omega) hi.1 hi.2 hEW.some9 hEW.res hEW.ts hx
  case done =>
    intro W hi
    refine hQ W hi.2 ?_
    have := hi.1
    rw [hK] at this
    exact this
  case stop =>
    intro c pre W hp hx
    exact absurd hp hx

set_option maxRecDepth 100000 in
set_option maxHeartbeats 4000000 in
theorem body1_ok {u0 u1 u2 u3 u5 u6 u7 u8 u10 u12 u13 u14 u15 u16 u19 u20 u21 u22 u23 u24 u25 u26 u27 u28 u29 u30 u31 u32 u33 u34 u35 u36 u37 u38 u39 u40 u41 u42 u43 u44 u45 u46 u47 u48 u49 u50 u51 u52 u53 u54 u55 u56 u57 u58 u59 u60 u61 u62 u63 u64 u65 u66 u67 u68 u69 u70 u71 u72 u73 u74 u75 u76 u77 u78 u79 u80 u81 u82 u83 u84 u85 u86 u87 u88 u89 u90 u91 u92 u93 u94 u95 u96 u97 u98 u99 u100 u101 u102 u103 u104 u105 u106 u107 u108 u109 u110 u111 u112 u113 u114 u115 u116 u117 u118 u119 u120 u121 u122 u123 u124 u125 u126 u127 u128 u129 u130 : Value} (m l n₀ B Sz br b9 b11 ball Bs Bx K cap : Nat) (ra : Option Addr) (s : ByteArray) (hs : s.size ≤ 281474976710656) (pre : List (Tok × Int)) (x : Tok × Int) (w₁ W : World) (hnr : n₀ ≤ br) (hnS : n₀ ≤ Sz) (h1n : 1 < n₀) (hSb : Sz ≤ ball) (hK : (ahead (items s.data.toList)).length = K) (hpm : pre.length ≤ 1000000) (hlen : (items s.data.toList).length ≤ 1000000)
    (hl : ∃ r, W.heap[l]? = some (.loop r)) (hi : I1 ball Sz w₁ pre W) (hEnv : Env Sz br b9 b11 Bs K cap ra s W)
    (hx : W.heap[Bx]? = some (.cells #[.int .u8 x.1.kind, S x.1.text, .int .i64 x.1.n, .int .i64 x.1.pos] 56 (0, 0))) :
    body1.wpIn (Fence.wide.inRound l) m Tryd.prog (PostA n₀ B (I1 ball Sz w₁) (fun _ _ _ => False) (pre ++ [x]) W) ⟨#[u0, u1, u2, u3, .pointer (some ⟨br, 0, none⟩), u5, u6, u7, u8, .pointer (some ⟨b9, 0, none⟩), u10, .pointer (some ⟨b11, 0, none⟩), u12, u13, u14, u15, u16, .pointer (some ⟨ball, 0, none⟩), .pointer (some ⟨Bx, 0, none⟩), u19, u20, u21, u22, u23, u24, u25, u26, u27, u28, u29, u30, u31, u32, u33, u34, u35, u36, u37, u38, u39, u40, u41, u42, u43, u44, u45, u46, u47, u48, u49, u50, u51, u52, u53, u54, u55, u56, u57, u58, u59, u60, u61, u62, u63, u64, u65, u66, u67, u68, u69, u70, u71, u72, u73, u74, u75, u76, u77, u78, u79, u80, u81, u82, u83, u84, u85, u86, u87, u88, u89, u90, u91, u92, u93, u94, u95, u96, u97, u98, u99, u100, u101, u102, u103, u104, u105, u106, u107, u108, u109, u110, u111, u112, u113, u114, u115, u116, u117, u118, u119, u120, u121, u122, u123, u124, u125, u126, u127, u128, u129, u130], []⟩ W := by
  refine wpIn_any (n' := 1) ?_
  obtain ⟨i0, hi0, hz0, hz1, hz2⟩ := info_parts infoTok
  have hx0 : W.cell? ⟨Bx, 0, none⟩ = some (.int .u8 x.1.kind) := by simp [World.cell?, hx]
  have hx1 : W.cell? ⟨Bx, 1, none⟩ = some (S x.1.text) := by simp [World.cell?, hx]
  have hx2 : W.cell? ⟨Bx, 2, none⟩ = some (.int .i64 x.1.n) := by simp [World.cell?, hx]
  have hx3 : W.cell? ⟨Bx, 3, none⟩ = some (.int .i64 x.1.pos) := by simp [World.cell?, hx]
  obtain ⟨⟨v, hv, hrow, hnil⟩, hB⟩ := hi
  have hc := hv.cell
  have hSW : Sz ≤ W.heap.size := Nat.le_of_lt (Nat.lt_of_le_of_lt hSb hv.lt)
  have HX : Hid _ := hx
  have HL : Hid _ := hl
  have HEnv : Hid (Env Sz br b9 b11 Bs K cap ra s W) := hEnv
  have HK : Hid _ := hK
  have HB : Hid _ := hB
  clear hx hl hEnv hK hB
  unfold body1 range1 pass4 loop4 top4; simp only [Tryd.f4, Option.getD, cL, cR, cB, cLp, cRb]
  by_cases h2 : pre.length = 1
  · obtain ⟨x0, rfl⟩ := List.length_eq_one_iff.1 h2
    have hrow1 : W.ownsRow Sz 56 4 v 1 (rowOf [x0]) := hrow
    clear h2
    gi_wp2_with (gi_at_builtin; refine wpListIn_append_keep _ rfl _ _ 25 rfl Sz 56 i0 (.agg #[.int .u8 0, .string ⟨#[]⟩, .int .i64 0, .int .i64 0]) 4 40 Tryd.underlying25 hi0 hz0 hz1 hz2 rfl (by decide) v 1 (rowOf [x0]) rfl (hrow1.alloc _) ⟨W.heap.size, 0, none⟩ 1 1 (cells4 x.1) rfl rfl (cell_four_new _ _ _ _ _ _) (cells4_one _) (by unfold maxLen; omega) (by omega) (by simp; omega) ?_; intro v' w1 hown' hgrow hn' hfull; obtain ⟨g', cap', hv'⟩ := ownsRow_succ (k := 1) hown'; have hv'' : v' = .slice (some ⟨g', 0, none⟩) 2 cap' := hv'; clear hv'; subst hv''; obtain ⟨hv1, hv2, hr2, hk2, hb2⟩ := hv.appended (by decide) hrow1 hSW hSb hown' hgrow; have hc1 := hv1.cell; have hf1 := hv1.frozen; have c11 : ∀ o, ((w1.setCell ⟨ball, 0, none⟩ (.slice (some ⟨g', 0, none⟩) 2 cap')).alloc o).cell? ⟨b11, 0, none⟩ = some (.func (.func 23) #[] #[.pointer (some ⟨Bs, 0, none⟩)]) := fun o => ((HEnv.out.below hb2).it.alloc o).cell)
    have hkp : Kp5 n₀ B W (w1.setCell ⟨ball, 0, none⟩ (.slice (some ⟨g', 0, none⟩) 2 cap')) := kp5_appended hnS hv hrow1 (fun _ => Nat.le_refl 1) hgrow hfull hb2
    have e1 : w1.heap.size = (w1.setCell ⟨ball, 0, none⟩ (.slice (some ⟨g', 0, none⟩) 2 cap')).heap.size := by simp [World.setCell]
    have hE1 := HEnv.out.below hb2
    have hl1 : ∃ r, (w1.setCell ⟨ball, 0, none⟩ (.slice (some ⟨g', 0, none⟩) 2 cap')).heap[l]? = some (.loop r) := by
      obtain ⟨r, hr⟩ := HL.out
      exact ⟨r, hk2.same l _ hr rfl⟩
    rw [e1]
    clear c11 hc1 hf1 hgrow hfull hown' hn' hv1 e1
    obtain ⟨W1, hW1⟩ : ∃ W1, w1.setCell ⟨ball, 0, none⟩ (.slice (some ⟨g', 0, none⟩) 2 cap') = W1 := ⟨_, rfl⟩
    rw [hW1] at hv2 hr2 hk2 hb2 hkp hE1 hl1 ⊢
    clear hW1
    have hS1 : Sz ≤ W1.heap.size := Nat.le_trans hSW hb2.size
    refine inner_ok l n₀ Sz br b9 b11 Bs K cap ra s hs W1 hnr h1n (by omega) hS1 HK.out hlen hl1 hE1 _ ?_
    intro W3 hb3 hk3
    have hE3 := (hE1.mono hS1).below hb3
    have c9 := hE3.some9.cell
    have c19 := hk3.cell
    have Hb3 : Hid _ := hb3
    have HE3 : Hid _ := hE3
    clear hb3 hE3 hk3
    gi_wp2
    refine ⟨kp5_t hkp (kp5_below (by omega) Hb3.out), ⟨_, (Hb3.out.block ball hv2.lt).trans hv2, own_below (by rw [show ([x0] ++ [x]).length = 2 from rfl, rowOf_snoc]; exact hr2) Hb3.out, by simp⟩, (HB.out.trans hb2).trans (Hb3.out.mono hS1)⟩
  · have h2a : ((pre.length : Int) + 1 == 2) = false := by simp; omega
    gi_wp2_with (gi_at_builtin; refine wpListIn_append_keep _ rfl _ _ 25 rfl Sz 56 i0 (.agg #[.int .u8 0, .string ⟨#[]⟩, .int .i64 0, .int .i64 0]) 4 40 Tryd.underlying25 hi0 hz0 hz1 hz2 rfl (by decide) v pre.length (rowOf pre) rfl (hrow.alloc _) ⟨W.heap.size, 0, none⟩ 1 1 (cells4 x.1) rfl rfl (cell_four_new _ _ _ _ _ _) (cells4_one _) (by unfold maxLen; omega) (by omega) (by simp; omega) ?_; intro v' w1 hown' hgrow hn' hfull; obtain ⟨g', cap', rfl⟩ := ownsRow_succ hown'; obtain ⟨hv1, hv2, hr2, hk2, hb2⟩ := hv.appended (by decide) hrow hSW hSb hown' hgrow; have hc1 := hv1.cell; have hf1 := hv1.frozen)
    refine ⟨kp5_appended hnS hv hrow (fun h => by rw [hnil] at h; exact List.length_pos_iff.2 h) hgrow hfull hb2, ⟨_, hv2, by rw [rowOf_snoc, List.length_append]; exact hr2, by simp⟩, HB.out.trans hb2⟩
end Go.Proofs.YtfdpbmbafpieoaaDoor
