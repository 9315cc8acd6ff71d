/- The walk of LexTokens, third part: its outer loops. -/
import Derived.Test.YtfdpbmbafpieoaaDoorTokLoop1
namespace Go.Proofs.YtfdpbmbafpieoaaDoor
open Go.RowKit Go.Shelf

attribute [local go_sem] Oper.semAt_some

theorem i1_own (ball Sz B : Nat) (w₁ : World) (hw : Sz ≤ w₁.heap.size) (hB : Sz ≤ B) : OwnFrom B (I1 ball Sz w₁) :=
  OwnFrom.and (Own.from (holdsRow_own Sz ball 25 56 4 (fun pre => pre.length) (fun pre => rowOf pre) (fun pre v => v = .slice none 0 0 ↔ pre = [])) _) (ownFrom_below hw hB)

set_option maxRecDepth 100000 in
set_option maxHeartbeats 4000000 in
theorem first_ok {u0 u1 u2 u3 u5 u6 u7 u8 u10 u12 u13 u14 u15 u16 u18 u19 u20 u21 u22 u23 u24 u25 u26 u27 u28 u29 u30 u31 u32 u33 u34 u35 u36 u37 u38 u39 u40 u41 u42 u43 u44 u45 u46 u47 u48 u49 u50 u51 u52 u53 u54 u55 u56 u57 u58 u59 u60 u61 u62 u63 u64 u65 u66 u67 u68 u69 u70 u71 u73 u74 u75 u76 u77 u78 u79 u80 u81 u82 u83 u84 u85 u86 u87 u88 u89 u90 u91 u92 u93 u94 u95 u96 u97 u98 u99 u100 u101 u102 u103 u104 u105 u106 u107 u108 u109 u110 u111 u112 u113 u114 u115 u116 u117 u118 u119 u120 u121 u122 u123 u124 u125 u126 u127 u128 u129 u130 : Value} (n n₀ br b9 b11 Bs K cap : Nat) (ra : Option Addr) (s : ByteArray) (hs : s.size ≤ 281474976710656) (W1 : World) (hn : 1 ≤ n) (hnr : n₀ ≤ br) (h1n : 1 < n₀) (hn1 : n₀ ≤ W1.heap.size) (hK : (ahead (items s.data.toList)).length = K)
    (hlen : (items s.data.toList).length ≤ 1000000) (hEnv : Env W1.heap.size br b9 b11 Bs K cap ra s W1) (ds : List Deferred) (Q : Exit → Act → World → Prop)
    (hQ : ∀ D W3, W1.heap.size < D → Below W1.heap.size W1 W3 → (∃ v, Boxed W3 W1.heap.size 25 v ∧ W3.ownsRow W1.heap.size 56 4 v K (rowOf (ahead (items s.data.toList)))) → W3.heap[D]? = some (.deferred (some [])) → Q .normal ⟨#[u0, u1, u2, u3, .pointer (some ⟨br, 0, none⟩), u5, u6, u7, u8, .pointer (some ⟨b9, 0, none⟩), u10, .pointer (some ⟨b11, 0, none⟩), u12, u13, u14, u15, u16, .pointer (some ⟨W1.heap.size, 0, none⟩), u18, u19, u20, u21, u22, u23, u24, u25, u26, u27, u28, u29, u30, u31, u32, u33, u34, u35, u36, u37, u38, u39, u40, u41, u42, u43, u44, u45, u46, u47, u48, u49, u50, u51, u52, u53, u54, u55, u56, u57, u58, u59, u60, u61, u62, u63, u64, u65, u66, u67, u68, u69, u70, u71, .func (.func 23) #[] #[.pointer (some ⟨Bs, 0, none⟩)], u73, u74, u75, u76, u77, u78, u79, u80, u81, u82, u83, u84, u85, u86, u87, u88, u89, u90, u91, u92, u93, u94, u95, u96, u97, u98, u99, u100, u101, u102, u103, u104, u105, u106, u107, u108, u109, u110, u111, u112, u113, u114, u115, u116, u117, u118, u119, u120, u121, u122, u123, u124, u125, u126, u127, u128, u129, u130], { target := .collected D, args := #[] } :: ds⟩ W3) :
    range1.wpIn Fence.wide n Tryd.prog Q ⟨#[u0, u1, u2, u3, .pointer (some ⟨br, 0, none⟩), u5, u6, u7, u8, .pointer (some ⟨b9, 0, none⟩), u10, .pointer (some ⟨b11, 0, none⟩), u12, u13, u14, u15, u16, .pointer (some ⟨W1.heap.size, 0, none⟩), u18, u19, u20, u21, u22, u23, u24, u25, u26, u27, u28, u29, u30, u31, u32, u33, u34, u35, u36, u37, u38, u39, u40, u41, u42, u43, u44, u45, u46, u47, u48, u49, u50, u51, u52, u53, u54, u55, u56, u57, u58, u59, u60, u61, u62, u63, u64, u65, u66, u67, u68, u69, u70, u71, .func (.func 23) #[] #[.pointer (some ⟨Bs, 0, none⟩)], u73, u74, u75, u76, u77, u78, u79, u80, u81, u82, u83, u84, u85, u86, u87, u88, u89, u90, u91, u92, u93, u94, u95, u96, u97, u98, u99, u100, u101, u102, u103, u104, u105, u106, u107, u108, u109, u110, u111, u112, u113, u114, u115, u116, u117, u118, u119, u120, u121, u122, u123, u124, u125, u126, u127, u128, u129, u130], ds⟩ (W1.alloc (.cells #[.slice none 0 0] 25)) := by
  rw [range1_eq]
  have hb : Below W1.heap.size W1 (W1.alloc (.cells #[.slice none 0 0] 25)) := (Below.refl _ _).alloc (Nat.le_refl _) _
  have hbx : Boxed (W1.alloc (.cells #[.slice none 0 0] 25)) W1.heap.size 25 (.slice none 0 0) := Boxed.new _ _ _
  have hE2 : Env W1.heap.size br b9 b11 Bs K cap ra s (W1.alloc (.cells #[.slice none 0 0] 25)) := hEnv.below hb
  have hsz : (W1.alloc (.cells #[.slice none 0 0] 25)).heap.size = W1.heap.size + 1 := by rw [World.size_alloc]
  obtain ⟨W2, hW2⟩ : ∃ W2, W1.alloc (.cells #[.slice none 0 0] 25) = W2 := ⟨_, rfl⟩
  rw [hW2] at hb hbx hE2 hsz ⊢
  clear hW2
  refine range_all (n₀ := n₀) (Bs := Bs) (s := s) hn hs rfl rfl hE2.str hE2.ev h1n (by omega) (I1 W1.heap.size W1.heap.size W1) (fun _ _ _ => False) (i1_own _ _ _ _ (Nat.le_refl _) (by omega)) (fun _ => ?own) ⟨⟨_, hbx, World.ownsRow_nil _ _ _ _, by simp⟩, hb⟩
    (fun x a' W => ∃ Bx, W.heap[Bx]? = some (.cells #[.int .u8 x.1.kind, S x.1.text, .int .i64 x.1.n, .int .i64 x.1.pos] 56 (0, 0)) ∧ a' = ⟨#[u0, u1, u2, u3, .pointer (some ⟨br, 0, none⟩), u5, u6, u7, u8, .pointer (some ⟨b9, 0, none⟩), u10, .pointer (some ⟨b11, 0, none⟩), u12, u13, u14, u15, u16, .pointer (some ⟨W1.heap.size, 0, none⟩), .pointer (some ⟨Bx, 0, none⟩), u19, u20, u21, u22, u23, u24, u25, u26, u27, u28, u29, u30, u31, u32, u33, u34, u35, u36, u37, u38, u39, u40, u41, u42, u43, u44, u45, u46, u47, u48, u49, u50, u51, u52, u53, u54, u55, u56, u57, u58, u59, u60, u61, u62, u63, u64, u65, u66, u67, u68, u69, u70, u71, .func (.func 23) #[] #[.pointer (some ⟨Bs, 0, none⟩)], .agg #[.int .u8 x.1.kind, S x.1.text, .int .i64 x.1.n, .int .i64 x.1.pos], u74, u75, u76, u77, u78, u79, u80, u81, u82, u83, u84, u85, u86, u87, u88, u89, u90, u91, u92, u93, u94, u95, u96, u97, u98, u99, u100, u101, u102, u103, u104, u105, u106, u107, u108, u109, u110, u111, u112, u113, u114, u115, u116, u117, u118, u119, u120, u121, u122, u123, u124, u125, u126, u127, u128, u129, u130], []⟩) ?hAx ?assign ?body ?done ?stop
  case own => intro q X Y row h _ _; exact h
  case hAx =>
    rintro x a' _ A B row ⟨Bx, h2, h3⟩ hg hr
    refine ⟨Bx, (hg.block Bx (Array.getElem?_eq_some_iff.1 h2).1 (fun e => ?_)).trans h2, h3⟩
    obtain ⟨_, o, ho, hn⟩ := hr _ e.symm
    rw [h2] at ho; cases ho; cases hn
  case assign =>
    rintro m l' pre x W K' hi hK'
    have hal : Below W.heap.size W (W.alloc (.cells #[.int .u8 x.1.kind, S x.1.text, .int .i64 x.1.n, .int .i64 x.1.pos] 56)) := (Below.refl _ W).alloc (Nat.le_refl _) _
    obtain ⟨⟨v, hv, hrow, hnil⟩, hB⟩ := hi
    have hlt := hv.lt
    unfold range1 pass4 loop4 top4; simp only [Tryd.f4, Option.getD, cL, cR, cB, cLp, cRa]
    simp only [encT]
    gi_wp2
    exact hK' _ _ (kp5_below (by omega) hal) ⟨⟨v, hv.alloc _, hrow.alloc _, hnil⟩, hB.alloc (by omega) _⟩ ⟨W.heap.size, World.alloc_heap_new _ _, rfl⟩
  case body =>
    rintro m l' pre x a' W hl' hrec hi ⟨Bx, hx, rfl⟩ hlt
    exact body1_ok m l' n₀ _ W1.heap.size br b9 b11 _ Bs Bx K cap ra s hs pre x W1 W hnr hn1 h1n (Nat.le_refl _) hK (by omega) hlen hrec hi (hEnv.below hi.2) hx
  case done =>
    intro D W hD hi hDd
    obtain ⟨⟨v, hv, hrow, hnil⟩, hB⟩ := hi
    rw [hK] at hrow
    exact hQ D W (by omega) hB ⟨v, hv, hrow⟩ hDd
  case stop =>
    intro D c pre W hD hp hx hDd
    exact hx.elim

set_option maxRecDepth 100000 in
set_option maxHeartbeats 4000000 in
theorem third_ok {u0 u1 u2 u5 u6 u7 u8 u10 u11 u12 u13 u14 u15 u16 u17 u18 u19 u20 u21 u23 u24 u25 u26 u27 u28 u29 u30 u31 u32 u33 u34 u35 u36 u37 u38 u39 u40 u41 u42 u43 u44 u45 u46 u47 u48 u49 u50 u51 u52 u53 u54 u55 u56 u57 u58 u59 u60 u61 u62 u63 u64 u65 u66 u67 u68 u69 u70 u71 u72 u73 u74 u75 u76 u77 u78 u79 u80 u81 u82 u83 u84 u85 u86 u87 u88 u89 u90 u91 u92 u93 u94 u95 u96 u97 u98 u99 u100 u101 u102 u103 u104 u105 u107 u108 u109 u110 u111 u112 u113 u114 u115 u116 u117 u118 u119 u120 u121 u122 u123 u124 u125 u126 u127 u128 u129 u130 : Value} (n n₀ bm br b9 b11 Bs K cap : Nat) (ra : Option Addr) (s : ByteArray) (hs : s.size ≤ 281474976710656) (most : Int) (W1 : World) (hn : 1 ≤ n) (hnr : n₀ ≤ br) (h1n : 1 < n₀) (hn1 : n₀ ≤ W1.heap.size) (hK : (ahead (items s.data.toList)).length = K)
    (hlen : (items s.data.toList).length ≤ 1000000) (hEnv : Env W1.heap.size br b9 b11 Bs K cap ra s W1) (hm : Boxed W1 bm 3 (.int .i64 most)) (ds : List Deferred) (Q : Exit → Act → World → Prop)
    (hQ : ∀ D W3 e, W1.heap.size < D → Below W1.heap.size W1 W3 → W3.heap[D]? = some (.deferred (some [])) → e = .normal ∨ e = .exit 6 → Q e ⟨#[u0, u1, u2, .pointer (some ⟨bm, 0, none⟩), .pointer (some ⟨br, 0, none⟩), u5, u6, u7, u8, .pointer (some ⟨b9, 0, none⟩), u10, u11, u12, u13, u14, u15, u16, u17, u18, u19, u20, u21, .pointer (some ⟨W1.heap.size, 0, none⟩), u23, u24, u25, u26, u27, u28, u29, u30, u31, u32, u33, u34, u35, u36, u37, u38, u39, u40, u41, u42, u43, u44, u45, u46, u47, u48, u49, u50, u51, u52, u53, u54, u55, u56, u57, u58, u59, u60, u61, u62, u63, u64, u65, u66, u67, u68, u69, u70, u71, u72, u73, u74, u75, u76, u77, u78, u79, u80, u81, u82, u83, u84, u85, u86, u87, u88, u89, u90, u91, u92, u93, u94, u95, u96, u97, u98, u99, u100, u101, u102, u103, u104, u105, .func (.func 23) #[] #[.pointer (some ⟨Bs, 0, none⟩)], u107, u108, u109, u110, u111, u112, u113, u114, u115, u116, u117, u118, u119, u120, u121, u122, u123, u124, u125, u126, u127, u128, u129, u130], { target := .collected D, args := #[] } :: ds⟩ W3) :
    range3.wpIn Fence.wide n Tryd.prog Q ⟨#[u0, u1, u2, .pointer (some ⟨bm, 0, none⟩), .pointer (some ⟨br, 0, none⟩), u5, u6, u7, u8, .pointer (some ⟨b9, 0, none⟩), u10, u11, u12, u13, u14, u15, u16, u17, u18, u19, u20, u21, .pointer (some ⟨W1.heap.size, 0, none⟩), u23, u24, u25, u26, u27, u28, u29, u30, u31, u32, u33, u34, u35, u36, u37, u38, u39, u40, u41, u42, u43, u44, u45, u46, u47, u48, u49, u50, u51, u52, u53, u54, u55, u56, u57, u58, u59, u60, u61, u62, u63, u64, u65, u66, u67, u68, u69, u70, u71, u72, u73, u74, u75, u76, u77, u78, u79, u80, u81, u82, u83, u84, u85, u86, u87, u88, u89, u90, u91, u92, u93, u94, u95, u96, u97, u98, u99, u100, u101, u102, u103, u104, u105, .func (.func 23) #[] #[.pointer (some ⟨Bs, 0, none⟩)], u107, u108, u109, u110, u111, u112, u113, u114, u115, u116, u117, u118, u119, u120, u121, u122, u123, u124, u125, u126, u127, u128, u129, u130], ds⟩ (W1.alloc (.cells #[.int .i64 0] 3)) := by
  rw [range3_eq]
  have hb : Below W1.heap.size W1 (W1.alloc (.cells #[.int .i64 0] 3)) := (Below.refl _ _).alloc (Nat.le_refl _) _
  have hbx : Boxed (W1.alloc (.cells #[.int .i64 0] 3)) W1.heap.size 3 (.int .i64 0) := Boxed.new _ _ _
  have hE2 : Env W1.heap.size br b9 b11 Bs K cap ra s (W1.alloc (.cells #[.int .i64 0] 3)) := hEnv.below hb
  have hsz : (W1.alloc (.cells #[.int .i64 0] 3)).heap.size = W1.heap.size + 1 := by rw [World.size_alloc]
  obtain ⟨W2, hW2⟩ : ∃ W2, W1.alloc (.cells #[.int .i64 0] 3) = W2 := ⟨_, rfl⟩
  rw [hW2] at hb hbx hE2 hsz ⊢
  clear hW2
  refine range_all (n₀ := n₀) (Bs := Bs) (s := s) hn hs rfl rfl hE2.str hE2.ev h1n (by omega) (I2 W1.heap.size W1.heap.size W1) (Ix3 (ahead (items s.data.toList)) W1.heap.size W1) (i2_own _ _ _ _ (Nat.le_refl _) (by omega)) (fun _ => ?own) ⟨hbx, hb⟩
    (fun x a' W => ∃ Bx, W.heap[Bx]? = some (.cells #[.int .u8 x.1.kind, S x.1.text, .int .i64 x.1.n, .int .i64 x.1.pos] 56 (0, 0)) ∧ a' = ⟨#[u0, u1, u2, .pointer (some ⟨bm, 0, none⟩), .pointer (some ⟨br, 0, none⟩), u5, u6, u7, u8, .pointer (some ⟨b9, 0, none⟩), u10, u11, u12, u13, u14, u15, u16, u17, u18, u19, u20, u21, .pointer (some ⟨W1.heap.size, 0, none⟩), .pointer (some ⟨Bx, 0, none⟩), u24, u25, u26, u27, u28, u29, u30, u31, u32, u33, u34, u35, u36, u37, u38, u39, u40, u41, u42, u43, u44, u45, u46, u47, u48, u49, u50, u51, u52, u53, u54, u55, u56, u57, u58, u59, u60, u61, u62, u63, u64, u65, u66, u67, u68, u69, u70, u71, u72, u73, u74, u75, u76, u77, u78, u79, u80, u81, u82, u83, u84, u85, u86, u87, u88, u89, u90, u91, u92, u93, u94, u95, u96, u97, u98, u99, u100, u101, u102, u103, u104, u105, .func (.func 23) #[] #[.pointer (some ⟨Bs, 0, none⟩)], .agg #[.int .u8 x.1.kind, S x.1.text, .int .i64 x.1.n, .int .i64 x.1.pos], u108, u109, u110, u111, u112, u113, u114, u115, u116, u117, u118, u119, u120, u121, u122, u123, u124, u125, u126, u127, u128, u129, u130], []⟩) ?hAx ?assign ?body ?done ?stop
  case own =>
    rintro q X Y row (h | ⟨h1, h2⟩) hg hr
    · exact .inl h
    · exact .inr ⟨h1, ownFrom_below (β := Unit) (Nat.le_refl W1.heap.size) (by omega : W1.heap.size ≤ W2.heap.size) () X Y row h2 hg hr⟩
  case hAx =>
    rintro x a' _ A B row ⟨Bx, h2, h3⟩ hg hr
    refine ⟨Bx, (hg.block Bx (Array.getElem?_eq_some_iff.1 h2).1 (fun e => ?_)).trans h2, h3⟩
    obtain ⟨_, o, ho, hn⟩ := hr _ e.symm
    rw [h2] at ho; cases ho; cases hn
  case assign =>
    rintro m l' pre x W K' hi hK'
    have hal : Below W.heap.size W (W.alloc (.cells #[.int .u8 x.1.kind, S x.1.text, .int .i64 x.1.n, .int .i64 x.1.pos] 56)) := (Below.refl _ W).alloc (Nat.le_refl _) _
    have hlt := hi.1.lt
    unfold range3 pass4 loop4 top4; simp only [Tryd.f4, Option.getD, cL, cR, cB, cLp, cRa]
    simp only [encT]
    gi_wp2
    exact hK' _ _ (kp5_below (by omega) hal) ⟨hi.1.alloc _, hi.2.alloc (by omega) _⟩ ⟨W.heap.size, World.alloc_heap_new _ _, rfl⟩
  case body =>
    rintro m l' pre x a' W hl' hrec hi ⟨Bx, hx, rfl⟩ hlt
    have hEW := hEnv.below hi.2
    exact body3_ok m l' n₀ _ _ br b9 _ Bx K cap ra _ pre x _ W hnr hn1 (Nat.le_refl _) hK (by omega) hi.1 hi.2 hEW.some9 hEW.res hEW.ts hx bm most ((hi.2.block bm hm.lt).trans hm) hm.lt
  case done =>
    intro D W hD hi hDd
    exact hQ D W _ (by omega) hi.2 hDd (.inl rfl)
  case stop =>
    rintro D c pre W hD hp (⟨rfl, hx⟩ | ⟨rfl, hx⟩) hDd
    · exact absurd hp hx
    · exact wpIn_exit (hQ D W _ (by omega) hx hDd (.inr rfl))
end Go.Proofs.YtfdpbmbafpieoaaDoor
