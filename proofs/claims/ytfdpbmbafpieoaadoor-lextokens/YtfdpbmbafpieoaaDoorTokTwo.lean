/- The walk of LexTokens, fifth part: two passes. -/
import Derived.Test.YtfdpbmbafpieoaaDoorTokPass
import Derived.LoopNIn
namespace Go.Proofs.YtfdpbmbafpieoaaDoor
open Go.RowKit Go.Shelf

theorem loop4_eq : loop4 = .seq (.seq (.region 11 #[{ dst := some 44, op := .move (.tmp 12), type := 3, pos := "law.go:46", after := #[], guard := none }, { dst := some 45, op := .binOp .lss 3 (.tmp 44) (.const (.int .i64 2)) 3, type := 4, pos := "law.go:46", after := #[{ on := 0, ground := .data }], guard := none }] false) (.cond (.tmp 45) .skip (.exit 0)))
    (.seq (.block 1 pass4) (.region 12 #[{ dst := some 46, op := .move (.tmp 12), type := 3, pos := "law.go:46", after := #[], guard := none }, { dst := some 47, op := .binOp .add 3 (.tmp 46) (.const (.int .i64 1)) 3, type := 3, pos := "law.go:46", after := #[{ on := 0, ground := .data }], guard := none }, { dst := some 12, op := .assign (.tmp 47), type := 3, pos := "law.go:46", after := #[{ on := 1, ground := .data }, { on := 0, ground := .phase }, { on := 1, ground := .phase }], guard := none }] false)) := by kernel_rfl

theorem own_mono {W : World} {b b' e c n : Nat} {v : Value} {xs : List Value} (h : W.ownsRow b' e c v n xs) (hb : b ≤ b') : W.ownsRow b e c v n xs := by
  refine ⟨h.1, ?_⟩
  rcases h.2 with h' | ⟨g, cap, cur, hv, hg, r⟩
  · exact .inl h'
  · exact .inr ⟨g, cap, cur, hv, Nat.le_trans hb hg, r⟩

/-- Two lists in a book. -/
theorem held_two {W : World} {base m1 m2 nG cl1 cl2 : Nat} {v : Value} {rl1 rl2 : Option Addr} {xs : List Value} (hv : W.ownsRow base 25 1 v 2 [.slice rl1 nG cl1, .slice rl2 nG cl2]) (h1 : W.ownsRow m1 56 4 (.slice rl1 nG cl1) nG xs) (h2 : W.ownsRow m2 56 4 (.slice rl2 nG cl2) nG xs)
    (hm1 : base ≤ m1) (hm2 : base ≤ m2) (hlt : ∀ g, (Value.slice rl1 nG cl1).ownBlock = some g → g < m2) :
    ∃ B capB, v = .slice (some ⟨B, 0, none⟩) 2 capB ∧ base ≤ B ∧ Held base 2 B (fun j => if j = 0 then .slice rl1 nG cl1 else .slice rl2 nG cl2) (fun _ => nG) W (fun _ => xs) := by
  obtain ⟨B, capB, rfl, hB, hBl, hc⟩ := ownsRow_cells (k := 1) hv
  refine ⟨B, capB, rfl, hB, ⟨?_, ?_, ?_, ?_, hBl⟩⟩
  · intro j hj
    rcases (show j = 0 ∨ j = 1 by omega) with rfl | rfl
    · exact hc 0 _ rfl
    · exact hc 1 _ rfl
  · intro j hj
    rcases (show j = 0 ∨ j = 1 by omega) with rfl | rfl
    · exact own_mono h1 hm1
    · exact own_mono h2 hm2
  · intro j j' hj hj' hne g hg
    rcases (show (j = 0 ∧ j' = 1) ∨ (j = 1 ∧ j' = 0) by omega) with ⟨rfl, rfl⟩ | ⟨rfl, rfl⟩
    · intro hg'
      have a := hlt g hg
      have := (h2.lt g hg').1
      omega
    · intro hg'
      have a := hlt g hg'
      have := (h2.lt g hg).1
      omega
  · intro j hj
    have e1 := fun g hg => own_types h1 hv (by decide) g hg
    have e2 := fun g hg => own_types h2 hv (by decide) g hg
    rcases (show j = 0 ∨ j = 1 by omega) with rfl | rfl
    · intro hg; exact e1 B hg rfl
    · intro hg; exact e2 B hg rfl

set_option maxRecDepth 100000 in
set_option maxHeartbeats 4000000 in
theorem loop_ok {u1 u2 u13 u14 u15 u16 u17 u18 u19 u20 u21 u22 u23 u24 u25 u26 u27 u28 u29 u30 u31 u32 u33 u34 u35 u36 u37 u38 u39 u40 u41 u42 u43 u44 u45 u46 u47 u48 u49 u50 u51 u52 u53 u54 u55 u56 u57 u58 u59 u60 u61 u62 u63 u64 u65 u66 u67 u68 u69 u70 u71 u72 u73 u74 u75 u76 u77 u78 u79 u80 u81 u82 u83 u84 u85 u86 u87 u88 u89 u90 u91 u92 u93 u94 u95 u96 u97 u98 u99 u100 u101 u102 u103 u104 u105 u106 u107 u108 u109 u110 u111 u112 u113 u114 u115 u116 u117 u118 u119 u120 u121 u122 u123 u124 u125 u126 u127 u128 u129 u130 u5 : Value} (n₀ base b bm br b9 b11 Bs K cap nG cw : Nat) (ra rq : Option Addr) (s : ByteArray) (hs : s.size ≤ 281474976710656) (most : Int) (W : World) (hnr : n₀ ≤ br) (h1n : 1 < n₀) (hn1 : n₀ ≤ base) (hK : (ahead (items s.data.toList)).length = K) (hKm : K ≤ 1000000) (hG : (got (items s.data.toList)).length = nG) (hGm : nG ≤ 1000000)
    (hlen : (items s.data.toList).length ≤ 1000000) (hEnv : Env base br b9 b11 Bs K cap ra s W) (hm : Boxed W bm 3 (.int .i64 most)) (hmb : bm < base) (hTS : TS W rq (got (items s.data.toList))) (hrq : ∀ g, rq = some ⟨g, 0, none⟩ → g < base)
    (hbb : b < base) (hbs : base ≤ W.heap.size) (hBk : Bk W b (.slice none 0 0)) (hnb : n₀ ≤ b)
    (d0 : br ≠ b) (d9 : b9 ≠ b) (d11 : b11 ≠ b) (dbs : Bs ≠ b) (dm : bm ≠ b) (dra : ∀ g, ra = some ⟨g, 0, none⟩ → g ≠ b) (drq : ∀ g, rq = some ⟨g, 0, none⟩ → g ≠ b) (d1 : 1 ≠ b) (Q : Exit → Act → World → Prop)
    (hQ : ∀ {u1 u2 u12 u13 u14 u15 u16 u17 u18 u19 u20 u21 u22 u23 u24 u25 u26 u27 u28 u29 u30 u31 u32 u33 u34 u35 u36 u37 u38 u39 u40 u41 u42 u43 u44 u45 u46 u47 u48 u49 u50 u51 u52 u53 u54 u55 u56 u57 u58 u59 u60 u61 u62 u63 u64 u65 u66 u67 u68 u69 u70 u71 u72 u73 u74 u75 u76 u77 u78 u79 u80 u81 u82 u83 u84 u85 u86 u87 u88 u89 u90 u91 u92 u93 u94 u95 u96 u97 u98 u99 u100 u101 u102 u103 u104 u105 u106 u107 u108 u109 u110 u111 u112 u113 u114 u115 u116 u117 u118 u119 u120 u121 u122 u123 u124 u125 u126 u127 u128 u129 u130 : Value} (D1 D2 D3 D4 B capB : Nat) (V : Nat → Value) (X : Nat → List Value) (W' : World), D1 < D2 → D2 < D3 → D3 < D4 → W'.heap[D1]? = some (.deferred (some [])) → W'.heap[D2]? = some (.deferred (some [])) → W'.heap[D3]? = some (.deferred (some [])) → W'.heap[D4]? = some (.deferred (some [])) →
      Bk W' b (.slice (some ⟨B, 0, none⟩) 2 capB) → base ≤ B → Held base 2 B V (fun _ => nG) W' X → Env base br b9 b11 Bs K cap ra s W' → base ≤ W'.heap.size → base ≤ D1 → Below n₀ W W' →
      Q (.exit 0) ⟨#[.string s, u1, u2, .pointer (some ⟨bm, 0, none⟩), .pointer (some ⟨br, 0, none⟩), u5, .slice rq nG cw, .int .i64 (lexErr (items s.data.toList)), .int .i64 (lexPos (items s.data.toList)), .pointer (some ⟨b9, 0, none⟩), .pointer (some ⟨b, 0, none⟩), .pointer (some ⟨b11, 0, none⟩), u12, u13, u14, u15, u16, u17, u18, u19, u20, u21, u22, u23, u24, u25, u26, u27, u28, u29, u30, u31, u32, u33, u34, u35, u36, u37, u38, u39, u40, u41, u42, u43, u44, u45, u46, u47, u48, u49, u50, u51, u52, u53, u54, u55, u56, u57, u58, u59, u60, u61, u62, u63, u64, u65, u66, u67, u68, u69, u70, u71, u72, u73, u74, u75, u76, u77, u78, u79, u80, u81, u82, u83, u84, u85, u86, u87, u88, u89, u90, u91, u92, u93, u94, u95, u96, u97, u98, u99, u100, u101, u102, u103, u104, u105, u106, u107, u108, u109, u110, u111, u112, u113, u114, u115, u116, u117, u118, u119, u120, u121, u122, u123, u124, u125, u126, u127, u128, u129, u130], { target := .collected D4, args := #[] } :: { target := .collected D3, args := #[] } :: { target := .collected D2, args := #[] } :: { target := .collected D1, args := #[] } :: []⟩ W') :
    (Code.loop loop4).wpIn Fence.wide 6 Tryd.prog Q ⟨#[.string s, u1, u2, .pointer (some ⟨bm, 0, none⟩), .pointer (some ⟨br, 0, none⟩), u5, .slice rq nG cw, .int .i64 (lexErr (items s.data.toList)), .int .i64 (lexPos (items s.data.toList)), .pointer (some ⟨b9, 0, none⟩), .pointer (some ⟨b, 0, none⟩), .pointer (some ⟨b11, 0, none⟩), .int .i64 0, u13, u14, u15, u16, u17, u18, u19, u20, u21, u22, u23, u24, u25, u26, u27, u28, u29, u30, u31, u32, u33, u34, u35, u36, u37, u38, u39, u40, u41, u42, u43, u44, u45, u46, u47, u48, u49, u50, u51, u52, u53, u54, u55, u56, u57, u58, u59, u60, u61, u62, u63, u64, u65, u66, u67, u68, u69, u70, u71, u72, u73, u74, u75, u76, u77, u78, u79, u80, u81, u82, u83, u84, u85, u86, u87, u88, u89, u90, u91, u92, u93, u94, u95, u96, u97, u98, u99, u100, u101, u102, u103, u104, u105, u106, u107, u108, u109, u110, u111, u112, u113, u114, u115, u116, u117, u118, u119, u120, u121, u122, u123, u124, u125, u126, u127, u128, u129, u130], []⟩ W := by
  refine wpIn_loop_rounds 3 ?_
  have HQ : Hid _ := @hQ
  have HEnv : Hid (Env base br b9 b11 Bs K cap ra s W) := hEnv
  have HTS : Hid (TS W rq (got (items s.data.toList))) := hTS
  have HBk : Hid (Bk W b (.slice none 0 0)) := hBk
  have HM : Hid (Boxed W bm 3 (.int .i64 most)) := hm
  clear hQ hEnv hTS hBk hm
  rw [roundsIn_succ, loop4_eq]
  gi_wp2_with fail
  refine pass_ok n₀ base b bm br b9 b11 Bs K cap 0 nG cw ra rq s hs most (.slice none 0 0) [] W hnr h1n hn1 hK hKm hG hGm hlen HEnv.out HM.out hmb HTS.out hbb hbs HBk.out (World.ownsRow_nil _ _ _ _) (by omega) d0 d9 d11 dbs dm dra d1 _ _ ?_
  intros
  rename_i D1 D2 w1 v1 rl1 cl1 hD1 hD12 hd1 hd2 hBk1 hrv1 hl1 hvo1 hs1 hk1 hb1
  have k1 : ∀ g, g < base → g ≠ b → w1.heap[g]? = W.heap[g]? := fun g hg hne => hk1 g (by omega) hne (by simp [Value.ownBlock])
  have HEnv1 : Hid (Env base br b9 b11 Bs K cap ra s w1) := HEnv.out.off k1 d0 d9 d11 dbs dra d1
  have HTS1 : Hid (TS w1 rq (got (items s.data.toList))) := HTS.out.kept fun g hg _ => k1 g (hrq g hg) (drq g hg)
  have HM1 : Hid (Boxed w1 bm 3 (.int .i64 most)) := (k1 bm hmb dm).trans HM.out
  have Hk1 : Hid _ := hk1
  have Hd1 : Hid _ := hd1
  have Hd2 : Hid _ := hd2
  have Hrv1 : Hid (w1.ownsRow base 25 1 v1 1 [.slice rl1 nG cl1]) := hrv1
  have Hl1 : Hid (w1.ownsRow W.heap.size 56 4 (.slice rl1 nG cl1) nG (rowOf (got (items s.data.toList)))) := hl1
  have HBk1 : Hid (Bk w1 b v1) := hBk1
  have Hvo1 : Hid _ := hvo1
  have Hb1 : Hid _ := hb1
  clear hd1 hd2 hk1 hrv1 hl1 hBk1 hvo1 hb1 k1
  gi_wp2_with fail
  rw [roundsIn_succ]
  gi_wp2_with fail
  refine pass_ok n₀ base b bm br b9 b11 Bs K cap 1 nG cw ra rq s hs most v1 [.slice rl1 nG cl1] w1 hnr h1n hn1 hK hKm hG hGm hlen HEnv1.out HM1.out hmb HTS1.out hbb (by omega) HBk1.out Hrv1.out (by omega) d0 d9 d11 dbs dm dra d1 _ _ ?_
  intros
  rename_i D3 D4 w2 v2 rl2 cl2 hD3 hD34 hd3 hd4 hBk2 hrv2 hl2 hvo2 hs2 hk2 hb2
  have hlD2 : D2 < w1.heap.size := (Array.getElem?_eq_some_iff.1 Hd2.out).1
  have hv1b : ∀ g, g < base → v1.ownBlock ≠ some g := fun g hg e => by have := (Hrv1.out.lt g e).1; omega
  have k2 : ∀ g, g < base → g ≠ b → w2.heap[g]? = w1.heap[g]? := fun g hg hne => hk2 g (by omega) hne (hv1b g hg)
  have HEnv2 : Hid (Env base br b9 b11 Bs K cap ra s w2) := HEnv1.out.off k2 d0 d9 d11 dbs dra d1
  have nd : ∀ D, w1.heap[D]? = some (.deferred (some [])) → v1.ownBlock ≠ some D := fun D hD e => by have := own_isCells Hrv1.out D _ e hD; cases this
  have Hd12 : Hid (w2.heap[D1]? = some (.deferred (some []))) := (hk2 D1 (by omega) (by omega) (nd D1 Hd1.out)).trans Hd1.out
  have Hd22 : Hid (w2.heap[D2]? = some (.deferred (some []))) := (hk2 D2 (by omega) (by omega) (nd D2 Hd2.out)).trans Hd2.out
  have Hl12 : w2.ownsRow W.heap.size 56 4 (.slice rl1 nG cl1) nG (rowOf (got (items s.data.toList))) := own_same Hl1.out fun g hg => hk2 g (Hl1.out.lt g hg).2 (by have := (Hl1.out.lt g hg).1; omega) (own_types Hl1.out Hrv1.out (by decide) g hg)
  obtain ⟨B, capB, rfl, hBB, hHeld⟩ := held_two hrv2 Hl12 hl2 hbs (by omega) (fun g hg => (Hl1.out.lt g hg).2)
  have HBB : Hid _ := hHeld
  have HBk2 : Hid _ := hBk2
  have Hd3 : Hid _ := hd3
  have Hd4 : Hid _ := hd4
  have Hb2 : Hid _ := hb2
  clear hd3 hd4 hk2 hrv2 hl2 hBk2 hvo2 hb2 k2 nd hHeld Hl12 hv1b
  gi_wp2_with fail
  rw [roundsIn_succ]
  gi_wp2_with fail
  exact HQ.out D1 D2 D3 D4 B capB _ _ w2 hD12 (by omega) hD34 Hd12.out Hd22.out Hd3.out Hd4.out HBk2.out hBB HBB.out HEnv2.out (by omega) (by omega) ((Hb1.out.mono hnb).trans (Hb2.out.mono hnb))
end Go.Proofs.YtfdpbmbafpieoaaDoor
