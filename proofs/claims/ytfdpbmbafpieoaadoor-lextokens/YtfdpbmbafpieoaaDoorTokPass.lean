/- The walk of LexTokens, fourth part: one pass. -/
import Derived.Test.YtfdpbmbafpieoaaDoorTokOuter
namespace Go.Proofs.YtfdpbmbafpieoaaDoor
open Go.RowKit Go.Shelf

theorem Env.off {Sz br b9 b11 Bs K cap b : Nat} {ra : Option Addr} {s : ByteArray} {W W' : World} (h : Env Sz br b9 b11 Bs K cap ra s W) (hk : ∀ g, g < Sz → g ≠ b → W'.heap[g]? = W.heap[g]?)
    (d0 : br ≠ b) (d9 : b9 ≠ b) (d11 : b11 ≠ b) (ds : Bs ≠ b) (dra : ∀ g, ra = some ⟨g, 0, none⟩ → g ≠ b) (d1 : 1 ≠ b) : Env Sz br b9 b11 Bs K cap ra s W' :=
  ⟨(hk _ h.lr d0).trans h.res, (hk _ h.l9 d9).trans h.some9, (hk _ h.l11 d11).trans h.it, (hk _ h.ls ds).trans h.str, h.ts.kept (fun g hg _ => hk g (h.lra g hg) (dra g hg)),
    (by obtain ⟨te, pe, hc⟩ := h.ev; exact ⟨te, pe, (World.cell?_of_block (w := W) (a := ⟨1, 0, none⟩) (hk 1 h.l1 d1)).trans hc⟩), h.lr, h.l9, h.l11, h.ls, h.lra, h.l1⟩
theorem own_slice {W : World} {b e c n : Nat} {v : Value} {xs : List Value} (h : W.ownsRow b e c v n xs) : ∃ ra cap, v = .slice ra n cap := by
  rcases h.2 with ⟨rfl, h0⟩ | ⟨g, cap, cur, rfl, _⟩
  · exact ⟨none, 0, by rw [h0]⟩
  · exact ⟨_, _, rfl⟩
theorem own_ts {W : World} {b cap : Nat} {ra : Option Addr} {xs : List (Tok × Int)} (h : W.ownsRow b 56 4 (.slice ra xs.length cap) xs.length (rowOf xs)) : TS W ra xs := by
  by_cases hne : xs = []
  · subst hne; exact TS.nil _ _
  · obtain ⟨g, cap', hv, _, ht⟩ := trow_of hne h
    cases hv
    exact ht.ts

theorem own_same {W W' : World} {b e c n : Nat} {v : Value} {xs : List Value} (h : W.ownsRow b e c v n xs) (hk : ∀ g, v.ownBlock = some g → W'.heap[g]? = W.heap[g]?) : W'.ownsRow b e c v n xs := by
  refine ⟨h.1, ?_⟩
  rcases h.2 with h' | ⟨g, cap, cur, hv, hg, hh, r⟩
  · exact .inl h'
  · exact .inr ⟨g, cap, cur, hv, hg, (hk g (by rw [hv]; rfl)).trans hh, r⟩

set_option maxRecDepth 100000 in
set_option maxHeartbeats 4000000 in
theorem pass_ok {u1 u2 u5 u12 u13 u14 u15 u16 u17 u18 u19 u20 u21 u22 u23 u24 u25 u26 u27 u28 u29 u30 u31 u32 u33 u34 u35 u36 u37 u38 u39 u40 u41 u42 u43 u44 u45 u46 u47 u48 u49 u50 u51 u52 u53 u54 u55 u56 u57 u58 u59 u60 u61 u62 u63 u64 u65 u66 u67 u68 u69 u70 u71 u72 u73 u74 u75 u76 u77 u78 u79 u80 u81 u82 u83 u84 u85 u86 u87 u88 u89 u90 u91 u92 u93 u94 u95 u96 u97 u98 u99 u100 u101 u102 u103 u104 u105 u106 u107 u108 u109 u110 u111 u112 u113 u114 u115 u116 u117 u118 u119 u120 u121 u122 u123 u124 u125 u126 u127 u128 u129 u130 : Value} (n₀ base b bm br b9 b11 Bs K cap j nG cw : Nat) (ra rq : Option Addr) (s : ByteArray) (hs : s.size ≤ 281474976710656) (most : Int) (v : Value) (rows : List Value) (W : World) (hnr : n₀ ≤ br) (h1n : 1 < n₀) (hn1 : n₀ ≤ base) (hK : (ahead (items s.data.toList)).length = K) (hKm : K ≤ 1000000) (hG : (got (items s.data.toList)).length = nG) (hGm : nG ≤ 1000000)
    (hlen : (items s.data.toList).length ≤ 1000000) (hEnv : Env base br b9 b11 Bs K cap ra s W) (hm : Boxed W bm 3 (.int .i64 most)) (hmb : bm < base) (hTS : TS W rq (got (items s.data.toList)))
    (hbb : b < base) (hbs : base ≤ W.heap.size) (hBk : Bk W b v) (hrv : W.ownsRow base 25 1 v j rows) (hj : j ≤ 1000)
    (d0 : br ≠ b) (d9 : b9 ≠ b) (d11 : b11 ≠ b) (dbs : Bs ≠ b) (dm : bm ≠ b) (dra : ∀ g, ra = some ⟨g, 0, none⟩ → g ≠ b) (d1 : 1 ≠ b) (ds : List Deferred) (Q : Exit → Act → World → Prop)
    (hQ : ∀ {u13 u14 u15 u16 u17 u18 u19 u20 u21 u22 u23 u24 u25 u26 u27 u28 u29 u30 u31 u32 u33 u34 u35 u36 u37 u38 u39 u40 u41 u42 u43 u44 u45 u46 u47 u48 u49 u50 u51 u52 u53 u54 u55 u56 u57 u58 u59 u60 u61 u62 u63 u64 u65 u66 u67 u68 u69 u70 u71 u72 u73 u74 u75 u76 u77 u78 u79 u80 u81 u82 u83 u84 u85 u86 u87 u88 u89 u90 u91 u92 u93 u94 u95 u96 u97 u98 u99 u100 u101 u102 u103 u104 u105 u106 u107 u108 u109 u110 u111 u112 u113 u114 u115 u116 u117 u118 u119 u120 u121 u122 u123 u124 u125 u126 u127 u128 u129 u130 : Value} (D1 D2 : Nat) (W' : World) (v' : Value) (rl : Option Addr) (cl : Nat), W.heap.size ≤ D1 → D1 < D2 → W'.heap[D1]? = some (.deferred (some [])) → W'.heap[D2]? = some (.deferred (some [])) → Bk W' b v' → W'.ownsRow base 25 1 v' (j + 1) (rows ++ [.slice rl nG cl]) →
      W'.ownsRow W.heap.size 56 4 (.slice rl nG cl) nG (rowOf (got (items s.data.toList))) → (v'.ownBlock = v.ownBlock ∨ ∃ g, v'.ownBlock = some g ∧ W.heap.size ≤ g) → W.heap.size ≤ W'.heap.size → (∀ g, g < W.heap.size → g ≠ b → v.ownBlock ≠ some g → W'.heap[g]? = W.heap[g]?) → Below b W W' →
      Q .normal ⟨#[.string s, u1, u2, .pointer (some ⟨bm, 0, none⟩), .pointer (some ⟨br, 0, none⟩), u5, .slice rq nG cw, .int .i64 (lexErr (items s.data.toList)), .int .i64 (lexPos (items s.data.toList)), .pointer (some ⟨b9, 0, none⟩), .pointer (some ⟨b, 0, none⟩), .pointer (some ⟨b11, 0, none⟩), u12, u13, u14, u15, u16, u17, u18, u19, u20, u21, u22, u23, u24, u25, u26, u27, u28, u29, u30, u31, u32, u33, u34, u35, u36, u37, u38, u39, u40, u41, u42, u43, u44, u45, u46, u47, u48, u49, u50, u51, u52, u53, u54, u55, u56, u57, u58, u59, u60, u61, u62, u63, u64, u65, u66, u67, u68, u69, u70, u71, u72, u73, u74, u75, u76, u77, u78, u79, u80, u81, u82, u83, u84, u85, u86, u87, u88, u89, u90, u91, u92, u93, u94, u95, u96, u97, u98, u99, u100, u101, u102, u103, u104, u105, u106, u107, u108, u109, u110, u111, u112, u113, u114, u115, u116, u117, u118, u119, u120, u121, u122, u123, u124, u125, u126, u127, u128, u129, u130], { target := .collected D2, args := #[] } :: { target := .collected D1, args := #[] } :: ds⟩ W') :
    pass4.wpIn Fence.wide 6 Tryd.prog Q ⟨#[.string s, u1, u2, .pointer (some ⟨bm, 0, none⟩), .pointer (some ⟨br, 0, none⟩), u5, .slice rq nG cw, .int .i64 (lexErr (items s.data.toList)), .int .i64 (lexPos (items s.data.toList)), .pointer (some ⟨b9, 0, none⟩), .pointer (some ⟨b, 0, none⟩), .pointer (some ⟨b11, 0, none⟩), u12, u13, u14, u15, u16, u17, u18, u19, u20, u21, u22, u23, u24, u25, u26, u27, u28, u29, u30, u31, u32, u33, u34, u35, u36, u37, u38, u39, u40, u41, u42, u43, u44, u45, u46, u47, u48, u49, u50, u51, u52, u53, u54, u55, u56, u57, u58, u59, u60, u61, u62, u63, u64, u65, u66, u67, u68, u69, u70, u71, u72, u73, u74, u75, u76, u77, u78, u79, u80, u81, u82, u83, u84, u85, u86, u87, u88, u89, u90, u91, u92, u93, u94, u95, u96, u97, u98, u99, u100, u101, u102, u103, u104, u105, u106, u107, u108, u109, u110, u111, u112, u113, u114, u115, u116, u117, u118, u119, u120, u121, u122, u123, u124, u125, u126, u127, u128, u129, u130], ds⟩ W := by
  unfold pass4 loop4 top4; simp only [Tryd.f4, Option.getD, cL, cR, cB, cLp]
  have HEnv : Hid (Env base br b9 b11 Bs K cap ra s W) := hEnv
  have HTS : Hid (TS W rq (got (items s.data.toList))) := hTS
  have HBk : Hid (Bk W b v) := hBk
  have Hrv : Hid (W.ownsRow base 25 1 v j rows) := hrv
  have HG : Hid _ := hG
  have HK : Hid _ := hK
  have HM : Hid (Boxed W bm 3 (.int .i64 most)) := hm
  have HQ : Hid _ := @hQ
  clear hEnv hTS hBk hrv hG hK hm hQ
  gi_wp2_with fail
  refine ⟨trivial, ?_⟩
  refine (callsIn_any (tokens_got s hs W HEnv.out.ev)).mono ?_
  rintro e w1 ⟨hb1, vl, rfl, hol⟩
  rw [HG.out] at hol
  obtain ⟨rl, cl, rfl⟩ := own_slice hol
  have Hol : Hid (w1.ownsRow W.heap.size 56 4 (.slice rl nG cl) nG (rowOf (got (items s.data.toList)))) := hol
  have hTl : TS w1 rl (got (items s.data.toList)) := own_ts (b := W.heap.size) (cap := cl) (by rw [HG.out]; exact hol)
  have HTl : Hid _ := hTl
  have Hb1 : Hid _ := hb1
  clear hol hTl hb1
  gi_wp2_with fail
  refine ⟨trivial, ?_⟩
  refine (callsIn_wide.2 (same_any rl rq nG cl cw (got (items s.data.toList)) w1 HG.out (by unfold maxLen; omega) HTl.out (HTS.out.below Hb1.out))).mono ?_
  rintro e w2 ⟨rfl, hb2⟩
  have Hb2 : Hid (Below W.heap.size W w2) := Hb1.out.trans (hb2.mono Hb1.out.size)
  have Hol2 : Hid (w2.ownsRow W.heap.size 56 4 (.slice rl nG cl) nG (rowOf (got (items s.data.toList)))) := own_below Hol.out hb2
  have hs12 : Hid (w1.heap.size ≤ w2.heap.size) := hb2.size
  clear hb2
  gi_wp2_with fail
  refine ⟨trivial, ?_⟩
  refine (callsIn_wide.2 (bookTokens_any base b j v rl nG cl rows w2 (HBk.out.below Hb2.out HBk.out.lt) hbb (Nat.le_trans hbs Hb2.out.size) (own_below Hrv.out Hb2.out) (by omega))).mono ?_
  rintro e w3 ⟨⟨r, rfl⟩, v', hBk3, hrv3, hvo, hsz3, hkeep3, hB3⟩
  have hvb : ∀ g, g < base → v.ownBlock ≠ some g := fun g hg e => by have := (Hrv.out.lt g e).1; omega
  have HE3 : Hid (Env base br b9 b11 Bs K cap ra s w3) := (HEnv.out.below (Hb2.out.mono hbs)).off (fun g hg hne => hkeep3 g (Nat.lt_of_lt_of_le hg (Nat.le_trans hbs Hb2.out.size)) hne (hvb g hg)) d0 d9 d11 dbs dra d1
  have HM3 : Hid (Boxed w3 bm 3 (.int .i64 most)) := ((hkeep3 bm (Nat.lt_of_lt_of_le hmb (Nat.le_trans hbs Hb2.out.size)) dm (hvb bm hmb)).trans (Hb2.out.block bm HM.out.lt)).trans HM.out
  have Hol3 : Hid (w3.ownsRow W.heap.size 56 4 (.slice rl nG cl) nG (rowOf (got (items s.data.toList)))) := own_same Hol2.out fun g hg => hkeep3 g (Hol2.out.lt g hg).2 (by have := (Hol2.out.lt g hg).1; omega) (fun e => by have := (Hol2.out.lt g hg).1; have := (Hrv.out.lt g e).2; omega)
  have hbs3 : base ≤ w3.heap.size := Nat.le_trans (Nat.le_trans hbs Hb2.out.size) hsz3
  have c11 : ∀ o, (w3.alloc o).cell? ⟨b11, 0, none⟩ = some (.func (.func 23) #[] #[.pointer (some ⟨Bs, 0, none⟩)]) := fun o => (HE3.out.it.alloc o).cell
  have HBk3 : Hid (Bk w3 b v') := hBk3
  have Hrv3 : Hid _ := hrv3
  have Hvo : Hid _ := hvo
  have Hk3 : Hid _ := hkeep3
  have HB3 : Hid _ := hB3
  have Hsz3 : Hid _ := hsz3
  clear hBk3 hrv3 hvo hkeep3 hB3 hsz3 hvb
  gi_wp2_with fail
  refine first_ok 6 n₀ br b9 b11 Bs K cap ra s hs w3 (by omega) hnr h1n (by omega) HK.out hlen (HE3.out.mono hbs3) _ _ ?_
  rintro D1 w4 hD1 hb4 ⟨va, hva, hoa⟩ hd1
  obtain ⟨raA, capA, rfl⟩ := own_slice hoa
  have HE4 : Hid (Env w3.heap.size br b9 b11 Bs K cap ra s w4) := (HE3.out.mono hbs3).below hb4
  have c17 := hva.cell
  have c9 := HE4.out.some9.cell
  have HTA : Hid (TS w4 raA (ahead (items s.data.toList))) := own_ts (b := w3.heap.size) (cap := capA) (by rw [HK.out]; exact hoa)
  have Hb4 : Hid _ := hb4
  have Hd1 : Hid _ := hd1
  have hlD : Hid (D1 < w4.heap.size) := (Array.getElem?_eq_some_iff.1 hd1).1
  clear hva hoa hb4 hd1 c11
  gi_wp2_with fail
  refine ⟨trivial, ?_⟩
  refine (callsIn_wide.2 (same_any raA ra K capA cap (ahead (items s.data.toList)) w4 HK.out (by unfold maxLen; omega) HTA.out HE4.out.ts)).mono ?_
  rintro e w5 ⟨rfl, hb5⟩
  have HE5 : Hid (Env w5.heap.size br b9 b11 Bs K cap ra s w5) := (HE4.out.below (hb5.mono Hb4.out.size)).mono (Nat.le_trans Hb4.out.size hb5.size)
  have c11 : ∀ o, (w5.alloc o).cell? ⟨b11, 0, none⟩ = some (.func (.func 23) #[] #[.pointer (some ⟨Bs, 0, none⟩)]) := fun o => (HE5.out.it.alloc o).cell
  have Hb35 : Hid (Below w3.heap.size w3 w5) := Hb4.out.trans (hb5.mono Hb4.out.size)
  have Hd15 : Hid (w5.heap[D1]? = some (.deferred (some []))) := (hb5.block D1 hlD.out).trans Hd1.out
  have hlD5 : Hid (D1 < w5.heap.size) := Nat.lt_of_lt_of_le hlD.out hb5.size
  clear hb5 c17 c9
  gi_wp2_with fail
  refine third_ok 6 n₀ bm br b9 b11 Bs K cap ra s hs most w5 (by omega) hnr h1n (Nat.le_trans (by omega) Hb35.out.size) HK.out hlen HE5.out ((Hb35.out.block bm HM3.out.lt).trans HM3.out) _ _ ?_
  intro D2 w6 e hD2 hb6 hd2 he
  have Hb36 : Hid (Below w3.heap.size w3 w6) := Hb35.out.trans (hb6.mono Hb35.out.size)
  have e12 : W.heap.size ≤ w2.heap.size := Hb2.out.size
  have e23 : w2.heap.size ≤ w3.heap.size := Hsz3.out
  have e36 : w3.heap.size ≤ w6.heap.size := Hb36.out.size
  rcases he with rfl | rfl
  · simp only [Exit.inBlock]
    exact HQ.out D1 D2 w6 v' rl cl (by omega) (Nat.lt_trans hlD5.out hD2) ((hb6.block D1 hlD5.out).trans Hd15.out) hd2 (HBk3.out.below Hb36.out HBk3.out.lt) (own_below Hrv3.out Hb36.out) (own_below Hol3.out Hb36.out)
      (Hvo.out.imp id fun h => ⟨_, h, by omega⟩) (by omega) (fun g hg hne hv => ((Hb36.out.block g (by omega)).trans (Hk3.out g (by omega) hne hv)).trans (Hb2.out.block g hg)) (((Hb2.out.mono (by omega)).trans HB3.out).trans (Hb36.out.mono (by omega)))
  · simp only [Exit.inBlock]
    exact HQ.out D1 D2 w6 v' rl cl (by omega) (Nat.lt_trans hlD5.out hD2) ((hb6.block D1 hlD5.out).trans Hd15.out) hd2 (HBk3.out.below Hb36.out HBk3.out.lt) (own_below Hrv3.out Hb36.out) (own_below Hol3.out Hb36.out)
      (Hvo.out.imp id fun h => ⟨_, h, by omega⟩) (by omega) (fun g hg hne hv => ((Hb36.out.block g (by omega)).trans (Hk3.out g (by omega) hne hv)).trans (Hb2.out.block g hg)) (((Hb2.out.mono (by omega)).trans HB3.out).trans (Hb36.out.mono (by omega)))
end Go.Proofs.YtfdpbmbafpieoaaDoor
