/- What works is made of.; works. -/
import Derived.Test.YtlpdfifjdlfpdaaGreatDoorGM
/- What works is made of. -/
namespace Go.Proofs.YtlpdfifjdlfpdaaGreatDoor
open Go.RowKit

set_option maxRecDepth 100000 in
theorem lsym_any (t : List UInt8) (w : World) : Calls Tryz.prog 19 #[S t] w fun e w' => e = .returned (.agg #[.int .u8 2, .int .i64 0, S t, .slice none 0 0, .bool false]) ∧ Below w.heap.size w w' := by
  go_enter Tryz.func19, Tryz.ntmps19
  go_wp2
  refine bodyPost_ret (v := .agg #[.int .u8 2, .int .i64 0, S t, .slice none 0 0, .bool false]) (by simp [results, Tryz.results19, go_sem]) rfl ⟨rfl, ?_⟩
  exact (Below.refl _ _).alloc (Nat.le_refl _) _
set_option maxRecDepth 100000 in
theorem lnum_any (n : Int) (w : World) : Calls Tryz.prog 20 #[.int .i64 n] w fun e w' => e = .returned (.agg #[.int .u8 1, .int .i64 n, S [], .slice none 0 0, .bool false]) ∧ Below w.heap.size w w' := by
  go_enter Tryz.func20, Tryz.ntmps20
  go_wp2
  refine bodyPost_ret (v := .agg #[.int .u8 1, .int .i64 n, S [], .slice none 0 0, .bool false]) (by simp [results, Tryz.results20, go_sem]) rfl ⟨rfl, ?_⟩
  exact (Below.refl _ _).alloc (Nat.le_refl _) _
set_option maxRecDepth 100000 in
theorem llist_any (ra : Option Addr) (n c : Nat) (w : World) : Calls Tryz.prog 18 #[.slice ra n c] w fun e w' => e = .returned (.agg #[.int .u8 5, .int .i64 0, S [], .slice ra n c, .bool false]) ∧ Below w.heap.size w w' := by
  go_enter Tryz.func18, Tryz.ntmps18
  go_wp2
  refine bodyPost_ret (v := .agg #[.int .u8 5, .int .i64 0, S [], .slice ra n c, .bool false]) (by simp [results, Tryz.results18, go_sem]) rfl ⟨rfl, ?_⟩
  exact (Below.refl _ _).alloc (Nat.le_refl _) _

theorem rd_kids {w w' : World} {ra : Option Addr} {s : Fo} (h : RS w ra s) (hb : Below w.heap.size w w') (ck : Nat) {b o : Nat} (hc : w'.cell? ⟨b, o, none⟩ = some (.slice ra s.len ck)) :
    ∃ rk ck b' o', w'.cell? ⟨b, o, none⟩ = some (.slice rk s.len ck) ∧ (s.len = 0 ∨ rk = some ⟨b', o', none⟩) ∧ Rd w' b' o' s := by
  obtain ⟨b', o', h1, h2⟩ := h.below hb
  exact ⟨ra, ck, b', o', hc, h1, h2⟩
theorem rs_new1 {W : World} {g : Nat} {k1 n1 : Int} {t1 : List UInt8} {s1 : Fo} {d1 : Bool} {r1 : Option Addr} {c1 : Nat} (q : W.heap[g]? = some (.cells #[.int .u8 k1, .int .i64 n1, S t1, .slice r1 s1.len c1, .bool d1] 58 (0, 0))) (h1 : RS W r1 s1) (l1 : s1.len ≤ maxLen) : RS W (some ⟨g, 0, none⟩) (.cons k1 n1 t1 s1 d1 .nil) := by
  have hg := (Array.getElem?_eq_some_iff.1 q).1
  refine ⟨g, 0, .inr rfl, ⟨hg, ?_, ?_, ?_, ?_, l1⟩, rd_kids h1 (Below.refl _ _) c1 ?_, trivial⟩ <;> simp [World.cell?, q]
theorem rs_new2 {W : World} {g : Nat} {k1 n1 : Int} {t1 : List UInt8} {s1 : Fo} {d1 : Bool} {r1 : Option Addr} {c1 : Nat} {k2 n2 : Int} {t2 : List UInt8} {s2 : Fo} {d2 : Bool} {r2 : Option Addr} {c2 : Nat} (q : W.heap[g]? = some (.cells #[.int .u8 k1, .int .i64 n1, S t1, .slice r1 s1.len c1, .bool d1, .int .u8 k2, .int .i64 n2, S t2, .slice r2 s2.len c2, .bool d2] 58 (0, 0))) (h1 : RS W r1 s1) (l1 : s1.len ≤ maxLen) (h2 : RS W r2 s2) (l2 : s2.len ≤ maxLen) : RS W (some ⟨g, 0, none⟩) (.cons k1 n1 t1 s1 d1 (.cons k2 n2 t2 s2 d2 .nil)) := by
  have hg := (Array.getElem?_eq_some_iff.1 q).1
  refine ⟨g, 0, .inr rfl, ⟨hg, ?_, ?_, ?_, ?_, l1⟩, rd_kids h1 (Below.refl _ _) c1 ?_, ⟨hg, ?_, ?_, ?_, ?_, l2⟩, rd_kids h2 (Below.refl _ _) c2 ?_, trivial⟩ <;> simp [World.cell?, q]
theorem rs_new3 {W : World} {g : Nat} {k1 n1 : Int} {t1 : List UInt8} {s1 : Fo} {d1 : Bool} {r1 : Option Addr} {c1 : Nat} {k2 n2 : Int} {t2 : List UInt8} {s2 : Fo} {d2 : Bool} {r2 : Option Addr} {c2 : Nat} {k3 n3 : Int} {t3 : List UInt8} {s3 : Fo} {d3 : Bool} {r3 : Option Addr} {c3 : Nat} (q : W.heap[g]? = some (.cells #[.int .u8 k1, .int .i64 n1, S t1, .slice r1 s1.len c1, .bool d1, .int .u8 k2, .int .i64 n2, S t2, .slice r2 s2.len c2, .bool d2, .int .u8 k3, .int .i64 n3, S t3, .slice r3 s3.len c3, .bool d3] 58 (0, 0))) (h1 : RS W r1 s1) (l1 : s1.len ≤ maxLen) (h2 : RS W r2 s2) (l2 : s2.len ≤ maxLen) (h3 : RS W r3 s3) (l3 : s3.len ≤ maxLen) : RS W (some ⟨g, 0, none⟩) (.cons k1 n1 t1 s1 d1 (.cons k2 n2 t2 s2 d2 (.cons k3 n3 t3 s3 d3 .nil))) := by
  have hg := (Array.getElem?_eq_some_iff.1 q).1
  refine ⟨g, 0, .inr rfl, ⟨hg, ?_, ?_, ?_, ?_, l1⟩, rd_kids h1 (Below.refl _ _) c1 ?_, ⟨hg, ?_, ?_, ?_, ?_, l2⟩, rd_kids h2 (Below.refl _ _) c2 ?_, ⟨hg, ?_, ?_, ?_, ?_, l3⟩, rd_kids h3 (Below.refl _ _) c3 ?_, trivial⟩ <;> simp [World.cell?, q]
def symF (t : List UInt8) : Fo → Fo := .cons 2 0 t .nil false
def numF (n : Int) : Fo → Fo := .cons 1 n [] .nil false
def workF : Fo := .cons 5 0 [] (symF [97] (numF 1 (symF [98] .nil))) true (.cons 5 0 [] (symF [113, 117, 111, 116, 101] (symF [120] .nil)) false .nil)
theorem work1 : readOf [40, 97, 32, 49, 32, 46, 32, 98, 41, 32, 39, 120] = (workF, 0, 0) := by kernel_rfl
theorem work2 : (readOf [40, 97, 32, 46, 32, 98, 32, 99, 41]).2 = (60, 7) := by kernel_rfl
theorem work3 : writeOf (.cons 5 0 [] (symF [113, 117, 111, 116, 101] (numF (-5) .nil)) false (.cons 5 0 [] .nil false .nil)) = ([39, 45, 53, 10, 40, 41], 0) := by
  have e : Lib.itoa (-5) = [45, 53] := by
    unfold Lib.itoa
    rw [if_pos (by decide), show (-5 : Int).natAbs = 5 from rfl, Lib.decDigits_one (by decide)]
    rfl
  have hc : chk (.cons 5 0 [] (symF [113, 117, 111, 116, 101] (numF (-5) .nil)) false (.cons 5 0 [] .nil false .nil)) = 0 := by kernel_rfl
  have ht : linesT (textsT (.cons 5 0 [] (symF [113, 117, 111, 116, 101] (numF (-5) .nil)) false (.cons 5 0 [] .nil false .nil))) = (39 :: Lib.itoa (-5)) ++ [10, 40, 41] := rfl
  unfold writeOf
  rw [if_neg (by rw [hc]; simp), ht, e]
  rfl
theorem work4 : writeOf (symF [49, 97] .nil) = ([], 60) := by kernel_rfl
end Go.Proofs.YtlpdfifjdlfpdaaGreatDoor

/- works. -/
namespace Go.Proofs.YtlpdfifjdlfpdaaGreatDoor
open Go.RowKit

theorem works_r1 (w : World) (hE : EV w) : Calls Tryz.prog 7 #[.string ⟨#[40, 97, 32, 49, 32, 46, 32, 98, 41, 32, 39, 120]⟩] w fun e w' => Below w.heap.size w w' ∧ ∃ ra cap, e = .returned (.tuple #[.slice ra 2 cap, .int .i64 0, .int .i64 0]) ∧ RS w' ra workF := by
  have h := read_any ⟨#[40, 97, 32, 49, 32, 46, 32, 98, 41, 32, 39, 120]⟩ (by decide) w hE
  rw [show (ByteArray.mk #[40, 97, 32, 49, 32, 46, 32, 98, 41, 32, 39, 120]).data.toList = [40, 97, 32, 49, 32, 46, 32, 98, 41, 32, 39, 120] from rfl, work1] at h
  refine h.mono ?_
  rintro e w' ⟨hb, v, rfl, hT⟩
  obtain ⟨ra, cap, rfl, hR, _⟩ := hT.rs
  exact ⟨hb, ra, cap, rfl, hR⟩
theorem works_r2 (w : World) (hE : EV w) : Calls Tryz.prog 7 #[.string ⟨#[40, 97, 32, 46, 32, 98, 32, 99, 41]⟩] w fun e w' => Below w.heap.size w w' ∧ ∃ v, e = .returned (.tuple #[v, .int .i64 60, .int .i64 7]) := by
  have h := read_any ⟨#[40, 97, 32, 46, 32, 98, 32, 99, 41]⟩ (by decide) w hE
  rw [show (ByteArray.mk #[40, 97, 32, 46, 32, 98, 32, 99, 41]).data.toList = [40, 97, 32, 46, 32, 98, 32, 99, 41] from rfl, work2] at h
  refine h.mono ?_
  rintro e w' ⟨hb, v, rfl, _⟩
  exact ⟨hb, v, rfl⟩

theorem work5 : sameB 5 0 [] (symF [97] (numF 1 (symF [98] .nil))) true 5 0 [] (symF [97] (numF 1 (symF [98] .nil))) true = true := by kernel_rfl
theorem work6 : sameB 5 0 [] (symF [113, 117, 111, 116, 101] (symF [120] .nil)) false 5 0 [] (symF [113, 117, 111, 116, 101] (symF [120] .nil)) false = true := by kernel_rfl
set_option maxRecDepth 100000 in
set_option maxHeartbeats 4000000 in
theorem works_any (w : World) (hE : EV w) (hT : TB w) : Calls Tryz.prog 5 #[] w fun e w' => e = .returned (.bool true) ∧ Below w.heap.size w w' := by
  have HE : Hid (EV w) := hE
  have HT : Hid (TB w) := hT
  clear hE hT
  go_enter Tryz.func5, Tryz.ntmps5
  go_wp2_with fail
  refine (works_r1 w HE.out).mono ?_
  rintro e w1 ⟨hb1, ra, cap, rfl, hR⟩
  have H1 : Hid (Below w.heap.size w w1) := hb1
  have HR : Hid (RS w1 ra workF) := hR
  clear hb1 hR
  go_wp2_with fail
  refine (works_r2 w1 (HE.out.below H1.out HE.out.lt)).mono ?_
  rintro e w2 ⟨hb2, v2, rfl⟩
  have H2 : Hid (Below w1.heap.size w1 w2) := hb2
  clear hb2
  go_wp2_with fail
  refine (lsym_any [113, 117, 111, 116, 101] w2).mono ?_
  rintro e w3 ⟨rfl, hb3⟩
  have H3 : Hid (Below w2.heap.size w2 w3) := hb3
  clear hb3
  go_wp2_with fail
  refine (lnum_any (-5) w3).mono ?_
  rintro e w4 ⟨rfl, hb4⟩
  have H4 : Hid (Below w3.heap.size w3 w4) := hb4
  clear hb4
  go_wp2_with fail
  refine (llist_any _ _ _ _).mono ?_
  rintro e w5 ⟨rfl, hb5⟩
  have HQ5 : Hid (RS w5 (some ⟨w4.heap.size, 0, none⟩) (symF [113, 117, 111, 116, 101] (numF (-5) .nil))) := (rs_new2 (World.alloc_heap_new w4 _) (rs_nil _ _) (by simp [Fo.len]) (rs_nil _ _) (by simp [Fo.len])).below hb5
  have H5 : Hid (Below w1.heap.size w1 w5) := H2.out.trans (((H3.out.trans (H4.out.mono H3.out.size)).trans ((((Below.refl _ w4).alloc (Nat.le_refl _) _).trans (hb5.mono (by simp))).mono (Nat.le_trans H3.out.size H4.out.size))).mono H2.out.size)
  clear hb5 H2 H3 H4
  go_wp2_with fail
  refine (llist_any none 0 0 w5).mono ?_
  rintro e w6 ⟨rfl, hb6⟩
  have HQ6 : Hid (RS w6 (some ⟨w4.heap.size, 0, none⟩) (symF [113, 117, 111, 116, 101] (numF (-5) .nil))) := HQ5.out.below hb6
  have H6 : Hid (Below w1.heap.size w1 w6) := H5.out.trans (hb6.mono H5.out.size)
  clear hb6 H5 HQ5
  go_wp2_with fail
  have h7 : Calls Tryz.prog 14 #[.slice (some ⟨w6.heap.size, 0, none⟩) 2 2] (w6.alloc (.cells #[.int .u8 5, .int .i64 0, S [], .slice (some ⟨w4.heap.size, 0, none⟩) 2 2, .bool false, .int .u8 5, .int .i64 0, S [], .slice none 0 0, .bool false] 58)) fun e w' => e = .returned (.tuple #[.string ⟨#[39, 45, 53, 10, 40, 41]⟩, .int .i64 0]) ∧ Below w1.heap.size w1 w' := by
    have hal : Below w6.heap.size w6 (w6.alloc (.cells #[.int .u8 5, .int .i64 0, S [], .slice (some ⟨w4.heap.size, 0, none⟩) 2 2, .bool false, .int .u8 5, .int .i64 0, S [], .slice none 0 0, .bool false] 58)) := (Below.refl _ w6).alloc (Nat.le_refl _) _
    have h1 : Below w1.heap.size w1 (w6.alloc (.cells #[.int .u8 5, .int .i64 0, S [], .slice (some ⟨w4.heap.size, 0, none⟩) 2 2, .bool false, .int .u8 5, .int .i64 0, S [], .slice none 0 0, .bool false] 58)) := H6.out.trans (hal.mono H6.out.size)
    have h0 := H1.out.trans (h1.mono H1.out.size)
    have h := write_fn (some ⟨w6.heap.size, 0, none⟩) 2 (.cons 5 0 [] (symF [113, 117, 111, 116, 101] (numF (-5) .nil)) false (.cons 5 0 [] .nil false .nil)) _ (by simp [Fo.len, maxLen]) (by simp [Fo.size, symF, numF]) (by simp [Fo.tx, symF, numF]) (rs_new2 (World.alloc_heap_new w6 _) (HQ6.out.below hal) (by simp [Fo.len, maxLen, symF, numF]) (rs_nil _ none) (by simp [Fo.len])) (HE.out.below h0 HE.out.lt) (HT.out.below h0)
    rw [work3] at h
    refine Calls.mono h ?_
    rintro e w' ⟨rfl, hb⟩
    exact ⟨rfl, h1.trans (hb.mono h1.size)⟩
  refine h7.mono ?_
  rintro e w7 ⟨rfl, hb7⟩
  have H7 : Hid (Below w1.heap.size w1 w7) := hb7
  clear hb7 h7 H6 HQ6
  go_wp2_with fail
  refine (lsym_any [49, 97] w7).mono ?_
  rintro e w8 ⟨rfl, hb8⟩
  have H8 : Hid (Below w1.heap.size w1 w8) := H7.out.trans (hb8.mono H7.out.size)
  clear hb8 H7
  go_wp2_with fail
  have h9 : Calls Tryz.prog 14 #[.slice (some ⟨w8.heap.size, 0, none⟩) 1 1] (w8.alloc (.cells #[.int .u8 2, .int .i64 0, S [49, 97], .slice none 0 0, .bool false] 58)) fun e w' => e = .returned (.tuple #[.string ⟨#[]⟩, .int .i64 60]) ∧ Below w1.heap.size w1 w' := by
    have hal : Below w8.heap.size w8 (w8.alloc (.cells #[.int .u8 2, .int .i64 0, S [49, 97], .slice none 0 0, .bool false] 58)) := (Below.refl _ w8).alloc (Nat.le_refl _) _
    have h1 := H8.out.trans (hal.mono H8.out.size)
    have h0 := H1.out.trans (h1.mono H1.out.size)
    have h := write_fn (some ⟨w8.heap.size, 0, none⟩) 1 (symF [49, 97] .nil) _ (by simp [Fo.len, maxLen, symF]) (by simp [Fo.size, symF]) (by simp [Fo.tx, symF]) (rs_new1 (World.alloc_heap_new w8 _) (rs_nil _ none) (by simp [Fo.len])) (HE.out.below h0 HE.out.lt) (HT.out.below h0)
    rw [work4] at h
    refine Calls.mono h ?_
    rintro e w' ⟨rfl, hb⟩
    exact ⟨rfl, h1.trans (hb.mono h1.size)⟩
  refine h9.mono ?_
  rintro e w9 ⟨rfl, hb9⟩
  have H9 : Hid (Below w1.heap.size w1 w9) := hb9
  clear hb9 h9 H8
  go_wp2_with fail
  refine (lsym_any [97] w9).mono ?_
  rintro e w10 ⟨rfl, hb10⟩
  have H10 : Hid (Below w1.heap.size w1 w10) := H9.out.trans (hb10.mono H9.out.size)
  clear hb10 H9
  go_wp2_with fail
  refine (lnum_any 1 w10).mono ?_
  rintro e w11 ⟨rfl, hb11⟩
  have H11 : Hid (Below w1.heap.size w1 w11) := H10.out.trans (hb11.mono H10.out.size)
  clear hb11 H10
  go_wp2_with fail
  refine (lsym_any [98] w11).mono ?_
  rintro e w12 ⟨rfl, hb12⟩
  have H12 : Hid (Below w1.heap.size w1 w12) := H11.out.trans (hb12.mono H11.out.size)
  clear hb12 H11
  go_wp2_with fail
  obtain ⟨b, o, hz, ⟨g0, g1, g2, g3, g4, g5⟩, ⟨rk0, ck0, bk0, ok0, gk, gz, gs⟩, ⟨_, e1, e2, e3, e4, e5⟩, ⟨rk1, ck1, bk1, ok1, ek, ez, es⟩, _⟩ := HR.out
  have hra := hz.resolve_left (by simp [Fo.len, workF])
  subst hra
  have q12 := World.alloc_heap_new w12 (.cells #[.int .u8 2, .int .i64 0, S [97], .slice none 0 0, .bool false, .int .u8 1, .int .i64 1, S [], .slice none 0 0, .bool false, .int .u8 2, .int .i64 0, S [98], .slice none 0 0, .bool false] 58)
  have hal1 : Below w12.heap.size w12 (w12.alloc (.cells #[.int .u8 2, .int .i64 0, S [97], .slice none 0 0, .bool false, .int .u8 1, .int .i64 1, S [], .slice none 0 0, .bool false, .int .u8 2, .int .i64 0, S [98], .slice none 0 0, .bool false] 58)) := (Below.refl _ w12).alloc (Nat.le_refl _) _
  obtain ⟨Y, hY⟩ : ∃ Y, w12.alloc (.cells #[.int .u8 2, .int .i64 0, S [97], .slice none 0 0, .bool false, .int .u8 1, .int .i64 1, S [], .slice none 0 0, .bool false, .int .u8 2, .int .i64 0, S [98], .slice none 0 0, .bool false] 58) = Y := ⟨_, rfl⟩
  have hYs : Y.heap.size = w12.heap.size + 1 := by rw [← hY]; simp
  rw [hY] at q12 hal1 ⊢
  have hal2 : Below Y.heap.size Y (Y.alloc (.cells #[.int .u8 5, .int .i64 0, S [], .slice (some ⟨w12.heap.size, 0, none⟩) 3 3, .bool true] 58)) := (Below.refl _ Y).alloc (Nat.le_refl _) _
  have q11 := World.alloc_heap_new Y (.cells #[.int .u8 5, .int .i64 0, S [], .slice (some ⟨w12.heap.size, 0, none⟩) 3 3, .bool true] 58)
  rw [hYs] at q11
  have HN : Hid (RS (Y.alloc (.cells #[.int .u8 5, .int .i64 0, S [], .slice (some ⟨w12.heap.size, 0, none⟩) 3 3, .bool true] 58)) (some ⟨w12.heap.size, 0, none⟩) (symF [97] (numF 1 (symF [98] .nil)))) := (rs_new3 q12 (rs_nil _ _) (by simp [Fo.len]) (rs_nil _ _) (by simp [Fo.len]) (rs_nil _ _) (by simp [Fo.len])).below hal2
  have HX : Hid (Below w1.heap.size w1 (Y.alloc (.cells #[.int .u8 5, .int .i64 0, S [], .slice (some ⟨w12.heap.size, 0, none⟩) 3 3, .bool true] 58))) := (H12.out.trans (hal1.mono H12.out.size)).trans (hal2.mono (Nat.le_trans H12.out.size hal1.size))
  obtain ⟨X, hX⟩ : ∃ X, Y.alloc (.cells #[.int .u8 5, .int .i64 0, S [], .slice (some ⟨w12.heap.size, 0, none⟩) 3 3, .bool true] 58) = X := ⟨_, rfl⟩
  have hX' : Y.alloc (.cells #[.int .u8 5, .int .i64 0, .string ⟨#[]⟩, .slice (some ⟨w12.heap.size, 0, none⟩) 3 3, .bool true] 58) = X := hX
  rw [hX] at q11 HN HX
  rw [hX']
  have ec : ∀ o, X.cell? ⟨b, o, none⟩ = w1.cell? ⟨b, o, none⟩ := fun o => HX.out.cell (p := ⟨b, o, none⟩) g0
  have x1 := (ec _).trans g1
  have x2 := (ec _).trans g2
  have x3 := (ec _).trans g3
  have x4 := (ec _).trans g4
  have xk : X.cell? ⟨b, o + 1 + 1 + 1, none⟩ = some (.slice rk0 3 ck0) := (ec _).trans gk
  have y1 := (ec _).trans e1
  have y2 := (ec _).trans e2
  have y3 := (ec _).trans e3
  have y4 := (ec _).trans e4
  have yk : X.cell? ⟨b, o + 5 + 1 + 1 + 1, none⟩ = some (.slice rk1 2 ck1) := (ec _).trans ek
  have Hy : Hid (X.cell? ⟨b, o + 5, none⟩ = some (.int .u8 5) ∧ X.cell? ⟨b, o + 5 + 1, none⟩ = some (.int .i64 0) ∧ X.cell? ⟨b, o + 5 + 1 + 1, none⟩ = some (S []) ∧ X.cell? ⟨b, o + 5 + 1 + 1 + 1, none⟩ = some (.slice rk1 2 ck1) ∧ X.cell? ⟨b, o + 5 + 1 + 1 + 1 + 1, none⟩ = some (.bool false)) := ⟨y1, y2, y3, yk, y4⟩
  have x0 : b < X.heap.size := Nat.lt_of_lt_of_le g0 HX.out.size
  have HR0 : Hid (RS w1 rk0 (symF [97] (numF 1 (symF [98] .nil)))) := ⟨bk0, ok0, gz, gs⟩
  have HR1 : Hid (RS w1 rk1 (symF [113, 117, 111, 116, 101] (symF [120] .nil))) := ⟨bk1, ok1, ez, es⟩
  have HQ11 : Hid _ := q11
  obtain ⟨z0, z1, z2, z3, z4, _⟩ := cells5 q11
  have zl : w12.heap.size + 1 < X.heap.size := (Array.getElem?_eq_some_iff.1 q11).1
  have hmx : Tryz.prog.follows .mixedOrders = true := by kernel_rfl
  clear hX hX' hY ec g1 g2 g3 g4 gk gz gs e1 e2 e3 e4 ek ez es q11 q12 hal1 hal2 y1 y2 y3 y4 yk hz H12
  first
  | go_region_held3 (fun wx => ((wx.cell? ⟨w12.heap.size + 1, 0, none⟩ = some (.int .u8 5) ∧ wx.cell? ⟨w12.heap.size + 1, 1, none⟩ = some (.int .i64 0) ∧ wx.cell? ⟨w12.heap.size + 1, 2, none⟩ = some (S []) ∧ wx.cell? ⟨w12.heap.size + 1, 3, none⟩ = some (.slice (some ⟨w12.heap.size, 0, none⟩) 3 3) ∧ wx.cell? ⟨w12.heap.size + 1, 4, none⟩ = some (.bool true)) ∧ w12.heap.size + 1 < wx.heap.size) ∧ (wx.cell? ⟨b, o, none⟩ = some (.int .u8 5) ∧ wx.cell? ⟨b, o + 1, none⟩ = some (.int .i64 0) ∧ wx.cell? ⟨b, o + 1 + 1, none⟩ = some (S []) ∧ wx.cell? ⟨b, o + 1 + 1 + 1, none⟩ = some (.slice rk0 3 ck0) ∧ wx.cell? ⟨b, o + 1 + 1 + 1 + 1, none⟩ = some (.bool true)) ∧ b < wx.heap.size) (first | go_keep | exact keepQ hb13 (by go_keep))
      (first | (go_at_call 15; refine (same_any 5 0 [] (symF [97] (numF 1 (symF [98] .nil))) true rk0 ck0 5 0 [] (symF [97] (numF 1 (symF [98] .nil))) true (some ⟨w12.heap.size, 0, none⟩) 3 _ (by simp [Fo.len, maxLen, symF, numF]) (by simp [Fo.len, maxLen, symF, numF]) ((HR0.out.below HX.out).below (Below.refl _ _).drew) (HN.out.below (Below.refl _ _).drew)).mono ?_; rintro e w13 ⟨rfl, hb13⟩))
  | fail
  rw [work5]
  have H13 : Hid (Below X.heap.size X w13) := (Below.refl _ X).drew.trans hb13
  obtain ⟨⟨v0, v1, v2', v3, v4⟩, _⟩ := keepQ hb13 (W := X.drew) (g := w12.heap.size + 1) (b := b) (o := o + 5) ⟨⟨⟨z0, z1, z2, z3, z4⟩, zl⟩, Hy.out, x0⟩ |>.2
  have l13 : w12.heap.size + 1 < w13.heap.size := Nat.lt_of_lt_of_le zl H13.out.size
  have b13 : b < w13.heap.size := Nat.lt_of_lt_of_le x0 H13.out.size
  obtain ⟨u0, u1, u2, u3, u4, _⟩ := cells5 ((H13.out.block _ zl).trans HQ11.out)
  clear hb13 x1 x2 x3 x4 xk z0 z1 z2 z3 z4
  go_wp2_with fail
  go_region_held3 (fun wx => ((wx.cell? ⟨w12.heap.size + 1, 0, none⟩ = some (.int .u8 5) ∧ wx.cell? ⟨w12.heap.size + 1, 1, none⟩ = some (.int .i64 0) ∧ wx.cell? ⟨w12.heap.size + 1, 2, none⟩ = some (S []) ∧ wx.cell? ⟨w12.heap.size + 1, 3, none⟩ = some (.slice (some ⟨w12.heap.size, 0, none⟩) 3 3) ∧ wx.cell? ⟨w12.heap.size + 1, 4, none⟩ = some (.bool true)) ∧ w12.heap.size + 1 < wx.heap.size) ∧ (wx.cell? ⟨b, o + 5, none⟩ = some (.int .u8 5) ∧ wx.cell? ⟨b, o + 5 + 1, none⟩ = some (.int .i64 0) ∧ wx.cell? ⟨b, o + 5 + 1 + 1, none⟩ = some (S []) ∧ wx.cell? ⟨b, o + 5 + 1 + 1 + 1, none⟩ = some (.slice rk1 2 ck1) ∧ wx.cell? ⟨b, o + 5 + 1 + 1 + 1 + 1, none⟩ = some (.bool false)) ∧ b < wx.heap.size) (first | go_keep | exact keepQ hb14 (by go_keep) | exact keepQ hb15 (by go_keep) | exact keepQ hb16 (by go_keep) | exact keepQ hb17 (by go_keep))
      (first
        | (go_at_call 19; refine (lsym_any [113, 117, 111, 116, 101] _).mono ?_; rintro e w14 ⟨rfl, hb14⟩)
        | (go_at_call 19; refine (lsym_any [120] _).mono ?_; rintro e w15 ⟨rfl, hb15⟩; have f15 : b < w15.heap.size + 1 := Nat.lt_succ_of_le (Nat.le_trans (Nat.le_of_lt b13) (Nat.le_trans hb14.size hb15.size)); have f15' : w12.heap.size < w15.heap.size := Nat.lt_of_lt_of_le (Nat.lt_of_succ_lt l13) (Nat.le_trans hb14.size hb15.size))
        | (go_at_call 18; refine (llist_any _ _ _ _).mono ?_; rintro e w16 ⟨rfl, hb16⟩)
        | (go_at_call 15; refine (same_any 5 0 [] (symF [113, 117, 111, 116, 101] (symF [120] .nil)) false rk1 ck1 5 0 [] (symF [113, 117, 111, 116, 101] (symF [120] .nil)) false (some ⟨w15.heap.size, 0, none⟩) 2 w16 e5 e5 ((((((HR1.out.below HX.out).below H13.out).below ((Below.refl _ w13).drew)).below hb14).below hb15).below ((Below.refl _ w15).alloc (Nat.le_refl _) _) |>.below hb16) ((rs_new2 (World.alloc_heap_new w15 _) (rs_nil _ _) (Nat.zero_le _) (rs_nil _ _) (Nat.zero_le _)).below hb16)).mono ?_; rintro e w17 ⟨rfl, hb17⟩))
  rw [work6]
  have H17 : Hid (Below w.heap.size w w17) := by
    have h16 : Below w13.heap.size w13 w16 := ((Below.refl _ w13).drew.trans hb14).trans ((hb15.trans ((((Below.refl _ w15).alloc (Nat.le_refl _) _).trans (hb16.mono (by simp))).mono hb15.size)).mono hb14.size)
    have h17 := h16.trans (hb17.mono h16.size)
    have h1 : Below w1.heap.size w1 w17 := (HX.out.trans (H13.out.mono HX.out.size)).trans (h17.mono (Nat.le_trans HX.out.size H13.out.size))
    exact H1.out.trans (h1.mono H1.out.size)
  clear hb14 hb15 hb16 hb17
  go_wp2
  go_ret
  exact ⟨rfl, H17.out⟩
end Go.Proofs.YtlpdfifjdlfpdaaGreatDoor
