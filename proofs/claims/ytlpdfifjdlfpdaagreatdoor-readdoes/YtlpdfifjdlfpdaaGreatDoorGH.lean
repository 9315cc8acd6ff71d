/- Read.; The walk of Read.; Same. -/
import Derived.Test.YtlpdfifjdlfpdaaGreatDoorGG
import Derived.Laws.EntriesVeiled
/- Read. -/
namespace Go.Proofs.YtlpdfifjdlfpdaaGreatDoor
open Go.RowKit

def lexErr (xs : List (Tok × Int)) : Int := match xs.dropWhile (fun x => x.2 == 0) with | [] => 0 | x :: _ => x.2
def lexPos (xs : List (Tok × Int)) : Int := match xs.dropWhile (fun x => x.2 == 0) with | [] => 0 | x :: _ => x.1.pos
theorem fine_drop {p : List (Tok × Int)} (h : fine p) (r : List (Tok × Int)) : (p ++ r).dropWhile (fun x => x.2 == 0) = r.dropWhile (fun x => x.2 == 0) :=
  List.dropWhile_append_of_pos (fun a ha => by simpa using h a ha)
theorem lexErr_fine {xs : List (Tok × Int)} (h : fine xs) : lexErr xs = 0 ∧ lexPos xs = 0 := by
  have := fine_drop h []
  simp only [List.append_nil, List.dropWhile_nil] at this
  exact ⟨by unfold lexErr; rw [this], by unfold lexPos; rw [this]⟩
theorem lexErr_bad {xs q : List (Tok × Int)} {x : Tok × Int} (hp : q ++ [x] <+: xs) (h : fine q) (hx : ¬ x.2 = 0) : lexErr xs = x.2 ∧ lexPos xs = x.1.pos := by
  obtain ⟨r, rfl⟩ := hp
  rw [List.append_assoc]
  have := fine_drop h ([x] ++ r)
  have e2 : ([x] ++ r).dropWhile (fun x : Tok × Int => x.2 == 0) = x :: r := by simp [hx]
  rw [e2] at this
  exact ⟨by unfold lexErr; rw [this], by unfold lexPos; rw [this]⟩

/-- What Read tells: the data, the error, its place. -/
def readOf (l : List UInt8) : Fo × Int × Int :=
  if lexErr (items l) = 0 then (match rdf 3 ((items l).map Prod.fst) 0 0 with | .ok f _ _ _ => (f, 0, 0) | .bad e p => (.nil, e, p))
  else (.nil, lexErr (items l), lexPos (items l))

theorem scan_ended (N : Nat) : ∀ (k : Nat) (l : List UInt8), l.length < k → fine (scan N k l) → Ended ((scan N k l).map Prod.fst)
  | 0, l, h, _ => by omega
  | k + 1, l, h, hf => by
    rw [scan_ne] at hf ⊢
    have he : er0 l = 0 := hf _ (List.mem_cons_self ..)
    have hk : (at0 N l).kind = (begT (leave false l)).kind := rfl
    have h9 := begT_kind9 (leave false l)
    by_cases hl : last l = true
    · rw [if_pos hl]
      have hemp : (leave false l).isEmpty = true := by
        unfold last at hl
        rw [he] at hl
        simpa using hl
      rw [hemp] at h9
      exact ⟨[], _, rfl, by rw [hk]; simpa using h9, fun x hx => by cases hx⟩
    · have hl' : last l = false := by simpa using hl
      rw [if_neg hl] at hf ⊢
      have hne : (leave false l).isEmpty = false := by
        unfold last at hl'
        rw [he] at hl'
        simpa using hl'
      rw [hne] at h9
      have hlt := nx0_lt l hl'
      obtain ⟨q, e, h1, h2, h3⟩ := scan_ended N k (nx0 l) (by omega) (fun x hx => hf x (List.mem_cons_of_mem _ hx))
      refine ⟨at0 N l :: q, e, by rw [List.map_cons, h1]; rfl, h2, fun x hx => ?_⟩
      rcases List.mem_cons.1 hx with rfl | hx
      · rw [hk]; simpa using h9
      · exact h3 x hx
theorem items_ended (l : List UInt8) (hf : fine (items l)) : Ended ((items l).map Prod.fst) := by
  unfold items at hf ⊢
  by_cases h : 65536 < l.length
  · rw [if_pos h] at hf
    exact absurd (hf _ (List.mem_cons_self ..)) (by decide)
  · rw [if_neg h] at hf ⊢
    exact scan_ended _ _ _ (by omega) hf

theorem readOf_bad {l : List UInt8} {q : List (Tok × Int)} {x : Tok × Int} (hp : q ++ [x] <+: items l) (h : fine q) (hx : ¬ x.2 = 0) : readOf l = (.nil, x.2, x.1.pos) := by
  obtain ⟨h1, h2⟩ := lexErr_bad hp h hx
  unfold readOf; rw [if_neg (by rw [h1]; exact hx), h1, h2]
theorem readOf_fine {l : List UInt8} (h : fine (items l)) : readOf l = (match rdf 3 ((items l).map Prod.fst) 0 0 with | .ok f _ _ _ => (f, 0, 0) | .bad e p => (.nil, e, p)) := by
  unfold readOf; rw [if_pos (lexErr_fine h).1]
end Go.Proofs.YtlpdfifjdlfpdaaGreatDoor

/- The walk of Read. -/
namespace Go.Proofs.YtlpdfifjdlfpdaaGreatDoor
open Go.RowKit

theorem Tree.below {w w' : World} {base : Nat} {v : Value} {f : Fo} (h : Tree w base v f) (hb : Below w.heap.size w w') : Tree w' base v f := h.kept (fun g _ hg => hb.block g hg)

theorem results3 {fn : Func} {tmps : Array Value} {b0 b1 b2 : Nat} {v0 v1 v2 : Value} {W : World} (hres : fn.results = #[.cell 2 23, .cell 3 24, .cell 4 3]) (h2 : tmps[2]? = some (.pointer (some ⟨b0, 0, none⟩))) (h3 : tmps[3]? = some (.pointer (some ⟨b1, 0, none⟩))) (h4 : tmps[4]? = some (.pointer (some ⟨b2, 0, none⟩)))
    (k0 : Boxed W b0 23 v0) (k1 : Boxed W b1 24 v1) (k2 : Boxed W b2 3 v2) : (results fn tmps).run Tryz.prog W = .ok (.tuple #[v0, v1, v2]) W := by
  have c0 := k0.cell
  have c1 := k1.cell
  have c2 := k2.cell
  obtain ⟨l2, e2⟩ := Array.getElem?_eq_some_iff.1 h2
  obtain ⟨l3, e3⟩ := Array.getElem?_eq_some_iff.1 h3
  obtain ⟨l4, e4⟩ := Array.getElem?_eq_some_iff.1 h4
  simp [results, hres, go_sem, c0, c1, c2, l2, e2, l3, e3, l4, e4]

/-- The three results' boxes. -/
structure Three (w W : World) (b : Nat) (v0 v1 v2 : Value) : Prop where
  k0 : Boxed W b 23 v0
  k1 : Boxed W (b + 1) 24 v1
  k2 : Boxed W (b + 1 + 1) 3 v2
  below : Below b w W
theorem Three.set0 {w W : World} {b : Nat} {v0 v1 v2 : Value} (h : Three w W b v0 v1 v2) (u : Value) : Three w (W.setCell ⟨b, 0, none⟩ u) b u v1 v2 := ⟨h.k0.set u, h.k1.other (by omega) u, h.k2.other (by omega) u, h.below.setCell (p := ⟨b, 0, none⟩) (Nat.le_refl _) u⟩
theorem Three.set1 {w W : World} {b : Nat} {v0 v1 v2 : Value} (h : Three w W b v0 v1 v2) (u : Value) : Three w (W.setCell ⟨b + 1, 0, none⟩ u) b v0 u v2 := ⟨h.k0.other (by omega) u, h.k1.set u, h.k2.other (by omega) u, h.below.setCell (p := ⟨b + 1, 0, none⟩) (by simp) u⟩
theorem Three.set2 {w W : World} {b : Nat} {v0 v1 v2 : Value} (h : Three w W b v0 v1 v2) (u : Value) : Three w (W.setCell ⟨b + 1 + 1, 0, none⟩ u) b v0 v1 u := ⟨h.k0.other (by omega) u, h.k1.other (by omega) u, h.k2.set u, h.below.setCell (p := ⟨b + 1 + 1, 0, none⟩) (by simp; omega) u⟩
theorem Three.alloc {w W : World} {b : Nat} {v0 v1 v2 : Value} (h : Three w W b v0 v1 v2) (o : Obj) : Three w (W.alloc o) b v0 v1 v2 := ⟨h.k0.alloc o, h.k1.alloc o, h.k2.alloc o, h.below.alloc (Nat.le_of_lt h.k0.lt) o⟩
theorem Three.drew {w W : World} {b : Nat} {v0 v1 v2 : Value} (h : Three w W b v0 v1 v2) : Three w W.drew b v0 v1 v2 := ⟨h.k0, h.k1, h.k2, h.below.drew⟩

set_option maxRecDepth 100000 in
set_option maxHeartbeats 4000000 in
theorem read_any (s : ByteArray) (hs : s.size ≤ 281474976710656) (w : World) (hE : EV w) :
    Calls Tryz.prog 7 #[.string s] w fun e w' => Below w.heap.size w w' ∧ ∃ v, e = .returned (.tuple #[v, .int .i64 (readOf s.data.toList).2.1, .int .i64 (readOf s.data.toList).2.2]) ∧ Tree w' w.heap.size v (readOf s.data.toList).1 := by
  have h0 : Boxed (((w.alloc (.cells #[.slice none 0 0] 23)).alloc (.cells #[.int .i64 0] 24)).alloc (.cells #[.int .i64 0] 3)) w.heap.size 23 (.slice none 0 0) := ((Boxed.new w _ _).alloc _).alloc _
  have h1 : Boxed (((w.alloc (.cells #[.slice none 0 0] 23)).alloc (.cells #[.int .i64 0] 24)).alloc (.cells #[.int .i64 0] 3)) (w.heap.size + 1) 24 (.int .i64 0) := by
    have := (Boxed.new (w.alloc (.cells #[.slice none 0 0] 23)) 24 (.int .i64 0)).alloc (.cells #[.int .i64 0] 3)
    rwa [World.size_alloc] at this
  have h2 : Boxed (((w.alloc (.cells #[.slice none 0 0] 23)).alloc (.cells #[.int .i64 0] 24)).alloc (.cells #[.int .i64 0] 3)) (w.heap.size + 1 + 1) 3 (.int .i64 0) := by
    have := Boxed.new ((w.alloc (.cells #[.slice none 0 0] 23)).alloc (.cells #[.int .i64 0] 24)) 3 (.int .i64 0)
    rwa [World.size_alloc, World.size_alloc] at this
  have hE3 : Hid (EV (((w.alloc (.cells #[.slice none 0 0] 23)).alloc (.cells #[.int .i64 0] 24)).alloc (.cells #[.int .i64 0] 3))) := ((hE.alloc _).alloc _).alloc _
  have hb3 : Below w.heap.size w (((w.alloc (.cells #[.slice none 0 0] 23)).alloc (.cells #[.int .i64 0] 24)).alloc (.cells #[.int .i64 0] 3)) := (((Below.refl _ w).alloc (Nat.le_refl _) _).alloc (by simp) _).alloc (by simp; omega) _
  have H0 : Hid (Boxed (((w.alloc (.cells #[.slice none 0 0] 23)).alloc (.cells #[.int .i64 0] 24)).alloc (.cells #[.int .i64 0] 3)) w.heap.size 23 (.slice none 0 0)) := h0
  have H1 : Hid (Boxed (((w.alloc (.cells #[.slice none 0 0] 23)).alloc (.cells #[.int .i64 0] 24)).alloc (.cells #[.int .i64 0] 3)) (w.heap.size + 1) 24 (.int .i64 0)) := h1
  have H2 : Hid (Boxed (((w.alloc (.cells #[.slice none 0 0] 23)).alloc (.cells #[.int .i64 0] 24)).alloc (.cells #[.int .i64 0] 3)) (w.heap.size + 1 + 1) 3 (.int .i64 0)) := h2
  have Hb3 : Hid (Below w.heap.size w (((w.alloc (.cells #[.slice none 0 0] 23)).alloc (.cells #[.int .i64 0] 24)).alloc (.cells #[.int .i64 0] 3))) := hb3
  have hmx : Tryz.prog.follows .mixedOrders = true := by kernel_rfl
  clear h0 h1 h2 hb3
  go_enter_defers Tryz.func7, Tryz.ntmps7
  go_wp2_with fail
  refine (tokens_any s hs _ hE3.out).mono ?_
  rintro e w1 ⟨hb1, ⟨v, rfl, hf, hrow⟩ | ⟨q, x, hp, hf, hx, rfl⟩⟩
  · have g0 := (hb1.block _ H0.out.lt).trans H0.out
    have g1 := (hb1.block _ H1.out.lt).trans H1.out
    have g2 := (hb1.block _ H2.out.lt).trans H2.out
    have c0 : w1.cell? ⟨w.heap.size, 0, none⟩ = some (.slice none 0 0) := Boxed.cell g0
    have c1 : w1.cell? ⟨w.heap.size + 1, 0, none⟩ = some (.int .i64 0) := Boxed.cell g1
    have c2 : w1.cell? ⟨w.heap.size + 1 + 1, 0, none⟩ = some (.int .i64 0) := Boxed.cell g2
    have f0 : w1.frozen? ⟨w.heap.size, 0, none⟩ = false := Boxed.frozen g0
    have f1 : w1.frozen? ⟨w.heap.size + 1, 0, none⟩ = false := Boxed.frozen g1
    have f2 : w1.frozen? ⟨w.heap.size + 1 + 1, 0, none⟩ = false := Boxed.frozen g2
    obtain ⟨g, cap, rfl, hg, ht⟩ := trow_of (items_ne _) hrow
    have hR := readOf_fine hf
    have HEn : Hid (Ended ((items s.data.toList).map Prod.fst)) := items_ended _ hf
    have HR : Hid _ := hR
    have Hb1 : Hid (Below w.heap.size w w1) := Hb3.out.trans (hb1.mono (by simp; omega))
    have HG0 : Hid (Boxed w1 w.heap.size 23 (.slice none 0 0)) := g0
    have HG1 : Hid (Boxed w1 (w.heap.size + 1) 24 (.int .i64 0)) := g1
    have HG2 : Hid (Boxed w1 (w.heap.size + 1 + 1) 3 (.int .i64 0)) := g2
    have Ht : Hid (TRow w1 g (items s.data.toList)) := ht
    have hgb : w.heap.size + 1 + 1 + 1 ≤ g := by simpa using hg
    have hll := (items_len s.data.toList).2
    clear g0 g1 g2 hb1 hf hR H0 H1 H2 Hb3 hE3 ht hrow hg
    go_wp2_with fail
    have T2 := (((Three.mk HG0.out HG1.out HG2.out Hb1.out).set1 (.int .i64 0)).set2 (.int .i64 0)).alloc (.cells #[.slice (some ⟨g, 0, none⟩) (items s.data.toList).length cap, .int .i64 0, .int .i64 0, .int .i64 0] 80)
    have hsz : ((w1.setCell ⟨w.heap.size + 1, 0, none⟩ (.int .i64 0)).setCell ⟨w.heap.size + 1 + 1, 0, none⟩ (.int .i64 0)).heap.size = w1.heap.size := by simp [World.setCell]
    have hRb : Rb (((w1.setCell ⟨w.heap.size + 1, 0, none⟩ (.int .i64 0)).setCell ⟨w.heap.size + 1 + 1, 0, none⟩ (.int .i64 0)).alloc (.cells #[.slice (some ⟨g, 0, none⟩) (items s.data.toList).length cap, .int .i64 0, .int .i64 0, .int .i64 0] 80)) w1.heap.size g (items s.data.toList).length cap 0 0 0 := by
      refine ⟨?_⟩
      have := World.alloc_heap_new ((w1.setCell ⟨w.heap.size + 1, 0, none⟩ (.int .i64 0)).setCell ⟨w.heap.size + 1 + 1, 0, none⟩ (.int .i64 0)) (.cells #[.slice (some ⟨g, 0, none⟩) (items s.data.toList).length cap, .int .i64 0, .int .i64 0, .int .i64 0] 80)
      rwa [hsz] at this
    have hgl := Ht.out.1
    have hTr : TRow (((w1.setCell ⟨w.heap.size + 1, 0, none⟩ (.int .i64 0)).setCell ⟨w.heap.size + 1 + 1, 0, none⟩ (.int .i64 0)).alloc (.cells #[.slice (some ⟨g, 0, none⟩) (items s.data.toList).length cap, .int .i64 0, .int .i64 0, .int .i64 0] 80)) g (items s.data.toList) :=
      Ht.out.kept ((Below.heap_alloc _ _ _ (by rw [hsz]; exact hgl)).trans ((Below.heap_setCell _ _ _ _ (by show g ≠ w.heap.size + 1 + 1; omega)).trans (Below.heap_setCell _ _ _ _ (by show g ≠ w.heap.size + 1; omega)))) (by rw [World.size_alloc, hsz]; omega)
    obtain ⟨X, hX⟩ : ∃ X, (((w1.setCell ⟨w.heap.size + 1, 0, none⟩ (.int .i64 0)).setCell ⟨w.heap.size + 1 + 1, 0, none⟩ (.int .i64 0)).alloc (.cells #[.slice (some ⟨g, 0, none⟩) (items s.data.toList).length cap, .int .i64 0, .int .i64 0, .int .i64 0] 80)) = X := ⟨_, rfl⟩
    rw [hX] at T2 hRb hTr ⊢
    have hA : At w1.heap.size g (items s.data.toList).length cap (items s.data.toList) X 0 0 0 ((items s.data.toList).map Prod.fst) := ⟨hRb, hTr, rfl, HEn.out, by omega, by omega, by omega, rfl, by omega⟩
    have HA : Hid _ := hA
    have HT2 : Hid (Three w X w.heap.size (.slice none 0 0) (.int .i64 0) (.int .i64 0)) := T2
    have hlw : w.heap.size + 1 + 1 < w1.heap.size := HG2.out.lt
    have hlX : w1.heap.size < X.heap.size := hRb.lt
    clear hX T2 hRb hTr hA hsz c0 c1 c2 f0 f1 f2
    refine (data_any X 0 0 0 _ HA.out).mono ?_
    cases hX3 : rdf 3 ((items s.data.toList).map Prod.fst) 0 0 with
    | bad e p =>
      rintro e' w2 ⟨hb2, rfl⟩
      have hR2 : readOf s.data.toList = (.nil, e, p) := by rw [HR.out, hX3]
      have T3 : Three w w2 w.heap.size (.slice none 0 0) (.int .i64 0) (.int .i64 0) := ⟨(hb2.block _ (by omega) (by omega)).trans HT2.out.k0, (hb2.block _ (by omega) (by omega)).trans HT2.out.k1, (hb2.block _ (by omega) (by omega)).trans HT2.out.k2, HT2.out.below.trans ⟨hb2.os, hb2.tape, hb2.output, hb2.size, fun y hy => hb2.block y (by omega) (by omega)⟩⟩
      have HT3 : Hid _ := T3
      clear T3 hX3
      go_wp2_with fail
      refine leaves_cons (f := 24) (args := #[.pointer (some ⟨w.heap.size, 0, none⟩), .pointer (some ⟨w.heap.size + 1, 0, none⟩), .pointer (some ⟨w.heap.size + 1 + 1, 0, none⟩)]) (by simp) (by simp [go_sem]) ?_
      refine (catch_fault w.heap.size (w.heap.size + 1) (w.heap.size + 1 + 1) e p _ _ _ w2 HT3.out.k0 HT3.out.k1 HT3.out.k2 (by omega) (by omega) (by omega)).mono ?_
      rintro e' u' w3 ⟨⟨⟨v', rfl⟩, v'', rfl⟩, hb3, k0, k1, k2⟩
      simp only [settle]
      refine ⟨_, results3 rfl rfl rfl rfl k0 k1 k2, ?_, .slice none 0 0, by rw [hR2], by rw [hR2]; exact Tree.nil _ _⟩
      exact HT3.out.below.trans ⟨hb3.os, hb3.tape, hb3.output, hb3.size, fun y hy => hb3.block y (by have := HT3.out.k0.lt; omega) (by omega) (by omega) (by omega)⟩
    | ok f d r c' =>
      rintro e' w2 ⟨hb2, v, rfl, hT2⟩
      have hR2 : readOf s.data.toList = (f, 0, 0) := by rw [HR.out, hX3]
      obtain ⟨ra, cv, rfl⟩ := hT2.slice
      have T3 : Three w w2 w.heap.size (.slice none 0 0) (.int .i64 0) (.int .i64 0) := ⟨(hb2.block _ (by omega) (by omega)).trans HT2.out.k0, (hb2.block _ (by omega) (by omega)).trans HT2.out.k1, (hb2.block _ (by omega) (by omega)).trans HT2.out.k2, HT2.out.below.trans ⟨hb2.os, hb2.tape, hb2.output, hb2.size, fun y hy => hb2.block y (by omega) (by omega)⟩⟩
      have c0 := T3.k0.cell
      have c1 := T3.k1.cell
      have c2 := T3.k2.cell
      have f0 := T3.k0.frozen
      have f1 := T3.k1.frozen
      have f2 := T3.k2.frozen
      have HT3 : Hid _ := T3
      have HTr : Hid (Tree w2 X.heap.size (.slice ra f.len cv) f) := hT2
      clear T3 hX3 hT2 hb2
      go_wp2_with fail
      have T4 := ((HT3.out.set0 (.slice ra f.len cv)).set1 (.int .i64 0)).set2 (.int .i64 0)
      have hk4 : ∀ y, X.heap.size ≤ y → (((w2.setCell ⟨w.heap.size, 0, none⟩ (.slice ra f.len cv)).setCell ⟨w.heap.size + 1, 0, none⟩ (.int .i64 0)).setCell ⟨w.heap.size + 1 + 1, 0, none⟩ (.int .i64 0)).heap[y]? = w2.heap[y]? := fun y hy =>
        (Below.heap_setCell _ _ _ _ (by show y ≠ w.heap.size + 1 + 1; omega)).trans ((Below.heap_setCell _ _ _ _ (by show y ≠ w.heap.size + 1; omega)).trans (Below.heap_setCell _ _ _ _ (by show y ≠ w.heap.size; omega)))
      have T5 := HTr.out.kept (fun y hy _ => hk4 y hy)
      obtain ⟨W4, hW4⟩ : ∃ W4, ((w2.setCell ⟨w.heap.size, 0, none⟩ (.slice ra f.len cv)).setCell ⟨w.heap.size + 1, 0, none⟩ (.int .i64 0)).setCell ⟨w.heap.size + 1 + 1, 0, none⟩ (.int .i64 0) = W4 := ⟨_, rfl⟩
      rw [hW4] at T4 T5 ⊢
      clear hW4 hk4 c0 c1 c2 f0 f1 f2
      refine leaves_cons (f := 24) (args := #[.pointer (some ⟨w.heap.size, 0, none⟩), .pointer (some ⟨w.heap.size + 1, 0, none⟩), .pointer (some ⟨w.heap.size + 1 + 1, 0, none⟩)]) (by simp) (by simp [go_sem]) ?_
      refine (catch_idle w.heap.size (w.heap.size + 1) (w.heap.size + 1 + 1) W4).mono ?_
      rintro e' u' w5 ⟨⟨v', rfl⟩, rfl, hb5⟩
      simp only [settle]
      refine ⟨_, results3 rfl rfl rfl rfl ((hb5.block _ T4.k0.lt).trans T4.k0) ((hb5.block _ T4.k1.lt).trans T4.k1) ((hb5.block _ T4.k2.lt).trans T4.k2), T4.below.trans (hb5.mono (Nat.le_of_lt T4.k0.lt)), .slice ra f.len cv, by rw [hR2], ?_⟩
      rw [hR2]
      exact (T5.below hb5).mono (by omega)
  · have g0 := (hb1.block _ H0.out.lt).trans H0.out
    have g1 := (hb1.block _ H1.out.lt).trans H1.out
    have g2 := (hb1.block _ H2.out.lt).trans H2.out
    have c0 : w1.cell? ⟨w.heap.size, 0, none⟩ = some (.slice none 0 0) := Boxed.cell g0
    have c1 : w1.cell? ⟨w.heap.size + 1, 0, none⟩ = some (.int .i64 0) := Boxed.cell g1
    have c2 : w1.cell? ⟨w.heap.size + 1 + 1, 0, none⟩ = some (.int .i64 0) := Boxed.cell g2
    have f0 : w1.frozen? ⟨w.heap.size, 0, none⟩ = false := Boxed.frozen g0
    have f1 : w1.frozen? ⟨w.heap.size + 1, 0, none⟩ = false := Boxed.frozen g1
    have f2 : w1.frozen? ⟨w.heap.size + 1 + 1, 0, none⟩ = false := Boxed.frozen g2
    have bx : (x.2 == 0) = false := beq_eq_false_iff_ne.2 hx
    have hR := readOf_bad hp hf hx
    have HR : Hid _ := hR
    have Hb1 : Hid (Below w.heap.size w w1) := Hb3.out.trans (hb1.mono (by simp; omega))
    have HG0 : Hid (Boxed w1 w.heap.size 23 (.slice none 0 0)) := g0
    have HG1 : Hid (Boxed w1 (w.heap.size + 1) 24 (.int .i64 0)) := g1
    have HG2 : Hid (Boxed w1 (w.heap.size + 1 + 1) 3 (.int .i64 0)) := g2
    clear g0 g1 g2 hb1 hp hf hx hR H0 H1 H2 Hb3 hE3
    go_wp2_with fail
    go_region
    all_goals go_wp2
    have T5 := (((((Three.mk HG0.out HG1.out HG2.out Hb1.out).set1 (.int .i64 x.2)).set2 (.int .i64 x.1.pos)).set0 (.slice none 0 0)).set1 (.int .i64 x.2)).set2 (.int .i64 x.1.pos) |>.drew
    exact ⟨_, results3 rfl rfl rfl rfl T5.k0 T5.k1 T5.k2, T5.below, .slice none 0 0, by rw [HR.out], by rw [HR.out]; exact Tree.nil _ _⟩
end Go.Proofs.YtlpdfifjdlfpdaaGreatDoor

/- Same. -/
namespace Go.Proofs.YtlpdfifjdlfpdaaGreatDoor
open Go.RowKit

def Fo.size : Fo → Nat
  | .nil => 0
  | .cons _ _ _ s _ r => s.size + r.size + 1

/-- Data as they are read in memory, from a place on. -/
def Rd (w : World) : Nat → Nat → Fo → Prop
  | _, _, .nil => True
  | b, o, .cons k n t s d r => (b < w.heap.size ∧ w.cell? ⟨b, o, none⟩ = some (.int .u8 k) ∧ w.cell? ⟨b, o + 1, none⟩ = some (.int .i64 n) ∧ w.cell? ⟨b, o + 1 + 1, none⟩ = some (S t) ∧ w.cell? ⟨b, o + 1 + 1 + 1 + 1, none⟩ = some (.bool d) ∧ s.len ≤ maxLen) ∧
      (∃ rk ck b' o', w.cell? ⟨b, o + 1 + 1 + 1, none⟩ = some (.slice rk s.len ck) ∧ (s.len = 0 ∨ rk = some ⟨b', o', none⟩) ∧ Rd w b' o' s) ∧ Rd w b (o + 5) r
/-- .. as a slice. -/
def RS (w : World) (ra : Option Addr) (f : Fo) : Prop := ∃ b o, (f.len = 0 ∨ ra = some ⟨b, o, none⟩) ∧ Rd w b o f
theorem Rd.below {w w' : World} (hb : Below w.heap.size w w') : ∀ {b o : Nat} {f : Fo}, Rd w b o f → Rd w' b o f
  | b, o, .nil, _ => trivial
  | b, o, .cons k n t s d r, ⟨⟨h0, h1, h2, h3, h4, h5⟩, ⟨rk, ck, b', o', hk, hz, hs⟩, hr⟩ => by
    have e : ∀ o, w'.cell? ⟨b, o, none⟩ = w.cell? ⟨b, o, none⟩ := fun o => hb.cell (p := ⟨b, o, none⟩) h0
    exact ⟨⟨Nat.lt_of_lt_of_le h0 hb.size, (e _).trans h1, (e _).trans h2, (e _).trans h3, (e _).trans h4, h5⟩, ⟨rk, ck, b', o', (e _).trans hk, hz, Rd.below hb hs⟩, Rd.below hb hr⟩
theorem RS.below {w w' : World} {ra : Option Addr} {f : Fo} (h : RS w ra f) (hb : Below w.heap.size w w') : RS w' ra f := by
  obtain ⟨b, o, h1, h2⟩ := h
  exact ⟨b, o, h1, h2.below hb⟩

def sameB (k n : Int) (t : List UInt8) (s : Fo) (d : Bool) (k' n' : Int) (t' : List UInt8) (s' : Fo) (d' : Bool) : Bool := k == k' && (n == n' && (decide (t = t') && (d == d' && s.same s')))
theorem same_cons (k n : Int) (t : List UInt8) (s : Fo) (d : Bool) (r : Fo) (k' n' : Int) (t' : List UInt8) (s' : Fo) (d' : Bool) (r' : Fo) : (Fo.cons k n t s d r).same (.cons k' n' t' s' d' r') = (sameB k n t s d k' n' t' s' d' && r.same r') := by
  have e : (t == t') = decide (t = t') := by
    by_cases h : t = t'
    · subst h; simp
    · rw [decide_eq_false h, beq_eq_false_iff_ne]; exact h
  simp only [Fo.same, sameB, e, Bool.and_assoc]

def SameC (N : Nat) : Prop := ∀ (k n : Int) (t : List UInt8) (s : Fo) (d : Bool) (rk : Option Addr) (ck : Nat) (k' n' : Int) (t' : List UInt8) (s' : Fo) (d' : Bool) (rk' : Option Addr) (ck' : Nat) (w : World), s.size ≤ N → s.len ≤ maxLen → s'.len ≤ maxLen → RS w rk s → RS w rk' s' →
  Calls Tryz.prog 15 #[.agg #[.int .u8 k, .int .i64 n, S t, .slice rk s.len ck, .bool d], .agg #[.int .u8 k', .int .i64 n', S t', .slice rk' s'.len ck', .bool d']] w fun e w' => e = .returned (.bool (sameB k n t s d k' n' t' s' d')) ∧ Below w.heap.size w w'
def EqC (N : Nat) : Prop := ∀ (f g : Fo) (ra : Option Addr) (ca : Nat) (rb : Option Addr) (cb : Nat) (w : World), f.size ≤ N → f.len ≤ maxLen → g.len ≤ maxLen → RS w ra f → RS w rb g →
  Calls Tryz.prog 55 #[.slice ra f.len ca, .slice rb g.len cb, .func (.func 15) #[] #[]] w fun e w' => e = .returned (.bool (f.same g)) ∧ Below w.heap.size w w'

set_option maxRecDepth 100000 in
set_option maxHeartbeats 4000000 in
theorem same_of {N : Nat} (h : EqC N) : SameC N := by
  intro k n t s d rk ck k' n' t' s' d' rk' ck' w hN hm hm' hR hR'
  have HE : Hid (EqC N) := h
  have HR : Hid (RS w rk s) := hR
  have HR' : Hid (RS w rk' s') := hR'
  clear h hR hR'
  unfold sameB
  cases h1 : (k == k')
  · go_enter Tryz.func15, Tryz.ntmps15
    go_wp2
    go_ret
    exact ⟨rfl, (((Below.refl _ w).alloc (Nat.le_refl _) _).alloc (by simp) _)⟩
  cases h2 : (n == n')
  · go_enter Tryz.func15, Tryz.ntmps15
    go_wp2
    go_ret
    exact ⟨rfl, (((Below.refl _ w).alloc (Nat.le_refl _) _).alloc (by simp) _)⟩
  by_cases h3 : t = t'
  · subst h3
    cases h4 : (d == d')
    · go_enter Tryz.func15, Tryz.ntmps15
      go_wp2
      go_ret
      exact ⟨by simp, (((Below.refl _ w).alloc (Nat.le_refl _) _).alloc (by simp) _)⟩
    · go_enter Tryz.func15, Tryz.ntmps15
      go_wp2_with fail
      refine (HE.out s s' rk ck rk' ck' _ hN hm hm' (HR.out.below (((Below.refl _ w).alloc (Nat.le_refl _) _).alloc (by simp) _)) (HR'.out.below (((Below.refl _ w).alloc (Nat.le_refl _) _).alloc (by simp) _))).mono ?_
      rintro e w1 ⟨rfl, hb1⟩
      go_wp2
      go_ret
      exact ⟨by simp, ((((Below.refl _ w).alloc (Nat.le_refl _) _).alloc (by simp) _)).trans (hb1.mono (by simp; omega))⟩
  · have h3' : decide (t = t') = false := decide_eq_false h3
    go_enter Tryz.func15, Tryz.ntmps15
    go_wp2
    go_ret
    exact ⟨by simp [h3], (((Below.refl _ w).alloc (Nat.le_refl _) _).alloc (by simp) _)⟩

set_option maxRecDepth 100000 in
set_option maxHeartbeats 4000000 in
theorem eq_of {N : Nat} (h : ∀ M, M < N → SameC M) : EqC N := by
  intro f g ra ca rb cb w hN hm hm' hR hR'
  have HS : Hid (∀ M, M < N → SameC M) := h
  unfold maxLen at hm hm'
  by_cases hl : f.len = g.len
  · obtain ⟨b, o, hab, hRd⟩ := hR
    obtain ⟨b', o', hab', hRd'⟩ := hR'
    have HRd : Hid (Rd w b o f) := hRd
    have HRd' : Hid (Rd w b' o' g) := hRd'
    have HLL : Hid (g.len = f.len) := hl.symm
    clear h hRd hRd'
    have hra : f.len ≠ 0 → ra = some ⟨b, o, none⟩ := fun h => hab.resolve_left h
    have hrb : f.len ≠ 0 → rb = some ⟨b', o', none⟩ := fun h => hab'.resolve_left (by rw [← hl]; exact h)
    have Hra : Hid _ := hra
    have Hrb : Hid _ := hrb
    rw [← hl]
    clear hab hab' hra hrb hm' hl
    go_enter Tryz.func55, Tryz.ntmps55
    go_wp2
    go_loopw [17] (fun i wr => ∃ (j : Nat) (fi gi : Fo), i = .int .i64 j ∧ fi.len + j = f.len ∧ gi.len = fi.len ∧ fi.size ≤ N ∧ Hid (Rd wr b (o + j * 5) fi) ∧ Hid (Rd wr b' (o' + j * 5) gi) ∧ Hid (f.same g = fi.same gi) ∧ Hid (Below w.heap.size w wr)) (fun i _ => f.len - (intOf i).toNat)
    case atStart => exact ⟨0, f, g, rfl, by simp, HLL.out, hN, by simpa using HRd, by simpa using HRd', rfl, Below.refl _ _⟩
    case round =>
      obtain ⟨j, fi, gi, rfl, hj, hgl, hsz, HF, HG, HQ, HB⟩ := hrel
      cases fi with
      | nil =>
        have hg0 : gi = .nil := Fo.len0 (by simpa [Fo.len] using hgl)
        subst hg0
        have hj' : j = f.len := by simpa [Fo.len] using hj
        have HJ : Hid _ := hj'
        have hjl : ¬ ((j : Int) < (f.len : Int)) := by omega
        clear hj hj' hgl
        go_wp2
        go_ret
        exact ⟨by rw [HQ.out]; rfl, HB.out⟩
      | cons k n t s d r =>
        cases gi with
        | nil => simp [Fo.len] at hgl
        | cons k' n' t' s' d' r' =>
          obtain ⟨⟨h0, h1, h2, h3, h4, h5⟩, ⟨rk, ck, bk, ok, hk, hz, hs⟩, hr⟩ := HF.out
          obtain ⟨⟨h0', h1', h2', h3', h4', h5'⟩, ⟨rk', ck', bk', ok', hk', hz', hs'⟩, hr'⟩ := HG.out
          simp only [Fo.len] at hj hgl
          simp only [Fo.size] at hsz
          have hlt : j < f.len := by omega
          have hra := Hra.out (by omega)
          have hrb := Hrb.out (by omega)
          subst hra hrb
          have i1 : (j : Int) < (f.len : Int) := by omega
          have HRk : Hid (RS wr rk s) := ⟨bk, ok, hz, hs⟩
          have HRk' : Hid (RS wr rk' s') := ⟨bk', ok', hz', hs'⟩
          have Hr : Hid _ := hr
          have Hr' : Hid _ := hr'
          clear hs hs' hr hr' hz hz' HF HG
          go_wp2_with fail
          refine (HS.out s.size (by omega) k n t s d rk ck k' n' t' s' d' rk' ck' _ (Nat.le_refl _) h5 h5' (HRk.out.below (((Below.refl _ wr).alloc (Nat.le_refl _) _).alloc (by simp) _)) (HRk'.out.below (((Below.refl _ wr).alloc (Nat.le_refl _) _).alloc (by simp) _))).mono ?_
          rintro e w1 ⟨rfl, hb1⟩
          have HW : Hid (Below wr.heap.size wr w1) := (((Below.refl _ wr).alloc (Nat.le_refl _) _).alloc (by simp) _).trans (hb1.mono (by simp; omega))
          have HB1 : Hid (Below w.heap.size w w1) := HB.out.trans (HW.out.mono HB.out.size)
          clear hb1 h1 h2 h3 h4 hk h1' h2' h3' h4' hk'
          cases hsb : sameB k n t s d k' n' t' s' d'
          · have HS2 : Hid _ := hsb
            clear hsb
            go_wp2
            go_ret
            exact ⟨by rw [HQ.out, same_cons, HS2.out]; rfl, HB1.out⟩
          · have HS2 : Hid _ := hsb
            clear hsb
            go_wp2
            go_roundw
            case rel => exact ⟨j + 1, r, r', by go_num, by omega, by omega, by omega, by rw [show o + (j + 1) * 5 = o + j * 5 + 5 by omega]; exact Hr.out.below HW.out, by rw [show o' + (j + 1) * 5 = o' + j * 5 + 5 by omega]; exact Hr'.out.below HW.out, by show _ = _; rw [HQ.out, same_cons, HS2.out]; rfl, HB1⟩
            case measure => simp [intOf]; omega
  · have hne : f.same g = false := by
      cases hs : f.same g with
      | false => rfl
      | true => exact absurd (by rw [(Fo.same_iff f g).1 hs]) hl
    rw [hne]
    have h2 : ((f.len : Int) == (g.len : Int)) = false := by simp; omega
    clear h hR hR' HS
    go_enter Tryz.func55, Tryz.ntmps55
    go_wp2
    go_ret
    exact ⟨rfl, Below.refl _ _⟩
theorem eq_all : ∀ N, EqC N := fun N => by
  induction N using Nat.strongRecOn with
  | _ N ih => exact eq_of (fun M hM => same_of (ih M hM))
/-- Same, of any two data. -/
theorem same_any (k n : Int) (t : List UInt8) (s : Fo) (d : Bool) (rk : Option Addr) (ck : Nat) (k' n' : Int) (t' : List UInt8) (s' : Fo) (d' : Bool) (rk' : Option Addr) (ck' : Nat) (w : World) (hm : s.len ≤ maxLen) (hm' : s'.len ≤ maxLen) (hR : RS w rk s) (hR' : RS w rk' s') :
    Calls Tryz.prog 15 #[.agg #[.int .u8 k, .int .i64 n, S t, .slice rk s.len ck, .bool d], .agg #[.int .u8 k', .int .i64 n', S t', .slice rk' s'.len ck', .bool d']] w fun e w' => e = .returned (.bool (sameB k n t s d k' n' t' s' d')) ∧ Below w.heap.size w w' :=
  same_of (eq_all s.size) k n t s d rk ck k' n' t' s' d' rk' ck' w (Nat.le_refl _) hm hm' hR hR'
end Go.Proofs.YtlpdfifjdlfpdaaGreatDoor
