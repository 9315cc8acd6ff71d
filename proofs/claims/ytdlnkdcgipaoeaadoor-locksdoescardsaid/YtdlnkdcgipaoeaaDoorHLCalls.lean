/- Lists of numbers are held against each other (of stage 12's ASame); the calls of a book, whole. -/
import Derived.Test.YtdlnkdcgipaoeaaDoorHLNew
import Derived.Laws.StructEq
namespace Go.Proofs.YtdlnkdcgipaoeaaDoor
open Go.RowKit

theorem eq_drop {α : Type} {l m : List α} (_ : l.length = m.length) {j : Nat} {x y : α} (hx : l[j]? = some x) (hy : m[j]? = some y) (h : x ≠ y) : l ≠ m := fun e => by subst e; rw [hx] at hy; exact h (Option.some.inj hy)
theorem eq_of_take {α : Type} {l m : List α} (hlen : l.length = m.length) {j : Nat} (hj : ¬ j < l.length) (h : l.take j = m.take j) : l = m := by
  rwa [List.take_of_length_le (by omega), List.take_of_length_le (by omega)] at h
/-- A row that is read. -/
def RX {α : Type} (enc : α → Value) (w : World) (ra : Option Addr) (l : List α) : Prop := ∃ b o, (l.length = 0 ∨ ra = some ⟨b, o, none⟩) ∧ ∀ (j : Nat) (x : α), l[j]? = some x → b < w.heap.size ∧ w.cell? ⟨b, o + j, none⟩ = some (enc x)
theorem RX.at {α : Type} {enc : α → Value} {w : World} {ra : Option Addr} {l : List α} (h : RX enc w ra l) : ∃ b o, (l.length ≠ 0 → ra = some ⟨b, o, none⟩) ∧ ∀ (j : Nat) (x : α), l[j]? = some x → b < w.heap.size ∧ w.cell? ⟨b, o + j, none⟩ = some (enc x) := by
  obtain ⟨b, o, h1, h2⟩ := h
  exact ⟨b, o, fun q => h1.resolve_left q, h2⟩
theorem RX.below {α : Type} {enc : α → Value} {w w' : World} {ra : Option Addr} {l : List α} (h : RX enc w ra l) (hb : Below w.heap.size w w') : RX enc w' ra l := by
  obtain ⟨b, o, h1, h2⟩ := h
  exact ⟨b, o, h1, fun j x hx => ⟨Nat.lt_of_lt_of_le (h2 j x hx).1 hb.size, (hb.cell (p := ⟨b, o + j, none⟩) (h2 j x hx).1).trans (h2 j x hx).2⟩⟩
set_option maxRecDepth 100000 in
set_option maxHeartbeats 4000000 in
theorem sameI_any (l m : List Int) (ra rb : Option Addr) (ca cb : Nat) (w : World) (hl : l.length ≤ maxLen) (_ : m.length ≤ maxLen) (hR : RX (Value.int .i64) w ra l) (hS : RX (Value.int .i64) w rb m) :
    Calls Tryd.prog 28 #[.slice ra l.length ca, .slice rb m.length cb] w fun e w' => e = .returned (.bool (decide (l = m))) ∧ Below w.heap.size w w' := by
  unfold maxLen at hl
  by_cases hlen : l.length = m.length
  · obtain ⟨b, o, h1, h2⟩ := RX.at hR
    obtain ⟨b', o', h1', h2'⟩ := RX.at hS
    rw [← hlen] at h1' ⊢
    have H1 : Hid _ := h1
    have H2 : Hid _ := h2
    have H1' : Hid _ := h1'
    have H2' : Hid _ := h2'
    have Hlen : Hid (l.length = m.length) := hlen
    have z : ((l.length : Int) == (l.length : Int)) = true := by simp
    clear h1 h2 h1' h2' hR hS hlen
    go_enter Tryd.func28, Tryd.ntmps28
    go_wp2
    go_loopw [5] (fun i wr => ∃ j : Nat, i = .int .i64 j ∧ j ≤ l.length ∧ Hid (l.take j = m.take j) ∧ Hid (Below w.heap.size w wr)) (fun i _ => l.length - (intOf i).toNat)
    case atStart => exact ⟨0, rfl, Nat.zero_le _, by show _ = _; simp, Below.refl _ _⟩
    case round =>
      obtain ⟨j, rfl, hj, HN, HW⟩ := hrel
      by_cases hlt : j < l.length
      · have i1 : (j : Int) < (l.length : Int) := by omega
        have hra := H1.out (by omega)
        subst hra
        have hrb := H1'.out (by omega)
        subst hrb
        obtain ⟨x, hx⟩ : ∃ x, l[j]? = some x := ⟨_, List.getElem?_eq_getElem hlt⟩
        obtain ⟨y, hy⟩ : ∃ y, m[j]? = some y := ⟨_, List.getElem?_eq_getElem (by rw [← Hlen.out]; exact hlt)⟩
        obtain ⟨hb, hc⟩ := H2.out j x hx
        obtain ⟨hb', hc'⟩ := H2'.out j y hy
        have f1 : wr.cell? ⟨b, o + j, none⟩ = some (.int .i64 x) := (HW.out.cell (p := ⟨b, o + j, none⟩) hb).trans hc
        have f2 : wr.cell? ⟨b', o' + j, none⟩ = some (.int .i64 y) := (HW.out.cell (p := ⟨b', o' + j, none⟩) hb').trans hc'
        have f3 : b < wr.heap.size := Nat.lt_of_lt_of_le hb HW.out.size
        have f4 : b' < wr.heap.size := Nat.lt_of_lt_of_le hb' HW.out.size
        have HX : Hid (l[j]? = some x) := hx
        have HY : Hid (m[j]? = some y) := hy
        clear hx hy hb hc hb' hc'
        by_cases he : x = y
        · subst he
          have z2 : (x == x) = true := by simp
          go_wp2_with fail
          go_quiet (fail)
          go_wp2
          go_roundw
          case rel =>
            refine ⟨j + 1, by go_num, by omega, ?_, below_drewM HW.out _⟩
            show _ = _
            rw [List.take_add_one, List.take_add_one, HN.out, HX.out, HY.out]
          case measure => simp [intOf]; omega
        · have HE : Hid (decide (l = m) = false) := decide_eq_false (eq_drop Hlen.out HX.out HY.out he)
          have z2 : (x == y) = false := by simpa using he
          clear he
          go_wp2_with fail
          go_quiet (fail)
          go_wp2
          go_ret
          exact ⟨by rw [HE.out]; rfl, below_drewM HW.out _⟩
      · have i1 : ¬ (j : Int) < (l.length : Int) := by omega
        have HE : Hid (decide (l = m) = true) := decide_eq_true (eq_of_take Hlen.out hlt HN.out)
        go_wp2
        go_ret
        exact ⟨by rw [HE.out]; rfl, HW.out⟩
  · have HE : Hid (decide (l = m) = false) := decide_eq_false (fun e => hlen (by rw [e]))
    have z : ((l.length : Int) == (m.length : Int)) = false := by simp; omega
    clear hlen hR hS
    go_enter Tryd.func28, Tryd.ntmps28
    go_wp2
    go_ret
    exact ⟨by rw [HE.out]; rfl, Below.refl _ _⟩
theorem RI.rx {w : World} {s : Sl} {l : List Int} (h : RI w s l) : RX (Value.int .i64) w s.ra l := by
  rcases h with ⟨rfl, rfl⟩ | ⟨g, off, cs, h0, h1, h2, h3, h4⟩
  · exact ⟨0, 0, .inl rfl, fun j x hx => by simp at hx⟩
  · exact ⟨g, off, .inr h0, fun j x hx => ⟨heap_lt h1, heap_cell h1 (h4 j x hx)⟩⟩
theorem RO.rx {w : World} {s : Sl} {l : List Int} (h : RO w s l) : RX (Value.int .i64) w s.ra l := h.ri.rx
theorem waits_B {w : World} {b : Nat} {B : Bk} {F : Nat → Prop} (h : BB w b B F) (hS : Sh B) (x : Int) :
    Calls Tryd.prog 16 #[.pointer (some ⟨b, 0, none⟩), .int .i64 x] w fun e w' => e = .returned (.bool (wtB B x)) ∧ w' = w := by
  obtain ⟨pt, pl, pg, T, L, hX, hT, hL, rfl⟩ := h
  obtain ⟨Bt, Bl, Bg⟩ := B
  dsimp only at hT hL hX
  subst hT hL
  exact waits_any hX (shT_of hS) x
def hoB (B : Bk) (x : Int) : Int := if isL B.l.length x = true then (match B.l[x.toNat]? with
  | some l => l.ho
  | none => 0) else 0
theorem holder_B {w : World} {b : Nat} {B : Bk} {F : Nat → Prop} (h : BB w b B F) (x : Int) :
    Calls Tryd.prog 22 #[.pointer (some ⟨b, 0, none⟩), .int .i64 x] w fun e w' => e = .returned (.int .i64 (hoB B x)) ∧ w' = w := by
  obtain ⟨pt, pl, pg, T, L, hX, hT, hL, rfl⟩ := h
  obtain ⟨Bt, Bl, Bg⟩ := B
  dsimp only at hT hL hX
  subst hT hL
  have e : hoB ⟨T.map (·.2), L.map (·.2), Bg⟩ x = hoX L x := by
    simp only [hoB, hoX, List.length_map, List.getElem?_map]
    cases L[x.toNat]? <;> rfl
  rw [e]
  exact holder_any hX x
theorem global_B {w : World} {b : Nat} {B : Bk} {F : Nat → Prop} (h : BB w b B F) (x : Int) :
    Calls Tryd.prog 27 #[.pointer (some ⟨b, 0, none⟩), .int .i64 x] w fun e w' => e = .returned (.tuple #[.int .u64 (glX B.g x).1, .int .i64 (glX B.g x).2]) ∧ w' = w := by
  obtain ⟨pt, pl, pg, T, L, hX, hT, hL, rfl⟩ := h
  exact global_any hX x
def enB (B : Bk) (x : Int) : (Bool × Int × Int) × Int := if isB B.t.length x = true then (match B.t[(x - 1).toNat]? with
  | some t => ((t.en, t.wd, t.er), 0)
  | none => ((false, 0, 0), 190)) else ((false, 0, 0), 190)
theorem ended_B {w : World} {b : Nat} {B : Bk} {F : Nat → Prop} (h : BB w b B F) (x : Int) :
    Calls Tryd.prog 15 #[.pointer (some ⟨b, 0, none⟩), .int .i64 x] w fun e w' => e = .returned (.tuple #[.agg #[.bool (enB B x).1.1, .int .u64 (enB B x).1.2.1, .int .i64 (enB B x).1.2.2], .int .i64 (enB B x).2]) ∧ Below w.heap.size w w' := by
  obtain ⟨pt, pl, pg, T, L, hX, hT, hL, rfl⟩ := h
  obtain ⟨Bt, Bl, Bg⟩ := B
  dsimp only at hT hL hX
  subst hT hL
  have e : enB ⟨T.map (·.2), L.map (·.2), Bg⟩ x = enX T x := by
    simp only [enB, enX, List.length_map, List.getElem?_map]
    cases T[(x - 1).toNat]? <;> rfl
  rw [e]
  exact ended_any hX x
theorem threads_B {w : World} {b : Nat} {B : Bk} {F : Nat → Prop} (h : BB w b B F) :
    Calls Tryd.prog 45 #[.pointer (some ⟨b, 0, none⟩)] w fun e w' => e = .returned (.int .i64 B.t.length) ∧ w' = w := by
  obtain ⟨pt, pl, pg, T, L, hX, hT, hL, rfl⟩ := h
  rw [← hT, List.length_map]
  exact threads_any hX
def ringB (B : Bk) (x : Int) : Nat → Int → Bool
  | 0, _ => false
  | n + 1, a => decide (awB B a = x) || ringB B x n (awB B a)
def stB (B : Bk) (j : Nat) : List Int := ((List.range j).map (fun i : Nat => (i : Int) + 1)).filter (fun x => ringB B x B.t.length x)
theorem ring_is (T : List (Sl × Th)) (L : List (Sl × Lk)) (G : List Int) (x : Int) : ∀ n a, ringB ⟨T.map (·.2), L.map (·.2), G⟩ x n a = ringX T L x n a
  | 0, _ => rfl
  | n + 1, a => by
    show (decide (awX T L a = x) || ringB _ x n (awX T L a)) = _
    rw [ring_is T L G x n]
    rfl
theorem stuck_B {w : World} {b : Nat} {B : Bk} {F : Nat → Prop} (h : BB w b B F) (hS : Sh B) :
    Calls Tryd.prog 24 #[.pointer (some ⟨b, 0, none⟩)] w fun e w' => OutR w (stB B B.t.length) e w' := by
  obtain ⟨pt, pl, pg, T, L, hX, hT, hL, rfl⟩ := h
  obtain ⟨Bt, Bl, Bg⟩ := B
  dsimp only at hT hL hX
  subst hT hL
  have e : stB ⟨T.map (·.2), L.map (·.2), Bg⟩ (T.map (·.2)).length = stX T L T.length := by
    simp only [stB, stX, List.length_map]
    exact List.filter_congr (fun x _ => ring_is T L Bg x T.length x)
  rw [e]
  exact stuck_any hX (shT_of hS)
def endM (B : Bk) (t wd er : Int) : (List Int × Int) × Bk := if goB B t ≠ 0 then (([], goB B t), B) else match B.t[(t - 1).toNat]? with
  | some x => ((srt (outs t B.l B.l.length ++ x.row), 0), ⟨endT B.t (t - 1).toNat (if er = 0 then wd else 0) er, hoLs t B.l B.l.length, B.g⟩)
  | none => (([], 190), B)
theorem goB_at {B : Bk} {t : Int} (h : goB B t = 0) : ∃ (i : Nat) (x : Th), t = (i : Int) + 1 ∧ B.t[i]? = some x ∧ x.en = false ∧ wtB B t = false := by
  unfold goB at h
  split at h
  · rename_i hb
    obtain ⟨i, rfl, hi⟩ := isB_at hb
    rw [show ((i : Int) + 1 - 1).toNat = i by omega, List.getElem?_eq_getElem hi] at h
    dsimp only at h
    split at h
    · cases h
    · rename_i hc
      rw [Bool.or_eq_true, not_or, Bool.not_eq_true, Bool.not_eq_true] at hc
      exact ⟨i, _, rfl, List.getElem?_eq_getElem hi, hc⟩
  · cases h
set_option maxRecDepth 100000 in
set_option maxHeartbeats 4000000 in
theorem end_any {w : World} {b : Nat} {B : Bk} {F : Nat → Prop} (h : BB w b B F) (hS : Sh B) (t wd er : Int) :
    Calls Tryd.prog 26 #[.pointer (some ⟨b, 0, none⟩), .int .i64 t, .int .u64 wd, .int .i64 er] w fun e w' => ER b (endM B t wd er).2 F (endM B t wd er).1.1 (endM B t wd er).1.2 w e w' := by
  have hB := h
  obtain ⟨pt, pl, pg, T, L, hX, hT, hL, rfl⟩ := h
  obtain ⟨Bt, Bl, Bg⟩ := B
  dsimp only at hT hL hX
  subst hT hL
  by_cases hg : goB ⟨T.map (·.2), L.map (·.2), Bg⟩ t = 0
  · obtain ⟨i, y, rfl, hy, -, -⟩ := goB_at hg
    obtain ⟨x, hx⟩ : ∃ x, T[i]? = some x := by
      cases hx : T[i]? with
      | none => rw [List.getElem?_map, hx] at hy; cases hy
      | some x => exact ⟨x, rfl⟩
    have hyx : y = x.2 := by
      rw [List.getElem?_map, hx] at hy
      exact (Option.some.inj hy).symm
    subst hyx
    have e : endM ⟨T.map (·.2), L.map (·.2), Bg⟩ ((i : Int) + 1) wd er = ((srt (outs ((i : Int) + 1) (L.map (·.2)) L.length ++ x.2.row), 0), ⟨endT (T.map (·.2)) i (if er = 0 then wd else 0) er, hoLs ((i : Int) + 1) (L.map (·.2)) L.length, Bg⟩) := by
      unfold endM
      rw [if_neg (by simpa using hg), show ((i : Int) + 1 - 1).toNat = i by omega, hy, List.length_map]
    rw [e]
    rw [goB_is] at hg
    have hn : ∀ z ∈ L, ∀ y ∈ z.2.row, y ≠ 0 := fun z hz => (hS.2 z.2 (List.mem_map.2 ⟨z, hz, rfl⟩)).2
    have hx2 := hS.1 x.2 (List.mem_map.2 ⟨x, List.mem_of_getElem? hx, rfl⟩)
    by_cases he : er = 0
    · subst he
      rw [if_pos rfl]
      exact end_ok hX (shT_of hS) hn hx hx2.2 hx2.1 wd hg
    · rw [if_neg he]
      exact end_er hX (shT_of hS) hn hx hx2.2 hx2.1 wd hg he
  · have e : endM ⟨T.map (·.2), L.map (·.2), Bg⟩ t wd er = (([], goB ⟨T.map (·.2), L.map (·.2), Bg⟩ t), ⟨T.map (·.2), L.map (·.2), Bg⟩) := by
      unfold endM
      rw [if_pos hg]
    rw [e]
    have HG : Hid _ := going_any hX (shT_of hS) t
    rw [← goB_is T L Bg] at HG
    generalize hge : goB ⟨T.map (·.2), L.map (·.2), Bg⟩ t = ge at HG hg ⊢
    have HF : Hid (ER b ⟨T.map (·.2), L.map (·.2), Bg⟩ (Ft b pt pl pg T L) [] ge w (.returned (.tuple #[.slice none 0 0, .int .i64 ge])) w) := ⟨⟨none, 0⟩, _, rfl, RO.nil _, (fun g hg => by cases hg), hB, Chg.quiet _ (Below.refl _ _)⟩
    clear hge e hB hX hS
    dsimp only
    go_enter Tryd.func26, Tryd.ntmps26
    go_wp2_with fail
    refine Calls.mono HG.out ?_
    rintro e w2 ⟨rfl, hw2⟩
    rw [hw2]
    clear hw2
    go_wp2
    refine bodyPost_ret (results_tmp2 rfl _ _ _) rfl ?_
    exact HF.out
end Go.Proofs.YtdlnkdcgipaoeaaDoor
