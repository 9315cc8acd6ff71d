/- Names of symbols: all of them symbols, none twice. -/
import Derived.Test.YtinijcmnojlphaaDoorHSCount
import Derived.Test.YtinijcmnojlphaaDoorGC
import Derived.Maps.OwnSet
import Derived.StringKeys
namespace Go.Proofs.YtinijcmnojlphaaDoor
open Go.RowKit Go.Maps Go.ChangeMaps

/-- A symbol, as the lexer says. -/
def symB (s : List UInt8) : Bool := begE s == 0 && ((begT s).kind == 6 && ((begS s : Nat) : Int) == (s.length : Int))
/-- Texts in a row. -/
def TX (w : World) (ra : Option Addr) (l : List (List UInt8)) : Prop := ∃ b o, (l.length = 0 ∨ ra = some ⟨b, o, none⟩) ∧ ∀ j x, l[j]? = some x → b < w.heap.size ∧ w.cell? ⟨b, o + j, none⟩ = some (S x) ∧ x.length ≤ 281474976710656
theorem TX.below {w w' : World} {ra : Option Addr} {l : List (List UInt8)} (h : TX w ra l) (hb : Below w.heap.size w w') : TX w' ra l := by
  obtain ⟨b, o, h1, h2⟩ := h
  refine ⟨b, o, h1, fun j x hx => ?_⟩
  obtain ⟨hlt, hc, hr⟩ := h2 j x hx
  refine ⟨Nat.lt_of_lt_of_le hlt hb.size, ?_, hr⟩
  have he := hb.block b hlt
  simp only [World.cell?, he] at hc ⊢
  exact hc
def areNamesB (l : List (List UInt8)) : Bool := l.all symB && decide l.Nodup
/-- The map's block holds just the texts of a list. -/
def NM (w : World) (b n : Nat) (l : List (List UInt8)) : Prop := ∃ D : DataW Unit, w.ownsMap Tryd.prog 9 unitElem b n D ∧ (∀ s : List UInt8, has D (.string s) = decide (s ∈ l)) ∧ Maps.size D ≤ l.length ∧ (Maps.size D = l.length ↔ l.Nodup)
theorem NM.made (w : World) : NM (w.alloc (.map #[] 0)) w.heap.size 0 [] := ⟨.map [], World.ownsMap_made w _ _ _, fun _ => rfl, Nat.le_refl _, by simp [Maps.size]⟩
theorem NM.kept {w w' : World} {b n : Nat} {l : List (List UInt8)} (h : NM w b n l) (hb : w'.heap[b]? = w.heap[b]?) : NM w' b n l := by
  obtain ⟨D, ⟨es, clock, h2, h3, h4, h5⟩, h6⟩ := h
  exact ⟨D, ⟨es, clock, hb.trans h2, h3, h4, h5⟩, h6⟩
theorem NM.lt {w : World} {b n : Nat} {l : List (List UInt8)} (h : NM w b n l) : b < w.heap.size := by
  obtain ⟨D, ⟨es, clock, h2, _⟩, _⟩ := h
  exact heap_lt h2
theorem NM.put {w : World} {b n : Nat} {l : List (List UInt8)} (h : NM w b n l) (hn : n < maxLen) (s : List UInt8) (hs : s.length ≤ maxLen) : ∃ w', (Instr.mapUpdate 70 (.map (some b)) (S s) (.agg #[])).run Tryd.prog w = .ok () w' ∧ NM w' b (n + 1) (l ++ [s]) ∧ w.grownBy w' (some b) := by
  obtain ⟨D, h1, h2, h3, h4⟩ := h
  have K := string_keyed (P := Tryd.prog) Tryd.underlying9
  have hk : keyOf Tryd.prog 9 (S s) = some (.string s) := by
    have := Go.WideMaps.keyOf_string_mk (P := Tryd.prog) Tryd.underlying9 (s := ⟨s.toArray⟩) (by simpa [ByteArray.size] using hs)
    simpa using this
  obtain ⟨w', hrun, ho, hg⟩ := h1.update K Tryd.underlying70 hn hk (unitElem_mk (H := Unit))
  have hz := size_put (k := .string s) (h1.tidy K) (.agg [] : DataW Unit)
  rw [h2 s] at hz
  refine ⟨w', hrun, ⟨_, ho, fun t => ?_, ?_, ?_⟩, hg⟩
  · by_cases he : t = s
    · subst he
      rw [has_put_same h1.isMap (by simp [WideAt.IsKeyLit])]
      simp
    · rw [has_put_other (fun e => he (Lit.string.inj e)), h2 t]
      simp [he]
  · rw [hz]
    by_cases hm : s ∈ l
    · simp [hm]; omega
    · simp [hm]; omega
  · rw [hz, List.nodup_append]
    by_cases hm : s ∈ l
    · simp only [hm, decide_true, if_true, List.length_append, List.length_singleton]
      constructor
      · intro e; omega
      · rintro ⟨_, _, h5⟩; exact absurd rfl (h5 s hm s (by simp))
    · simp only [hm, decide_false, List.length_append, List.length_singleton]
      constructor
      · intro e
        refine ⟨h4.1 (by simpa using e), by simp, fun a ha c hc e2 => ?_⟩
        simp at hc
        subst hc
        subst e2
        exact hm ha
      · rintro ⟨h5, _⟩
        have := h4.2 h5
        simp [this]
theorem tx_map {w w' : World} {b n : Nat} {k : List (List UInt8)} {ra : Option Addr} {l : List (List UInt8)} (hm : NM w b n k) (hg : w.grownBy w' (some b)) (h : TX w ra l) : TX w' ra l := by
  obtain ⟨D, ⟨es, clock, hb, _⟩, _⟩ := hm
  obtain ⟨bb, o, h1, h2⟩ := h
  refine ⟨bb, o, h1, fun j x hx => ?_⟩
  obtain ⟨hlt, hc, hr⟩ := h2 j x hx
  have hne : bb ≠ b := fun e => by
    subst e
    simp [World.cell?, hb] at hc
  have he : w'.heap[bb]? = w.heap[bb]? := hg.block bb hlt (fun e => hne (Option.some.inj e))
  refine ⟨Nat.lt_of_lt_of_le hlt hg.size, ?_, hr⟩
  simp only [World.cell?, he] at hc ⊢
  exact hc
theorem symbol_any (s : List UInt8) (w : World) (hs : s.length ≤ 281474976710656) (hE : EV w) :
    Calls Tryd.prog 23 #[S s] w fun e w' => e = .returned (.bool (symB s)) ∧ Below w.heap.size w w' := by
  refine (isSymbol_any ⟨s.toArray⟩ w (by simpa [ByteArray.size] using hs) hE).mono ?_
  rintro e w1 ⟨rfl, hb⟩
  exact ⟨by simp [symB, ByteArray.size], hb⟩
set_option maxRecDepth 100000 in
set_option maxHeartbeats 8000000 in
theorem areNames_any (l : List (List UInt8)) (ra : Option Addr) (ca : Nat) (w : World) (hl : l.length ≤ 3000000) (hH : TX w ra l) (hE : EV w) :
    Calls Tryd.prog 12 #[.slice ra l.length ca] w fun e w' => e = .returned (.bool (areNamesB l)) ∧ Below w.heap.size w w' := by
  have a1 := (Below.refl _ w).alloc (Nat.le_refl w.heap.size) (.map #[] 0)
  have HM1 : Hid (NM (w.alloc (.map #[] 0)) w.heap.size 0 []) := NM.made w
  have HB1 : Hid (Below w.heap.size w (w.alloc (.map #[] 0))) := a1
  have HW1 : Hid (TX (w.alloc (.map #[] 0)) ra l) := hH.below a1
  have HE : Hid (EV w) := hE
  have mm : (Instr.makeMap 70 none).run Tryd.prog w = .ok (.map (some w.heap.size)) (w.alloc (.map #[] 0)) := run_makeMap (P := Tryd.prog) 70 w
  clear a1 hH hE
  go_enter Tryd.func12, Tryd.ntmps12
  go_upto_region 2 with fail
  generalize w.alloc (.map #[] 0) = W1 at *
  clear mm
  go_wp2
  go_loopw [9, 5] (fun i _ wr => ∃ (j n : Nat), i = .int .i64 j ∧ j ≤ l.length ∧ n ≤ j ∧ Hid (NM wr w.heap.size n (l.take j)) ∧ Hid (Below w.heap.size w wr) ∧ Hid (TX wr ra l) ∧ Hid ((l.take j).all symB = true)) (fun i _ _ => l.length - (intOf i).toNat)
  case atStart => exact ⟨0, 0, rfl, Nat.zero_le _, Nat.le_refl _, HM1, HB1, HW1, rfl⟩
  case round =>
    obtain ⟨j, n, rfl, hj, hnj, HMj, HB, HWj, HS⟩ := hrel
    by_cases hlt : j < l.length
    · have k1 : (j : Int) < (l.length : Int) := by omega
      obtain ⟨x, hx⟩ : ∃ x, l[j]? = some x := ⟨_, List.getElem?_eq_getElem hlt⟩
      obtain ⟨b, o, q1, q2⟩ := HWj.out
      obtain rfl : ra = some ⟨b, o, none⟩ := q1.resolve_left (by omega)
      obtain ⟨l1, d0, hrg⟩ := q2 j x hx
      have HC : Hid (Calls Tryd.prog 23 #[S x] wr fun e w' => e = .returned (.bool (symB x)) ∧ Below wr.heap.size wr w') := symbol_any x wr hrg (HE.out.below HB.out HE.out.lt)
      have HXx : Hid (l[j]? = some x ∧ x.length ≤ 281474976710656) := ⟨hx, hrg⟩
      clear q1 q2 hx hrg
      cases hsb : symB x
      · have HF : Hid (areNamesB l = false) := by
          show _ = _
          have hm : x ∈ l := List.mem_of_getElem? HXx.out.1
          have : l.all symB = false := by
            rw [Bool.eq_false_iff]; intro h; rw [List.all_eq_true] at h; rw [h x hm] at hsb; cases hsb
          unfold areNamesB; rw [this]; rfl
        rw [hsb] at HC
        clear hsb
        go_wp2_with fail
        refine Calls.mono HC.out ?_
        rintro e w3 ⟨rfl, hb3⟩
        have HB3 : Hid (Below w.heap.size w w3) := HB.out.trans (hb3.mono HB.out.size)
        clear hb3 HC
        go_wp2
        go_ret
        exact ⟨by rw [HF.out]; rfl, HB3.out⟩
      · have HF : Hid ((l.take (j + 1)).all symB = true) := by
          show _ = _
          rw [List.take_add_one, HXx.out.1, List.all_append, HS.out]
          simp [hsb]
        have HT : Hid (l.take (j + 1) = l.take j ++ [x]) := by
          show _ = _
          rw [List.take_add_one, HXx.out.1]; rfl
        rw [hsb] at HC
        clear hsb
        go_wp2_with fail
        refine Calls.mono HC.out ?_
        rintro e w3 ⟨rfl, hb3⟩
        have HB3 : Hid (Below w.heap.size w w3) := HB.out.trans (hb3.mono HB.out.size)
        have HM3 : Hid (NM w3 w.heap.size n (l.take j)) := HMj.out.kept (hb3.block _ HMj.out.lt)
        have HW3 : Hid (TX w3 (some ⟨b, o, none⟩) l) := HWj.out.below hb3
        clear hb3 HC
        obtain ⟨w4, hup, hm4, hg4⟩ := HM3.out.put (by unfold maxLen; omega) x (by have := HXx.out.2; unfold maxLen; omega)
        have HM4 : Hid (NM w4 w.heap.size (n + 1) (l.take (j + 1))) := by show NM ..; rw [HT.out]; exact hm4
        have b4 : Below w.heap.size w3 w4 := (Below.refl _ w3).grown hg4 (by have := HM3.out.lt; omega) (fun k hk => by cases hk; exact Nat.le_refl _)
        have HB4 : Hid (Below w.heap.size w w4) := HB3.out.trans b4
        have HW4 : Hid (TX w4 (some ⟨b, o, none⟩) l) := tx_map HM3.out hg4 HW3.out
        clear hm4 hg4 b4 HWj HMj HM3 HW3 HB3 HT
        go_wp2
        go_roundw
        case rel => exact ⟨j + 1, n + 1, by go_num, by omega, by omega, HM4, HB4, HW4, HF⟩
        case measure => simp [intOf]; omega
    · have k1 : ¬ (j : Int) < (l.length : Int) := by omega
      have hN := HMj.out
      have hS := HS.out
      rw [List.take_of_length_le (by omega)] at hN hS
      obtain ⟨D, h1, _, h3, h4⟩ := hN
      have hlen := h1.len Tryd.underlying70
      have HF : Hid (areNamesB l = decide (Maps.size D = l.length)) := by
        show _ = _
        unfold areNamesB
        rw [hS, Bool.true_and]
        exact decide_eq_decide.2 h4.symm
      clear h1 h4 hS HMj
      generalize Maps.size D = m at *
      go_wp2
      all_goals go_ret
      refine ⟨?_, HB.out⟩
      rw [HF.out]
      refine ret_bool ?_
      show ((m : Int) == (l.length : Int)) = decide (m = l.length)
      rw [Bool.eq_iff_iff]
      simp
      omega
end Go.Proofs.YtinijcmnojlphaaDoor
