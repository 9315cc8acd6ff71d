/- Names of symbols: all of them symbols, none twice.; A builder that is the last field of a teller: copyCheck, WriteByte, WriteString there. -/
import Derived.Test.YtejmoopgfnjaaaaDoorK11
import Derived.Test.YtejmoopgfnjaaaaDoorK13
import Derived.Maps.OwnSet
import Derived.StringKeys
import Derived.Shelf.Strings.BuilderK
/- Names of symbols: all of them symbols, none twice. -/
namespace Go.Proofs.YtejmoopgfnjaaaaDoor
open Go.RowKit Go.Maps Go.ChangeMaps

/-- A symbol, as the lexer says. -/
def symB (s : List UInt8) : Bool := begE s == 0 && ((begT s).kind == 6 && ((begS s : Nat) : Int) == (s.length : Int))
/-- Texts in a row. -/
def TX (w : World) (ra : Option Addr) (l : List (List UInt8)) : Prop := ∃ b o, (l.length = 0 ∨ ra = some ⟨b, o, none⟩) ∧ ∀ j x, l[j]? = some x → b < w.heap.size ∧ w.cell? ⟨b, o + j, none⟩ = some (S x) ∧ x.length ≤ 281474976710656
theorem TX.below {w w' : World} {ra : Option Addr} {l : List (List UInt8)} (h : TX w ra l) (hb : Below w.heap.size w w') : TX w' ra l := by
  obtain ⟨b, o, h1, h2⟩ := h
  refine ⟨b, o, h1, fun j x hx => ?_⟩
  obtain ⟨hlt, hc, hr⟩ := h2 j x hx
  refine ⟨Nat.lt_of_lt_of_le hlt hb.size, ?_, hr⟩
  have he := hb.block b hlt
  simp only [World.cell?, he] at hc ⊢
  exact hc
def areNamesB (l : List (List UInt8)) : Bool := l.all symB && decide l.Nodup
/-- The map's block holds just the texts of a list. -/
def NM (w : World) (b n : Nat) (l : List (List UInt8)) : Prop := ∃ D : DataW Unit, w.ownsMap Tryd.prog 9 unitElem b n D ∧ (∀ s : List UInt8, has D (.string s) = decide (s ∈ l)) ∧ Maps.size D ≤ l.length ∧ (Maps.size D = l.length ↔ l.Nodup)
theorem NM.made (w : World) : NM (w.alloc (.map #[] 0)) w.heap.size 0 [] := ⟨.map [], World.ownsMap_made w _ _ _, fun _ => rfl, Nat.le_refl _, by simp [Maps.size]⟩
theorem NM.kept {w w' : World} {b n : Nat} {l : List (List UInt8)} (h : NM w b n l) (hb : w'.heap[b]? = w.heap[b]?) : NM w' b n l := by
  obtain ⟨D, ⟨es, clock, h2, h3, h4, h5⟩, h6⟩ := h
  exact ⟨D, ⟨es, clock, hb.trans h2, h3, h4, h5⟩, h6⟩
theorem NM.lt {w : World} {b n : Nat} {l : List (List UInt8)} (h : NM w b n l) : b < w.heap.size := by
  obtain ⟨D, ⟨es, clock, h2, _⟩, _⟩ := h
  exact heap_lt h2
theorem NM.put {w : World} {b n : Nat} {l : List (List UInt8)} (h : NM w b n l) (hn : n < maxLen) (s : List UInt8) (hs : s.length ≤ maxLen) : ∃ w', (Instr.mapUpdate 81 (.map (some b)) (S s) (.agg #[])).run Tryd.prog w = .ok () w' ∧ NM w' b (n + 1) (l ++ [s]) ∧ w.grownBy w' (some b) := by
  obtain ⟨D, h1, h2, h3, h4⟩ := h
  have K := string_keyed (P := Tryd.prog) Tryd.underlying9
  have hk : keyOf Tryd.prog 9 (S s) = some (.string s) := by
    have := Go.WideMaps.keyOf_string_mk (P := Tryd.prog) Tryd.underlying9 (s := ⟨s.toArray⟩) (by simpa [ByteArray.size] using hs)
    simpa using this
  obtain ⟨w', hrun, ho, hg⟩ := h1.update K Tryd.underlying81 hn hk (unitElem_mk (H := Unit))
  have hz := size_put (k := .string s) (h1.tidy K) (.agg [] : DataW Unit)
  rw [h2 s] at hz
  refine ⟨w', hrun, ⟨_, ho, fun t => ?_, ?_, ?_⟩, hg⟩
  · by_cases he : t = s
    · subst he
      rw [has_put_same h1.isMap (by simp [WideAt.IsKeyLit])]
      simp
    · rw [has_put_other (fun e => he (Lit.string.inj e)), h2 t]
      simp [he]
  · rw [hz]
    by_cases hm : s ∈ l
    · simp [hm]; omega
    · simp [hm]; omega
  · rw [hz, List.nodup_append]
    by_cases hm : s ∈ l
    · simp only [hm, decide_true, if_true, List.length_append, List.length_singleton]
      constructor
      · intro e; omega
      · rintro ⟨_, _, h5⟩; exact absurd rfl (h5 s hm s (by simp))
    · simp only [hm, decide_false, List.length_append, List.length_singleton]
      constructor
      · intro e
        refine ⟨h4.1 (by simpa using e), by simp, fun a ha c hc e2 => ?_⟩
        simp at hc
        subst hc
        subst e2
        exact hm ha
      · rintro ⟨h5, _⟩
        have := h4.2 h5
        simp [this]
theorem tx_map {w w' : World} {b n : Nat} {k : List (List UInt8)} {ra : Option Addr} {l : List (List UInt8)} (hm : NM w b n k) (hg : w.grownBy w' (some b)) (h : TX w ra l) : TX w' ra l := by
  obtain ⟨D, ⟨es, clock, hb, _⟩, _⟩ := hm
  obtain ⟨bb, o, h1, h2⟩ := h
  refine ⟨bb, o, h1, fun j x hx => ?_⟩
  obtain ⟨hlt, hc, hr⟩ := h2 j x hx
  have hne : bb ≠ b := fun e => by
    subst e
    simp [World.cell?, hb] at hc
  have he : w'.heap[bb]? = w.heap[bb]? := hg.block bb hlt (fun e => hne (Option.some.inj e))
  refine ⟨Nat.lt_of_lt_of_le hlt hg.size, ?_, hr⟩
  simp only [World.cell?, he] at hc ⊢
  exact hc
theorem symbol_any (s : List UInt8) (w : World) (hs : s.length ≤ 281474976710656) (hE : EV w) :
    Calls Tryd.prog 32 #[S s] w fun e w' => e = .returned (.bool (symB s)) ∧ Below w.heap.size w w' := by
  refine (isSymbol_any ⟨s.toArray⟩ w (by simpa [ByteArray.size] using hs) hE).mono ?_
  rintro e w1 ⟨rfl, hb⟩
  exact ⟨by simp [symB, ByteArray.size], hb⟩
set_option maxRecDepth 100000 in
set_option maxHeartbeats 8000000 in
theorem areNames_any (l : List (List UInt8)) (ra : Option Addr) (ca : Nat) (w : World) (hl : l.length ≤ 3000000) (hH : TX w ra l) (hE : EV w) :
    Calls Tryd.prog 18 #[.slice ra l.length ca] w fun e w' => e = .returned (.bool (areNamesB l)) ∧ Below w.heap.size w w' := by
  have a1 := (Below.refl _ w).alloc (Nat.le_refl w.heap.size) (.map #[] 0)
  have HM1 : Hid (NM (w.alloc (.map #[] 0)) w.heap.size 0 []) := NM.made w
  have HB1 : Hid (Below w.heap.size w (w.alloc (.map #[] 0))) := a1
  have HW1 : Hid (TX (w.alloc (.map #[] 0)) ra l) := hH.below a1
  have HE : Hid (EV w) := hE
  have mm : (Instr.makeMap 81 none).run Tryd.prog w = .ok (.map (some w.heap.size)) (w.alloc (.map #[] 0)) := run_makeMap (P := Tryd.prog) 81 w
  clear a1 hH hE
  go_enter Tryd.func18, Tryd.ntmps18
  go_upto_region 2 with fail
  generalize w.alloc (.map #[] 0) = W1 at *
  clear mm
  go_wp2
  go_loopw [9, 5] (fun i _ wr => ∃ (j n : Nat), i = .int .i64 j ∧ j ≤ l.length ∧ n ≤ j ∧ Hid (NM wr w.heap.size n (l.take j)) ∧ Hid (Below w.heap.size w wr) ∧ Hid (TX wr ra l) ∧ Hid ((l.take j).all symB = true)) (fun i _ _ => l.length - (intOf i).toNat)
  case atStart => exact ⟨0, 0, rfl, Nat.zero_le _, Nat.le_refl _, HM1, HB1, HW1, rfl⟩
  case round =>
    obtain ⟨j, n, rfl, hj, hnj, HMj, HB, HWj, HS⟩ := hrel
    by_cases hlt : j < l.length
    · have k1 : (j : Int) < (l.length : Int) := by omega
      obtain ⟨x, hx⟩ : ∃ x, l[j]? = some x := ⟨_, List.getElem?_eq_getElem hlt⟩
      obtain ⟨b, o, q1, q2⟩ := HWj.out
      obtain rfl : ra = some ⟨b, o, none⟩ := q1.resolve_left (by omega)
      obtain ⟨l1, d0, hrg⟩ := q2 j x hx
      have HC : Hid (Calls Tryd.prog 32 #[S x] wr fun e w' => e = .returned (.bool (symB x)) ∧ Below wr.heap.size wr w') := symbol_any x wr hrg (HE.out.below HB.out HE.out.lt)
      have HXx : Hid (l[j]? = some x ∧ x.length ≤ 281474976710656) := ⟨hx, hrg⟩
      clear q1 q2 hx hrg
      cases hsb : symB x
      · have HF : Hid (areNamesB l = false) := by
          show _ = _
          have hm : x ∈ l := List.mem_of_getElem? HXx.out.1
          have : l.all symB = false := by
            rw [Bool.eq_false_iff]; intro h; rw [List.all_eq_true] at h; rw [h x hm] at hsb; cases hsb
          unfold areNamesB; rw [this]; rfl
        rw [hsb] at HC
        clear hsb
        go_wp2_with fail
        refine Calls.mono HC.out ?_
        rintro e w3 ⟨rfl, hb3⟩
        have HB3 : Hid (Below w.heap.size w w3) := HB.out.trans (hb3.mono HB.out.size)
        clear hb3 HC
        go_wp2
        go_ret
        exact ⟨by rw [HF.out]; rfl, HB3.out⟩
      · have HF : Hid ((l.take (j + 1)).all symB = true) := by
          show _ = _
          rw [List.take_add_one, HXx.out.1, List.all_append, HS.out]
          simp [hsb]
        have HT : Hid (l.take (j + 1) = l.take j ++ [x]) := by
          show _ = _
          rw [List.take_add_one, HXx.out.1]; rfl
        rw [hsb] at HC
        clear hsb
        go_wp2_with fail
        refine Calls.mono HC.out ?_
        rintro e w3 ⟨rfl, hb3⟩
        have HB3 : Hid (Below w.heap.size w w3) := HB.out.trans (hb3.mono HB.out.size)
        have HM3 : Hid (NM w3 w.heap.size n (l.take j)) := HMj.out.kept (hb3.block _ HMj.out.lt)
        have HW3 : Hid (TX w3 (some ⟨b, o, none⟩) l) := HWj.out.below hb3
        clear hb3 HC
        obtain ⟨w4, hup, hm4, hg4⟩ := HM3.out.put (by unfold maxLen; omega) x (by have := HXx.out.2; unfold maxLen; omega)
        have HM4 : Hid (NM w4 w.heap.size (n + 1) (l.take (j + 1))) := by show NM ..; rw [HT.out]; exact hm4
        have b4 : Below w.heap.size w3 w4 := (Below.refl _ w3).grown hg4 (by have := HM3.out.lt; omega) (fun k hk => by cases hk; exact Nat.le_refl _)
        have HB4 : Hid (Below w.heap.size w w4) := HB3.out.trans b4
        have HW4 : Hid (TX w4 (some ⟨b, o, none⟩) l) := tx_map HM3.out hg4 HW3.out
        clear hm4 hg4 b4 HWj HMj HM3 HW3 HB3 HT
        go_wp2
        go_roundw
        case rel => exact ⟨j + 1, n + 1, by go_num, by omega, by omega, HM4, HB4, HW4, HF⟩
        case measure => simp [intOf]; omega
    · have k1 : ¬ (j : Int) < (l.length : Int) := by omega
      have hN := HMj.out
      have hS := HS.out
      rw [List.take_of_length_le (by omega)] at hN hS
      obtain ⟨D, h1, _, h3, h4⟩ := hN
      have hlen := h1.len Tryd.underlying81
      have HF : Hid (areNamesB l = decide (Maps.size D = l.length)) := by
        show _ = _
        unfold areNamesB
        rw [hS, Bool.true_and]
        exact decide_eq_decide.2 h4.symm
      clear h1 h4 hS HMj
      generalize Maps.size D = m at *
      go_wp2
      all_goals go_ret
      refine ⟨?_, HB.out⟩
      rw [HF.out]
      refine ret_bool ?_
      show ((m : Int) == (l.length : Int)) = decide (m = l.length)
      rw [Bool.eq_iff_iff]
      simp
      omega
end Go.Proofs.YtejmoopgfnjaaaaDoor

/- A builder that is the last field of a teller: copyCheck, WriteByte, WriteString there. -/
namespace Go.Proofs.YtejmoopgfnjaaaaDoor
open Go.RowKit Go.Maps Go.ChangeMaps

/-- A teller's block: what is seen, names, labels, how many have come; its builder's own address, its bytes. -/
def TlAt (B b : Nat) (a0 a1 a2 a3 a4 p : Value) (l : List UInt8) (w : World) : Prop :=
  B ≤ b ∧ ∃ v, w.heap[b]? = some (.cells #[a0, a1, a2, a3, a4, p, v] 65 (0, 0)) ∧ w.ownsRowF B 5 1 v l.length (Lib.byteCells l) ∧ v.ownBlock ≠ some b
def Tl (B b : Nat) (a0 a1 a2 a3 a4 : Value) (l : List UInt8) (w : World) : Prop :=
  TlAt B b a0 a1 a2 a3 a4 (.pointer none) l w ∨ TlAt B b a0 a1 a2 a3 a4 (.pointer (some ⟨b, 5, none⟩)) l w
theorem TlAt.cell {B b : Nat} {a0 a1 a2 a3 a4 p : Value} {l : List UInt8} {w : World} (h : TlAt B b a0 a1 a2 a3 a4 p l w) : w.cell? ⟨b, 5, none⟩ = some p := by
  obtain ⟨_, v, hb, _⟩ := h
  simp [World.cell?, hb]
theorem TlAt.shape {B b : Nat} {a0 a1 a2 a3 a4 p : Value} {l : List UInt8} {w : World} (h : TlAt B b a0 a1 a2 a3 a4 p l w) : w.shape? b = some (65, 7) := by
  obtain ⟨_, v, hb, _⟩ := h
  simp [World.shape?, hb]
theorem TlAt.frozen {B b : Nat} {a0 a1 a2 a3 a4 p : Value} {l : List UInt8} {w : World} (h : TlAt B b a0 a1 a2 a3 a4 p l w) : w.frozen? ⟨b, 5, none⟩ = false := by
  obtain ⟨_, v, hb, _⟩ := h
  simp [World.frozen?, hb]
theorem grown_set (w : World) (a : Addr) (q : Value) : w.grownBy (w.setCell a q) (some a.block) := ⟨rfl, rfl, rfl, by simp [World.setCell], fun k _ hk => Below.heap_setCell _ _ _ _ (fun e => hk (by simp [e]))⟩
theorem TlAt.used {B b : Nat} {a0 a1 a2 a3 a4 p : Value} {l : List UInt8} {w : World} (h : TlAt B b a0 a1 a2 a3 a4 p l w) (q : Value) : TlAt B b a0 a1 a2 a3 a4 q l (w.setCell ⟨b, 5, none⟩ q) := by
  obtain ⟨hB, v, hb, hown, hne⟩ := h
  refine ⟨hB, v, ?_, hown.kept (grown_set w ⟨b, 5, none⟩ q) (Or.inr hne), hne⟩
  simp [World.setCell, Array.getElem?_modify, hb]
theorem TlAt.put {B b : Nat} {a0 a1 a2 a3 a4 p v v' : Value} {l : List UInt8} {w : World} (hB : B ≤ b) (hb : w.heap[b]? = some (.cells #[a0, a1, a2, a3, a4, p, v] 65 (0, 0))) (hown : w.ownsRowF B 5 1 v' l.length (Lib.byteCells l)) : TlAt B b a0 a1 a2 a3 a4 p l (w.setCell ⟨b, 6, none⟩ v') := by
  have hne := Lib.ownBlock_neF hown hb (by decide)
  refine ⟨hB, v', ?_, hown.kept (grown_set w ⟨b, 6, none⟩ v') (Or.inr hne), hne⟩
  simp [World.setCell, Array.getElem?_modify, hb]
/-- What writing turns: the teller's block, and rows of bytes from B on. -/
def Kp (B b : Nat) (w w' : World) : Prop := Below B w w' ∧ Lib.OthersKept 5 (some b) w w'
theorem Kp.refl (B b : Nat) (w : World) : Kp B b w w := ⟨Below.refl _ _, Lib.OthersKept.refl _ _ _⟩
theorem Kp.trans {B b : Nat} {u v w : World} (h : Kp B b u v) (k : Kp B b v w) : Kp B b u w := ⟨h.1.trans k.1, h.2.trans k.2⟩
theorem Kp.below {B b : Nat} {w w' : World} (h : Below w.heap.size w w') (hB : B ≤ w.heap.size) : Kp B b w w' := ⟨h.mono hB, fun k _ hk _ _ => (h.block k (Array.getElem?_eq_some_iff.1 hk).1).trans hk⟩
theorem bInfo : ∃ j, Tryd.prog.info? 63 = some j ∧ j.size = 2 := Option.map_eq_some_iff.1 (by kernel_rfl : (Tryd.prog.info? 63).map (·.size) = some 2)
theorem bLies : liesAt Tryd.prog Tryd.prog.depth 65 (7 / Tryd.prog.cellsOf 65) 5 63 1 = true := by kernel_rfl
set_option maxHeartbeats 1000000 in
set_option maxRecDepth 100000 in
theorem copy_used (b : Nat) (w : World) (h0 : w.cell? ⟨b, 5, none⟩ = some (.pointer (some ⟨b, 5, none⟩))) :
    Calls Tryd.prog 51 #[.pointer (some ⟨b, 5, none⟩)] w fun e w' => e = .returned (.tuple #[]) ∧ w' = w := by
  obtain ⟨j, hj, _⟩ := bInfo
  go_enter Tryd.func51, Tryd.ntmps51
  go_wp2
  rw [Lib.run_neq_ptr_same w _ Tryd.underlying60 hj]
  go_wp2
  go_end0
  exact ⟨rfl, rfl⟩
set_option maxHeartbeats 1000000 in
set_option maxRecDepth 100000 in
theorem copy_fresh (b : Nat) (w : World) (h0 : w.cell? ⟨b, 5, none⟩ = some (.pointer none)) (hsh : w.shape? b = some (65, 7)) (hfz : w.frozen? ⟨b, 5, none⟩ = false) :
    Calls Tryd.prog 51 #[.pointer (some ⟨b, 5, none⟩)] w fun e w' => e = .returned (.tuple #[]) ∧ w' = w.setCell ⟨b, 5, none⟩ (.pointer (some ⟨b, 5, none⟩)) := by
  obtain ⟨j, hj, hjs⟩ := bInfo
  go_enter Tryd.func51, Tryd.ntmps51
  go_wp2
  rw [Lib.run_to_unsafe w ⟨b, 5, none⟩ Tryd.underlying60 Tryd.underlying127 hj (by rw [hjs]; decide) hsh (by show 5 < 7; decide)]
  simp only [Result.andThen]
  rw [Oper.upon_value]
  go_wp2
  rw [run_callFunc_extern Tryd.func63 (by kernel_rfl) (by kernel_rfl) (by kernel_rfl) (e := Extern.AbiNoEscape.same) (by kernel_rfl)]
  rw [Lib.run_noEscape]
  simp only [Result.andThen]
  rw [Oper.upon_value]
  go_wp2
  rw [Lib.run_from_unsafe w ⟨b, 5, none⟩ Tryd.underlying127 Tryd.underlying60 hj hsh bLies]
  simp only [Result.andThen]
  rw [Oper.upon_value]
  go_wp2
  go_end0
  exact ⟨rfl, rfl⟩
theorem copy_any (B b : Nat) (a0 a1 a2 a3 a4 : Value) (l : List UInt8) (w : World) (h : Tl B b a0 a1 a2 a3 a4 l w) :
    Calls Tryd.prog 51 #[.pointer (some ⟨b, 5, none⟩)] w fun e w' => e = .returned (.tuple #[]) ∧ TlAt B b a0 a1 a2 a3 a4 (.pointer (some ⟨b, 5, none⟩)) l w' ∧ Kp B b w w' := by
  rcases h with h | h
  · refine (copy_fresh b w h.cell h.shape h.frozen).mono ?_
    rintro e w' ⟨rfl, rfl⟩
    exact ⟨rfl, h.used _, (Below.refl B w).setCell (p := ⟨b, 5, none⟩) h.1 _, (Lib.OthersKept.refl _ _ w).setCell ⟨b, 5, none⟩ rfl _⟩
  · refine (copy_used b w h.cell).mono ?_
    rintro e w' ⟨rfl, rfl⟩
    exact ⟨rfl, h, Kp.refl ..⟩
end Go.Proofs.YtejmoopgfnjaaaaDoor
