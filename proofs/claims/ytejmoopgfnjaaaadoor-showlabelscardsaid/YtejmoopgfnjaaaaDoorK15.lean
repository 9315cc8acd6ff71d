/- WriteByte, WriteString at a teller's builder.; A teller writes a number between two texts. -/
import Derived.Test.YtejmoopgfnjaaaaDoorK14
import Derived.Deep.RegionHeld3
import Derived.Lib.ItoaLen
/- WriteByte, WriteString at a teller's builder. -/
namespace Go.Proofs.YtejmoopgfnjaaaaDoor
open Go.RowKit Go.Maps Go.ChangeMaps

set_option maxHeartbeats 2000000 in
set_option maxRecDepth 100000 in
theorem putB (B b : Nat) (a0 a1 a2 a3 a4 : Value) (l : List UInt8) (c : UInt8) (w : World) (h : Tl B b a0 a1 a2 a3 a4 l w) (hlen : l.length + 1 ≤ 140737488355328) (hBw : B ≤ w.heap.size) :
    Calls Tryd.prog 38 #[.pointer (some ⟨b, 5, none⟩), .int .u8 c.toNat] w fun e w' => e = .returned .nilIface ∧ Tl B b a0 a1 a2 a3 a4 (l ++ [c]) w' ∧ Kp B b w w' := by
  obtain ⟨i0, hi, hz0, hz1, hz2⟩ := info_parts (by kernel_rfl : (Tryd.prog.info? 5).map (fun i => (i.zero, i.size, i.bytes)) = some (some (.int .u8 0), 1, 1))
  have hbl : (Lib.byteCells l).length = l.length := Lib.byteCells_length l
  go_enter Tryd.func38, Tryd.ntmps38
  go_wp2_with fail
  refine (copy_any B b a0 a1 a2 a3 a4 l _ h).mono ?_
  rintro e w1 ⟨rfl, h1, hb1, hk1⟩
  obtain ⟨hB, v, hbk, hown, hne⟩ := h1
  have c0 : w1.cell? ⟨b, 5, none⟩ = some (.pointer (some ⟨b, 5, none⟩)) := by rw [Lib.cell_of_heap hbk]; rfl
  have c1 : w1.cell? ⟨b, 6, none⟩ = some v := by rw [Lib.cell_of_heap hbk]; rfl
  go_wp2_with (at_builtin; refine wpList_append_ownF _ rfl _ _ 61 rfl B 5 i0 (.int .u8 0) 1 1 Tryd.underlying61 hi hz0 hz1 hz2 rfl (by decide) _ _ _ rfl (hown.alloc _) ⟨w1.heap.size, 0, none⟩ 1 1 [.int .u8 c.toNat] rfl rfl ?c1 ?c2 ?c3 ?c4 ?c5 ?_)
  case c1 =>
    intro j u hj
    match j, hj with
    | 0, hj => simp at hj; subst hj; simp [Addr.add]
  case c2 => intro u hu; simp at hu; subst hu; rfl
  case c3 => unfold maxLen; omega
  case c4 => omega
  case c5 => have := hb1.size; simp; omega
  intro v' w2 hown' hgrow _
  have hlt : b < w1.heap.size := heap_lt hbk
  have hb2 : w2.heap[b]? = some (.cells #[a0, a1, a2, a3, a4, .pointer (some ⟨b, 5, none⟩), v] 65 (0, 0)) := by
    rw [hgrow.block b (by simp; omega) (fun e => hne e.symm), Lib.alloc_old w1 _ b hlt]
    exact hbk
  have d0 : w2.cell? ⟨b, 5, none⟩ = some (.pointer (some ⟨b, 5, none⟩)) := by rw [Lib.cell_of_heap hb2]; rfl
  have d1 : w2.cell? ⟨b, 6, none⟩ = some v := by rw [Lib.cell_of_heap hb2]; rfl
  have f1 : w2.frozen? ⟨b, 6, none⟩ = false := Lib.frozen_of_heap hb2 6
  obtain ⟨g, cap, rfl⟩ : ∃ g cap, v' = .slice (some ⟨g, 0, none⟩) (l.length + 1) cap := by
    rcases hown'.2 with ⟨_, h0⟩ | ⟨g, cap, cur, fz, hv, _⟩
    · omega
    · exact ⟨g, cap, hv⟩
  have HP := TlAt.put (l := l ++ [c]) hB hb2 (by
    rw [Lib.byteCells_append, List.length_append]
    exact hown')
  go_wp2
  go_ret
  refine ⟨rfl, .inr HP, ?_, ((hk1.alloc _).grown hgrow (Lib.ownsRowF_kind (hown.alloc _))).setCell ⟨b, 6, none⟩ rfl _⟩
  exact ((hb1.alloc (by have := hb1.size; omega) _).grown hgrow (by have := hb1.size; simp; omega) (fun k hk => (hown.lt k hk).1)).setCell (p := ⟨b, 6, none⟩) hB _

set_option maxHeartbeats 2000000 in
set_option maxRecDepth 100000 in
theorem putS (B b : Nat) (a0 a1 a2 a3 a4 : Value) (l m : List UInt8) (w : World) (h : Tl B b a0 a1 a2 a3 a4 l w) (hlen : l.length + m.length ≤ 140737488355328) (hBw : B ≤ w.heap.size) :
    Calls Tryd.prog 40 #[.pointer (some ⟨b, 5, none⟩), S m] w fun e w' => (∃ v, e = .returned v) ∧ Tl B b a0 a1 a2 a3 a4 (l ++ m) w' ∧ Kp B b w w' := by
  obtain ⟨i0, hi, hz0, hz1, hz2⟩ := info_parts (by kernel_rfl : (Tryd.prog.info? 5).map (fun i => (i.zero, i.size, i.bytes)) = some (some (.int .u8 0), 1, 1))
  have hms : (⟨m.toArray⟩ : ByteArray).size = m.length := by simp [ByteArray.size]
  obtain ⟨s, hs⟩ : ∃ s : ByteArray, s = ⟨m.toArray⟩ := ⟨_, rfl⟩
  have hsm : Lib.byteCells m = Lib.strCells s := by rw [hs]; rfl
  have hsz : s.size = m.length := by rw [hs, hms]
  show Calls Tryd.prog 40 #[.pointer (some ⟨b, 5, none⟩), .string ⟨m.toArray⟩] w _
  rw [← hs]
  clear hs hms
  go_enter Tryd.func40, Tryd.ntmps40
  go_wp2_with fail
  refine (copy_any B b a0 a1 a2 a3 a4 l _ h).mono ?_
  rintro e w1 ⟨rfl, h1, hb1, hk1⟩
  obtain ⟨hB, v, hbk, hown, hne⟩ := h1
  have c0 : w1.cell? ⟨b, 5, none⟩ = some (.pointer (some ⟨b, 5, none⟩)) := by rw [Lib.cell_of_heap hbk]; rfl
  have c1 : w1.cell? ⟨b, 6, none⟩ = some v := by rw [Lib.cell_of_heap hbk]; rfl
  go_wp2_with (at_builtin; refine Lib.wpList_append_own_stringF _ rfl _ _ 61 9 rfl B 5 i0 Tryd.underlying61 Tryd.underlying9 hi hz0 hz1 hz2 _ _ _ rfl hown s rfl ?c3 ?c4 ?c5 ?_)
  case c3 => unfold maxLen; omega
  case c4 => omega
  case c5 => have := hb1.size; omega
  intro v' w2 hown' hgrow _
  have hlt : b < w1.heap.size := heap_lt hbk
  have hb2 : w2.heap[b]? = some (.cells #[a0, a1, a2, a3, a4, .pointer (some ⟨b, 5, none⟩), v] 65 (0, 0)) := by
    rw [hgrow.block b hlt (fun e => hne e.symm)]
    exact hbk
  have d0 : w2.cell? ⟨b, 5, none⟩ = some (.pointer (some ⟨b, 5, none⟩)) := by rw [Lib.cell_of_heap hb2]; rfl
  have d1 : w2.cell? ⟨b, 6, none⟩ = some v := by rw [Lib.cell_of_heap hb2]; rfl
  have f1 : w2.frozen? ⟨b, 6, none⟩ = false := Lib.frozen_of_heap hb2 6
  have HP := TlAt.put (l := l ++ m) hB hb2 (by
    rw [Lib.byteCells_append, List.length_append, hsm]
    exact hown')
  obtain ⟨ao, n', cap, rfl⟩ : ∃ ao n' cap, v' = .slice ao n' cap := by
    rcases hown'.2 with ⟨hv, _⟩ | ⟨g, cap, cur, fz, hv, _⟩
    · exact ⟨_, _, _, hv⟩
    · exact ⟨_, _, _, hv⟩
  go_wp2
  go_ret2
  refine ⟨⟨_, rfl⟩, .inr HP, ?_, (hk1.grown hgrow (Lib.ownsRowF_kind hown)).setCell ⟨b, 6, none⟩ rfl _⟩
  exact (hb1.grown hgrow (by have := hb1.size; omega) (fun k hk => (hown.lt k hk).1)).setCell (p := ⟨b, 6, none⟩) hB _
end Go.Proofs.YtejmoopgfnjaaaaDoor

/- A teller writes a number between two texts. -/
namespace Go.Proofs.YtejmoopgfnjaaaaDoor
open Go.RowKit Go.Maps Go.ChangeMaps

theorem TlAt.kept {B b : Nat} {a0 a1 a2 a3 a4 p : Value} {l : List UInt8} {w w' : World} (h : TlAt B b a0 a1 a2 a3 a4 p l w) (hb : Below w.heap.size w w') : TlAt B b a0 a1 a2 a3 a4 p l w' := by
  obtain ⟨hB, v, hk, hown, hne⟩ := h
  exact ⟨hB, v, (hb.block b (heap_lt hk)).trans hk, hown.kept (row := none) ⟨hb.os, hb.tape, hb.output, hb.size, fun k hk _ => hb.block k hk⟩ (Classical.em _), hne⟩
theorem Tl.kept {B b : Nat} {a0 a1 a2 a3 a4 : Value} {l : List UInt8} {w w' : World} (h : Tl B b a0 a1 a2 a3 a4 l w) (hb : Below w.heap.size w w') : Tl B b a0 a1 a2 a3 a4 l w' := h.imp (·.kept hb) (·.kept hb)
/-- The table of powers of ten. -/
def TB (w : World) : Prop := Lib.TabIs Tryd.prog w "internal/strconv.uint64pow10" .u64 Lib.pow10Tab
theorem TB.below {w w' : World} (h : TB w) (hb : Below w.heap.size w w') : TB w' := by
  unfold TB Lib.TabIs World.var? at *
  cases hg : Tryd.prog.globalNamed "internal/strconv.uint64pow10" with
  | none => rw [hg] at h; cases h
  | some g =>
    rw [hg] at h
    simp only [Option.bind_some] at h ⊢
    cases ho : w.heap[g]? with
    | none => rw [ho] at h; cases h
    | some o => rw [hb.block g (Array.getElem?_eq_some_iff.1 ho).1, ho]; rw [ho] at h; exact h
theorem below_grow (w : World) (k : Nat) (os : Array Obj) : Below w.heap.size w (Go.Sort.grow (w.drewN k) os) :=
  ⟨rfl, rfl, rfl, by show _ ≤ (w.heap ++ os).size; rw [Array.size_append]; omega, fun g hg => by show (w.heap ++ os)[g]? = _; rw [Array.getElem?_append_left hg]⟩
theorem fmt_any (n : Int) (h0 : -9223372036854775808 ≤ n) (h1 : n ≤ 9223372036854775807) (w : World) (hT : TB w) :
    Calls Tryd.prog 53 #[.int .i64 n, .int .i64 10] w fun e w' => e = .returned (S (Lib.itoa n)) ∧ Below w.heap.size w w' := by
  refine (Tryd.strconv_FormatInt_10 n h0 h1 w hT).mono ?_
  rintro e w1 ⟨rfl, kk, os, rfl⟩
  exact ⟨rfl, below_grow w kk os⟩
def betw (p : List UInt8) (n : Int) (q : List UInt8) : List UInt8 := p ++ (Lib.itoa n ++ q)
set_option maxRecDepth 100000 in
set_option maxHeartbeats 4000000 in
theorem tellNum_any (B b : Nat) (a0 a1 a2 a3 a4 : Value) (l p q : List UInt8) (n : Int) (w : World) (h : Tl B b a0 a1 a2 a3 a4 l w) (hT : ∀ w', Below B w w' → TB w') (h0 : -9223372036854775808 ≤ n) (h1 : n ≤ 9223372036854775807) (hp : p.length ≤ 100) (hq : q.length ≤ 100) (hlen : l.length + 300 ≤ 140737488355328) (hBw : B ≤ w.heap.size) :
    Calls Tryd.prog 41 #[.pointer (some ⟨b, 0, none⟩), S p, .int .i64 n, S q] w fun e w' => (∃ v, e = .returned v) ∧ Tl B b a0 a1 a2 a3 a4 (l ++ betw p n q) w' ∧ Kp B b w w' := by
  have H : Hid (Tl B b a0 a1 a2 a3 a4 l w) := h
  have HT : Hid (∀ w', Below B w w' → TB w') := hT
  have hil : (Lib.itoa n).length ≤ 100 := Nat.le_trans (Lib.itoa_length_le _ (by omega) (by omega)) (by decide)
  have HF : Hid (∀ w5 : World, Below B w w5 → Calls Tryd.prog 53 #[.int .i64 n, .int .i64 10] w5 fun e w' => e = .returned (S (Lib.itoa n)) ∧ Below w5.heap.size w5 w') := fun w5 h5 => fmt_any _ h0 h1 w5 (HT.out w5 h5)
  have hmx : Tryd.prog.follows .mixedOrders = true := by kernel_rfl
  clear h hT h0 h1
  unfold betw
  generalize Lib.itoa n = it at *
  go_enter Tryd.func41, Tryd.ntmps41
  go_wp2_with fail
  refine (putS B b a0 a1 a2 a3 a4 l p _ H.out (by omega) hBw).mono ?_
  rintro e w1 ⟨⟨v, rfl⟩, hB1, hK1⟩
  have HB1 : Hid (Tl B b a0 a1 a2 a3 a4 (l ++ p) w1) := hB1
  have HK1 : Hid (Kp B b w w1) := hK1
  have hs1 : B ≤ w1.heap.size := Nat.le_trans hBw hK1.1.size
  clear hB1 hK1
  go_wp2_with fail
  go_region_held3 (fun _ => True) (exact True.intro)
    (first | (go_at_call 53; refine (HF.out _ (HK1.out.1.trans (Below.refl _ w1).drew)).mono ?_; rintro e w3 ⟨rfl, hb3⟩) | (go_at_call 40; refine (putS B b a0 a1 a2 a3 a4 (l ++ p) it _ (HB1.out.kept ((Below.refl _ w1).drew.trans hb3)) (by rw [List.length_append]; omega) (Nat.le_trans hs1 hb3.size)).mono ?_; rintro e w4 ⟨⟨v4, rfl⟩, hB4, hK4⟩))
  have HB4 : Hid (Tl B b a0 a1 a2 a3 a4 (l ++ p ++ it) w4) := hB4
  have HK4 : Hid (Kp B b w w4) := (HK1.out.trans (Kp.below ((Below.refl _ w1).drew.trans hb3) hs1)).trans hK4
  have hs4 : B ≤ w4.heap.size := Nat.le_trans hBw HK4.out.1.size
  clear hB4 hK4 hb3 HF
  go_wp2_with fail
  refine (putS B b a0 a1 a2 a3 a4 (l ++ p ++ it) q _ HB4.out (by rw [List.length_append, List.length_append]; omega) hs4).mono ?_
  rintro e w5 ⟨⟨v5, rfl⟩, hB5, hK5⟩
  have HB5 : Hid (Tl B b a0 a1 a2 a3 a4 (l ++ (p ++ (it ++ q))) w5) := by show Tl ..; have := hB5; simp only [List.append_assoc] at this; exact this
  have HK5 : Hid (Kp B b w w5) := HK4.out.trans hK5
  clear hB5 hK5
  go_wp2
  go_end0
  exact ⟨⟨_, rfl⟩, HB5.out, HK5.out⟩
end Go.Proofs.YtejmoopgfnjaaaaDoor
