/- WriteByte, WriteString at a teller's builder. -/
import Derived.Test.YtinijcmnojlphaaDoorHSTell
namespace Go.Proofs.YtinijcmnojlphaaDoor
open Go.RowKit Go.Maps Go.ChangeMaps

set_option maxHeartbeats 2000000 in
set_option maxRecDepth 100000 in
theorem putB (B b : Nat) (a0 a1 a2 a3 a4 : Value) (l : List UInt8) (c : UInt8) (w : World) (h : Tl B b a0 a1 a2 a3 a4 l w) (hlen : l.length + 1 ≤ 140737488355328) (hBw : B ≤ w.heap.size) :
    Calls Tryd.prog 31 #[.pointer (some ⟨b, 5, none⟩), .int .u8 c.toNat] w fun e w' => e = .returned .nilIface ∧ Tl B b a0 a1 a2 a3 a4 (l ++ [c]) w' ∧ Kp B b w w' := by
  obtain ⟨i0, hi, hz0, hz1, hz2⟩ := info_parts (by kernel_rfl : (Tryd.prog.info? 5).map (fun i => (i.zero, i.size, i.bytes)) = some (some (.int .u8 0), 1, 1))
  have hbl : (Lib.byteCells l).length = l.length := Lib.byteCells_length l
  go_enter Tryd.func31, Tryd.ntmps31
  go_wp2_with fail
  refine (copy_any B b a0 a1 a2 a3 a4 l _ h).mono ?_
  rintro e w1 ⟨rfl, h1, hb1, hk1⟩
  obtain ⟨hB, v, hbk, hown, hne⟩ := h1
  have c0 : w1.cell? ⟨b, 5, none⟩ = some (.pointer (some ⟨b, 5, none⟩)) := by rw [Lib.cell_of_heap hbk]; rfl
  have c1 : w1.cell? ⟨b, 6, none⟩ = some v := by rw [Lib.cell_of_heap hbk]; rfl
  go_wp2_with (at_builtin; refine wpList_append_ownF _ rfl _ _ 51 rfl B 5 i0 (.int .u8 0) 1 1 Tryd.underlying51 hi hz0 hz1 hz2 rfl (by decide) _ _ _ rfl (hown.alloc _) ⟨w1.heap.size, 0, none⟩ 1 1 [.int .u8 c.toNat] rfl rfl ?c1 ?c2 ?c3 ?c4 ?c5 ?_)
  case c1 =>
    intro j u hj
    match j, hj with
    | 0, hj => simp at hj; subst hj; simp [Addr.add]
  case c2 => intro u hu; simp at hu; subst hu; rfl
  case c3 => unfold maxLen; omega
  case c4 => omega
  case c5 => have := hb1.size; simp; omega
  intro v' w2 hown' hgrow _
  have hlt : b < w1.heap.size := heap_lt hbk
  have hb2 : w2.heap[b]? = some (.cells #[a0, a1, a2, a3, a4, .pointer (some ⟨b, 5, none⟩), v] 55 (0, 0)) := by
    rw [hgrow.block b (by simp; omega) (fun e => hne e.symm), Lib.alloc_old w1 _ b hlt]
    exact hbk
  have d0 : w2.cell? ⟨b, 5, none⟩ = some (.pointer (some ⟨b, 5, none⟩)) := by rw [Lib.cell_of_heap hb2]; rfl
  have d1 : w2.cell? ⟨b, 6, none⟩ = some v := by rw [Lib.cell_of_heap hb2]; rfl
  have f1 : w2.frozen? ⟨b, 6, none⟩ = false := Lib.frozen_of_heap hb2 6
  obtain ⟨g, cap, rfl⟩ : ∃ g cap, v' = .slice (some ⟨g, 0, none⟩) (l.length + 1) cap := by
    rcases hown'.2 with ⟨_, h0⟩ | ⟨g, cap, cur, fz, hv, _⟩
    · omega
    · exact ⟨g, cap, hv⟩
  have HP := TlAt.put (l := l ++ [c]) hB hb2 (by
    rw [Lib.byteCells_append, List.length_append]
    exact hown')
  go_wp2
  go_ret
  refine ⟨rfl, .inr HP, ?_, ((hk1.alloc _).grown hgrow (Lib.ownsRowF_kind (hown.alloc _))).setCell ⟨b, 6, none⟩ rfl _⟩
  exact ((hb1.alloc (by have := hb1.size; omega) _).grown hgrow (by have := hb1.size; simp; omega) (fun k hk => (hown.lt k hk).1)).setCell (p := ⟨b, 6, none⟩) hB _

set_option maxHeartbeats 2000000 in
set_option maxRecDepth 100000 in
theorem putS (B b : Nat) (a0 a1 a2 a3 a4 : Value) (l m : List UInt8) (w : World) (h : Tl B b a0 a1 a2 a3 a4 l w) (hlen : l.length + m.length ≤ 140737488355328) (hBw : B ≤ w.heap.size) :
    Calls Tryd.prog 33 #[.pointer (some ⟨b, 5, none⟩), S m] w fun e w' => (∃ v, e = .returned v) ∧ Tl B b a0 a1 a2 a3 a4 (l ++ m) w' ∧ Kp B b w w' := by
  obtain ⟨i0, hi, hz0, hz1, hz2⟩ := info_parts (by kernel_rfl : (Tryd.prog.info? 5).map (fun i => (i.zero, i.size, i.bytes)) = some (some (.int .u8 0), 1, 1))
  have hms : (⟨m.toArray⟩ : ByteArray).size = m.length := by simp [ByteArray.size]
  obtain ⟨s, hs⟩ : ∃ s : ByteArray, s = ⟨m.toArray⟩ := ⟨_, rfl⟩
  have hsm : Lib.byteCells m = Lib.strCells s := by rw [hs]; rfl
  have hsz : s.size = m.length := by rw [hs, hms]
  show Calls Tryd.prog 33 #[.pointer (some ⟨b, 5, none⟩), .string ⟨m.toArray⟩] w _
  rw [← hs]
  clear hs hms
  go_enter Tryd.func33, Tryd.ntmps33
  go_wp2_with fail
  refine (copy_any B b a0 a1 a2 a3 a4 l _ h).mono ?_
  rintro e w1 ⟨rfl, h1, hb1, hk1⟩
  obtain ⟨hB, v, hbk, hown, hne⟩ := h1
  have c0 : w1.cell? ⟨b, 5, none⟩ = some (.pointer (some ⟨b, 5, none⟩)) := by rw [Lib.cell_of_heap hbk]; rfl
  have c1 : w1.cell? ⟨b, 6, none⟩ = some v := by rw [Lib.cell_of_heap hbk]; rfl
  go_wp2_with (at_builtin; refine Lib.wpList_append_own_stringF _ rfl _ _ 51 9 rfl B 5 i0 Tryd.underlying51 Tryd.underlying9 hi hz0 hz1 hz2 _ _ _ rfl hown s rfl ?c3 ?c4 ?c5 ?_)
  case c3 => unfold maxLen; omega
  case c4 => omega
  case c5 => have := hb1.size; omega
  intro v' w2 hown' hgrow _
  have hlt : b < w1.heap.size := heap_lt hbk
  have hb2 : w2.heap[b]? = some (.cells #[a0, a1, a2, a3, a4, .pointer (some ⟨b, 5, none⟩), v] 55 (0, 0)) := by
    rw [hgrow.block b hlt (fun e => hne e.symm)]
    exact hbk
  have d0 : w2.cell? ⟨b, 5, none⟩ = some (.pointer (some ⟨b, 5, none⟩)) := by rw [Lib.cell_of_heap hb2]; rfl
  have d1 : w2.cell? ⟨b, 6, none⟩ = some v := by rw [Lib.cell_of_heap hb2]; rfl
  have f1 : w2.frozen? ⟨b, 6, none⟩ = false := Lib.frozen_of_heap hb2 6
  have HP := TlAt.put (l := l ++ m) hB hb2 (by
    rw [Lib.byteCells_append, List.length_append, hsm]
    exact hown')
  obtain ⟨ao, n', cap, rfl⟩ : ∃ ao n' cap, v' = .slice ao n' cap := by
    rcases hown'.2 with ⟨hv, _⟩ | ⟨g, cap, cur, fz, hv, _⟩
    · exact ⟨_, _, _, hv⟩
    · exact ⟨_, _, _, hv⟩
  go_wp2
  go_ret2
  refine ⟨⟨_, rfl⟩, .inr HP, ?_, (hk1.grown hgrow (Lib.ownsRowF_kind hown)).setCell ⟨b, 6, none⟩ rfl _⟩
  exact (hb1.grown hgrow (by have := hb1.size; omega) (fun k hk => (hown.lt k hk).1)).setCell (p := ⟨b, 6, none⟩) hB _
end Go.Proofs.YtinijcmnojlphaaDoor
