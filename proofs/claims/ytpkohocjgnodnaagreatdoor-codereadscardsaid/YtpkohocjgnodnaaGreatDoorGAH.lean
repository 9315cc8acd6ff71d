/- strings.Builder: WriteByte and WriteString: the shelf's contracts, laid by hand.; Lines are written. -/
import Derived.Test.YtpkohocjgnodnaaGreatDoorGAG
/- strings.Builder: WriteByte and WriteString: the shelf's contracts, laid by hand. -/
namespace Go.Proofs.YtpkohocjgnodnaaGreatDoor
open Go.RowKit

def bren : Go.Shelf.Ren := ⟨fun | 167 => 114 | 166 => 113 | 240 => 135 | 276 => 147 | n => n, fun | 0 => 0 | 3 => 3 | 4 => 4 | 5 => 5 | 9 => 9 | 20 => 20 | 37 => 73 | 70 => 132 | 72 => 134 | 75 => 200 | 80 => 138 | 164 => 223 | n => n, fun | n => n⟩
theorem blays167 : Lays.n167 Tryz.prog bren := {
  mixed := by kernel_rfl
  f167 := Tryz.func114.trans (congrArg some (by kernel_rfl))
  f240 := Tryz.func135.trans (congrArg some (by kernel_rfl))
  f276 := Tryz.func147.trans (congrArg some (by kernel_rfl))
  t0 := Tryz.underlying0
  a0 := Tryz.isAgg0
  z0 := Tryz.sizeOf0
  v0 := Tryz.zeroValue0
  t4 := Tryz.underlying4
  a4 := Tryz.isAgg4
  z4 := Tryz.sizeOf4
  v4 := Tryz.zeroValue4
  t5 := Tryz.underlying5
  a5 := Tryz.isAgg5
  z5 := Tryz.sizeOf5
  v5 := Tryz.zeroValue5
  t9 := Tryz.underlying9
  a9 := Tryz.isAgg9
  z9 := Tryz.sizeOf9
  v9 := Tryz.zeroValue9
  t20 := Tryz.underlying20
  a20 := Tryz.isAgg20
  z20 := Tryz.sizeOf20
  v20 := Tryz.zeroValue20
  t37 := Tryz.underlying73
  a37 := Tryz.isAgg73
  z37 := Tryz.sizeOf73
  v37 := Tryz.zeroValue73
  t70 := Tryz.underlying132
  a70 := Tryz.isAgg132
  z70 := Tryz.sizeOf132
  v70 := Tryz.zeroValue132
  t72 := Tryz.underlying134
  a72 := Tryz.isAgg134
  z72 := Tryz.sizeOf134
  v72 := Tryz.zeroValue134
  t75 := Tryz.underlying200
  a75 := Tryz.isAgg200
  z75 := Tryz.sizeOf200
  v75 := Tryz.zeroValue200
  t164 := Tryz.underlying223
  a164 := Tryz.isAgg223
  z164 := Tryz.sizeOf223
  v164 := Tryz.zeroValue223 }
theorem blays166 : Lays.n166 Tryz.prog bren := {
  mixed := by kernel_rfl
  f166 := Tryz.func113.trans (congrArg some (by kernel_rfl))
  f240 := Tryz.func135.trans (congrArg some (by kernel_rfl))
  f276 := Tryz.func147.trans (congrArg some (by kernel_rfl))
  t0 := Tryz.underlying0
  a0 := Tryz.isAgg0
  z0 := Tryz.sizeOf0
  v0 := Tryz.zeroValue0
  t3 := Tryz.underlying3
  a3 := Tryz.isAgg3
  z3 := Tryz.sizeOf3
  v3 := Tryz.zeroValue3
  t4 := Tryz.underlying4
  a4 := Tryz.isAgg4
  z4 := Tryz.sizeOf4
  v4 := Tryz.zeroValue4
  t9 := Tryz.underlying9
  a9 := Tryz.isAgg9
  z9 := Tryz.sizeOf9
  v9 := Tryz.zeroValue9
  t20 := Tryz.underlying20
  a20 := Tryz.isAgg20
  z20 := Tryz.sizeOf20
  v20 := Tryz.zeroValue20
  t37 := Tryz.underlying73
  a37 := Tryz.isAgg73
  z37 := Tryz.sizeOf73
  v37 := Tryz.zeroValue73
  t70 := Tryz.underlying132
  a70 := Tryz.isAgg132
  z70 := Tryz.sizeOf132
  v70 := Tryz.zeroValue132
  t72 := Tryz.underlying134
  a72 := Tryz.isAgg134
  z72 := Tryz.sizeOf134
  v72 := Tryz.zeroValue134
  t75 := Tryz.underlying200
  a75 := Tryz.isAgg200
  z75 := Tryz.sizeOf200
  v75 := Tryz.zeroValue200
  t164 := Tryz.underlying223
  a164 := Tryz.isAgg223
  z164 := Tryz.sizeOf223
  v164 := Tryz.zeroValue223 }
theorem bextra : Builder.Extra Tryz.prog bren := {
  sizeBuilder := by kernel_rfl
  liesBuilder := by kernel_rfl
  t5 := Tryz.underlying5
  a5 := Tryz.isAgg5
  z5 := Tryz.sizeOf5
  v5 := Tryz.zeroValue5
  infoByte := by kernel_rfl
  cellsByte := by kernel_rfl
  sizeByte := by kernel_rfl
  neB5 := by decide }
theorem writeByte_any (B b : Nat) (bs : List Value) (c : Int) (w : World) (h : Lib.IsBuilderF 134 5 B b bs w) (hlen : bs.length + 1 ≤ 140737488355328) (hBw : B ≤ w.heap.size) :
    Calls Tryz.prog 114 #[.pointer (some ⟨b, 0, none⟩), .int .u8 c] w fun e w' => e = .returned .nilIface ∧ (Lib.BuilderAtF 134 5 B b (.pointer (some ⟨b, 0, none⟩)) (bs ++ [.int .u8 c]) w' ∧ Below B w w' ∧ Lib.OthersKept 5 (some b) w w') :=
  Any.Builder_WriteByte_k blays167 bextra B b bs c w h hlen hBw
theorem writeString_any (B b : Nat) (bs : List Value) (s : ByteArray) (w : World) (h : Lib.IsBuilderF 134 5 B b bs w) (hlen : bs.length + s.size ≤ 140737488355328) (hBw : B ≤ w.heap.size) :
    Calls Tryz.prog 113 #[.pointer (some ⟨b, 0, none⟩), .string s] w fun e w' => e = .returned (.tuple #[.int .i64 s.size, .nilIface]) ∧ (Lib.BuilderAtF 134 5 B b (.pointer (some ⟨b, 0, none⟩)) (bs ++ Lib.strCells s) w' ∧ Below B w w' ∧ Lib.OthersKept 5 (some b) w w') :=
  Any.Builder_WriteString_k blays166 bextra B b bs s w h hlen hBw
end Go.Proofs.YtpkohocjgnodnaaGreatDoor

/- Lines are written. -/
namespace Go.Proofs.YtpkohocjgnodnaaGreatDoor
open Go.RowKit

/-- A builder in block b that holds a text. -/
def Bu (B b : Nat) (l : List UInt8) (w : World) : Prop := Lib.IsBuilderF 134 5 B b (Lib.byteCells l) w
/-- What writing turns: the builder, and rows of bytes from B on. -/
def Kp (B b : Nat) (w w' : World) : Prop := Below B w w' ∧ Lib.OthersKept 5 (some b) w w'
theorem Kp.refl (B b : Nat) (w : World) : Kp B b w w := ⟨Below.refl _ _, Lib.OthersKept.refl _ _ _⟩
theorem Kp.trans {B b : Nat} {u v w : World} (h : Kp B b u v) (k : Kp B b v w) : Kp B b u w := ⟨h.1.trans k.1, h.2.trans k.2⟩
theorem Kp.below {B b : Nat} {w w' : World} (h : Below w.heap.size w w') (hB : B ≤ w.heap.size) : Kp B b w w' := ⟨h.mono hB, fun k _ hk _ _ => (h.block k (Array.getElem?_eq_some_iff.1 hk).1).trans hk⟩

theorem Bu.kept {B b : Nat} {l : List UInt8} {w w' : World} (h : Bu B b l w) (hb : Below w.heap.size w w') : Bu B b l w' := by
  have go : ∀ p, Lib.BuilderAtF 134 5 B b p (Lib.byteCells l) w → Lib.BuilderAtF 134 5 B b p (Lib.byteCells l) w' := fun p h =>
    ⟨h.1, h.2.choose, (hb.block b h.lt).trans h.2.choose_spec.1, h.2.choose_spec.2.1.kept (row := none) ⟨hb.os, hb.tape, hb.output, hb.size, fun k hk _ => hb.block k hk⟩ (Classical.em _), h.2.choose_spec.2.2⟩
  exact h.imp (go _) (go _)

theorem putB (B b : Nat) (l : List UInt8) (c : Nat) (hc : c < 256) (w : World) (h : Bu B b l w) (hlen : l.length + 1 ≤ 140737488355328) (hBw : B ≤ w.heap.size) :
    Calls Tryz.prog 114 #[.pointer (some ⟨b, 0, none⟩), .int .u8 c] w fun e w' => e = .returned .nilIface ∧ Bu B b (l ++ [c.toUInt8]) w' ∧ Kp B b w w' := by
  refine (writeByte_any B b (Lib.byteCells l) c w h (by rw [Lib.byteCells_length]; exact hlen) hBw).mono ?_
  rintro e w' ⟨rfl, h1, h2, h3⟩
  refine ⟨rfl, .inr ?_, h2, h3⟩
  rw [Lib.byteCells_append]
  have : Lib.byteCells [c.toUInt8] = [Value.int .u8 (c : Int)] := by
    have e : c.toUInt8.toNat = c := by rw [Nat.toUInt8_eq, UInt8.toNat_ofNat']; exact Nat.mod_eq_of_lt hc
    simp only [Lib.byteCells, List.map_cons, List.map_nil, e]
  rw [this]
  exact h1
theorem putS (B b : Nat) (l m : List UInt8) (w : World) (h : Bu B b l w) (hlen : l.length + m.length ≤ 140737488355328) (hBw : B ≤ w.heap.size) :
    Calls Tryz.prog 113 #[.pointer (some ⟨b, 0, none⟩), .string ⟨m.toArray⟩] w fun e w' => (∃ v, e = .returned v) ∧ Bu B b (l ++ m) w' ∧ Kp B b w w' := by
  refine (writeString_any B b (Lib.byteCells l) ⟨m.toArray⟩ w h (by rw [Lib.byteCells_length]; show l.length + m.toArray.size ≤ _; simpa using hlen) hBw).mono ?_
  rintro e w' ⟨rfl, h1, h2, h3⟩
  refine ⟨⟨_, rfl⟩, .inr ?_, h2, h3⟩
  rw [Lib.byteCells_append]
  exact h1

set_option maxRecDepth 100000 in
set_option maxHeartbeats 4000000 in
theorem writeLine_any (B b : Nat) (l s t : List UInt8) (w : World) (h : Bu B b l w) (hlen : l.length + s.length + t.length + 1 ≤ 140737488355328) (hBw : B ≤ w.heap.size) :
    Calls Tryz.prog 84 #[.pointer (some ⟨b, 0, none⟩), S s, S t] w fun e w' => (∃ v, e = .returned v) ∧ Bu B b (l ++ (s ++ (t ++ [10]))) w' ∧ Kp B b w w' := by
  have H : Hid (Bu B b l w) := h
  clear h
  go_enter Tryz.func84, Tryz.ntmps84
  go_wp2_with fail
  refine (putS B b l s _ H.out (by omega) hBw).mono ?_
  rintro e w1 ⟨⟨v, rfl⟩, hB1, hK1⟩
  have HB1 : Hid (Bu B b (l ++ s) w1) := hB1
  have HK1 : Hid (Kp B b w w1) := hK1
  clear hB1 hK1
  go_wp2_with fail
  refine (putS B b (l ++ s) t _ HB1.out (by rw [List.length_append]; omega) (Nat.le_trans hBw HK1.out.1.size)).mono ?_
  rintro e w2 ⟨⟨v2, rfl⟩, hB2, hK2⟩
  have HB2 : Hid (Bu B b (l ++ s ++ t) w2) := hB2
  have HK2 : Hid (Kp B b w w2) := HK1.out.trans hK2
  clear hB2 hK2
  go_wp2_with fail
  refine (putB B b (l ++ s ++ t) 10 (by decide) _ HB2.out (by rw [List.length_append, List.length_append]; omega) (Nat.le_trans hBw HK2.out.1.size)).mono ?_
  rintro e w3 ⟨rfl, hB3, hK3⟩
  have HB3 : Hid (Bu B b (l ++ (s ++ (t ++ [10]))) w3) := by show Bu _ _ _ _; have := hB3; simp only [List.append_assoc] at this; exact this
  have HK3 : Hid (Kp B b w w3) := HK2.out.trans hK3
  clear hB3 hK3
  go_wp2
  go_end0
  exact ⟨⟨_, rfl⟩, HB3.out, HK3.out⟩
end Go.Proofs.YtpkohocjgnodnaaGreatDoor
