/- The texts that ReadTails joins. -/
import Derived.Test.YtinpjpcokjfinaaDoorHReadings
import Derived.Test.YtinpjpcokjfinaaDoorHTailMath
import Derived.Lib.SmallJoins
namespace Go.Proofs.YtinpjpcokjfinaaDoor
open Go.RowKit

theorem cat1 (a b : List UInt8) : (⟨#[40]⟩ ++ ⟨a.toArray⟩ ++ ⟨#[32, 46, 32, 40]⟩ ++ ⟨b.toArray⟩ ++ ⟨#[41, 41]⟩ : ByteArray) = ⟨(40 :: (a ++ (32 :: 46 :: 32 :: 40 :: (b ++ [41, 41])))).toArray⟩ := by
  apply ByteArray.ext
  simp only
  apply Array.ext'
  simp
theorem cat2 (a b : List UInt8) : (⟨#[40]⟩ ++ ⟨a.toArray⟩ ++ ⟨#[10]⟩ ++ ⟨b.toArray⟩ ++ ⟨#[41]⟩ : ByteArray) = ⟨(40 :: (a ++ (10 :: (b ++ [41])))).toArray⟩ := by
  apply ByteArray.ext
  simp only
  apply Array.ext'
  simp
theorem cat3 (a : List UInt8) : (⟨#[39]⟩ ++ ⟨a.toArray⟩ : ByteArray) = ⟨(39 :: a).toArray⟩ := by
  apply ByteArray.ext
  simp only
  apply Array.ext'
  simp
theorem told3_cases {l : List UInt8} {f : Fo} (h : Told3 l f) : ∃ F e p, readOf l = (F, e, p) ∧ ((e = 0 ∧ F = f) ∨ ((e = 61 ∨ e = 62) ∧ F = .nil)) := by
  rcases h with h | ⟨p, h⟩ | ⟨p, h⟩
  · exact ⟨f, 0, 0, h, .inl ⟨rfl, rfl⟩⟩
  · exact ⟨.nil, 61, p, h, .inr ⟨.inl rfl, rfl⟩⟩
  · exact ⟨.nil, 62, p, h, .inr ⟨.inr rfl, rfl⟩⟩
theorem write_ok {f : Fo} (h : (writeOf f).2 = 0) : writeOf f = (textA f, 0) ∧ allD f = true := by
  unfold writeOf at h ⊢
  by_cases h1 : chk f ≠ 0
  · rw [if_pos h1] at h; exact absurd h h1
  · rw [if_neg h1] at h ⊢
    by_cases h2 : 65536 < (linesT (textsT f)).length
    · rw [if_pos h2] at h; exact absurd h (by decide)
    · rw [if_neg h2]; exact ⟨rfl, (chk_zero.1 (by simpa using h1)).1⟩
/-- Read, of a text of which what is told is known. -/
theorem read_is {l : List UInt8} {F : Fo} {e p : Int} (h : readOf l = (F, e, p)) (hs : l.length ≤ 281474976710656) (w : World) (hE : EV w) :
    Calls Tryd.prog 10 #[.string ⟨l.toArray⟩] w fun x w' => Below w.heap.size w w' ∧ ∃ ra cap, x = .returned (.tuple #[.slice ra F.len cap, .int .i64 e, .int .i64 p]) ∧ RS w' ra F ∧ F.len ≤ maxLen := by
  have := read_rs l hs w hE
  rw [h] at this
  exact this
/-- One datum's cells are kept. -/
theorem keep1 {W w6 : World} {b o : Nat} {v0 v1 v2 v3 v4 : Option Value} (hb : Below W.heap.size W w6)
    (h : (W.cell? ⟨b, o, none⟩ = v0 ∧ W.cell? ⟨b, o + 1, none⟩ = v1 ∧ W.cell? ⟨b, o + 1 + 1, none⟩ = v2 ∧ W.cell? ⟨b, o + 1 + 1 + 1, none⟩ = v3 ∧ W.cell? ⟨b, o + 1 + 1 + 1 + 1, none⟩ = v4) ∧ b < W.heap.size) :
    (w6.cell? ⟨b, o, none⟩ = v0 ∧ w6.cell? ⟨b, o + 1, none⟩ = v1 ∧ w6.cell? ⟨b, o + 1 + 1, none⟩ = v2 ∧ w6.cell? ⟨b, o + 1 + 1 + 1, none⟩ = v3 ∧ w6.cell? ⟨b, o + 1 + 1 + 1 + 1, none⟩ = v4) ∧ b < w6.heap.size := by
  obtain ⟨⟨a0, a1, a2, a3, a4⟩, hg⟩ := h
  have e : ∀ o, w6.cell? ⟨b, o, none⟩ = W.cell? ⟨b, o, none⟩ := fun o => hb.cell (p := ⟨b, o, none⟩) hg
  exact ⟨⟨(e _).trans a0, (e _).trans a1, (e _).trans a2, (e _).trans a3, (e _).trans a4⟩, Nat.lt_of_lt_of_le hg hb.size⟩
theorem zeroAt1 (w : World) (o1 o2 : Obj) : ((w.alloc o1).alloc o2).heap[w.heap.size + 1]? = some o2 := by
  have := World.alloc_heap_new (w.alloc o1) o2
  rwa [World.size_alloc] at this
theorem zeroAt0 (w : World) (o1 o2 : Obj) : ((w.alloc o1).alloc o2).heap[w.heap.size]? = some o1 := (Below.heap_alloc _ _ _ (by simp)).trans (World.alloc_heap_new w o1)
/-- A quoted datum lies there. -/
def Quot (k n : Int) (t : List UInt8) (s : Fo) (d : Bool) (w8 : World) (q : Value) (wx : World) : Prop :=
  ∃ (g : Nat) (rq : Option Addr), q = .pointer (some ⟨g, 0, none⟩) ∧ Hid (wx.heap[g]? = some (.cells #[.int .u8 5, .int .i64 0, S [], .slice rq 2 2, .bool false] 41 (0, 0))) ∧ Hid (RS wx rq (.cons 2 0 quoteB .nil false (.cons k n t s d .nil))) ∧ Hid (Below w8.heap.size w8 wx)
theorem quot_of {k n : Int} {t : List UInt8} {s : Fo} {d : Bool} {w w8 wx : World} {rk : Option Addr} {ck g bq : Nat} (hw : Below w.heap.size w w8) (hR : RS w rk s) (hl : s.len ≤ maxLen) (h8 : Below w8.heap.size w8 wx)
    (hg : wx.heap[g]? = some (.cells #[.int .u8 5, .int .i64 0, S [], .slice (some ⟨bq, 0, none⟩) 2 2, .bool false] 41 (0, 0)))
    (hq : wx.heap[bq]? = some (.cells #[.int .u8 2, .int .i64 0, S quoteB, .slice none 0 0, .bool false, .int .u8 k, .int .i64 n, S t, .slice rk s.len ck, .bool d] 41 (0, 0))) :
    Quot k n t s d w8 (.pointer (some ⟨g, 0, none⟩)) wx :=
  ⟨g, some ⟨bq, 0, none⟩, rfl, hg, rs_new2 hq (rs_nil _ _) (Nat.zero_le _) ((hR.below hw).below h8) hl, h8⟩
theorem quot_five {k n : Int} {t : List UInt8} {s : Fo} {d : Bool} {w w8 w10 : World} {rk : Option Addr} {ck g bq : Nat} {a0 a1 a2 a3 a4 : Value} (hw : Below w.heap.size w w8) (hR : RS w rk s) (hl : s.len ≤ maxLen) (h8 : Below w8.heap.size w8 w10) (hgb : w8.heap.size ≤ g) (hne : bq ≠ g)
    (hg : w10.heap[g]? = some (.cells #[a0, a1, a2, a3, a4] 41 (0, 0)))
    (hq : w10.heap[bq]? = some (.cells #[.int .u8 2, .int .i64 0, S quoteB, .slice none 0 0, .bool false, .int .u8 k, .int .i64 n, S t, .slice rk s.len ck, .bool d] 41 (0, 0))) :
    Quot k n t s d w8 (.pointer (some ⟨g, 0, none⟩)) (five g w10 (.int .u8 5) (.int .i64 0) (S []) (.slice (some ⟨bq, 0, none⟩) 2 2) (.bool false)) := by
  refine quot_of hw hR hl ?_ (five_at hg _ _ _ _ _) ((five_other hne _ _ _ _ _).trans hq)
  exact ((((h8.setCell (p := ⟨g, 0, none⟩) hgb _).setCell (p := ⟨g, 1, none⟩) hgb _).setCell (p := ⟨g, 2, none⟩) hgb _).setCell (p := ⟨g, 3, none⟩) hgb _).setCell (p := ⟨g, 4, none⟩) hgb _
theorem lt0 (w : World) (o : Obj) : w.heap.size < (w.alloc o).drew.heap.size := by show _ < (w.alloc o).heap.size; simp
theorem lt1 (w : World) (o1 o2 : Obj) : w.heap.size < ((w.alloc o1).alloc o2).heap.size := by simp only [World.size_alloc]; omega
theorem lt2 (w : World) (o1 o2 : Obj) : w.heap.size + 1 < ((w.alloc o1).alloc o2).heap.size := by simp only [World.size_alloc]; omega
theorem lt3 {w : World} {a : Nat} (h : a < w.heap.size) (o : Obj) : a < (w.alloc o).heap.size := by simp only [World.size_alloc]; omega
theorem quot_A {k n : Int} {t : List UInt8} {s : Fo} {d : Bool} {w w8 w9 w10 : World} {rk : Option Addr} {ck : Nat} (hw : Below w.heap.size w w8) (hR : RS w rk s) (hl : s.len ≤ maxLen) (hb9 : Below w8.drew.heap.size w8.drew w9) (hb10 : Below (w9.alloc (.cells #[.int .u8 2, .int .i64 0, S [113, 117, 111, 116, 101], .slice none 0 0, .bool false, .int .u8 k, .int .i64 n, S t, .slice rk s.len ck, .bool d] 41)).heap.size (w9.alloc (.cells #[.int .u8 2, .int .i64 0, S [113, 117, 111, 116, 101], .slice none 0 0, .bool false, .int .u8 k, .int .i64 n, S t, .slice rk s.len ck, .bool d] 41)) w10) :
    Hid (Quot k n t s d w8 (.pointer (some ⟨w10.heap.size, 0, none⟩)) (w10.alloc (.cells #[.int .u8 5, .int .i64 0, .string ⟨#[]⟩, .slice (some ⟨w9.heap.size, 0, none⟩) 2 2, .bool false] 41))) := by
  have hb9' : Below w8.heap.size w8 w9 := (Below.refl _ w8).drew.trans hb9
  have h10 : Below w9.heap.size w9 w10 := ((Below.refl _ w9).alloc (Nat.le_refl _) _).trans (hb10.mono (by simp))
  have hal : Below w10.heap.size w10 (w10.alloc (.cells #[.int .u8 5, .int .i64 0, S [], .slice (some ⟨w9.heap.size, 0, none⟩) 2 2, .bool false] 41)) := (Below.refl _ w10).alloc (Nat.le_refl _) _
  have h810 := hb9'.trans (h10.mono hb9'.size)
  show Quot _ _ _ _ _ _ _ _
  refine quot_of (ck := ck) (rk := rk) (w := w) hw hR hl (h810.trans (hal.mono h810.size)) (World.alloc_heap_new w10 _) ?_
  have h1 := (hb10.block w9.heap.size (by simp)).trans (World.alloc_heap_new w9 _)
  exact (hal.block _ (Array.getElem?_eq_some_iff.1 h1).1).trans h1
theorem quot_B {k n : Int} {t : List UInt8} {s : Fo} {d : Bool} {w w8 w9 w10 : World} {rk : Option Addr} {ck : Nat} (hw : Below w.heap.size w w8) (hR : RS w rk s) (hl : s.len ≤ maxLen) (hb9 : Below w8.drew.heap.size w8.drew w9) (hb10 : Below ((w9.alloc (.cells #[.int .u8 2, .int .i64 0, S [113, 117, 111, 116, 101], .slice none 0 0, .bool false, .int .u8 k, .int .i64 n, S t, .slice rk s.len ck, .bool d] 41)).alloc (.cells #[.int .u8 0, .int .i64 0, .string ⟨#[]⟩, .slice none 0 0, .bool false] 41)).heap.size ((w9.alloc (.cells #[.int .u8 2, .int .i64 0, S [113, 117, 111, 116, 101], .slice none 0 0, .bool false, .int .u8 k, .int .i64 n, S t, .slice rk s.len ck, .bool d] 41)).alloc (.cells #[.int .u8 0, .int .i64 0, .string ⟨#[]⟩, .slice none 0 0, .bool false] 41)) w10) :
    Hid (Quot k n t s d w8 (.pointer (some ⟨w9.heap.size + 1, 0, none⟩)) (((((w10.setCell ⟨w9.heap.size + 1, 0, none⟩ (.int .u8 5)).setCell ⟨w9.heap.size + 1, 1, none⟩ (.int .i64 0)).setCell ⟨w9.heap.size + 1, 2, none⟩ (.string ⟨#[]⟩)).setCell ⟨w9.heap.size + 1, 3, none⟩ (.slice (some ⟨w9.heap.size, 0, none⟩) 2 2)).setCell ⟨w9.heap.size + 1, 4, none⟩ (.bool false))) := by
  have hb9' : Below w8.heap.size w8 w9 := (Below.refl _ w8).drew.trans hb9
  have h10 : Below w9.heap.size w9 w10 := (((Below.refl _ w9).alloc (Nat.le_refl _) _).alloc (by simp) _).trans (hb10.mono (Nat.le_of_lt (lt1 _ _ _)))
  have h810 := hb9'.trans (h10.mono hb9'.size)
  show Quot _ _ _ _ _ _ _ (five _ _ _ _ _ _ _)
  exact quot_five (ck := ck) (rk := rk) (w := w) hw hR hl h810 (Nat.le_succ_of_le hb9'.size) (by omega) ((hb10.block _ (lt2 _ _ _)).trans (zeroAt1 w9 _ _)) ((hb10.block _ (lt1 _ _ _)).trans (zeroAt0 w9 _ _))
theorem quot_C {k n : Int} {t : List UInt8} {s : Fo} {d : Bool} {w w8 w9 w10 : World} {rk : Option Addr} {ck : Nat} (hw : Below w.heap.size w w8) (hR : RS w rk s) (hl : s.len ≤ maxLen) (hb9 : Below w8.drew.heap.size w8.drew w9) (hb10 : Below ((w9.alloc (.cells #[.int .u8 0, .int .i64 0, .string ⟨#[]⟩, .slice none 0 0, .bool false] 41)).alloc (.cells #[.int .u8 2, .int .i64 0, S [113, 117, 111, 116, 101], .slice none 0 0, .bool false, .int .u8 k, .int .i64 n, S t, .slice rk s.len ck, .bool d] 41)).heap.size ((w9.alloc (.cells #[.int .u8 0, .int .i64 0, .string ⟨#[]⟩, .slice none 0 0, .bool false] 41)).alloc (.cells #[.int .u8 2, .int .i64 0, S [113, 117, 111, 116, 101], .slice none 0 0, .bool false, .int .u8 k, .int .i64 n, S t, .slice rk s.len ck, .bool d] 41)) w10) :
    Hid (Quot k n t s d w8 (.pointer (some ⟨w9.heap.size, 0, none⟩)) (((((w10.setCell ⟨w9.heap.size, 0, none⟩ (.int .u8 5)).setCell ⟨w9.heap.size, 1, none⟩ (.int .i64 0)).setCell ⟨w9.heap.size, 2, none⟩ (.string ⟨#[]⟩)).setCell ⟨w9.heap.size, 3, none⟩ (.slice (some ⟨w9.heap.size + 1, 0, none⟩) 2 2)).setCell ⟨w9.heap.size, 4, none⟩ (.bool false))) := by
  have hb9' : Below w8.heap.size w8 w9 := (Below.refl _ w8).drew.trans hb9
  have h10 : Below w9.heap.size w9 w10 := (((Below.refl _ w9).alloc (Nat.le_refl _) _).alloc (by simp) _).trans (hb10.mono (Nat.le_of_lt (lt1 _ _ _)))
  have h810 := hb9'.trans (h10.mono hb9'.size)
  show Quot _ _ _ _ _ _ _ (five _ _ _ _ _ _ _)
  exact quot_five (ck := ck) (rk := rk) (w := w) hw hR hl h810 hb9'.size (by omega) ((hb10.block _ (lt1 _ _ _)).trans (zeroAt0 w9 _ _)) ((hb10.block _ (lt2 _ _ _)).trans (zeroAt1 w9 _ _))
theorem quot_D {k n : Int} {t : List UInt8} {s : Fo} {d : Bool} {w w8 w9 w10 : World} {rk : Option Addr} {ck : Nat} (hw : Below w.heap.size w w8) (hR : RS w rk s) (hl : s.len ≤ maxLen) (hb9 : Below (w8.alloc (.cells #[.int .u8 0, .int .i64 0, .string ⟨#[]⟩, .slice none 0 0, .bool false] 41)).drew.heap.size (w8.alloc (.cells #[.int .u8 0, .int .i64 0, .string ⟨#[]⟩, .slice none 0 0, .bool false] 41)).drew w9) (hb10 : Below (w9.alloc (.cells #[.int .u8 2, .int .i64 0, S [113, 117, 111, 116, 101], .slice none 0 0, .bool false, .int .u8 k, .int .i64 n, S t, .slice rk s.len ck, .bool d] 41)).heap.size (w9.alloc (.cells #[.int .u8 2, .int .i64 0, S [113, 117, 111, 116, 101], .slice none 0 0, .bool false, .int .u8 k, .int .i64 n, S t, .slice rk s.len ck, .bool d] 41)) w10) :
    Hid (Quot k n t s d w8 (.pointer (some ⟨w8.heap.size, 0, none⟩)) (((((w10.setCell ⟨w8.heap.size, 0, none⟩ (.int .u8 5)).setCell ⟨w8.heap.size, 1, none⟩ (.int .i64 0)).setCell ⟨w8.heap.size, 2, none⟩ (.string ⟨#[]⟩)).setCell ⟨w8.heap.size, 3, none⟩ (.slice (some ⟨w9.heap.size, 0, none⟩) 2 2)).setCell ⟨w8.heap.size, 4, none⟩ (.bool false))) := by
  have hb9' : Below w8.heap.size w8 w9 := (((Below.refl _ w8).alloc (Nat.le_refl _) _).drew).trans (hb9.mono (Nat.le_of_lt (lt0 _ _)))
  have h10 : Below w9.heap.size w9 w10 := ((Below.refl _ w9).alloc (Nat.le_refl _) _).trans (hb10.mono (by simp))
  have h810 := hb9'.trans (h10.mono hb9'.size)
  have q9 := (hb9.block w8.heap.size (lt0 _ _)).trans (World.alloc_heap_new w8 (.cells #[.int .u8 0, .int .i64 0, .string ⟨#[]⟩, .slice none 0 0, .bool false] 41))
  have l9 := (Array.getElem?_eq_some_iff.1 q9).1
  show Quot _ _ _ _ _ _ _ (five _ _ _ _ _ _ _)
  exact quot_five (ck := ck) (rk := rk) (w := w) hw hR hl h810 (Nat.le_refl _) (by omega) ((hb10.block _ (lt3 l9 _)).trans ((Below.heap_alloc _ _ _ l9).trans q9)) ((hb10.block w9.heap.size (by simp)).trans (World.alloc_heap_new w9 _))
end Go.Proofs.YtinpjpcokjfinaaDoor
