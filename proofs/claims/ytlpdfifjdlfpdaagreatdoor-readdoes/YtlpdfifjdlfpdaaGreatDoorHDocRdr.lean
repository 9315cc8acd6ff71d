/- The document's reader: its small functions. -/
import Derived.Test.YtlpdfifjdlfpdaaGreatDoorGE
namespace Go.Proofs.YtlpdfifjdlfpdaaGreatDoor
open Go.RowKit

/-- The document's reader, that has met no error. -/
structure Rn (W : World) (rb tb T cap i o c : Nat) : Prop where
  heap : W.heap[rb]? = some (.cells #[.slice (some ⟨tb, 0, none⟩) T cap, .int .i64 i, .int .i64 o, .int .i64 c, .pointer none] 68 (0, 0))
theorem Rn.lt {W : World} {rb tb T cap i o c : Nat} (h : Rn W rb tb T cap i o c) : rb < W.heap.size := (Array.getElem?_eq_some_iff.1 h.heap).1
theorem Rn.c0 {W : World} {rb tb T cap i o c : Nat} (h : Rn W rb tb T cap i o c) : W.cell? ⟨rb, 0, none⟩ = some (.slice (some ⟨tb, 0, none⟩) T cap) := by simp [World.cell?, h.heap]
theorem Rn.c1 {W : World} {rb tb T cap i o c : Nat} (h : Rn W rb tb T cap i o c) : W.cell? ⟨rb, 1, none⟩ = some (.int .i64 i) := by simp [World.cell?, h.heap]
theorem Rn.c2 {W : World} {rb tb T cap i o c : Nat} (h : Rn W rb tb T cap i o c) : W.cell? ⟨rb, 2, none⟩ = some (.int .i64 o) := by simp [World.cell?, h.heap]
theorem Rn.c3 {W : World} {rb tb T cap i o c : Nat} (h : Rn W rb tb T cap i o c) : W.cell? ⟨rb, 3, none⟩ = some (.int .i64 c) := by simp [World.cell?, h.heap]
theorem Rn.c4 {W : World} {rb tb T cap i o c : Nat} (h : Rn W rb tb T cap i o c) : W.cell? ⟨rb, 4, none⟩ = some (.pointer none) := by simp [World.cell?, h.heap]
theorem Rn.fr {W : World} {rb tb T cap i o c : Nat} (h : Rn W rb tb T cap i o c) (k : Nat) : W.frozen? ⟨rb, k, none⟩ = false := by simp [World.frozen?, h.heap]
theorem Rn.kept {W W' : World} {rb tb T cap i o c : Nat} (h : Rn W rb tb T cap i o c) (hb : W'.heap[rb]? = W.heap[rb]?) : Rn W' rb tb T cap i o c := ⟨hb.trans h.heap⟩
theorem Rn.set1 {W : World} {rb tb T cap i o c : Nat} (h : Rn W rb tb T cap i o c) (j : Nat) : Rn (W.setCell ⟨rb, 1, none⟩ (.int .i64 j)) rb tb T cap j o c := ⟨set_at h.heap _⟩
theorem Rn.set2 {W : World} {rb tb T cap i o c : Nat} (h : Rn W rb tb T cap i o c) (j : Nat) : Rn (W.setCell ⟨rb, 2, none⟩ (.int .i64 j)) rb tb T cap i j c := ⟨set_at h.heap _⟩
theorem Rn.set3 {W : World} {rb tb T cap i o c : Nat} (h : Rn W rb tb T cap i o c) (j : Nat) : Rn (W.setCell ⟨rb, 3, none⟩ (.int .i64 j)) rb tb T cap i o j := ⟨set_at h.heap _⟩

/-- .. that has met one, at a place. -/
structure Re (W : World) (rb g : Nat) (sl : Value) (i o c e p : Int) : Prop where
  heap : W.heap[rb]? = some (.cells #[sl, .int .i64 i, .int .i64 o, .int .i64 c, .pointer (some ⟨g, 0, none⟩)] 68 (0, 0))
  wrong : W.heap[g]? = some (.cells #[.int .i64 e, .int .i64 p] 74 (0, 0))
theorem Re.lt {W : World} {rb g : Nat} {sl : Value} {i o c e p : Int} (h : Re W rb g sl i o c e p) : rb < W.heap.size := (Array.getElem?_eq_some_iff.1 h.heap).1
theorem Re.ltg {W : World} {rb g : Nat} {sl : Value} {i o c e p : Int} (h : Re W rb g sl i o c e p) : g < W.heap.size := (Array.getElem?_eq_some_iff.1 h.wrong).1
theorem Re.ne {W : World} {rb g : Nat} {sl : Value} {i o c e p : Int} (h : Re W rb g sl i o c e p) : g ≠ rb := by
  rintro rfl
  have := h.heap.symm.trans h.wrong
  simp at this
theorem Re.c1 {W : World} {rb g : Nat} {sl : Value} {i o c e p : Int} (h : Re W rb g sl i o c e p) : W.cell? ⟨rb, 1, none⟩ = some (.int .i64 i) := by simp [World.cell?, h.heap]
theorem Re.c2 {W : World} {rb g : Nat} {sl : Value} {i o c e p : Int} (h : Re W rb g sl i o c e p) : W.cell? ⟨rb, 2, none⟩ = some (.int .i64 o) := by simp [World.cell?, h.heap]
theorem Re.c3 {W : World} {rb g : Nat} {sl : Value} {i o c e p : Int} (h : Re W rb g sl i o c e p) : W.cell? ⟨rb, 3, none⟩ = some (.int .i64 c) := by simp [World.cell?, h.heap]
theorem Re.c4 {W : World} {rb g : Nat} {sl : Value} {i o c e p : Int} (h : Re W rb g sl i o c e p) : W.cell? ⟨rb, 4, none⟩ = some (.pointer (some ⟨g, 0, none⟩)) := by simp [World.cell?, h.heap]
theorem Re.g0 {W : World} {rb g : Nat} {sl : Value} {i o c e p : Int} (h : Re W rb g sl i o c e p) : W.cell? ⟨g, 0, none⟩ = some (.int .i64 e) := by simp [World.cell?, h.wrong]
theorem Re.g1 {W : World} {rb g : Nat} {sl : Value} {i o c e p : Int} (h : Re W rb g sl i o c e p) : W.cell? ⟨g, 1, none⟩ = some (.int .i64 p) := by simp [World.cell?, h.wrong]
theorem Re.fr {W : World} {rb g : Nat} {sl : Value} {i o c e p : Int} (h : Re W rb g sl i o c e p) (k : Nat) : W.frozen? ⟨rb, k, none⟩ = false := by simp [World.frozen?, h.heap]
theorem Re.kept {W W' : World} {rb g : Nat} {sl : Value} {i o c e p : Int} (h : Re W rb g sl i o c e p) (hb : W'.heap[rb]? = W.heap[rb]?) (hg : W'.heap[g]? = W.heap[g]?) : Re W' rb g sl i o c e p := ⟨hb.trans h.heap, hg.trans h.wrong⟩
theorem Re.set1 {W : World} {rb g : Nat} {sl : Value} {i o c e p : Int} (h : Re W rb g sl i o c e p) (j : Int) : Re (W.setCell ⟨rb, 1, none⟩ (.int .i64 j)) rb g sl j o c e p := ⟨set_at h.heap _, (Below.heap_setCell _ _ _ _ h.ne).trans h.wrong⟩
theorem Re.set2 {W : World} {rb g : Nat} {sl : Value} {i o c e p : Int} (h : Re W rb g sl i o c e p) (j : Int) : Re (W.setCell ⟨rb, 2, none⟩ (.int .i64 j)) rb g sl i j c e p := ⟨set_at h.heap _, (Below.heap_setCell _ _ _ _ h.ne).trans h.wrong⟩
theorem Re.set3 {W : World} {rb g : Nat} {sl : Value} {i o c e p : Int} (h : Re W rb g sl i o c e p) (j : Int) : Re (W.setCell ⟨rb, 3, none⟩ (.int .i64 j)) rb g sl i o j e p := ⟨set_at h.heap _, (Below.heap_setCell _ _ _ _ h.ne).trans h.wrong⟩
/-- An error was met. -/
def Rx (W : World) (rb : Nat) (e p : Int) : Prop := ∃ g sl i o c, Re W rb g sl i o c e p
theorem Rx.kept {W W' : World} {rb _ : Nat} {e p : Int} (h : Rx W rb e p) (hb : Below W.heap.size W W') : Rx W' rb e p := by
  obtain ⟨g, sl, i, o, c, h⟩ := h
  exact ⟨g, sl, i, o, c, h.kept (hb.block _ h.lt) (hb.block _ h.ltg)⟩

set_option maxRecDepth 100000 in
set_option maxHeartbeats 2000000 in
theorem fails_no (rb g : Nat) (sl : Value) (i o c e p er : Int) (w : World) (h : Re w rb g sl i o c e p) :
    Calls Tryz.prog 60 #[.pointer (some ⟨rb, 0, none⟩), .int .i64 er] w fun en w' => (∃ v, en = .returned v) ∧ w' = w := by
  have c4 := h.c4
  clear h
  go_enter Tryz.func60, Tryz.ntmps60
  go_wp2
  go_end0
  exact ⟨⟨_, rfl⟩, rfl⟩
set_option maxRecDepth 100000 in
set_option maxHeartbeats 2000000 in
theorem fails_new (rb tb T cap i o c : Nat) (er : Int) (xs : List (Tok × Int)) (x : Tok × Int) (w : World) (h : Rn w rb tb T cap i o c) (hT : xs.length = T) (_ : T ≤ 1000000) (hr : TRow w tb xs) (hx : xs[i]? = some x) :
    Calls Tryz.prog 60 #[.pointer (some ⟨rb, 0, none⟩), .int .i64 er] w fun en w' => (∃ v, en = .returned v) ∧ But rb w w' ∧ ∃ g, Re w' rb g (.slice (some ⟨tb, 0, none⟩) T cap) i o c er x.1.pos := by
  have c0 := h.c0
  have c1 := h.c1
  have c4 := h.c4
  have f4 := h.fr 4
  obtain ⟨k0, k1, k2, k3⟩ := hr.2 i x hx
  have hi : i < T := by rw [← hT]; exact (List.getElem?_eq_some_iff.1 hx).1
  have hi' : (i : Int) < (T : Int) := by omega
  have hlt := h.lt
  have htb := hr.1
  have l1 : rb < w.heap.size + 1 := by omega
  have l2 : tb < w.heap.size + 1 := by omega
  have H : Hid _ := h
  clear h hr hx hT
  go_enter Tryz.func60, Tryz.ntmps60
  go_wp2_with fail
  go_region
  go_wp2
  go_end0
  refine ⟨⟨_, rfl⟩, (((But.refl _ _).set _).alloc _).drew, w.heap.size, ?_, ?_⟩
  · exact (Below.heap_alloc _ _ _ (by simpa [World.setCell] using hlt)).trans (set_at H.out.heap _)
  · have := World.alloc_heap_new (w.setCell ⟨rb, 4, none⟩ (.pointer (some ⟨w.heap.size, 0, none⟩))) (.cells #[.int .i64 er, .int .i64 x.1.pos] 74)
    rw [World.size_setCell] at this
    exact this

set_option maxRecDepth 100000 in
set_option maxHeartbeats 2000000 in
theorem counts_ok (rb tb T cap i o c n : Nat) (w : World) (h : Rn w rb tb T cap i o c) (hc : c + n ≤ 10000) :
    Calls Tryz.prog 61 #[.pointer (some ⟨rb, 0, none⟩), .int .i64 n] w fun en w' => (∃ v, en = .returned v) ∧ But rb w w' ∧ Rn w' rb tb T cap i o (c + n) := by
  have c3 := h.c3
  have f3 := h.fr 3
  have H : Hid _ := h
  clear h
  go_enter Tryz.func61, Tryz.ntmps61
  go_wp2
  go_end0
  exact ⟨⟨_, rfl⟩, (But.refl _ _).set _, H.out.set3 (c + n)⟩
set_option maxRecDepth 100000 in
set_option maxHeartbeats 2000000 in
theorem counts_new (rb tb T cap i o c n : Nat) (xs : List (Tok × Int)) (x : Tok × Int) (w : World) (h : Rn w rb tb T cap i o c) (hc : c ≤ 10000) (hn : n ≤ 2) (hgt : 10000 < c + n) (hT : xs.length = T) (hTm : T ≤ 1000000) (hr : TRow w tb xs) (hne : rb ≠ tb) (hx : xs[i]? = some x) :
    Calls Tryz.prog 61 #[.pointer (some ⟨rb, 0, none⟩), .int .i64 n] w fun en w' => (∃ v, en = .returned v) ∧ But rb w w' ∧ ∃ g, Re w' rb g (.slice (some ⟨tb, 0, none⟩) T cap) i o (c + n : Nat) 62 x.1.pos := by
  have c3 := h.c3
  have f3 := h.fr 3
  have H : Hid _ := h
  have HR : Hid (TRow w tb xs) := hr
  have HX : Hid (xs[i]? = some x) := hx
  clear h hr hx
  go_enter Tryz.func61, Tryz.ntmps61
  go_wp2_with fail
  refine (fails_new rb tb T cap i o (c + n) 62 xs x _ (H.out.set3 (c + n)) hT hTm (TRow.kept HR.out (Below.heap_setCell _ _ _ _ hne.symm) (by simp [World.setCell])) HX.out).mono ?_
  rintro en w1 ⟨⟨v, rfl⟩, hb, hg⟩
  go_wp2
  go_end0
  exact ⟨⟨_, rfl⟩, ((But.refl _ _).set _).trans hb, hg⟩
set_option maxRecDepth 100000 in
set_option maxHeartbeats 2000000 in
theorem counts_no (rb g : Nat) (sl : Value) (i o c e p : Int) (n : Nat) (w : World) (h : Re w rb g sl i o c e p) :
    Calls Tryz.prog 61 #[.pointer (some ⟨rb, 0, none⟩), .int .i64 n] w fun en w' => (∃ v, en = .returned v) ∧ But rb w w' ∧ ∃ c', Re w' rb g sl i o c' e p := by
  have c3 := h.c3
  have f3 := h.fr 3
  have H : Hid _ := h
  clear h
  go_enter Tryz.func61, Tryz.ntmps61
  go_wp2_with fail
  · refine (fails_no rb g sl i o _ e p 62 _ (H.out.set3 (wrap64 (c + n)))).mono ?_
    rintro en w1 ⟨⟨v, rfl⟩, rfl⟩
    go_wp2
    go_end0
    exact ⟨⟨_, rfl⟩, (But.refl _ _).set _, _, H.out.set3 (wrap64 (c + n))⟩
  · go_end0
    exact ⟨⟨_, rfl⟩, (But.refl _ _).set _, _, H.out.set3 (wrap64 (c + n))⟩

set_option maxRecDepth 100000 in
set_option maxHeartbeats 2000000 in
theorem opens_ok (rb tb T cap i o c n : Nat) (w : World) (h : Rn w rb tb T cap i o c) (ho : o < 100) (hc : c + n ≤ 10000) :
    Calls Tryz.prog 59 #[.pointer (some ⟨rb, 0, none⟩), .int .i64 n] w fun en w' => (∃ v, en = .returned v) ∧ But rb w w' ∧ Rn w' rb tb T cap i (o + 1) (c + n) := by
  have c2 := h.c2
  have f2 := h.fr 2
  have H : Hid (Rn w rb tb T cap i o c) := h
  have ho' : ((o : Int) == 100) = false := by simp; omega
  clear h
  go_enter Tryz.func59, Tryz.ntmps59
  go_wp2_with fail
  refine (counts_ok rb tb T cap i (o + 1) c n _ (H.out.set2 (o + 1)) hc).mono ?_
  rintro en w1 ⟨⟨v, rfl⟩, hb, hr⟩
  go_wp2
  go_end0
  exact ⟨⟨_, rfl⟩, ((But.refl _ _).set _).trans hb, hr⟩
set_option maxRecDepth 100000 in
set_option maxHeartbeats 2000000 in
theorem opens_much (rb tb T cap i o c n : Nat) (xs : List (Tok × Int)) (x : Tok × Int) (w : World) (h : Rn w rb tb T cap i o c) (ho : o < 100) (hc : c ≤ 10000) (hn : n ≤ 2) (hgt : 10000 < c + n) (hT : xs.length = T) (hTm : T ≤ 1000000) (hr : TRow w tb xs) (hne : rb ≠ tb) (hx : xs[i]? = some x) :
    Calls Tryz.prog 59 #[.pointer (some ⟨rb, 0, none⟩), .int .i64 n] w fun en w' => (∃ v, en = .returned v) ∧ But rb w w' ∧ ∃ g o' c', Re w' rb g (.slice (some ⟨tb, 0, none⟩) T cap) i o' c' 62 x.1.pos := by
  have c2 := h.c2
  have f2 := h.fr 2
  have H : Hid (Rn w rb tb T cap i o c) := h
  have HR : Hid (TRow w tb xs) := hr
  have HX : Hid (xs[i]? = some x) := hx
  have ho' : ((o : Int) == 100) = false := by simp; omega
  clear h hr hx
  go_enter Tryz.func59, Tryz.ntmps59
  go_wp2_with fail
  refine (counts_new rb tb T cap i (o + 1) c n xs x _ (H.out.set2 (o + 1)) hc hn hgt hT hTm (TRow.kept HR.out (Below.heap_setCell _ _ _ _ hne.symm) (by simp [World.setCell])) hne HX.out).mono ?_
  rintro en w1 ⟨⟨v, rfl⟩, hb, g, hg⟩
  go_wp2
  go_end0
  exact ⟨⟨_, rfl⟩, ((But.refl _ _).set _).trans hb, g, _, _, hg⟩
set_option maxRecDepth 100000 in
set_option maxHeartbeats 2000000 in
theorem opens_deep (rb tb T cap i c n : Nat) (xs : List (Tok × Int)) (x : Tok × Int) (w : World) (h : Rn w rb tb T cap i 100 c) (hT : xs.length = T) (hTm : T ≤ 1000000) (hr : TRow w tb xs) (hx : xs[i]? = some x) :
    Calls Tryz.prog 59 #[.pointer (some ⟨rb, 0, none⟩), .int .i64 n] w fun en w' => (∃ v, en = .returned v) ∧ But rb w w' ∧ ∃ g o' c', Re w' rb g (.slice (some ⟨tb, 0, none⟩) T cap) i o' c' 61 x.1.pos := by
  have c2 := h.c2
  have H : Hid (Rn w rb tb T cap i 100 c) := h
  have HR : Hid (TRow w tb xs) := hr
  have HX : Hid (xs[i]? = some x) := hx
  clear h hr hx
  go_enter Tryz.func59, Tryz.ntmps59
  go_wp2_with fail
  refine (fails_new rb tb T cap i 100 c 61 xs x _ H.out hT hTm HR.out HX.out).mono ?_
  rintro en w1 ⟨⟨v, rfl⟩, hb, g, hg⟩
  have d2 := hg.c2
  have f2 := hg.fr 2
  have HG : Hid _ := hg
  have HB : Hid _ := hb
  clear hg hb c2
  go_wp2_with fail
  refine (counts_no rb g _ _ _ _ 61 x.1.pos n _ (HG.out.set2 101)).mono ?_
  rintro en w2 ⟨⟨v2, rfl⟩, hb2, c', hg2⟩
  go_wp2
  go_end0
  exact ⟨⟨_, rfl⟩, (HB.out.set _).trans hb2, g, _, _, hg2⟩
end Go.Proofs.YtlpdfifjdlfpdaaGreatDoor
