/- The reader's small functions.; Rows of data in memory.; The reader's datum.; The reader's symbol and list.; Trees that grow.; A function whose result lies in five cells, at its end. -/
import Derived.Test.YtlpdfifjdlfpdaaGreatDoorGB
import Derived.Test.YtlpdfifjdlfpdaaGreatDoorGD
import Derived.Defers
import Derived.Recover
import Derived.WalkLawsBesides
import Derived.BigQuiet
import Derived.Deep.RegionHeld3
/- The reader's small functions. -/
namespace Go.Proofs.YtlpdfifjdlfpdaaGreatDoor
open Go.RowKit

/-- Nothing but block rb has turned. -/
structure But (rb : Nat) (w w' : World) : Prop where
  os : w'.os = w.os
  tape : w'.tape = w.tape
  output : w'.output = w.output
  size : w.heap.size ≤ w'.heap.size
  block : ∀ g, g < w.heap.size → g ≠ rb → w'.heap[g]? = w.heap[g]?
theorem But.refl (rb : Nat) (w : World) : But rb w w := ⟨rfl, rfl, rfl, Nat.le_refl _, fun _ _ _ => rfl⟩
theorem But.trans {rb : Nat} {a b c : World} (h : But rb a b) (k : But rb b c) : But rb a c :=
  ⟨k.os.trans h.os, k.tape.trans h.tape, k.output.trans h.output, Nat.le_trans h.size k.size, fun g hg hne => (k.block g (Nat.lt_of_lt_of_le hg h.size) hne).trans (h.block g hg hne)⟩
theorem But.of_below {rb : Nat} {w w' : World} (h : Below w.heap.size w w') : But rb w w' := ⟨h.os, h.tape, h.output, h.size, fun g hg _ => h.block g hg⟩
theorem But.below {rb B : Nat} {w w' : World} (h : But rb w w') (hB : B ≤ rb) (hs : B ≤ w.heap.size) : Below B w w' := ⟨h.os, h.tape, h.output, h.size, fun g hg => h.block g (by omega) (by omega)⟩
theorem But.set {rb o : Nat} {w w' : World} (h : But rb w w') (v : Value) : But rb w (w'.setCell ⟨rb, o, none⟩ v) :=
  h.trans ⟨rfl, rfl, rfl, by simp [World.setCell], fun _ _ hne => Below.heap_setCell _ _ _ _ hne⟩
theorem But.alloc {rb : Nat} {w w' : World} (h : But rb w w') (o : Obj) : But rb w (w'.alloc o) := h.trans (But.of_below ((Below.refl _ _).alloc (Nat.le_refl _) _))
theorem But.drew {rb : Nat} {w w' : World} (h : But rb w w') : But rb w w'.drew := h.trans ⟨rfl, rfl, rfl, Nat.le_refl _, fun _ _ _ => rfl⟩
theorem But.new {rb : Nat} {w w' : World} {g o : Nat} (h : But rb w w') (hg : w.heap.size ≤ g) (v : Value) : But rb w (w'.setCell ⟨g, o, none⟩ v) :=
  ⟨h.os, h.tape, h.output, by have := h.size; simpa [World.setCell] using this, fun k hk hne => (Below.heap_setCell _ _ _ _ (by show k ≠ g; omega)).trans (h.block k hk hne)⟩
theorem But.grown {rb : Nat} {w w' w'' : World} {row : Option Nat} (h : But rb w w') (hg : w'.grownBy w'' row) (hr : ∀ k, row = some k → w.heap.size ≤ k) : But rb w w'' :=
  ⟨hg.os.trans h.os, hg.tape.trans h.tape, hg.output.trans h.output, Nat.le_trans h.size hg.size, fun k hk hne => (hg.block k (Nat.lt_of_lt_of_le hk h.size) (fun e => by have := hr k e.symm; omega)).trans (h.block k hk hne)⟩

/-- The reader: tokens in block tb, the next one, how many are open, how many there were. -/
structure Rb (W : World) (rb tb T cap i o c : Nat) : Prop where
  heap : W.heap[rb]? = some (.cells #[.slice (some ⟨tb, 0, none⟩) T cap, .int .i64 i, .int .i64 o, .int .i64 c] 80 (0, 0))
theorem Rb.lt {W : World} {rb tb T cap i o c : Nat} (h : Rb W rb tb T cap i o c) : rb < W.heap.size := (Array.getElem?_eq_some_iff.1 h.heap).1
theorem Rb.c0 {W : World} {rb tb T cap i o c : Nat} (h : Rb W rb tb T cap i o c) : W.cell? ⟨rb, 0, none⟩ = some (.slice (some ⟨tb, 0, none⟩) T cap) := by simp [World.cell?, h.heap]
theorem Rb.c1 {W : World} {rb tb T cap i o c : Nat} (h : Rb W rb tb T cap i o c) : W.cell? ⟨rb, 1, none⟩ = some (.int .i64 i) := by simp [World.cell?, h.heap]
theorem Rb.c2 {W : World} {rb tb T cap i o c : Nat} (h : Rb W rb tb T cap i o c) : W.cell? ⟨rb, 2, none⟩ = some (.int .i64 o) := by simp [World.cell?, h.heap]
theorem Rb.c3 {W : World} {rb tb T cap i o c : Nat} (h : Rb W rb tb T cap i o c) : W.cell? ⟨rb, 3, none⟩ = some (.int .i64 c) := by simp [World.cell?, h.heap]
theorem Rb.fr {W : World} {rb tb T cap i o c : Nat} (h : Rb W rb tb T cap i o c) (k : Nat) : W.frozen? ⟨rb, k, none⟩ = false := by simp [World.frozen?, h.heap]
theorem Rb.kept {W W' : World} {rb tb T cap i o c : Nat} (h : Rb W rb tb T cap i o c) (hb : W'.heap[rb]? = W.heap[rb]?) : Rb W' rb tb T cap i o c := ⟨hb.trans h.heap⟩
theorem set_at {W : World} {b j : Nat} {cs : Array Value} {t : TypeId} (h : W.heap[b]? = some (.cells cs t (0, 0))) (v : Value) : (W.setCell ⟨b, j, none⟩ v).heap[b]? = some (.cells (cs.setIfInBounds j v) t (0, 0)) := by
  have hlt := (Array.getElem?_eq_some_iff.1 h).1
  rw [Array.getElem?_eq_getElem hlt] at h
  have h2 := Option.some.inj h
  show (W.heap.modify b _)[b]? = _
  rw [Array.getElem?_eq_getElem (by simpa using hlt), Array.getElem_modify_self, h2]
  rfl
theorem Rb.set1 {W : World} {rb tb T cap i o c : Nat} (h : Rb W rb tb T cap i o c) (j : Nat) : Rb (W.setCell ⟨rb, 1, none⟩ (.int .i64 j)) rb tb T cap j o c := ⟨set_at h.heap _⟩
theorem Rb.set2 {W : World} {rb tb T cap i o c : Nat} (h : Rb W rb tb T cap i o c) (j : Nat) : Rb (W.setCell ⟨rb, 2, none⟩ (.int .i64 j)) rb tb T cap i j c := ⟨set_at h.heap _⟩
theorem Rb.set3 {W : World} {rb tb T cap i o c : Nat} (h : Rb W rb tb T cap i o c) (j : Nat) : Rb (W.setCell ⟨rb, 3, none⟩ (.int .i64 j)) rb tb T cap i o j := ⟨set_at h.heap _⟩

/-- The panic's value: an error and its place. -/
def fault (e p : Int) : List PanicEntry := [{ v := .iface 76 (.agg #[.int .i64 e, .int .i64 p]), recovered := false }]

set_option maxHeartbeats 1000000 in
theorem kind_any (rb tb T cap i o c : Nat) (xs : List (Tok × Int)) (x : Tok × Int) (w : World) (h : Rb w rb tb T cap i o c) (hT : xs.length = T) (_ : T ≤ 1000000) (hr : TRow w tb xs) (hx : xs[i]? = some x) :
    Calls Tryz.prog 63 #[.pointer (some ⟨rb, 0, none⟩)] w fun e w' => e = .returned (.int .u8 x.1.kind) ∧ Below w.heap.size w w' := by
  have c0 := h.c0
  have c1 := h.c1
  obtain ⟨k0, k1, k2, k3⟩ := hr.2 i x hx
  have hi : i < T := by rw [← hT]; exact (List.getElem?_eq_some_iff.1 hx).1
  have hi' : (i : Int) < (T : Int) := by omega
  clear h hr hx hT
  go_enter Tryz.func63, Tryz.ntmps63
  go_wp2_with fail
  go_quiet (fail)
  go_wp2
  go_ret
  exact ⟨rfl, ⟨rfl, rfl, rfl, Nat.le_refl _, fun _ _ => rfl⟩⟩

set_option maxHeartbeats 2000000 in
theorem take_any (rb tb T cap i o c : Nat) (xs : List (Tok × Int)) (x : Tok × Int) (w : World) (h : Rb w rb tb T cap i o c) (hT : xs.length = T) (hTm : T ≤ 1000000) (hr : TRow w tb xs) (hx : xs[i]? = some x) :
    Calls Tryz.prog 79 #[.pointer (some ⟨rb, 0, none⟩)] w fun e w' => e = .returned (.agg #[.int .u8 x.1.kind, S x.1.text, .int .i64 x.1.n, .int .i64 x.1.pos]) ∧ Rb w' rb tb T cap (i + 1) o c ∧ But rb w w' := by
  have c0 := h.c0
  have c1 := h.c1
  have f1 := h.fr 1
  obtain ⟨k0, k1, k2, k3⟩ := hr.2 i x hx
  have hi : i < T := by rw [← hT]; exact (List.getElem?_eq_some_iff.1 hx).1
  have hi' : (i : Int) < (T : Int) := by omega
  have hlt := h.lt
  have htb := hr.1
  have l1 : rb < w.heap.size + 1 := by omega
  have l2 : tb < w.heap.size + 1 := by omega
  have l3 : rb < w.heap.size + 1 + 1 := by omega
  have l4 : tb < w.heap.size + 1 + 1 := by omega
  have H : Hid _ := h
  clear h hr hx hT
  go_enter Tryz.func79, Tryz.ntmps79
  go_wp2_with fail
  go_region_held3 (fun wx => wx.cell? ⟨rb, 0, none⟩ = some (.slice (some ⟨tb, 0, none⟩) T cap) ∧ wx.cell? ⟨rb, 1, none⟩ = some (.int .i64 i) ∧
      (wx.cell? ⟨tb, i * 4, none⟩ = some (.int .u8 x.1.kind) ∧ wx.cell? ⟨tb, i * 4 + 1, none⟩ = some (S x.1.text) ∧ wx.cell? ⟨tb, i * 4 + 1 + 1, none⟩ = some (.int .i64 x.1.n) ∧ wx.cell? ⟨tb, i * 4 + 1 + 1 + 1, none⟩ = some (.int .i64 x.1.pos)) ∧ rb < wx.heap.size ∧ tb < wx.heap.size) (go_keep) (fail)
  go_wp2
  refine bodyPost_ret (v := .agg #[.int .u8 x.1.kind, S x.1.text, .int .i64 x.1.n, .int .i64 x.1.pos]) (by simp [results, Tryz.results79, go_sem]) rfl ⟨rfl, ?_, ?_⟩
  · refine Rb.kept (W := w.setCell ⟨rb, 1, none⟩ (.int .i64 (i + 1 : Nat))) (H.out.set1 (i + 1)) ?_
    exact (Below.heap_alloc _ _ _ (by simp [World.setCell]; omega)).trans (Below.heap_alloc _ _ _ (by simpa [World.setCell] using hlt))
  · exact ((((But.refl _ _).set _).alloc _).alloc _).drew

set_option maxHeartbeats 1000000 in
theorem add_bad (rb tb T cap i o c n : Nat) (x : Tok) (w : World) (h : Rb w rb tb T cap i o c) (hc : c ≤ 10000) (hn : n ≤ 2) (hgt : 10000 < c + n) :
    Calls Tryz.prog 84 #[.pointer (some ⟨rb, 0, none⟩), .agg #[.int .u8 x.kind, S x.text, .int .i64 x.n, .int .i64 x.pos], .int .i64 n] w fun e w' => e = .panicked (fault 62 x.pos) ∧ But rb w w' ∧ Rb w' rb tb T cap i o (c + n) := by
  have c3 := h.c3
  have f3 := h.fr 3
  have hlt := h.lt
  have H : Hid _ := h
  clear h
  go_enter Tryz.func84, Tryz.ntmps84
  go_wp2
  exact ⟨rfl, rfl, ((But.refl _ _).set _).alloc _, (H.out.set3 (c + n)).kept (Below.heap_alloc _ _ _ (by simpa [World.setCell] using hlt))⟩

set_option maxHeartbeats 1000000 in
theorem add_ok (rb tb T cap i o c n : Nat) (x : Tok) (w : World) (h : Rb w rb tb T cap i o c) (hc : c ≤ 10000) (hn : n ≤ 2) (hgt : ¬ 10000 < c + n) :
    Calls Tryz.prog 84 #[.pointer (some ⟨rb, 0, none⟩), .agg #[.int .u8 x.kind, S x.text, .int .i64 x.n, .int .i64 x.pos], .int .i64 n] w fun e w' => (∃ v, e = .returned v) ∧ But rb w w' ∧ Rb w' rb tb T cap i o (c + n) := by
  have c3 := h.c3
  have f3 := h.fr 3
  have hlt := h.lt
  have H : Hid _ := h
  clear h
  go_enter Tryz.func84, Tryz.ntmps84
  go_wp2
  go_end0
  exact ⟨⟨_, rfl⟩, ((But.refl _ _).set _).alloc _, (H.out.set3 (c + n)).kept (Below.heap_alloc _ _ _ (by simpa [World.setCell] using hlt))⟩

set_option maxHeartbeats 1000000 in
theorem enter_deep (rb tb T cap i c n : Nat) (x : Tok) (w : World) (h : Rb w rb tb T cap i 100 c) :
    Calls Tryz.prog 80 #[.pointer (some ⟨rb, 0, none⟩), .agg #[.int .u8 x.kind, S x.text, .int .i64 x.n, .int .i64 x.pos], .int .i64 n] w fun e w' => e = .panicked (fault 61 x.pos) ∧ But rb w w' ∧ Rb w' rb tb T cap i 100 c := by
  have c2 := h.c2
  have hlt := h.lt
  have H : Hid _ := h
  clear h
  go_enter Tryz.func80, Tryz.ntmps80
  go_wp2
  exact ⟨rfl, rfl, (But.refl _ _).alloc _, H.out.kept (Below.heap_alloc _ _ _ hlt)⟩

set_option maxHeartbeats 1000000 in
theorem enter_bad (rb tb T cap i o c n : Nat) (x : Tok) (w : World) (h : Rb w rb tb T cap i o c) (ho : o < 100) (hc : c ≤ 10000) (hn : n ≤ 2) (hgt : 10000 < c + n) :
    Calls Tryz.prog 80 #[.pointer (some ⟨rb, 0, none⟩), .agg #[.int .u8 x.kind, S x.text, .int .i64 x.n, .int .i64 x.pos], .int .i64 n] w fun e w' => e = .panicked (fault 62 x.pos) ∧ But rb w w' ∧ Rb w' rb tb T cap i o (c + n) := by
  have c2 := h.c2
  have hlt := h.lt
  have H : Hid _ := h
  clear h
  go_enter Tryz.func80, Tryz.ntmps80
  go_wp2_with fail
  refine (add_bad rb tb T cap i o c n x _ (H.out.kept (Below.heap_alloc _ _ _ hlt)) hc hn hgt).mono ?_
  rintro e w1 ⟨rfl, hb, hr⟩
  go_wp2
  exact ⟨rfl, rfl, ((But.refl _ _).alloc _).trans hb, hr⟩

set_option maxHeartbeats 1000000 in
theorem enter_ok (rb tb T cap i o c n : Nat) (x : Tok) (w : World) (h : Rb w rb tb T cap i o c) (ho : o < 100) (hc : c ≤ 10000) (hn : n ≤ 2) (hgt : ¬ 10000 < c + n) :
    Calls Tryz.prog 80 #[.pointer (some ⟨rb, 0, none⟩), .agg #[.int .u8 x.kind, S x.text, .int .i64 x.n, .int .i64 x.pos], .int .i64 n] w fun e w' => (∃ v, e = .returned v) ∧ But rb w w' ∧ Rb w' rb tb T cap i (o + 1) (c + n) := by
  have c2 := h.c2
  have hlt := h.lt
  have H : Hid _ := h
  clear h
  go_enter Tryz.func80, Tryz.ntmps80
  go_wp2_with fail
  refine (add_ok rb tb T cap i o c n x _ (H.out.kept (Below.heap_alloc _ _ _ hlt)) hc hn hgt).mono ?_
  rintro e w1 ⟨⟨v, rfl⟩, hb, hr⟩
  have d2 := hr.c2
  have f2 := hr.fr 2
  have HR : Hid _ := hr
  have HB : Hid _ := hb
  clear hr hb c2
  go_wp2
  go_end0
  exact ⟨⟨_, rfl⟩, (((But.refl _ _).alloc _).trans HB.out).set _, HR.out.set2 (o + 1)⟩

set_option maxHeartbeats 1000000 in
theorem leave_any (rb tb T cap i o c : Nat) (u : FrameMode) (w : World) (h : Rb w rb tb T cap i (o + 1) c) (ho : o ≤ 1000) :
    CallsD Tryz.prog 81 #[.pointer (some ⟨rb, 0, none⟩)] u w fun e u' w' => u' = u ∧ (∃ v, e = .returned v) ∧ But rb w w' ∧ Rb w' rb tb T cap i o c := by
  have c2 := h.c2
  have f2 := h.fr 2
  have H : Hid _ := h
  clear h
  go_enter_d Tryz.func81, Tryz.ntmps81
  go_wp2
  go_end0
  exact ⟨⟨_, rfl⟩, (But.refl _ _).set _, H.out.set2 o⟩
end Go.Proofs.YtlpdfifjdlfpdaaGreatDoor

/- Rows of data in memory. -/
namespace Go.Proofs.YtlpdfifjdlfpdaaGreatDoor
open Go.RowKit

def own1 (v : Value) : List Nat := v.ownBlock.toList
theorem mem_own1 {v : Value} {g : Nat} : g ∈ own1 v ↔ v.ownBlock = some g := by unfold own1; cases v.ownBlock <;> simp [eq_comm]

/-- The cells of a row of data, and the blocks in which their kids lie. -/
def Row (w : World) (base : Nat) : Fo → List Value → List Nat → Prop
  | .nil, cs, bs => cs = [] ∧ bs = []
  | .cons k n t s d r, cs, bs => ∃ kv kcs kbs rcs rbs, cs = .int .u8 k :: .int .i64 n :: S t :: kv :: .bool d :: rcs ∧ bs = own1 kv ++ kbs ++ rbs ∧
      w.ownsRow base 58 5 kv s.len kcs ∧ Row w base s kcs kbs ∧ Row w base r rcs rbs

theorem own_same {W W' : World} {b e c n : Nat} {v : Value} {xs : List Value} (h : W.ownsRow b e c v n xs) (hk : ∀ g, v.ownBlock = some g → W'.heap[g]? = W.heap[g]?) : W'.ownsRow b e c v n xs := by
  refine ⟨h.1, ?_⟩
  rcases h.2 with h' | ⟨g, cap, cur, hv, hg, hh, r⟩
  · exact .inl h'
  · exact .inr ⟨g, cap, cur, hv, hg, (hk g (by rw [hv]; rfl)).trans hh, r⟩
theorem own_mono {W : World} {b b' e c n : Nat} {v : Value} {xs : List Value} (h : W.ownsRow b' e c v n xs) (hb : b ≤ b') : W.ownsRow b e c v n xs := by
  refine ⟨h.1, ?_⟩
  rcases h.2 with h' | ⟨g, cap, cur, hv, hg, r⟩
  · exact .inl h'
  · exact .inr ⟨g, cap, cur, hv, Nat.le_trans hb hg, r⟩
theorem own_slice {W : World} {b e c n : Nat} {v : Value} {xs : List Value} (h : W.ownsRow b e c v n xs) : ∃ ra cap, v = .slice ra n cap := by
  rcases h.2 with ⟨rfl, h0⟩ | ⟨g, cap, cur, rfl, _⟩
  · exact ⟨none, 0, by rw [h0]⟩
  · exact ⟨_, _, rfl⟩

theorem Row.len {w : World} {base : Nat} : ∀ {f : Fo} {cs : List Value} {bs : List Nat}, Row w base f cs bs → cs.length = f.len * 5
  | .nil, cs, bs, h => by rw [h.1]; rfl
  | .cons k n t s d r, cs, bs, ⟨kv, kcs, kbs, rcs, rbs, hc, _, _, _, hr⟩ => by
    rw [hc]; simp [Fo.len, Row.len hr]; omega
theorem Row.kept {w w' : World} {base : Nat} : ∀ {f : Fo} {cs : List Value} {bs : List Nat}, Row w base f cs bs → (∀ g ∈ bs, w'.heap[g]? = w.heap[g]?) → Row w' base f cs bs
  | .nil, cs, bs, h, _ => h
  | .cons k n t s d r, cs, bs, ⟨kv, kcs, kbs, rcs, rbs, hc, hb, ho, hs, hr⟩, hk =>
    ⟨kv, kcs, kbs, rcs, rbs, hc, hb, own_same ho (fun g hg => hk g (by rw [hb]; simp [mem_own1, hg])), Row.kept hs (fun g hg => hk g (by rw [hb]; simp [hg])), Row.kept hr (fun g hg => hk g (by rw [hb]; simp [hg]))⟩
theorem Row.mono {w : World} {base base' : Nat} (hb' : base' ≤ base) : ∀ {f : Fo} {cs : List Value} {bs : List Nat}, Row w base f cs bs → Row w base' f cs bs
  | .nil, _, _, h => h
  | .cons _ _ _ _ _ _, _, _, ⟨kv, kcs, kbs, rcs, rbs, hc, hb, ho, hs, hr⟩ => ⟨kv, kcs, kbs, rcs, rbs, hc, hb, own_mono ho hb', Row.mono hb' hs, Row.mono hb' hr⟩
theorem Row.lt {w : World} {base : Nat} : ∀ {f : Fo} {cs : List Value} {bs : List Nat}, Row w base f cs bs → ∀ g ∈ bs, base ≤ g ∧ g < w.heap.size
  | .nil, cs, bs, h, g, hg => by rw [h.2] at hg; cases hg
  | .cons k n t s d r, cs, bs, ⟨kv, kcs, kbs, rcs, rbs, hc, hb, ho, hs, hr⟩, g, hg => by
    rw [hb] at hg
    simp only [List.mem_append, mem_own1] at hg
    rcases hg with (hg | hg) | hg
    · exact ho.lt g hg
    · exact Row.lt hs g hg
    · exact Row.lt hr g hg
theorem Row.app {w : World} {base : Nat} : ∀ {f g : Fo} {cs cs' : List Value} {bs bs' : List Nat}, Row w base f cs bs → Row w base g cs' bs' → Row w base (f.app g) (cs ++ cs') (bs ++ bs')
  | .nil, g, cs, cs', bs, bs', h, h' => by rw [h.1, h.2]; exact h'
  | .cons k n t s d r, g, cs, cs', bs, bs', ⟨kv, kcs, kbs, rcs, rbs, hc, hb, ho, hs, hr⟩, h' =>
    ⟨kv, kcs, kbs, rcs ++ cs', rbs ++ bs', by rw [hc]; rfl, by rw [hb]; simp, ho, hs, Row.app hr h'⟩
theorem Row.one {w : World} {base : Nat} : ∀ {f : Fo} {cs : List Value} {bs : List Nat}, Row w base f cs bs → ∀ u ∈ cs, u.oneCell' = true
  | .nil, cs, bs, h, u, hu => by rw [h.1] at hu; cases hu
  | .cons k n t s d r, cs, bs, ⟨kv, kcs, kbs, rcs, rbs, hc, hb, ho, hs, hr⟩, u, hu => by
    obtain ⟨ra, cap, rfl⟩ := own_slice ho
    rw [hc] at hu
    simp only [List.mem_cons] at hu
    rcases hu with rfl | rfl | rfl | rfl | rfl | hu
    · rfl
    · rfl
    · rfl
    · rfl
    · rfl
    · exact Row.one hr u hu
theorem Row.single {w : World} {base : Nat} {k n : Int} {t : List UInt8} {s : Fo} {d : Bool} {kv : Value} {kcs : List Value} {kbs : List Nat} (ho : w.ownsRow base 58 5 kv s.len kcs) (hs : Row w base s kcs kbs) :
    Row w base (.cons k n t s d .nil) [.int .u8 k, .int .i64 n, S t, kv, .bool d] (own1 kv ++ kbs) := ⟨kv, kcs, kbs, [], [], rfl, by simp, ho, hs, rfl, rfl⟩

/-- A value that holds data: its own row, their kids' rows, no block twice. -/
structure Tree (w : World) (base : Nat) (v : Value) (f : Fo) : Prop where
  ex : ∃ cs bs, w.ownsRow base 58 5 v f.len cs ∧ Row w base f cs bs ∧ (own1 v ++ bs).Nodup
theorem Tree.nil (w : World) (base : Nat) : Tree w base (.slice none 0 0) .nil := ⟨[], [], World.ownsRow_nil _ _ _ _, ⟨rfl, rfl⟩, by simp [own1, Value.ownBlock]⟩
theorem Tree.mono {w : World} {base base' : Nat} {v : Value} {f : Fo} (h : Tree w base v f) (hb : base' ≤ base) : Tree w base' v f := by
  obtain ⟨cs, bs, h1, h2, h3⟩ := h.ex
  exact ⟨cs, bs, own_mono h1 hb, h2.mono hb, h3⟩
/-- It is kept, where nothing from its base on turns. -/
theorem Tree.kept {w w' : World} {base : Nat} {v : Value} {f : Fo} (h : Tree w base v f) (hk : ∀ g, base ≤ g → g < w.heap.size → w'.heap[g]? = w.heap[g]?) : Tree w' base v f := by
  obtain ⟨cs, bs, h1, h2, h3⟩ := h.ex
  exact ⟨cs, bs, own_same h1 (fun g hg => hk g (h1.lt g hg).1 (h1.lt g hg).2), h2.kept (fun g hg => hk g (h2.lt g hg).1 (h2.lt g hg).2), h3⟩
theorem Tree.slice {w : World} {base : Nat} {v : Value} {f : Fo} (h : Tree w base v f) : ∃ ra cap, v = .slice ra f.len cap := by
  obtain ⟨cs, bs, h1, _⟩ := h.ex
  exact own_slice h1

/-- Nothing below B but block rb has turned. -/
structure ButB (B rb : Nat) (w w' : World) : Prop where
  os : w'.os = w.os
  tape : w'.tape = w.tape
  output : w'.output = w.output
  size : w.heap.size ≤ w'.heap.size
  block : ∀ g, g < B → g ≠ rb → w'.heap[g]? = w.heap[g]?
theorem But.b {rb B : Nat} {w w' : World} (h : But rb w w') (hB : B ≤ w.heap.size) : ButB B rb w w' := ⟨h.os, h.tape, h.output, h.size, fun g hg hne => h.block g (by omega) hne⟩
theorem ButB.but {rb : Nat} {w w' : World} (h : ButB w.heap.size rb w w') : But rb w w' := ⟨h.os, h.tape, h.output, h.size, h.block⟩
theorem ButB.trans {B rb : Nat} {a b c : World} (h : ButB B rb a b) (k : ButB B rb b c) : ButB B rb a c :=
  ⟨k.os.trans h.os, k.tape.trans h.tape, k.output.trans h.output, Nat.le_trans h.size k.size, fun g hg hne => (k.block g hg hne).trans (h.block g hg hne)⟩
theorem ButB.mono {B B' rb : Nat} {a b : World} (h : ButB B rb a b) (hB : B' ≤ B) : ButB B' rb a b := ⟨h.os, h.tape, h.output, h.size, fun g hg hne => h.block g (by omega) hne⟩

/-- What a call of the reader's ends in. -/
def PostD (base rb tb T cap o : Nat) (w : World) : Res → Ending → World → Prop
  | .ok f _ r c', e, w' => ButB base rb w w' ∧ ∃ k n t s d kv, f = .cons k n t s d .nil ∧ e = .returned (.agg #[.int .u8 k, .int .i64 n, S t, kv, .bool d]) ∧ Rb w' rb tb T cap (T - r.length) o c' ∧ Tree w' base kv s
  | .bad er p, e, w' => ButB base rb w w' ∧ e = .panicked (fault er p) ∧ ∃ i' c', Rb w' rb tb T cap i' o c'

/-- Where a reader stands. -/
structure At (rb tb T cap : Nat) (xs : List (Tok × Int)) (w : World) (i o c : Nat) (ts : List Tok) : Prop where
  reader : Rb w rb tb T cap i o c
  row : TRow w tb xs
  toks : (xs.drop i).map Prod.fst = ts
  ended : Ended ts
  ho : o ≤ 100
  hc : c ≤ 10000
  ne : rb ≠ tb
  hT : xs.length = T
  hTm : T ≤ 100000
theorem At.head {rb tb T cap : Nat} {xs : List (Tok × Int)} {w : World} {i o c : Nat} {ts : List Tok} (h : At rb tb T cap xs w i o c ts) : ∃ x ts', xs[i]? = some x ∧ ts = x.1 :: ts' ∧ (xs.drop (i + 1)).map Prod.fst = ts' ∧ ts'.length + i + 1 = T := by
  have hne : xs.drop i ≠ [] := fun e => h.ended.ne (by rw [← h.toks, e]; rfl)
  have hi : i < xs.length := by
    rcases Nat.lt_or_ge i xs.length with h' | h'
    · exact h'
    · exact absurd (List.drop_eq_nil_of_le h') hne
  refine ⟨xs[i], (xs.drop (i + 1)).map Prod.fst, List.getElem?_eq_getElem hi, ?_, rfl, ?_⟩
  · rw [← h.toks, List.drop_eq_getElem_cons hi]; rfl
  · rw [List.length_map, List.length_drop, ← h.hT]; omega
theorem At.moved {rb tb T cap : Nat} {xs : List (Tok × Int)} {w w' : World} {i o c i' o' c' : Nat} {ts ts' : List Tok} (h : At rb tb T cap xs w i o c ts) (hr : Rb w' rb tb T cap i' o' c') (hb : w'.heap[tb]? = w.heap[tb]?) (hs : w.heap.size ≤ w'.heap.size)
    (ht : (xs.drop i').map Prod.fst = ts') (he : Ended ts') (ho : o' ≤ 100) (hc : c' ≤ 10000) : At rb tb T cap xs w' i' o' c' ts' := ⟨hr, h.row.kept hb hs, ht, he, ho, hc, h.ne, h.hT, h.hTm⟩
theorem At.same {rb tb T cap : Nat} {xs : List (Tok × Int)} {w w' : World} {i o c : Nat} {ts : List Tok} (h : At rb tb T cap xs w i o c ts) (hb : Below w.heap.size w w') : At rb tb T cap xs w' i o c ts :=
  h.moved (h.reader.kept (hb.block _ h.reader.lt)) (hb.block _ h.row.1) hb.size h.toks h.ended h.ho h.hc
theorem At.alloc {rb tb T cap : Nat} {xs : List (Tok × Int)} {w : World} {i o c : Nat} {ts : List Tok} (h : At rb tb T cap xs w i o c ts) (x : Obj) : At rb tb T cap xs (w.alloc x) i o c ts := h.same ((Below.refl _ _).alloc (Nat.le_refl _) _)
/-- What is left of the tokens behind a reading. -/
theorem At.rest {rb tb T cap : Nat} {xs : List (Tok × Int)} {w : World} {i o c : Nat} {ts q r : List Tok} (h : At rb tb T cap xs w i o c ts) (e : ts = q ++ r) : (xs.drop (T - r.length)).map Prod.fst = r ∧ T - r.length = i + q.length := by
  have hl : ts.length = T - i := by rw [← h.toks, List.length_map, List.length_drop, h.hT]
  have hne : 0 < ts.length := List.length_pos_iff.2 h.ended.ne
  have hq : ts.length = q.length + r.length := by rw [e, List.length_append]
  have e2 : T - r.length = i + q.length := by omega
  refine ⟨?_, e2⟩
  rw [e2, ← List.drop_drop, List.map_drop, h.toks, e]
  simp

/-- The contracts of the three that call each other, for so many tokens at most. -/
def DatumC (rb tb T cap : Nat) (xs : List (Tok × Int)) (N : Nat) : Prop := ∀ (w : World) (i o c : Nat) (ts : List Tok), At rb tb T cap xs w i o c ts → ts.length ≤ N →
  Calls Tryz.prog 64 #[.pointer (some ⟨rb, 0, none⟩)] w (PostD w.heap.size rb tb T cap o w (rdf 0 ts o c))
def ListC (rb tb T cap : Nat) (xs : List (Tok × Int)) (N : Nat) : Prop := ∀ (w : World) (i o c : Nat) (ts : List Tok), At rb tb T cap xs w i o c ts → ts.length ≤ N →
  Calls Tryz.prog 82 #[.pointer (some ⟨rb, 0, none⟩)] w (PostD w.heap.size rb tb T cap o w (rdf 1 ts o c).list)
def QuotedC (rb tb T cap : Nat) (xs : List (Tok × Int)) (N : Nat) : Prop := ∀ (w : World) (i o c : Nat) (ts : List Tok), At rb tb T cap xs w i o c ts → ts.length ≤ N →
  Calls Tryz.prog 83 #[.pointer (some ⟨rb, 0, none⟩)] w (PostD w.heap.size rb tb T cap o w (rdf 0 ts o c).quote)
end Go.Proofs.YtlpdfifjdlfpdaaGreatDoor

/- The reader's datum. -/
namespace Go.Proofs.YtlpdfifjdlfpdaaGreatDoor
open Go.RowKit

/-- Five cells of a block. -/
def five (b : Nat) (W : World) (v0 v1 v2 v3 v4 : Value) : World := ((((W.setCell ⟨b, 0, none⟩ v0).setCell ⟨b, 1, none⟩ v1).setCell ⟨b, 2, none⟩ v2).setCell ⟨b, 3, none⟩ v3).setCell ⟨b, 4, none⟩ v4
theorem five_at {W : World} {b : Nat} {a0 a1 a2 a3 a4 : Value} {t : TypeId} (h : W.heap[b]? = some (.cells #[a0, a1, a2, a3, a4] t (0, 0))) (v0 v1 v2 v3 v4 : Value) :
    (five b W v0 v1 v2 v3 v4).heap[b]? = some (.cells #[v0, v1, v2, v3, v4] t (0, 0)) := set_at (set_at (set_at (set_at (set_at h v0) v1) v2) v3) v4
theorem five_other {W : World} {b g : Nat} (hg : g ≠ b) (v0 v1 v2 v3 v4 : Value) : (five b W v0 v1 v2 v3 v4).heap[g]? = W.heap[g]? := by
  unfold five
  rw [Below.heap_setCell _ _ _ _ hg, Below.heap_setCell _ _ _ _ hg, Below.heap_setCell _ _ _ _ hg, Below.heap_setCell _ _ _ _ hg, Below.heap_setCell _ _ _ _ hg]
theorem five_size {W : World} {b : Nat} (v0 v1 v2 v3 v4 : Value) : (five b W v0 v1 v2 v3 v4).heap.size = W.heap.size := by simp [five, World.setCell]
theorem cells5 {W : World} {b : Nat} {a0 a1 a2 a3 a4 : Value} {t : TypeId} (h : W.heap[b]? = some (.cells #[a0, a1, a2, a3, a4] t (0, 0))) :
    W.cell? ⟨b, 0, none⟩ = some a0 ∧ W.cell? ⟨b, 1, none⟩ = some a1 ∧ W.cell? ⟨b, 2, none⟩ = some a2 ∧ W.cell? ⟨b, 3, none⟩ = some a3 ∧ W.cell? ⟨b, 4, none⟩ = some a4 ∧ ∀ j, W.frozen? ⟨b, j, none⟩ = false := by
  refine ⟨?_, ?_, ?_, ?_, ?_, fun j => ?_⟩ <;> simp [World.cell?, World.frozen?, h]

abbrev Z5 : Obj := .cells #[.int .u8 0, .int .i64 0, .string ⟨#[]⟩, .slice none 0 0, .bool false] 58

set_option maxRecDepth 100000 in
set_option maxHeartbeats 4000000 in
theorem datum_list {rb tb T cap : Nat} {xs : List (Tok × Int)} {N : Nat} (hL : ListC rb tb T cap xs N) (w : World) (i o c : Nat) (text : List UInt8) (n pos er : Int) (ts' : List Tok) (hA : At rb tb T cap xs w i o c (⟨1, text, n, pos⟩ :: ts')) (hN : ts'.length ≤ N) (hx : xs[i]? = some (⟨1, text, n, pos⟩, er)) (htl : (xs.drop (i + 1)).map Prod.fst = ts') :
    Calls Tryz.prog 64 #[.pointer (some ⟨rb, 0, none⟩)] w (PostD w.heap.size rb tb T cap o w (rdf 0 (⟨1, text, n, pos⟩ :: ts') o c)) := by
  have HA : Hid (At rb tb T cap xs w i o c (⟨1, text, n, pos⟩ :: ts')) := hA
  have HL : Hid (ListC rb tb T cap xs N) := hL
  have Hx : Hid _ := hx
  have hlt := hA.reader.lt
  have hc1 := hA.hc
  have ho1 := hA.ho
  have Htl : Hid _ := htl
  clear hA hL hx htl
  by_cases ho : o = 100
  · have hR : rdf 0 (⟨1, text, n, pos⟩ :: ts') o c = .bad 61 pos := by rw [rdf_one]; simp [one, ho]
    rw [hR]
    clear hR
    subst ho
    go_enter_defers Tryz.func64, Tryz.ntmps64
    go_wp2_with fail
    refine (take_any rb tb T cap i 100 c xs _ _ (HA.out.alloc _).reader HA.out.hT (by have := HA.out.hTm; omega) (HA.out.alloc _).row Hx.out).mono ?_
    rintro e w1 ⟨rfl, hr1, hb1⟩
    have hl1 := hr1.lt
    go_wp2_with fail
    refine (enter_deep rb tb T cap (i + 1) c 1 ⟨1, text, n, pos⟩ _ (hr1.kept (Below.heap_alloc _ _ _ hl1))).mono ?_
    rintro e w2 ⟨rfl, hb2, hr2⟩
    go_wp2_with fail
    exact ⟨((((But.refl _ _).alloc _).trans hb1).alloc _ |>.trans hb2).b (Nat.le_refl _), rfl, _, _, hr2⟩
  by_cases hc : 10000 < c + 1
  · have hR : rdf 0 (⟨1, text, n, pos⟩ :: ts') o c = .bad 62 pos := by rw [rdf_one]; simp [one, ho, hc]
    rw [hR]
    clear hR
    go_enter_defers Tryz.func64, Tryz.ntmps64
    go_wp2_with fail
    refine (take_any rb tb T cap i o c xs _ _ (HA.out.alloc _).reader HA.out.hT (by have := HA.out.hTm; omega) (HA.out.alloc _).row Hx.out).mono ?_
    rintro e w1 ⟨rfl, hr1, hb1⟩
    have hl1 := hr1.lt
    go_wp2_with fail
    refine (enter_bad rb tb T cap (i + 1) o c 1 ⟨1, text, n, pos⟩ _ (hr1.kept (Below.heap_alloc _ _ _ hl1)) (by omega) hc1 (by omega) hc).mono ?_
    rintro e w2 ⟨rfl, hb2, hr2⟩
    go_wp2_with fail
    exact ⟨((((But.refl _ _).alloc _).trans hb1).alloc _ |>.trans hb2).b (Nat.le_refl _), rfl, _, _, hr2⟩
  have hR : rdf 0 (⟨1, text, n, pos⟩ :: ts') o c = (rdf 1 ts' (o + 1) (c + 1)).list := by rw [rdf_one]; simp only [one, if_true, if_neg ho, if_neg hc]
  rw [hR]
  clear hR
  have hE : Ended ts' := HA.out.ended.tail (by show (1 : Int) ≠ 9; decide)
  cases hX : rdf 1 ts' (o + 1) (c + 1) with
  | bad e p =>
    have HX : Hid _ := hX
    clear hX
    go_enter_defers Tryz.func64, Tryz.ntmps64
    go_wp2_with fail
    refine (take_any rb tb T cap i o c xs _ _ (HA.out.alloc _).reader HA.out.hT (by have := HA.out.hTm; omega) (HA.out.alloc _).row Hx.out).mono ?_
    rintro e' w1 ⟨rfl, hr1, hb1⟩
    have hl1 := hr1.lt
    go_wp2_with fail
    refine (enter_ok rb tb T cap (i + 1) o c 1 ⟨1, text, n, pos⟩ _ (hr1.kept (Below.heap_alloc _ _ _ hl1)) (by omega) hc1 (by omega) hc).mono ?_
    rintro e' w2 ⟨⟨v, rfl⟩, hb2, hr2⟩
    have B2 : But rb w w2 := (((But.refl _ _).alloc _).trans hb1).alloc _ |>.trans hb2
    have A2 : At rb tb T cap xs w2 (i + 1) (o + 1) (c + 1) ts' := HA.out.moved hr2 (B2.block _ HA.out.row.1 HA.out.ne.symm) B2.size Htl.out hE (by omega) (by omega)
    have HB2 : Hid _ := B2
    clear hb1 hb2 hr1
    go_wp2_with fail
    refine (HL.out w2 (i + 1) (o + 1) (c + 1) ts' A2 hN).mono ?_
    rw [HX.out]
    rintro e' w3 ⟨hb3, rfl, i', c', hr3⟩
    go_wp2_with fail
    refine leaves_cons (f := 81) (args := #[.pointer (some ⟨rb, 0, none⟩)]) (by simp) (by simp [go_sem]) ?_
    refine (leave_any rb tb T cap i' o c' _ w3 hr3 (by omega)).mono ?_
    rintro e' u' w4 ⟨rfl, ⟨v', rfl⟩, hb4, hr4⟩
    simp only [fault, settle]
    refine ⟨(((HB2.out.b (Nat.le_refl _)).trans (hb3.mono HB2.out.size)).trans (hb4.b (Nat.le_trans HB2.out.size hb3.size))), rfl, i', c', hr4⟩
  | ok f d r c' =>
    have HX : Hid _ := hX
    clear hX
    go_enter_defers Tryz.func64, Tryz.ntmps64
    go_wp2_with fail
    refine (take_any rb tb T cap i o c xs _ _ (HA.out.alloc _).reader HA.out.hT (by have := HA.out.hTm; omega) (HA.out.alloc _).row Hx.out).mono ?_
    rintro e' w1 ⟨rfl, hr1, hb1⟩
    have hl1 := hr1.lt
    have q1 : w1.heap[w.heap.size]? = some Z5 := (hb1.block _ (by simp) (by omega)).trans (World.alloc_heap_new _ _)
    go_wp2_with fail
    refine (enter_ok rb tb T cap (i + 1) o c 1 ⟨1, text, n, pos⟩ _ (hr1.kept (Below.heap_alloc _ _ _ hl1)) (by omega) hc1 (by omega) hc).mono ?_
    rintro e' w2 ⟨⟨v, rfl⟩, hb2, hr2⟩
    have B2 : But rb w w2 := (((But.refl _ _).alloc _).trans hb1).alloc _ |>.trans hb2
    have A2 : At rb tb T cap xs w2 (i + 1) (o + 1) (c + 1) ts' := HA.out.moved hr2 (B2.block _ HA.out.row.1 HA.out.ne.symm) B2.size Htl.out hE (by omega) (by omega)
    have hlq := (Array.getElem?_eq_some_iff.1 q1).1
    have q2 : w2.heap[w.heap.size]? = some Z5 := (hb2.block _ (by simp; omega) (by omega)).trans ((Below.heap_alloc _ _ _ hlq).trans q1)
    have HB2 : Hid (But rb w w2) := B2
    clear hb1 hb2 hr1 q1 hlq
    go_wp2_with fail
    refine (HL.out w2 (i + 1) (o + 1) (c + 1) ts' A2 hN).mono ?_
    rw [HX.out]
    rintro e' w3 ⟨hb3, k3, n3, t3, s3, d3, kv, hf, rfl, hr3, hT3⟩
    cases hf
    have hlq := (Array.getElem?_eq_some_iff.1 q2).1
    have q3 : w3.heap[w.heap.size]? = some Z5 := (hb3.block _ hlq (by omega)).trans q2
    obtain ⟨z0, z1, z2, z3, z4, zf⟩ := cells5 q3
    have zf0 := zf 0
    have zf1 := zf 1
    have zf2 := zf 2
    have zf3 := zf 3
    have zf4 := zf 4
    obtain ⟨ra3, cap3, rfl⟩ := hT3.slice
    have HQ3 : Hid _ := q3
    have HB3 : Hid (ButB w2.heap.size rb w2 w3) := hb3
    have HT3 : Hid (Tree w3 w2.heap.size (.slice ra3 f.len cap3) f) := hT3
    clear q2 q3 hb3 hT3 A2 zf
    go_wp2_with fail
    have h5 := five_at HQ3.out (.int .u8 5) (.int .i64 0) (.string ⟨#[]⟩) (.slice ra3 f.len cap3) (.bool d)
    have o5 : ∀ g, g ≠ w.heap.size → (five w.heap.size w3 (.int .u8 5) (.int .i64 0) (.string ⟨#[]⟩) (.slice ra3 f.len cap3) (.bool d)).heap[g]? = w3.heap[g]? := fun g hg => five_other hg _ _ _ _ _
    have s5 : (five w.heap.size w3 (.int .u8 5) (.int .i64 0) (.string ⟨#[]⟩) (.slice ra3 f.len cap3) (.bool d)).heap.size = w3.heap.size := five_size _ _ _ _ _
    have b5 : ButB w.heap.size rb w3 (five w.heap.size w3 (.int .u8 5) (.int .i64 0) (.string ⟨#[]⟩) (.slice ra3 f.len cap3) (.bool d)) := ⟨rfl, rfl, rfl, by omega, fun g hg _ => o5 g (by omega)⟩
    change bodyPostD _ _ _ _ _ (five w.heap.size w3 (.int .u8 5) (.int .i64 0) (.string ⟨#[]⟩) (.slice ra3 f.len cap3) (.bool d))
    obtain ⟨W5, hW5⟩ : ∃ W5, five w.heap.size w3 (.int .u8 5) (.int .i64 0) (.string ⟨#[]⟩) (.slice ra3 f.len cap3) (.bool d) = W5 := ⟨_, rfl⟩
    rw [hW5] at h5 o5 s5 b5 ⊢
    clear hW5 z0 z1 z2 z3 z4 zf0 zf1 zf2 zf3 zf4
    refine leaves_cons (f := 81) (args := #[.pointer (some ⟨rb, 0, none⟩)]) (by simp) (by simp [go_sem]) ?_
    refine (leave_any rb tb T cap (T - r.length) o c' _ W5 (hr3.kept (o5 _ (by omega))) (by omega)).mono ?_
    rintro e' u' w4 ⟨rfl, ⟨v', rfl⟩, hb4, hr4⟩
    have hl3 : w.heap.size < w3.heap.size := Nat.lt_of_lt_of_le hlq HB3.out.size
    have q4 := (hb4.block w.heap.size (by omega) (by omega)).trans h5
    obtain ⟨y0, y1, y2, y3, y4, _⟩ := cells5 q4
    refine ⟨.agg #[.int .u8 5, .int .i64 0, .string ⟨#[]⟩, .slice ra3 f.len cap3, .bool d], by simp [results, Tryz.results64, go_sem, y0, y1, y2, y3, y4], ?_⟩
    refine ⟨(((HB2.out.b (Nat.le_refl _)).trans (HB3.out.mono HB2.out.size)).trans b5).trans (hb4.b (by omega)), 5, 0, [], f, d, _, rfl, rfl, hr4, ?_⟩
    exact (HT3.out.kept (fun g hg hg' => (hb4.block g (by omega) (by have := HB2.out.size; omega)).trans (o5 g (by omega)))).mono HB2.out.size
end Go.Proofs.YtlpdfifjdlfpdaaGreatDoor

/- The reader's symbol and list. -/
namespace Go.Proofs.YtlpdfifjdlfpdaaGreatDoor
open Go.RowKit

set_option maxHeartbeats 1000000 in
theorem symbol_any (text : ByteArray) (w : World) : Calls Tryz.prog 85 #[.string text] w fun e w' => e = .returned (.agg #[.int .u8 2, .int .i64 0, .string text, .slice none 0 0, .bool false]) ∧ Below w.heap.size w w' := by
  go_enter Tryz.func85, Tryz.ntmps85
  go_wp2
  refine bodyPost_ret (v := .agg #[.int .u8 2, .int .i64 0, .string text, .slice none 0 0, .bool false]) (by simp [results, Tryz.results85, go_sem]) rfl ⟨rfl, ?_⟩
  exact (Below.refl _ _).alloc (Nat.le_refl _) _

set_option maxHeartbeats 1000000 in
theorem list_any (ra : Option Addr) (n c : Nat) (w : World) : Calls Tryz.prog 98 #[.slice ra n c] w fun e w' => e = .returned (.agg #[.int .u8 5, .int .i64 0, .string ⟨#[]⟩, .slice ra n c, .bool false]) ∧ Below w.heap.size w w' := by
  go_enter Tryz.func98, Tryz.ntmps98
  go_wp2
  refine bodyPost_ret (v := .agg #[.int .u8 5, .int .i64 0, .string ⟨#[]⟩, .slice ra n c, .bool false]) (by simp [results, Tryz.results98, go_sem]) rfl ⟨rfl, ?_⟩
  exact (Below.refl _ _).alloc (Nat.le_refl _) _
end Go.Proofs.YtlpdfifjdlfpdaaGreatDoor

/- Trees that grow. -/
namespace Go.Proofs.YtlpdfifjdlfpdaaGreatDoor
open Go.RowKit

theorem Fo.len0 {f : Fo} (h : f.len = 0) : f = .nil := by cases f with | nil => rfl | cons k n t s d r => simp [Fo.len] at h

/-- A new row. -/
theorem tree_new {W : World} {base : Nat} {f : Fo} {cs : List Value} {bs : List Nat} (hr : Row W base f cs bs) (hn : bs.Nodup) (hb : base ≤ W.heap.size) (hm : f.len ≤ 1000000) (a : Array Value) (ha : a.toList = cs) :
    Tree (W.alloc (.cells a 58)) base (.slice (some ⟨W.heap.size, 0, none⟩) f.len f.len) f := by
  refine ⟨cs, bs, ⟨hr.len, .inr ⟨W.heap.size, f.len, a, rfl, hb, World.alloc_heap_new _ _, Nat.le_refl _, by unfold maxLen; omega, ?_, ?_⟩⟩, hr.kept (fun g hg => Below.heap_alloc _ _ _ (hr.lt g hg).2), ?_⟩
  · rw [← Array.length_toList, ha]; exact hr.len
  · rw [ha, ← hr.len, List.take_length]
  · show ([W.heap.size] ++ bs).Nodup
    rw [List.singleton_append, List.nodup_cons]
    exact ⟨fun h => by have := (hr.lt _ h).2; omega, hn⟩

/-- A row made longer. -/
theorem tree_append {W w' : World} {base n m : Nat} {v v' : Value} {f g : Fo} {cs news : List Value} {bs nbs : List Nat} (_ : W.ownsRow base 58 5 v n cs) (hr : Row W base f cs bs) (hd : (own1 v ++ bs).Nodup) (hn : Row W base g news nbs) (hnd : nbs.Nodup)
    (hdis : ∀ x ∈ nbs, x ∉ own1 v ++ bs) (hf : f.len = n) (hg : g.len = m) (hown : w'.ownsRow base 58 5 v' (n + m) (cs ++ news)) (hgr : W.grownBy w' v.ownBlock) (hw : v'.ownBlock = v.ownBlock ∨ v'.ownBlock = some W.heap.size) :
    w'.ownsRow base 58 5 v' (f.app g).len (cs ++ news) ∧ Row w' base (f.app g) (cs ++ news) (bs ++ nbs) ∧ (own1 v' ++ (bs ++ nbs)).Nodup := by
  have hvb : ∀ x ∈ bs ++ nbs, some x ≠ v.ownBlock := by
    intro x hx e
    have hm : x ∈ own1 v := mem_own1.2 e.symm
    rcases List.mem_append.1 hx with h | h
    · exact (List.nodup_append.1 hd).2.2 x hm x h rfl
    · exact hdis x h (List.mem_append_left _ hm)
  have hlt : ∀ x ∈ bs ++ nbs, x < W.heap.size := by
    intro x hx
    rcases List.mem_append.1 hx with h | h
    · exact (hr.lt x h).2
    · exact (hn.lt x h).2
  refine ⟨by rw [Fo.len_app, hf, hg]; exact hown, (hr.app hn).kept (fun x hx => hgr.block x (hlt x hx) (hvb x hx)), ?_⟩
  rw [List.nodup_append]
  refine ⟨?_, ?_, ?_⟩
  · unfold own1; cases v'.ownBlock <;> simp
  · rw [List.nodup_append]
    refine ⟨(List.nodup_append.1 hd).2.1, hnd, fun x hx y hy e => ?_⟩
    subst e
    exact hdis x hy (List.mem_append_right _ hx)
  · intro x hx y hy e
    subst e
    rw [mem_own1] at hx
    rcases hw with h | h
    · rw [h] at hx; exact hvb x hy hx.symm
    · rw [h] at hx
      have := hlt x hy
      simp at hx; omega
theorem Row.alloc {w : World} {base : Nat} {f : Fo} {cs : List Value} {bs : List Nat} (h : Row w base f cs bs) (o : Obj) : Row (w.alloc o) base f cs bs := h.kept (fun g hg => Below.heap_alloc _ _ _ (h.lt g hg).2)
/-- A tree kept, block by block. -/
theorem tree_kept {w w' : World} {base : Nat} {v : Value} {f : Fo} {cs : List Value} {bs : List Nat} (h : w.ownsRow base 58 5 v f.len cs ∧ Row w base f cs bs ∧ (own1 v ++ bs).Nodup) (hk : ∀ g ∈ own1 v ++ bs, w'.heap[g]? = w.heap[g]?) : Tree w' base v f :=
  ⟨cs, bs, own_same h.1 (fun g hg => hk g (List.mem_append_left _ (mem_own1.2 hg))), h.2.1.kept (fun g hg => hk g (List.mem_append_right _ hg)), h.2.2⟩
/-- A tree made longer in a world X that holds what w4 held; rblk: a block that is none of the tree's. -/
theorem grow_tree {w4 X w6 : World} {base nb rblk nq m gg cap6 : Nat} {v : Value} {f g' : Fo} {cs news : List Value} {bs nbs : List Nat} (hk : ∀ g, g < w4.heap.size → X.heap[g]? = w4.heap[g]?) (hs : w4.heap.size ≤ X.heap.size)
    (Ho5 : w4.ownsRow base 58 5 v nq cs) (Hr5 : Row w4 base f cs bs) (Hnd : (own1 v ++ bs).Nodup) (Hn5 : Row w4 nb g' news nbs) (Hnnd : nbs.Nodup) (hbn : base ≤ nb) (hvlt : ∀ g, v.ownBlock = some g → g < rblk) (hblt : ∀ g ∈ bs, g < rblk) (hrn : rblk < nb) (hr4 : rblk < w4.heap.size)
    (hf : f.len = nq) (hg : g'.len = m) (hown : w6.ownsRow base 58 5 (.slice (some ⟨gg, 0, none⟩) (nq + m) cap6) (nq + m) (cs ++ news)) (hgr : X.grownBy w6 v.ownBlock) (hat : v.ownBlock = some gg ∨ gg = X.heap.size) :
    (∀ W5 : World, (∀ g, g ≠ rblk → W5.heap[g]? = w6.heap[g]?) → Tree W5 base (.slice (some ⟨gg, 0, none⟩) (nq + m) cap6) (f.app g')) ∧ (∀ y, y < w4.heap.size → v.ownBlock ≠ some y → w6.heap[y]? = w4.heap[y]?) := by
  have hX : ∀ g, g < w4.heap.size → X.heap[g]? = w4.heap[g]? := hk
  have HTX := tree_append (own_same Ho5 (fun g hg => hX g (Ho5.lt g hg).2)) (Hr5.kept (fun g hg => hX g (Hr5.lt g hg).2)) Hnd ((Hn5.kept (fun g hg => hX g (Hn5.lt g hg).2)).mono hbn) Hnnd
    (fun y hy hm => by
      have h1 := (Hn5.lt y hy).1
      rcases List.mem_append.1 hm with h | h
      · have := hvlt y (mem_own1.1 h); omega
      · have := hblt y h; omega) hf hg hown hgr (hat.imp (fun h => h.symm) (fun h => by rw [h]; rfl))
  refine ⟨fun W5 h5 => tree_kept HTX (fun y hy => h5 y ?_), fun y hy hv => (hgr.block y (by omega) (fun e => hv e.symm)).trans (hX y hy)⟩
  rintro rfl
  rcases List.mem_append.1 hy with h | h
  · have hg' : gg = y := by simpa [Value.ownBlock] using mem_own1.1 h
    rcases hat with h2 | h2
    · have := hvlt gg h2; omega
    · omega
  · rcases List.mem_append.1 h with h2 | h2
    · have := hblt _ h2; omega
    · have := (Hn5.lt _ h2).1; omega
end Go.Proofs.YtlpdfifjdlfpdaaGreatDoor

/- A function whose result lies in five cells, at its end. -/
namespace Go.Proofs.YtlpdfifjdlfpdaaGreatDoor
open Go.RowKit

theorem ButB.refl (B rb : Nat) (w : World) : ButB B rb w w := ⟨rfl, rfl, rfl, Nat.le_refl _, fun _ _ _ => rfl⟩
theorem ButB.set {B rb b o : Nat} {w w' : World} (h : ButB B rb w w') (hB : B ≤ b) (v : Value) : ButB B rb w (w'.setCell ⟨b, o, none⟩ v) :=
  h.trans ⟨rfl, rfl, rfl, by simp [World.setCell], fun g hg _ => Below.heap_setCell _ _ _ _ (by show g ≠ b; omega)⟩
theorem results5 {fn : Func} {tmps : Array Value} {s b : Nat} {v0 v1 v2 v3 v4 : Value} {W : World} (hres : fn.results = #[.cell s 58]) (hs : tmps[s]? = some (.pointer (some ⟨b, 0, none⟩)))
    (h : W.heap[b]? = some (.cells #[v0, v1, v2, v3, v4] 58 (0, 0))) : (results fn tmps).run Tryz.prog W = .ok (.agg #[v0, v1, v2, v3, v4]) W := by
  obtain ⟨y0, y1, y2, y3, y4, _⟩ := cells5 h
  obtain ⟨hlt, he⟩ := Array.getElem?_eq_some_iff.1 hs
  simp [results, hres, go_sem, y0, y1, y2, y3, y4, hlt, he]

theorem bodyPost_five {fn : Func} {R : Ending → World → Prop} {a : Act} {s b : Nat} {w6 : World} {a0 a1 a2 a3 a4 v0 v1 v2 v3 v4 : Value} (hres : fn.results = #[.cell s 58]) (hs : a.tmps[s]? = some (.pointer (some ⟨b, 0, none⟩))) (hd : a.defers = [])
    (h : w6.heap[b]? = some (.cells #[a0, a1, a2, a3, a4] 58 (0, 0)))
    (hR : ∀ W5 : World, (∀ g, g ≠ b → W5.heap[g]? = w6.heap[g]?) → (∀ B rb, B ≤ b → ButB B rb w6 W5) → R (.returned (.agg #[v0, v1, v2, v3, v4])) W5) :
    bodyPost Tryz.prog fn R .ret a (((((w6.setCell ⟨b, 0, none⟩ v0).setCell ⟨b, 1, none⟩ v1).setCell ⟨b, 2, none⟩ v2).setCell ⟨b, 3, none⟩ v3).setCell ⟨b, 4, none⟩ v4) := by
  have h5 := five_at h v0 v1 v2 v3 v4
  have o5 : ∀ g, g ≠ b → (five b w6 v0 v1 v2 v3 v4).heap[g]? = w6.heap[g]? := fun g hg => five_other hg _ _ _ _ _
  have b5 : ∀ B rb, B ≤ b → ButB B rb w6 (five b w6 v0 v1 v2 v3 v4) := fun B rb hB => (((((ButB.refl B rb w6).set hB v0).set hB v1).set hB v2).set hB v3).set hB v4
  unfold five at h5 o5 b5
  generalize ((((w6.setCell ⟨b, 0, none⟩ v0).setCell ⟨b, 1, none⟩ v1).setCell ⟨b, 2, none⟩ v2).setCell ⟨b, 3, none⟩ v3).setCell ⟨b, 4, none⟩ v4 = W5 at h5 o5 b5 ⊢
  exact ⟨hd, _, results5 hres hs h5, hR W5 o5 b5⟩
theorem bodyPost_fiveA {fn : Func} {R : Ending → World → Prop} {a : Act} {s b : Nat} {w6 : World} {tk : Obj} {a0 a1 a2 a3 a4 v0 v1 v2 v3 v4 : Value} (hres : fn.results = #[.cell s 58]) (hs : a.tmps[s]? = some (.pointer (some ⟨b, 0, none⟩))) (hd : a.defers = [])
    (h : w6.heap[b]? = some (.cells #[a0, a1, a2, a3, a4] 58 (0, 0)))
    (hR : ∀ W5 : World, (∀ g, g < w6.heap.size → g ≠ b → W5.heap[g]? = w6.heap[g]?) → (∀ B rb, B ≤ b → ButB B rb w6 W5) → R (.returned (.agg #[v0, v1, v2, v3, v4])) W5) :
    bodyPost Tryz.prog fn R .ret a ((((((w6.setCell ⟨b, 0, none⟩ v0).setCell ⟨b, 1, none⟩ v1).setCell ⟨b, 2, none⟩ v2).setCell ⟨b, 3, none⟩ v3).setCell ⟨b, 4, none⟩ v4).alloc tk).drew := by
  have hlt := (Array.getElem?_eq_some_iff.1 h).1
  have h5 := five_at h v0 v1 v2 v3 v4
  have o5 : ∀ g, g ≠ b → (five b w6 v0 v1 v2 v3 v4).heap[g]? = w6.heap[g]? := fun g hg => five_other hg _ _ _ _ _
  have s5 : (five b w6 v0 v1 v2 v3 v4).heap.size = w6.heap.size := five_size _ _ _ _ _
  have b5 : ∀ B rb, B ≤ b → ButB B rb w6 (five b w6 v0 v1 v2 v3 v4) := fun B rb hB => (((((ButB.refl B rb w6).set hB v0).set hB v1).set hB v2).set hB v3).set hB v4
  unfold five at h5 o5 b5 s5
  generalize ((((w6.setCell ⟨b, 0, none⟩ v0).setCell ⟨b, 1, none⟩ v1).setCell ⟨b, 2, none⟩ v2).setCell ⟨b, 3, none⟩ v3).setCell ⟨b, 4, none⟩ v4 = W5 at h5 o5 b5 s5 ⊢
  have k : ∀ g, g < W5.heap.size → (W5.alloc tk).drew.heap[g]? = W5.heap[g]? := fun g hg => Below.heap_alloc _ _ _ hg
  exact ⟨hd, _, results5 hres hs ((k b (by omega)).trans h5), hR _ (fun g hg hne => (k g (by omega)).trans (o5 g hne)) (fun B rb hB => (b5 B rb hB).trans ((((But.refl rb W5).alloc tk).drew).b (by omega)))⟩
end Go.Proofs.YtlpdfifjdlfpdaaGreatDoor
