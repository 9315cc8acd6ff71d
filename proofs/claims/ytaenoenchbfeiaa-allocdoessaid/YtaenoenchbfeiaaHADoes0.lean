/- Two Allocs, the document's two, one book. -/
import Derived.Test.YtaenoenchbfeiaaHAStep
namespace Go.Proofs.Ytaenoenchbfeiaa
open Go.RowKit

structure DS (w0 w : World) (a r bk : Nat) (o : Option (Nat × Nat)) (N M : Nat) (A : Al) (n : Nat) (F F2 G : Nat → Prop) : Prop where
  mx : MX w a r bk A A n M F G
  inv : Inv A
  le : n ≤ N
  sec : ∀ b s, o = some (b, s) → ∃ A2 n2, MX w b s bk A2 A2 n2 M F2 G ∧ Inv A2 ∧ n2 ≤ N
  dis : ∀ g, F g → ¬ F2 g
  non : o = none → ∀ g, ¬ F2 g
  bel : Below w0.heap.size w0 w
  low : ∀ g, F g ∨ F2 g ∨ G g → w0.heap.size ≤ g
def DSX (w0 w : World) (a r bk : Nat) (o : Option (Nat × Nat)) (N M : Nat) : Prop := ∃ A n F F2 G, DS w0 w a r bk o N M A n F F2 G
theorem low_of {w0 w w' : World} {U U' : Nat → Prop} (hb : Below w0.heap.size w0 w) (h : Chg U U' w w') (hl : ∀ g, U g → w0.heap.size ≤ g) : Below w0.heap.size w0 w' ∧ ∀ g, U' g → w0.heap.size ≤ g := by
  have hs := hb.size
  refine ⟨⟨((hb.mono (Nat.zero_le _)).trans h.2.1).os, ((hb.mono (Nat.zero_le _)).trans h.2.1).tape, ((hb.mono (Nat.zero_le _)).trans h.2.1).output, Nat.le_trans hs h.2.1.size, fun g hg => (h.1 g (by omega) (fun hU => by have := hl g hU; omega)).trans (hb.block g hg)⟩, fun g hg => ?_⟩
  rcases h.2.2 g hg with h' | h'
  · exact hl g h'
  · omega
theorem MX.book {w : World} {a r b : Nat} {A A' : Al} {n M : Nat} {F G : Nat → Prop} (h : MX w a r b A A' n M F G) : Bks w b M G ∧ ∀ g, F g → ¬ G g := by
  obtain ⟨ga, gm, gf, cf, vr, gr, vw, hA, hR, hF, hd, hB, hFG⟩ := h
  exact ⟨hB, hFG⟩
/-- The other pair stays. -/
theorem MX.beside {w w' : World} {b s bk : Nat} {A2 A2' : Al} {n2 M M' : Nat} {F F' F2 G G' : Nat → Prop} (h : MX w b s bk A2 A2' n2 M F2 G) (hd : ∀ g, F2 g → ¬ F g) (hc : Chg (Un F G) (Un F' G') w w') (hB : Bks w' bk M' G') : MX w' b s bk A2 A2' n2 M' F2 G' := by
  have hlt := h.lt
  obtain ⟨ga, gm, gf, cf, vr, gr, vw, hA, hR, hF, hdd, hB0, hFG⟩ := h
  have off : ∀ g, F2 g → ¬ Un F G g := fun g hg hU => by
    rcases hU with hU | hU
    · exact hd g hg hU
    · exact hFG g hg hU
  have k : ∀ g, F2 g → w'.heap[g]? = w.heap[g]? := fun g hg => hc.1 g (hlt g (.inl hg)) (off g hg)
  exact ⟨ga, gm, gf, cf, vr, gr, vw, hA.kept (fun g hg => k g ((hF g).2 (.inl hg))), hR.kept (fun g hg => k g ((hF g).2 (.inr hg))), hF, hdd, hB, fun g hg hG => hc.off (hlt g (.inl hg)) (off g hg) (.inr hG)⟩
theorem DS.first {w0 w w' : World} {a r bk : Nat} {o : Option (Nat × Nat)} {N N' M M' : Nat} {A A' : Al} {n n' : Nat} {F F' F2 G G' : Nat → Prop} (h : DS w0 w a r bk o N M A n F F2 G) (hx : MX w' a r bk A' A' n' M' F' G') (hi : Inv A') (hn : n' ≤ N') (hN : N ≤ N') (hc : Chg (Un F G) (Un F' G') w w') (hl2 : ∀ g, F2 g → g < w.heap.size) : DS w0 w' a r bk o N' M' A' n' F' F2 G' := by
  obtain ⟨hb, hl⟩ := low_of h.bel hc (fun g hg => h.low g (by
    rcases hg with hg | hg
    · exact .inl hg
    · exact .inr (.inr hg)))
  refine ⟨hx, hi, hn, fun b s e => ?_, fun g hg hg2 => ?_, h.non, hb, fun g hg => ?_⟩
  · obtain ⟨A2, n2, h2, hi2, hn2⟩ := h.sec b s e
    exact ⟨A2, n2, h2.beside (fun g hg hF => h.dis g hF hg) hc hx.book.1, hi2, by omega⟩
  · rcases hc.2.2 g (.inl hg) with h' | h'
    · rcases h' with h' | h'
      · exact h.dis g h' hg2
      · cases ho : o with
        | none => exact h.non ho g hg2
        | some p =>
          obtain ⟨A2, n2, h2, _⟩ := h.sec p.1 p.2 ho
          exact h2.book.2 g hg2 h'
    · have := hl2 g hg2
      omega
  · rcases hg with hg | hg | hg
    · exact hl g (.inl hg)
    · exact h.low g (.inr (.inl hg))
    · exact hl g (.inr hg)
theorem DS.lt2 {w0 w : World} {a r bk : Nat} {o : Option (Nat × Nat)} {N M : Nat} {A : Al} {n : Nat} {F F2 G : Nat → Prop} (h : DS w0 w a r bk o N M A n F F2 G) : ∀ g, F2 g → g < w.heap.size := fun g hg => by
  cases ho : o with
  | none => exact absurd hg (h.non ho g)
  | some p =>
    obtain ⟨A2, n2, h2, _⟩ := h.sec p.1 p.2 ho
    exact h2.lt g (.inl hg)
theorem DS.second {w0 w w' : World} {a r bk b s : Nat} {N N' M M' : Nat} {A A2 A2' : Al} {n n2 n2' : Nat} {F F2 F2' G G' : Nat → Prop} (h : DS w0 w a r bk (some (b, s)) N M A n F F2 G) (_ : MX w b s bk A2 A2 n2 M F2 G) (hx : MX w' b s bk A2' A2' n2' M' F2' G') (hi : Inv A2') (hn : n2' ≤ N') (hN : N ≤ N') (hc : Chg (Un F2 G) (Un F2' G') w w') : DS w0 w' a r bk (some (b, s)) N' M' A n F F2' G' := by
  obtain ⟨hb, hl⟩ := low_of h.bel hc (fun g hg => h.low g (by
    rcases hg with hg | hg
    · exact .inr (.inl hg)
    · exact .inr (.inr hg)))
  have hle := h.le
  refine ⟨h.mx.beside (fun g hg hF => h.dis g hg hF) hc hx.book.1, h.inv, by omega, fun b' s' e => ?_, fun g hg hg2 => ?_, (fun e => by cases e), hb, fun g hg => ?_⟩
  · cases e
    exact ⟨A2', n2', hx, hi, hn⟩
  · rcases hc.2.2 g (.inl hg2) with h' | h'
    · rcases h' with h' | h'
      · exact h.dis g hg h'
      · exact h.mx.book.2 g hg h'
    · have := h.mx.lt g (.inl hg)
      omega
  · rcases hg with hg | hg | hg
    · exact h.low g (.inl hg)
    · exact hl g (.inl hg)
    · exact hl g (.inr hg)
theorem ds_step1 {w0 w : World} {a r bk : Nat} {o : Option (Nat × Nat)} {N M : Nat} (h : DSX w0 w a r bk o N M) (hN : N ≤ 900000) (hM : M ≤ 700000) (k x y : Int) :
    Calls Try.prog 9 #[.pointer (some ⟨a, 0, none⟩), .pointer (some ⟨r, 0, none⟩), .agg #[.int .i64 k, .int .i64 x, .int .i64 y], .pointer (some ⟨bk, 0, none⟩)] w fun e w' => e = .returned (.bool true) ∧ DSX w0 w' a r bk o (N + 1) (M + 4) := by
  obtain ⟨A, n, F, F2, G, h⟩ := h
  have hle := h.le
  refine (step_any h.mx h.inv (by omega) hM k x y).mono fun e w' hh => ⟨hh.1, ?_⟩
  obtain ⟨A', n', F', G', hx, hi, hn, hc⟩ := hh.2
  exact ⟨A', n', F', F2, G', h.first hx hi (by omega) (by omega) hc h.lt2⟩
theorem ds_step2 {w0 w : World} {a r bk b s : Nat} {N M : Nat} (h : DSX w0 w a r bk (some (b, s)) N M) (hN : N ≤ 900000) (hM : M ≤ 700000) (k x y : Int) :
    Calls Try.prog 9 #[.pointer (some ⟨b, 0, none⟩), .pointer (some ⟨s, 0, none⟩), .agg #[.int .i64 k, .int .i64 x, .int .i64 y], .pointer (some ⟨bk, 0, none⟩)] w fun e w' => e = .returned (.bool true) ∧ DSX w0 w' a r bk (some (b, s)) (N + 1) (M + 4) := by
  obtain ⟨A, n, F, F2, G, h⟩ := h
  obtain ⟨A2, n2, h2, hi2, hn2⟩ := h.sec b s rfl
  refine (step_any h2 hi2 (by omega) hM k x y).mono fun e w' hh => ⟨hh.1, ?_⟩
  obtain ⟨A', n', F', G', hx, hi, hn, hc⟩ := hh.2
  exact ⟨A, n, F, F', G', h.second h2 hx hi (by omega) (by omega) hc⟩
theorem ds_looks1 {w0 w : World} {a r bk : Nat} {o : Option (Nat × Nat)} {N M : Nat} (h : DSX w0 w a r bk o N M) (hM : M ≤ 700000) :
    Calls Try.prog 10 #[.pointer (some ⟨a, 0, none⟩), .pointer (some ⟨r, 0, none⟩), .pointer (some ⟨bk, 0, none⟩)] w fun e w' => e = .returned (.bool true) ∧ DSX w0 w' a r bk o N (M + 4) := by
  obtain ⟨A, n, F, F2, G, h⟩ := h
  refine (looks_any h.mx h.inv (by omega)).mono fun e w' hh => ⟨hh.1, ?_⟩
  obtain ⟨G', hx, hc⟩ := hh.2
  exact ⟨A, n, F, F2, G', h.first hx h.inv h.le (Nat.le_refl _) hc h.lt2⟩
theorem ds_looks2 {w0 w : World} {a r bk b s : Nat} {N M : Nat} (h : DSX w0 w a r bk (some (b, s)) N M) (hM : M ≤ 700000) :
    Calls Try.prog 10 #[.pointer (some ⟨b, 0, none⟩), .pointer (some ⟨s, 0, none⟩), .pointer (some ⟨bk, 0, none⟩)] w fun e w' => e = .returned (.bool true) ∧ DSX w0 w' a r bk (some (b, s)) N (M + 4) := by
  obtain ⟨A, n, F, F2, G, h⟩ := h
  obtain ⟨A2, n2, h2, hi2, hn2⟩ := h.sec b s rfl
  refine (looks_any h2 hi2 (by omega)).mono fun e w' hh => ⟨hh.1, ?_⟩
  obtain ⟨G', hx, hc⟩ := hh.2
  exact ⟨A, n, F, F2, G', h.second h2 hx hi2 hn2 (Nat.le_refl _) hc⟩
/-- An Alloc and the document's alone. -/
def DE (w0 w : World) (a r k : Nat) : Prop := ∃ A n ga gm gf cf vr gr vw, n ≤ k ∧ AL w a ga gm gf cf vr n A ∧ RL w r gr vw A ∧ Inv A ∧ (∀ g, Ft a ga gm gf vr g → ¬ Rt r gr vw g) ∧ Below w0.heap.size w0 w ∧ ∀ g, Ft a ga gm gf vr g ∨ Rt r gr vw g → w0.heap.size ≤ g
theorem DE.quiet {w0 w w' : World} {a r k : Nat} (h : DE w0 w a r k) (hb : Below w.heap.size w w') : DE w0 w' a r k := by
  obtain ⟨A, n, ga, gm, gf, cf, vr, gr, vw, hnk, hA, hR, hI, hd, hb0, hl⟩ := h
  exact ⟨A, n, ga, gm, gf, cf, vr, gr, vw, hnk, hA.kept (fun g hg => hb.block g (hA.lt g hg)), hR.kept (fun g hg => hb.block g (hR.lt g hg)), hI, hd, hb0.trans (hb.mono hb0.size), hl⟩
theorem ds_own {w0 w : World} {a r bk : Nat} {o : Option (Nat × Nat)} {N M : Nat} (h : DSX w0 w a r bk o N M) (hM : M ≤ 700000) :
    Calls Try.prog 11 #[.pointer (some ⟨bk, 0, none⟩)] w fun e w' => e = .returned (.bool true) ∧ DE w0 w' a r N := by
  obtain ⟨A, n, F, F2, G, h⟩ := h
  have hlt := h.mx.lt
  have hsz := h.bel.size
  have hlow := h.low
  have hbel := h.bel
  have hinv := h.inv
  obtain ⟨ga, gm, gf, cf, vr, gr, vw, hA, hR, hF, hd, ⟨vi, vW, Ni, Nw, Vi, Vw, hB, hNi, hNw, hG⟩, hFG⟩ := h.mx
  have hq : ∀ g, G g → ¬ (g < w0.heap.size ∨ F g) := fun g hg hh => by
    rcases hh with hh | hh
    · have := hlow g (.inr (.inr hg)); omega
    · exact hFG g hh hg
  refine (bookOwn_any (fun g => g < w0.heap.size ∨ F g) bk vi vW Ni Nw Vi Vw w (by omega) (by omega) (fun g hg => ?_) hB (fun j hj g hg => hq g ((hG g).2 (.inr (.inl (.inr ⟨j, hj, hg⟩))))) (fun j hj g hg => hq g ((hG g).2 (.inr (.inr (.inr ⟨j, hj, hg⟩)))))).mono fun e w' hh => ⟨hh.1, ?_⟩
  · rcases hg with hg | hg
    · omega
    · exact hlt g (.inl hg)
  · have k : ∀ g, F g → w'.heap[g]? = w.heap[g]? := fun g hg => hh.2.2 g (.inr hg) (hlt g (.inl hg))
    refine ⟨A, n, ga, gm, gf, cf, vr, gr, vw, h.le, hA.kept (fun g hg => k g ((hF g).2 (.inl hg))), hR.kept (fun g hg => k g ((hF g).2 (.inr hg))), hinv, hd, ?_, fun g hg => hlow g (.inl ((hF g).2 hg))⟩
    have hc := (hbel.mono (Nat.zero_le _)).trans hh.2.1
    exact ⟨hc.os, hc.tape, hc.output, hc.size, fun g hg => (hh.2.2 g (.inl hg) (by omega)).trans (hbel.block g hg)⟩
def bk0 : Obj := .cells #[.slice none 0 0, .slice none 0 0, .slice none 0 0, .slice none 0 0, .slice none 0 0, .slice none 0 0, .slice none 0 0, .slice none 0 0, .slice none 0 0, .slice none 0 0, .slice none 0 0, .slice none 0 0, .slice none 0 0, .slice none 0 0, .slice none 0 0, .slice none 0 0, .slice none 0 0] 50
theorem bks_new (w : World) : Bks (w.alloc bk0) w.heap.size 0 (fun g => g = w.heap.size) := by
  refine ⟨.slice none 0 0, .slice none 0 0, 0, 0, fun _ => .slice none 0 0, fun _ => .slice none 0 0, ⟨⟨heap_alloc_new _ _⟩, ⟨fun _ => 0, fun _ => [], sh_nil _ _ _ _ _⟩, ⟨fun _ => 0, fun _ => [], sh_nil _ _ _ _ _⟩⟩, Nat.le_refl _, Nat.le_refl _, fun g => ⟨fun e => .inl e, fun e => ?_⟩⟩
  rcases e with e | e | e
  · exact e
  · rcases e with e | ⟨j, hj, _⟩
    · cases e
    · omega
  · rcases e with e | ⟨j, hj, _⟩
    · cases e
    · omega
/-- With a new book. -/
theorem de_mx {w0 w : World} {a r k : Nat} (h : DE w0 w a r k) : ∃ A n F, n ≤ k ∧ MX (w.alloc bk0) a r w.heap.size A A n 0 F (fun g => g = w.heap.size) ∧ Inv A ∧ Below w0.heap.size w0 (w.alloc bk0) ∧ (∀ g, F g → w0.heap.size ≤ g) ∧ ∀ g, F g → g < w.heap.size := by
  obtain ⟨A, n, ga, gm, gf, cf, vr, gr, vw, hnk, hA, hR, hI, hd, hb0, hl⟩ := h
  have hb := (Below.refl w.heap.size w).alloc (Nat.le_refl _) bk0
  refine ⟨A, n, fun g => Ft a ga gm gf vr g ∨ Rt r gr vw g, hnk, ⟨ga, gm, gf, cf, vr, gr, vw, hA.kept (fun g hg => hb.block g (hA.lt g hg)), hR.kept (fun g hg => hb.block g (hR.lt g hg)), fun g => Iff.rfl, hd, bks_new w, fun g hg e => ?_⟩, hI, hb0.trans (hb.mono hb0.size), hl, fun g hg => ?_⟩
  · subst e
    rcases hg with hg | hg
    · exact Nat.lt_irrefl _ (hA.lt _ hg)
    · exact Nat.lt_irrefl _ (hR.lt _ hg)
  · rcases hg with hg | hg
    · exact hA.lt g hg
    · exact hR.lt g hg
theorem de_looks {w0 w : World} {a r k : Nat} (h : DE w0 w a r k) :
    Calls Try.prog 10 #[.pointer (some ⟨a, 0, none⟩), .pointer (some ⟨r, 0, none⟩), .pointer (some ⟨w.heap.size, 0, none⟩)] (w.alloc bk0) fun e w' => e = .returned (.bool true) ∧ Below w0.heap.size w0 w' := by
  have hs : w0.heap.size ≤ w.heap.size := by
    obtain ⟨A, n, ga, gm, gf, cf, vr, gr, vw, hnk, hA, hR, hI, hd, hb0, hl⟩ := h
    exact hb0.size
  obtain ⟨A, n, F, _, hX, hI, hb, hl, _⟩ := de_mx h
  refine (looks_any hX hI (by omega)).mono fun e w' hh => ⟨hh.1, ?_⟩
  obtain ⟨G', hx, hc⟩ := hh.2
  exact (low_of hb hc (fun g hg => by
    rcases hg with hg | hg
    · exact hl g hg
    · have : g = w.heap.size := hg
      omega)).1
/-- What New and the document's New make. -/
theorem de_new {w0 w1 w2 : World} {m a ga gm gf cf r gr : Nat} (h0 : Below w0.heap.size w0 w1) (hm : m ≤ 4096) (hA : AL w1 a ga gm gf cf (.slice none 0 0) 0 (al0 m)) (hf : ∀ g, Ft a ga gm gf (.slice none 0 0) g → w0.heap.size ≤ g) (hR : RL w2 r gr (.slice none 0 0) (al0 m)) (hb : Below w1.heap.size w1 w2) (hr : ∀ g, Rt r gr (.slice none 0 0) g → w1.heap.size ≤ g) : DE w0 w2 a r 0 := by
  refine ⟨al0 m, 0, ga, gm, gf, cf, _, gr, _, Nat.le_refl _, hA.kept (fun g hg => hb.block g (hA.lt g hg)), hR, inv_new hm, fun g hg hg' => ?_, h0.trans (hb.mono h0.size), fun g hg => ?_⟩
  · have := hA.lt g hg
    have := hr g hg'
    omega
  · rcases hg with hg | hg
    · exact hf g hg
    · exact Nat.le_trans h0.size (hr g hg)
/-- The beginning, with one pair. -/
theorem ds_one {w0 w : World} {a r k : Nat} (h : DE w0 w a r k) : DSX w0 (w.alloc bk0) a r w.heap.size none k 0 := by
  have hs : w0.heap.size ≤ w.heap.size := by
    obtain ⟨A, n, ga, gm, gf, cf, vr, gr, vw, hnk, hA, hR, hI, hd, hb0, hl⟩ := h
    exact hb0.size
  obtain ⟨A, n, F, hnk, hX, hI, hb, hl, _⟩ := de_mx h
  refine ⟨A, n, F, fun _ => False, fun g => g = w.heap.size, hX, hI, hnk, (fun b s e => by cases e), fun _ _ e => e, fun _ _ e => e, hb, fun g hg => ?_⟩
  rcases hg with hg | hg | hg
  · exact hl g hg
  · exact hg.elim
  · have : g = w.heap.size := hg
    omega
/-- The beginning, with two. -/
theorem ds_two {w0 w1 w : World} {a r b s k : Nat} (h : DE w0 w1 a r k) (hbb : Below w1.heap.size w1 w) (h2 : DE w1 w b s k) : DSX w0 (w.alloc bk0) a r w.heap.size (some (b, s)) k 0 := by
  have hs2 := hbb.size
  obtain ⟨A2, n2, F2, hnk2, hX2, hI2, hb2, hl2, hlt2⟩ := de_mx h2
  obtain ⟨A, n, ga, gm, gf, cf, vr, gr, vw, hnk, hA, hR, hI, hd, hb0, hl⟩ := h
  have hs0 := hb0.size
  have hb := hbb.trans (((Below.refl w.heap.size w).alloc (Nat.le_refl _) bk0).mono hs2)
  refine ⟨A, n, fun g => Ft a ga gm gf vr g ∨ Rt r gr vw g, F2, fun g => g = w.heap.size, ⟨ga, gm, gf, cf, vr, gr, vw, hA.kept (fun g hg => hb.block g (hA.lt g hg)), hR.kept (fun g hg => hb.block g (hR.lt g hg)), fun g => Iff.rfl, hd, bks_new w, fun g hg e => ?_⟩, hI, hnk, (fun b' s' e => by cases e; exact ⟨A2, n2, hX2, hI2, hnk2⟩), fun g hg hg2 => ?_, (fun e => by cases e), hb0.trans (hb.mono hs0), fun g hg => ?_⟩
  · have e' : g = w.heap.size := e
    rcases hg with hg | hg
    · have := hA.lt g hg; omega
    · have := hR.lt g hg; omega
  · have h3 := hl2 g hg2
    rcases hg with hg | hg
    · have := hA.lt g hg; omega
    · have := hR.lt g hg; omega
  · rcases hg with hg | hg | hg
    · exact hl g hg
    · exact Nat.le_trans hs0 (hl2 g hg)
    · have : g = w.heap.size := hg
      omega
end Go.Proofs.Ytaenoenchbfeiaa
