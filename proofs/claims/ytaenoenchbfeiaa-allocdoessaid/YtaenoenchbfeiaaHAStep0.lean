/- Alloc, the document's, and the book, side by side. -/
import Derived.Test.YtaenoenchbfeiaaHABookPut
import Derived.Test.YtaenoenchbfeiaaHABookOwn
import Derived.Test.YtaenoenchbfeiaaHARefAsk
import Derived.Test.YtaenoenchbfeiaaHARefBack
import Derived.Test.YtaenoenchbfeiaaHARefFree
import Derived.Test.YtaenoenchbfeiaaHARefFin
namespace Go.Proofs.Ytaenoenchbfeiaa
open Go.RowKit

/-- What is F turns, nothing else; F' is F and new. -/
def Chg (F F' : Nat → Prop) (w w' : World) : Prop := (∀ g, g < w.heap.size → ¬ F g → w'.heap[g]? = w.heap[g]?) ∧ Below 0 w w' ∧ ∀ g, F' g → F g ∨ w.heap.size ≤ g
theorem Chg.trans {F F' F'' : Nat → Prop} {w w' w'' : World} (h : Chg F F' w w') (k : Chg F' F'' w' w'') : Chg F F'' w w'' := by
  refine ⟨fun g hg hn => (k.1 g (Nat.lt_of_lt_of_le hg h.2.1.size) (fun hF => ?_)).trans (h.1 g hg hn), h.2.1.trans k.2.1, fun g hg => ?_⟩
  · rcases h.2.2 g hF with h' | h'
    · exact hn h'
    · omega
  · rcases k.2.2 g hg with h' | h'
    · exact h.2.2 g h'
    · exact .inr (Nat.le_trans h.2.1.size h')
theorem Chg.quiet (F : Nat → Prop) {w w' : World} (h : Below w.heap.size w w') : Chg F F w w' := ⟨fun g hg _ => h.block g hg, h.mono (Nat.zero_le _), fun _ h => .inl h⟩
theorem Chg.off {F F' : Nat → Prop} {w w' : World} (h : Chg F F' w w') {g : Nat} (hg : g < w.heap.size) (hn : ¬ F g) : ¬ F' g := fun hF => by
  rcases h.2.2 g hF with h' | h'
  · exact hn h'
  · omega
def Bks (w : World) (b M : Nat) (G : Nat → Prop) : Prop := ∃ vi vw Ni Nw Vi Vw, Bo w b vi vw Ni Nw Vi Vw ∧ Ni ≤ M ∧ Nw ≤ M ∧ ∀ g, G g ↔ BoF b vi vw Ni Nw Vi Vw g
theorem Bks.lt {w : World} {b M : Nat} {G : Nat → Prop} (h : Bks w b M G) : ∀ g, G g → g < w.heap.size := fun g hg => by
  obtain ⟨vi, vw, Ni, Nw, Vi, Vw, h1, _, _, h2⟩ := h
  exact h1.lt g ((h2 g).1 hg)
theorem Bks.kept {w w' : World} {b M : Nat} {G : Nat → Prop} (h : Bks w b M G) (hk : ∀ g, G g → w'.heap[g]? = w.heap[g]?) : Bks w' b M G := by
  obtain ⟨vi, vw, Ni, Nw, Vi, Vw, h1, h3, h4, h2⟩ := h
  exact ⟨vi, vw, Ni, Nw, Vi, Vw, h1.kept (fun g hg => hk g ((h2 g).2 hg)), h3, h4, h2⟩
/-- An Alloc at A, the document's at A', the book. -/
def MX (w : World) (a r b : Nat) (A A' : Al) (n M : Nat) (F G : Nat → Prop) : Prop := ∃ ga gm gf cf vr gr vw, AL w a ga gm gf cf vr n A ∧ RL w r gr vw A' ∧ (∀ g, F g ↔ (Ft a ga gm gf vr g ∨ Rt r gr vw g)) ∧ (∀ g, Ft a ga gm gf vr g → ¬ Rt r gr vw g) ∧ Bks w b M G ∧ ∀ g, F g → ¬ G g
def Un (F G : Nat → Prop) (g : Nat) : Prop := F g ∨ G g
theorem MX.lt {w : World} {a r b : Nat} {A A' : Al} {n M : Nat} {F G : Nat → Prop} (h : MX w a r b A A' n M F G) : ∀ g, Un F G g → g < w.heap.size := fun g hg => by
  obtain ⟨ga, gm, gf, cf, vr, gr, vw, hA, hR, hF, hd, hB, hFG⟩ := h
  rcases hg with hg | hg
  · rcases (hF g).1 hg with hg | hg
    · exact hA.lt g hg
    · exact hR.lt g hg
  · exact hB.lt g hg
theorem MX.kept {w w' : World} {a r b : Nat} {A A' : Al} {n M : Nat} {F G : Nat → Prop} (h : MX w a r b A A' n M F G) (hk : ∀ g, Un F G g → w'.heap[g]? = w.heap[g]?) : MX w' a r b A A' n M F G := by
  obtain ⟨ga, gm, gf, cf, vr, gr, vw, hA, hR, hF, hd, hB, hFG⟩ := h
  exact ⟨ga, gm, gf, cf, vr, gr, vw, hA.kept (fun g hg => hk g (.inl ((hF g).2 (.inl hg)))), hR.kept (fun g hg => hk g (.inl ((hF g).2 (.inr hg)))), hF, hd, hB.kept (fun g hg => hk g (.inr hg)), hFG⟩
theorem MX.quiet {w w' : World} {a r b : Nat} {A A' : Al} {n M : Nat} {F G : Nat → Prop} (h : MX w a r b A A' n M F G) (hb : Below w.heap.size w w') : MX w' a r b A A' n M F G := h.kept (fun g hg => hb.block g (h.lt g hg))
theorem mx_alloc {w w' : World} {a r b ga gm gf cf gr : Nat} {vr vw : Value} {A A2 A' : Al} {n n' M : Nat} {F G : Nat → Prop} (_ : AL w a ga gm gf cf vr n A) (hR : RL w r gr vw A') (hF : ∀ g, F g ↔ (Ft a ga gm gf vr g ∨ Rt r gr vw g)) (hd : ∀ g, Ft a ga gm gf vr g → ¬ Rt r gr vw g) (hB : Bks w b M G) (hFG : ∀ g, F g → ¬ G g) (h : AR a ga gm gf cf vr n' A2 w w') :
    ∃ F', MX w' a r b A2 A' n' M F' G ∧ Chg (Un F G) (Un F' G) w w' := by
  obtain ⟨vr', h1, h2, h3, h4⟩ := h
  have hnew : ∀ g, Ft a ga gm gf vr' g → Ft a ga gm gf vr g ∨ w.heap.size ≤ g := fun g hg => by
    rcases hg with hg | hg
    · exact .inl (.inl hg)
    · rcases h4 g hg with h' | h'
      · exact .inl (.inr h')
      · exact .inr h'
  refine ⟨fun g => Ft a ga gm gf vr' g ∨ Rt r gr vw g, ⟨ga, gm, gf, cf, vr', gr, vw, h1, hR.kept (fun g hg => h2 g (hR.lt g hg) (fun e => hd g e hg)), fun g => Iff.rfl, fun g hg hr => ?_, hB.kept (fun g hg => h2 g (hB.lt g hg) (fun e => hFG g ((hF g).2 (.inl e)) hg)), fun g hg hG => ?_⟩, fun g hg hn => h2 g hg (fun e => hn (.inl ((hF g).2 (.inl e)))), h3, fun g hg => ?_⟩
  · rcases hnew g hg with h' | h'
    · exact hd g h' hr
    · have := hR.lt g hr; omega
  · rcases hg with hg | hg
    · rcases hnew g hg with h' | h'
      · exact hFG g ((hF g).2 (.inl h')) hG
      · have := hB.lt g hG; omega
    · exact hFG g ((hF g).2 (.inr hg)) hG
  · rcases hg with (hg | hg) | hg
    · rcases hnew g hg with h' | h'
      · exact .inl (.inl ((hF g).2 (.inl h')))
      · exact .inr h'
    · exact .inl (.inl ((hF g).2 (.inr hg)))
    · exact .inl (.inr hg)
theorem mx_ref {w w' : World} {a r b ga gm gf cf gr : Nat} {vr vw : Value} {A A2 A' : Al} {n M : Nat} {F G : Nat → Prop} (hA : AL w a ga gm gf cf vr n A) (_ : RL w r gr vw A') (hF : ∀ g, F g ↔ (Ft a ga gm gf vr g ∨ Rt r gr vw g)) (hd : ∀ g, Ft a ga gm gf vr g → ¬ Rt r gr vw g) (hB : Bks w b M G) (hFG : ∀ g, F g → ¬ G g) (h : RR r gr vw A2 w w') :
    ∃ F', MX w' a r b A A2 n M F' G ∧ Chg (Un F G) (Un F' G) w w' := by
  obtain ⟨vw', h1, h2, h3, h4⟩ := h
  have hnew : ∀ g, Rt r gr vw' g → Rt r gr vw g ∨ w.heap.size ≤ g := fun g hg => by
    rcases hg with hg | hg
    · exact .inl (.inl hg)
    · rcases h4 g hg with h' | h'
      · exact .inl (.inr h')
      · exact .inr h'
  refine ⟨fun g => Ft a ga gm gf vr g ∨ Rt r gr vw' g, ⟨ga, gm, gf, cf, vr, gr, vw', hA.kept (fun g hg => h2 g (hA.lt g hg) (hd g hg)), h1, fun g => Iff.rfl, fun g hg hr => ?_, hB.kept (fun g hg => h2 g (hB.lt g hg) (fun e => hFG g ((hF g).2 (.inr e)) hg)), fun g hg hG => ?_⟩, fun g hg hn => h2 g hg (fun e => hn (.inl ((hF g).2 (.inr e)))), h3, fun g hg => ?_⟩
  · rcases hnew g hr with h' | h'
    · exact hd g hg h'
    · have := hA.lt g hg; omega
  · rcases hg with hg | hg
    · exact hFG g ((hF g).2 (.inl hg)) hG
    · rcases hnew g hg with h' | h'
      · exact hFG g ((hF g).2 (.inr h')) hG
      · have := hB.lt g hG; omega
  · rcases hg with (hg | hg) | hg
    · exact .inl (.inl ((hF g).2 (.inl hg)))
    · rcases hnew g hg with h' | h'
      · exact .inl (.inl ((hF g).2 (.inr h')))
      · exact .inr h'
    · exact .inl (.inr hg)
variable {w : World} {a r b : Nat} {A A' : Al} {n M : Nat} {F G : Nat → Prop}
theorem mx_ask (h : MX w a r b A A' n M F G) (hI : Inv A) (t c : Int) :
    Calls Try.prog 19 #[.pointer (some ⟨a, 0, none⟩), .int .i64 t, .int .i64 c] w fun e w' => e = askE (askM A t c).1 ∧ ∃ F', MX w' a r b (askM A t c).2 A' n M F' G ∧ Chg (Un F G) (Un F' G) w w' := by
  obtain ⟨ga, gm, gf, cf, vr, gr, vw, hA, hR, hF, hd, hB, hFG⟩ := h
  have := row_le hI
  exact (ask_any a ga gm gf cf n vr A t c w hA hI (by omega)).mono fun e w' h => ⟨h.1, mx_alloc hA hR hF hd hB hFG h.2⟩
theorem mx_rask (h : MX w a r b A A' n M F G) (hI : Inv A') (t c : Int) :
    Calls Try.prog 22 #[.pointer (some ⟨r, 0, none⟩), .int .i64 t, .int .i64 c] w fun e w' => e = askE (askM A' t c).1 ∧ ∃ F', MX w' a r b A (askM A' t c).2 n M F' G ∧ Chg (Un F G) (Un F' G) w w' := by
  obtain ⟨ga, gm, gf, cf, vr, gr, vw, hA, hR, hF, hd, hB, hFG⟩ := h
  have := row_le hI
  exact (refAsk_any r gr vw A' t c w hR hI.len (by omega)).mono fun e w' h => ⟨h.1, mx_ref hA hR hF hd hB hFG h.2⟩
theorem mx_back (h : MX w a r b A A' n M F G) (hI : Inv A) (hn : n ≤ 1000000) (c : Int) :
    Calls Try.prog 20 #[.pointer (some ⟨a, 0, none⟩), .int .i64 c] w fun e w' => e = backE (backM A c).1 ∧ ∃ n', n' ≤ n + 1 ∧ ∃ F', MX w' a r b (backM A c).2 A' n' M F' G ∧ Chg (Un F G) (Un F' G) w w' := by
  obtain ⟨ga, gm, gf, cf, vr, gr, vw, hA, hR, hF, hd, hB, hFG⟩ := h
  exact (back_any a ga gm gf cf n vr A c w hA hI hn).mono fun e w' h => ⟨h.1, h.2.elim fun n' h' => ⟨n', h'.1, mx_alloc hA hR hF hd hB hFG h'.2⟩⟩
theorem mx_rback (h : MX w a r b A A' n M F G) (hI : Inv A') (c : Int) :
    Calls Try.prog 23 #[.pointer (some ⟨r, 0, none⟩), .int .i64 c] w fun e w' => e = backE (backM A' c).1 ∧ ∃ F', MX w' a r b A (backM A' c).2 n M F' G ∧ Chg (Un F G) (Un F' G) w w' := by
  obtain ⟨ga, gm, gf, cf, vr, gr, vw, hA, hR, hF, hd, hB, hFG⟩ := h
  exact (refBack_any r gr vw A' c w hR hI.len hI).mono fun e w' h => ⟨h.1, mx_ref hA hR hF hd hB hFG h.2⟩
theorem mx_fin (h : MX w a r b A A' n M F G) (hI : Inv A) (cy fr : Int) :
    Calls Try.prog 24 #[.pointer (some ⟨a, 0, none⟩), .int .i64 cy, .int .i64 fr] w fun e w' => ∃ v', e = .returned v' ∧ w'.ownsRow w.heap.size 3 1 v' (finM A cy fr).1.length ((finM A cy fr).1.map (Value.int .i64)) ∧ ∃ F', MX w' a r b (finM A cy fr).2 A' n M F' G ∧ Chg (Un F G) (Un F' G) w w' ∧ ∀ g, v'.ownBlock = some g → ¬ Un F' G g := by
  obtain ⟨ga, gm, gf, cf, vr, gr, vw, hA, hR, hF, hd, hB, hFG⟩ := h
  have := row_le hI
  refine (finish_any a ga gm gf cf n vr A cy fr w hA (by omega)).mono fun e w' h => ?_
  obtain ⟨v', rfl, ho⟩ := h.1
  obtain ⟨vr', h1, h2, h3, h4⟩ := h.ar
  have hnew : ∀ g, Ft a ga gm gf vr' g → Ft a ga gm gf vr g ∨ w.heap.size ≤ g := fun g hg => by
    rcases hg with hg | hg
    · exact .inl (.inl hg)
    · rcases h4 g hg with h' | h'
      · exact .inl (.inr h')
      · exact .inr h'
  refine ⟨v', rfl, ho, fun g => Ft a ga gm gf vr' g ∨ Rt r gr vw g, ⟨ga, gm, gf, cf, vr', gr, vw, h1, hR.kept (fun g hg => h2 g (hR.lt g hg) (fun e => hd g e hg)), fun g => Iff.rfl, fun g hg hr => ?_, hB.kept (fun g hg => h2 g (hB.lt g hg) (fun e => hFG g ((hF g).2 (.inl e)) hg)), fun g hg hG => ?_⟩, ⟨fun g hg hn => h2 g hg (fun e => hn (.inl ((hF g).2 (.inl e)))), h3, fun g hg => ?_⟩, fun g hg hU => ?_⟩
  · rcases hnew g hg with h' | h'
    · exact hd g h' hr
    · have := hR.lt g hr; omega
  · rcases hg with hg | hg
    · rcases hnew g hg with h' | h'
      · exact hFG g ((hF g).2 (.inl h')) hG
      · have := hB.lt g hG; omega
    · exact hFG g ((hF g).2 (.inr hg)) hG
  · rcases hg with (hg | hg) | hg
    · rcases hnew g hg with h' | h'
      · exact .inl (.inl ((hF g).2 (.inl h')))
      · exact .inr h'
    · exact .inl (.inl ((hF g).2 (.inr hg)))
    · exact .inl (.inr hg)
  · have hge := (ho.lt g hg).1
    rcases hU with (hg' | hg') | hg'
    · rcases hg' with hg' | hg'
      · have := hA.lt g (.inl hg'); omega
      · obtain ⟨c1, k1⟩ := own_blk ho hg
        obtain ⟨c2, k2⟩ := own_blk h1.rw hg'
        exact ty_ne k1 k2 (by decide) rfl
    · have := hR.lt g hg'; omega
    · have := hB.lt g hg'; omega
theorem mx_rfin (h : MX w a r b A A' n M F G) (hI : Inv A') (cy fr : Int) :
    Calls Try.prog 25 #[.pointer (some ⟨r, 0, none⟩), .int .i64 cy, .int .i64 fr] w fun e w' => (∃ v', e = .returned v' ∧ w'.ownsRow w.heap.size 3 1 v' (finM A' cy fr).1.length ((finM A' cy fr).1.map (Value.int .i64))) ∧ ∃ F', MX w' a r b A (finM A' cy fr).2 n M F' G ∧ Chg (Un F G) (Un F' G) w w' := by
  obtain ⟨ga, gm, gf, cf, vr, gr, vw, hA, hR, hF, hd, hB, hFG⟩ := h
  have := row_le hI
  exact (refFinish_any r gr vw A' cy fr w hR (by omega)).mono fun e w' h => ⟨h.1, mx_ref hA hR hF hd hB hFG h.2⟩
theorem mx_free (h : MX w a r b A A' n M F G) (hI : Inv A) : Calls Try.prog 16 #[.pointer (some ⟨a, 0, none⟩)] w fun e w' => OutI (frs 0 A.who) e w w' := by
  obtain ⟨ga, gm, gf, cf, vr, gr, vw, hA, _⟩ := h
  exact free_any a ga gm gf cf n vr A w hA hI
theorem mx_waiting (h : MX w a r b A A' n M F G) (hI : Inv A) : Calls Try.prog 18 #[.pointer (some ⟨a, 0, none⟩)] w fun e w' => OutW A.row e w w' := by
  obtain ⟨ga, gm, gf, cf, vr, gr, vw, hA, _⟩ := h
  have := row_le hI
  exact waiting_any a ga gm gf cf n vr A w hA (by omega)
theorem mx_rfree (h : MX w a r b A A' n M F G) (hI : Inv A') : Calls Try.prog 28 #[.pointer (some ⟨r, 0, none⟩)] w fun e w' => OutI (frs 0 A'.who) e w w' := by
  obtain ⟨ga, gm, gf, cf, vr, gr, vw, hA, hR, _⟩ := h
  exact refFree_any r gr vw A' w hR hI.len
/-- A list of ints goes into the book. -/
theorem mx_ints (h : MX w a r b A A' n M F G) (hM : M ≤ 900000) (ra : Option Addr) (l c : Nat) (xs : List Value) (hl : w.ownsRow 0 3 1 (.slice ra l c) l xs) (hn : l ≤ 1000000) (hf : ∀ g, (Value.slice ra l c).ownBlock = some g → ¬ Un F G g) :
    Calls Try.prog 26 #[.pointer (some ⟨b, 0, none⟩), .slice ra l c] w fun e w' => (∃ r, e = .returned r) ∧ ∃ G', MX w' a r b A A' n (M + 1) F G' ∧ Below 0 w w' ∧ (∀ g, g < w.heap.size → ¬ G g → w'.heap[g]? = w.heap[g]?) ∧ (∀ g, G' g → G g ∨ (Value.slice ra l c).ownBlock = some g ∨ w.heap.size ≤ g) ∧ ∀ (g : Nat) (cs : Array Value), (w.heap[g]? = some (.cells cs 3 (0, 0)) ∨ w.heap[g]? = some (.cells cs 103 (0, 0))) → w'.heap[g]? = w.heap[g]? := by
  obtain ⟨ga, gm, gf, cf, vr, gr, vw, hA, hR, hF, hd, ⟨vi, vW, Ni, Nw, Vi, Vw, hB, hNi, hNw, hG⟩, hFG⟩ := h
  refine (bookInts_any b vi vW Ni Nw Vi Vw ra l c xs w hB (by omega) hl hn (fun g hg hG' => hf g hg (.inr ((hG g).2 hG')))).mono fun e w' h => ?_
  obtain ⟨he, v', h1, h2, h3, h4⟩ := h
  obtain ⟨hB', hF'⟩ := h1 _ rfl
  have k : ∀ g, g < w.heap.size → ¬ G g → w'.heap[g]? = w.heap[g]? := fun g hg hn => h3 g hg (fun e => hn ((hG g).2 e))
  refine ⟨he, BoF b v' vW (Ni + 1) Nw (fun j => if j = Ni then .slice ra l c else Vi j) Vw, ⟨ga, gm, gf, cf, vr, gr, vw, hA.kept (fun g hg => k g (hA.lt g hg) (hFG g ((hF g).2 (.inl hg)))), hR.kept (fun g hg => k g (hR.lt g hg) (hFG g ((hF g).2 (.inr hg)))), hF, hd, ⟨v', vW, Ni + 1, Nw, _, Vw, hB', by omega, by omega, fun g => Iff.rfl⟩, fun g hg hG' => ?_⟩, h2, k, fun g hg => ?_, h4⟩
  · rcases hF' g hG' with h' | h' | h'
    · exact hFG g hg ((hG g).2 h')
    · exact hf g h' (.inl hg)
    · rcases (hF g).1 hg with hg | hg
      · have := hA.lt g hg; omega
      · have := hR.lt g hg; omega
  · rcases hF' g hg with h' | h' | h'
    · exact .inl ((hG g).2 h')
    · exact .inr (.inl h')
    · exact .inr (.inr h')
theorem mx_waiters (h : MX w a r b A A' n M F G) (hM : M ≤ 900000) (ra : Option Addr) (l c : Nat) (xs : List Value) (hl : w.ownsRow 0 103 2 (.slice ra l c) l xs) (hn : l ≤ 1000000) (hf : ∀ g, (Value.slice ra l c).ownBlock = some g → ¬ Un F G g) :
    Calls Try.prog 27 #[.pointer (some ⟨b, 0, none⟩), .slice ra l c] w fun e w' => (∃ r, e = .returned r) ∧ ∃ G', MX w' a r b A A' n (M + 1) F G' ∧ Below 0 w w' ∧ (∀ g, g < w.heap.size → ¬ G g → w'.heap[g]? = w.heap[g]?) ∧ (∀ g, G' g → G g ∨ (Value.slice ra l c).ownBlock = some g ∨ w.heap.size ≤ g) ∧ ∀ (g : Nat) (cs : Array Value), (w.heap[g]? = some (.cells cs 3 (0, 0)) ∨ w.heap[g]? = some (.cells cs 103 (0, 0))) → w'.heap[g]? = w.heap[g]? := by
  obtain ⟨ga, gm, gf, cf, vr, gr, vw, hA, hR, hF, hd, ⟨vi, vW, Ni, Nw, Vi, Vw, hB, hNi, hNw, hG⟩, hFG⟩ := h
  refine (bookWaiters_any b vi vW Ni Nw Vi Vw ra l c xs w hB (by omega) hl hn (fun g hg hG' => hf g hg (.inr ((hG g).2 hG')))).mono fun e w' h => ?_
  obtain ⟨he, v', h1, h2, h3, h4⟩ := h
  obtain ⟨hB', hF'⟩ := h1 _ rfl
  have k : ∀ g, g < w.heap.size → ¬ G g → w'.heap[g]? = w.heap[g]? := fun g hg hn => h3 g hg (fun e => hn ((hG g).2 e))
  refine ⟨he, BoF b vi v' Ni (Nw + 1) Vi (fun j => if j = Nw then .slice ra l c else Vw j), ⟨ga, gm, gf, cf, vr, gr, vw, hA.kept (fun g hg => k g (hA.lt g hg) (hFG g ((hF g).2 (.inl hg)))), hR.kept (fun g hg => k g (hR.lt g hg) (hFG g ((hF g).2 (.inr hg)))), hF, hd, ⟨vi, v', Ni, Nw + 1, Vi, _, hB', by omega, by omega, fun g => Iff.rfl⟩, fun g hg hG' => ?_⟩, h2, k, fun g hg => ?_, h4⟩
  · rcases hF' g hG' with h' | h' | h'
    · exact hFG g hg ((hG g).2 h')
    · exact hf g h' (.inl hg)
    · rcases (hF g).1 hg with hg | hg
      · have := hA.lt g hg; omega
      · have := hR.lt g hg; omega
  · rcases hF' g hg with h' | h' | h'
    · exact .inl ((hG g).2 h')
    · exact .inr (.inl h')
    · exact .inr (.inr h')
end Go.Proofs.Ytaenoenchbfeiaa
