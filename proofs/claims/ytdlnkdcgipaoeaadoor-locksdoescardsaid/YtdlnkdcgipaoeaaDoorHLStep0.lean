/- The program's book, the document's and the book of lists, side by side. -/
import Derived.Test.YtdlnkdcgipaoeaaDoorGK
import Derived.Test.YtdlnkdcgipaoeaaDoorHABookOwn
namespace Go.Proofs.YtdlnkdcgipaoeaaDoor
open Go.RowKit

theorem Chg.off {F F' : Nat → Prop} {w w' : World} (h : Chg F F' w w') {g : Nat} (hg : g < w.heap.size) (hn : ¬ F g) : ¬ F' g := fun hF => by
  rcases h.2.2 g hF with h' | h'
  · exact hn h'
  · omega
def Bks (w : World) (b M : Nat) (G : Nat → Prop) : Prop := ∃ vi vw Ni Nw Vi Vw, Bo w b vi vw Ni Nw Vi Vw ∧ Ni ≤ M ∧ Nw ≤ M ∧ ∀ g, G g ↔ BoF b vi vw Ni Nw Vi Vw g
theorem Bks.lt {w : World} {b M : Nat} {G : Nat → Prop} (h : Bks w b M G) : ∀ g, G g → g < w.heap.size := fun g hg => by
  obtain ⟨vi, vw, Ni, Nw, Vi, Vw, h1, _, _, h2⟩ := h
  exact h1.lt g ((h2 g).1 hg)
theorem Bks.kept {w w' : World} {b M : Nat} {G : Nat → Prop} (h : Bks w b M G) (hk : ∀ g, G g → w'.heap[g]? = w.heap[g]?) : Bks w' b M G := by
  obtain ⟨vi, vw, Ni, Nw, Vi, Vw, h1, h3, h4, h2⟩ := h
  exact ⟨vi, vw, Ni, Nw, Vi, Vw, h1.kept (fun g hg => hk g ((h2 g).2 hg)), h3, h4, h2⟩
theorem Bks.mono {w : World} {b M M' : Nat} {G : Nat → Prop} (h : Bks w b M G) (hM : M ≤ M') : Bks w b M' G := by
  obtain ⟨vi, vw, Ni, Nw, Vi, Vw, h1, h3, h4, h2⟩ := h
  exact ⟨vi, vw, Ni, Nw, Vi, Vw, h1, by omega, by omega, h2⟩
def U3 (F1 F2 G : Nat → Prop) (g : Nat) : Prop := F1 g ∨ F2 g ∨ G g
structure MX3 (w : World) (b r k : Nat) (B : Bk) (D : Dk) (M : Nat) (F1 F2 G : Nat → Prop) : Prop where
  p : BB w b B F1
  d : DB w r D F2
  k : Bks w k M G
  d12 : ∀ g, F1 g → ¬ F2 g
  d13 : ∀ g, F1 g → ¬ G g
  d23 : ∀ g, F2 g → ¬ G g
section
variable {w w' : World} {b r k : Nat} {B B' : Bk} {D D' : Dk} {M : Nat} {F1 F2 G : Nat → Prop}
theorem MX3.lt (h : MX3 w b r k B D M F1 F2 G) : ∀ g, U3 F1 F2 G g → g < w.heap.size := fun g hg => by
  rcases hg with hg | hg | hg
  · exact h.p.lt hg
  · exact h.d.lt hg
  · exact h.k.lt g hg
theorem MX3.kept (h : MX3 w b r k B D M F1 F2 G) (hk : ∀ g, U3 F1 F2 G g → w'.heap[g]? = w.heap[g]?) : MX3 w' b r k B D M F1 F2 G :=
  ⟨h.p.kept (fun g hg => hk g (.inl hg)), h.d.kept (fun g hg => hk g (.inr (.inl hg))), h.k.kept (fun g hg => hk g (.inr (.inr hg))), h.d12, h.d13, h.d23⟩
theorem MX3.quiet (h : MX3 w b r k B D M F1 F2 G) (hb : Below w.heap.size w w') : MX3 w' b r k B D M F1 F2 G := h.kept (fun g hg => hb.block g (h.lt g hg))
theorem MX3.prog (h : MX3 w b r k B D M F1 F2 G) (hR : BR b B' F1 w w') : ∃ F1', MX3 w' b r k B' D M F1' F2 G ∧ Chg (U3 F1 F2 G) (U3 F1' F2 G) w w' := by
  obtain ⟨F', h1, h2⟩ := hR
  refine ⟨F', ⟨h1, h.d.kept (fun g hg => h2.1 g (h.d.lt hg) (fun e => h.d12 g e hg)), h.k.kept (fun g hg => h2.1 g (h.k.lt g hg) (fun e => h.d13 g e hg)), fun g h1 h3 => h2.off (h.d.lt h3) (fun e => h.d12 g e h3) h1, fun g h1 h3 => h2.off (h.k.lt g h3) (fun e => h.d13 g e h3) h1, h.d23⟩, fun g h1 h3 => h2.1 g h1 (fun e => h3 (.inl e)), h2.2.1, fun g hg => ?_⟩
  rcases hg with hg | hg
  · rcases h2.2.2 g hg with h' | h'
    · exact .inl (.inl h')
    · exact .inr h'
  · exact .inl (.inr hg)
theorem MX3.doc (h : MX3 w b r k B D M F1 F2 G) (hR : DR2 r D' F2 w w') : ∃ F2', MX3 w' b r k B D' M F1 F2' G ∧ Chg (U3 F1 F2 G) (U3 F1 F2' G) w w' := by
  obtain ⟨F', h1, h2⟩ := hR
  refine ⟨F', ⟨h.p.kept (fun g hg => h2.1 g (h.p.lt hg) (fun e => h.d12 g hg e)), h1, h.k.kept (fun g hg => h2.1 g (h.k.lt g hg) (fun e => h.d23 g e hg)), fun g h1 h3 => h2.off (h.p.lt h1) (fun e => h.d12 g h1 e) h3, h.d13, fun g h1 h3 => h2.off (h.k.lt g h3) (fun e => h.d23 g e h3) h1⟩, fun g h1 h3 => h2.1 g h1 (fun e => h3 (.inr (.inl e))), h2.2.1, fun g hg => ?_⟩
  rcases hg with hg | hg | hg
  · exact .inl (.inl hg)
  · rcases h2.2.2 g hg with h' | h'
    · exact .inl (.inr (.inl h'))
    · exact .inr h'
  · exact .inl (.inr (.inr hg))
end
/-- The three, and all their blocks. -/
def PX (w : World) (b r k : Nat) (B : Bk) (D : Dk) (M : Nat) (U : Nat → Prop) : Prop := ∃ F1 F2 G, MX3 w b r k B D M F1 F2 G ∧ U = U3 F1 F2 G
section
variable {w w' : World} {b r k : Nat} {B B' : Bk} {D D' : Dk} {M : Nat} {U : Nat → Prop}
theorem PX.lt (h : PX w b r k B D M U) : ∀ g, U g → g < w.heap.size := by
  obtain ⟨F1, F2, G, h, rfl⟩ := h
  exact h.lt
theorem PX.kept (h : PX w b r k B D M U) (hk : ∀ g, U g → w'.heap[g]? = w.heap[g]?) : PX w' b r k B D M U := by
  obtain ⟨F1, F2, G, h, rfl⟩ := h
  exact ⟨F1, F2, G, h.kept hk, rfl⟩
theorem PX.quiet (h : PX w b r k B D M U) (hb : Below w.heap.size w w') : PX w' b r k B D M U := h.kept (fun g hg => hb.block g (h.lt g hg))
/-- A call of the program's. -/
theorem PX.onProg (h : PX w b r k B D M U) {f : Nat} {args : Array Value} {v : Value} (H : ∀ F, BB w b B F → Calls Tryd.prog f args w fun e w' => e = .returned v ∧ BR b B' F w w') : Calls Tryd.prog f args w fun e w' => e = .returned v ∧ ∃ U', PX w' b r k B' D M U' ∧ Chg U U' w w' := by
  obtain ⟨F1, F2, G, h, rfl⟩ := h
  refine Calls.mono (H F1 h.p) ?_
  rintro e w' ⟨rfl, hR⟩
  obtain ⟨F', h1, h2⟩ := h.prog hR
  exact ⟨rfl, _, ⟨_, _, _, h1, rfl⟩, h2⟩
/-- A call of the document's. -/
theorem PX.onDoc (h : PX w b r k B D M U) {f : Nat} {args : Array Value} {v : Value} (H : ∀ F, DB w r D F → Calls Tryd.prog f args w fun e w' => e = .returned v ∧ DR2 r D' F w w') : Calls Tryd.prog f args w fun e w' => e = .returned v ∧ ∃ U', PX w' b r k B D' M U' ∧ Chg U U' w w' := by
  obtain ⟨F1, F2, G, h, rfl⟩ := h
  refine Calls.mono (H F2 h.d) ?_
  rintro e w' ⟨rfl, hR⟩
  obtain ⟨F', h1, h2⟩ := h.doc hR
  exact ⟨rfl, _, ⟨_, _, _, h1, rfl⟩, h2⟩
end
/-- A list that came out of the program's book, beside the three. -/
structure LX (w : World) (b r k : Nat) (B : Bk) (D : Dk) (M : Nat) (U : Nat → Prop) (s : Sl) (l : List Int) : Prop where
  x : PX w b r k B D M U
  r : RO w s l
  f : ∀ g, s.blk = some g → ¬ U g
section
variable {w w' : World} {b r k : Nat} {B B' : Bk} {D D' : Dk} {M : Nat} {U : Nat → Prop} {s : Sl} {l : List Int}
theorem PX.onEnd (h : PX w b r k B D M U) {f : Nat} {args : Array Value} {er : Int} (H : ∀ F, BB w b B F → Calls Tryd.prog f args w fun e w' => ER b B' F l er w e w') : Calls Tryd.prog f args w fun e w' => ∃ s U', e = .returned (.tuple #[.slice s.ra l.length s.cap, .int .i64 er]) ∧ LX w' b r k B' D M U' s l ∧ Chg U U' w w' ∧ ∀ g, s.blk = some g → w.heap.size ≤ g := by
  obtain ⟨F1, F2, G, h, rfl⟩ := h
  refine Calls.mono (H F1 h.p) ?_
  rintro e w' ⟨s, F', rfl, h1, h2, h3, h4⟩
  obtain ⟨F'', k1, k2⟩ := h.prog ⟨F', h3, h4⟩
  refine ⟨s, U3 F' F2 G, rfl, ⟨⟨F', F2, G, ⟨h3, h.d.kept (fun g hg => h4.1 g (h.d.lt hg) (fun e => h.d12 g e hg)), h.k.kept (fun g hg => h4.1 g (h.k.lt g hg) (fun e => h.d13 g e hg)), fun g h1 h3 => h4.off (h.d.lt h3) (fun e => h.d12 g e h3) h1, fun g h1 h3 => h4.off (h.k.lt g h3) (fun e => h.d13 g e h3) h1, h.d23⟩, rfl⟩, h1, fun g hg hu => ?_⟩, ⟨fun g h1 h3 => h4.1 g h1 (fun e => h3 (.inl e)), h4.2.1, fun g hg => ?_⟩, fun g hg => (h2 g hg).1⟩
  · rcases hu with hu | hu | hu
    · exact (h2 g hg).2 hu
    · have := h.d.lt hu
      have := (h2 g hg).1
      omega
    · have := h.k.lt g hu
      have := (h2 g hg).1
      omega
  · rcases hg with hg | hg
    · rcases h4.2.2 g hg with h' | h'
      · exact .inl (.inl h')
      · exact .inr h'
    · exact .inl (.inr hg)
theorem LX.onDEnd {l' : List Int} (h : LX w b r k B D M U s l) {f : Nat} {args : Array Value} {er : Int} (H : ∀ F, DB w r D F → Calls Tryd.prog f args w fun e w' => DER r D' F l' er w e w') : Calls Tryd.prog f args w fun e w' => ∃ s' U', e = .returned (.tuple #[.slice s'.ra l'.length s'.cap, .int .i64 er]) ∧ LX w' b r k B D' M U' s l ∧ Chg U U' w w' ∧ RI w' s' l' ∧ ∀ g, s'.blk = some g → w.heap.size ≤ g ∧ ¬ U' g := by
  obtain ⟨⟨F1, F2, G, hx, rfl⟩, hr, hf⟩ := h
  refine Calls.mono (H F2 hx.d) ?_
  rintro e w' ⟨s', F', rfl, h1, h2, h3, h4⟩
  obtain ⟨F'', k1, k2⟩ := hx.doc ⟨F', h3, h4⟩
  have hc : Chg (U3 F1 F2 G) (U3 F1 F' G) w w' := ⟨fun g h1 h3 => h4.1 g h1 (fun e => h3 (.inr (.inl e))), h4.2.1, fun g hg => by
    rcases hg with hg | hg | hg
    · exact .inl (.inl hg)
    · rcases h4.2.2 g hg with h' | h'
      · exact .inl (.inr (.inl h'))
      · exact .inr h'
    · exact .inl (.inr (.inr hg))⟩
  have hm : MX3 w' b r k B D' M F1 F' G := ⟨hx.p.kept (fun g hg => h4.1 g (hx.p.lt hg) (fun e => hx.d12 g hg e)), h3, hx.k.kept (fun g hg => h4.1 g (hx.k.lt g hg) (fun e => hx.d23 g e hg)), fun g h1 h3 => h4.off (hx.p.lt h1) (fun e => hx.d12 g h1 e) h3, hx.d13, fun g h1 h3 => h4.off (hx.k.lt g h3) (fun e => hx.d23 g e h3) h1⟩
  refine ⟨s', U3 F1 F' G, rfl, ⟨⟨F1, F', G, hm, rfl⟩, hr.kept (fun g hg => hc.1 g (hr.lt hg) (hf g hg)), fun g hg hu => hc.off (hr.lt hg) (hf g hg) hu⟩, hc, h1, fun g hg => ⟨(h2 g hg).1, fun hu => ?_⟩⟩
  rcases hu with hu | hu | hu
  · have := hx.p.lt hu
    have := (h2 g hg).1
    omega
  · exact (h2 g hg).2 hu
  · have := hx.k.lt g hu
    have := (h2 g hg).1
    omega
/-- The list is put into the book. -/
theorem LX.put (h : LX w b r k B D M U s l) (hM : M ≤ 1000000) (hl : l.length ≤ 1000000) :
    Calls Tryd.prog 34 #[.pointer (some ⟨k, 0, none⟩), .slice s.ra l.length s.cap] w fun e w' => (∃ v, e = .returned v) ∧ ∃ U', PX w' b r k B D (M + 1) U' ∧ Chg (fun g => U g ∨ s.blk = some g) U' w w' ∧ RO w' s l ∧ ∀ (g : Nat) (cs : Array Value), w.heap[g]? = some (.cells cs 3 (0, 0)) → w'.heap[g]? = w.heap[g]? := by
  obtain ⟨⟨F1, F2, G, hx, rfl⟩, hr, hf⟩ := h
  obtain ⟨vi, vw, Ni, Nw, Vi, Vw, h1, h3, h4, h2⟩ := hx.k
  have hob := ob_eq s l.length
  refine Calls.mono (bookInts_any k vi vw Ni Nw Vi Vw s.ra l.length s.cap (l.map (Value.int .i64)) w h1 (by omega) hr.own hl (fun g hg hb => hf g (by rw [← hob]; exact hg) (.inr (.inr ((h2 g).2 hb))))) ?_
  rintro e w' ⟨he, v', hb, hbe, hk, hi⟩
  obtain ⟨hb1, hb2⟩ := hb _ rfl
  have kF1 : ∀ g, F1 g → w'.heap[g]? = w.heap[g]? := fun g hg => hk g (hx.p.lt hg) (fun e => hx.d13 g hg ((h2 g).2 e))
  have kF2 : ∀ g, F2 g → w'.heap[g]? = w.heap[g]? := fun g hg => hk g (hx.d.lt hg) (fun e => hx.d23 g hg ((h2 g).2 e))
  refine ⟨he, _, ⟨F1, F2, _, ⟨hx.p.kept kF1, hx.d.kept kF2, ⟨v', vw, Ni + 1, Nw, _, Vw, hb1, by omega, by omega, fun g => Iff.rfl⟩, hx.d12, fun g hg hb => ?_, fun g hg hb => ?_⟩, rfl⟩, ⟨fun g h1 h3 => hk g h1 (fun e => h3 (.inl (.inr (.inr ((h2 g).2 e))))), hbe, fun g hg => ?_⟩, hr.kept (fun g hg => ?_), fun g cs hg => hi g cs (.inl hg)⟩
  · rcases hb2 g hb with h' | h' | h'
    · exact hx.d13 g hg ((h2 g).2 h')
    · exact hf g (by rw [← hob]; exact h') (.inl hg)
    · have := hx.p.lt hg
      omega
  · rcases hb2 g hb with h' | h' | h'
    · exact hx.d23 g hg ((h2 g).2 h')
    · exact hf g (by rw [← hob]; exact h') (.inr (.inl hg))
    · have := hx.d.lt hg
      omega
  · rcases hg with hg | hg | hg
    · exact .inl (.inl (.inl hg))
    · exact .inl (.inl (.inr (.inl hg)))
    · rcases hb2 g hg with h' | h' | h'
      · exact .inl (.inl (.inr (.inr ((h2 g).2 h'))))
      · exact .inl (.inr (by rw [← hob]; exact h'))
      · exact .inr h'
  · obtain ⟨cs, hc⟩ := hr.bt hg
    exact hi g cs (.inl hc)
end
theorem Sim.sd {B : Bk} {D : Dk} (h : Sim B D) (hI : Iv B) : Sd D := by
  intro y hy
  rw [h.l, List.mem_map] at hy
  obtain ⟨x, hx, rfl⟩ := hy
  obtain ⟨j, hj⟩ := List.getElem?_of_mem hx
  have h1 := hI.short (rows_l hj)
  refine ⟨by show x.row.length ≤ 900; omega, fun z hz => ?_⟩
  rw [h.tl]
  exact (hI.rg x.row (mem_rl hj) z hz).rng
end Go.Proofs.YtdlnkdcgipaoeaaDoor
