/- What is kept beside an Alloc, and how it lies in memory. -/
import Derived.Test.YtaenoenchbfeiaaHAWt
namespace Go.Proofs.Ytaenoenchbfeiaa
open Go.RowKit

def gv (who : List Int) (t : Nat) : Int := if t = 0 then -1 else match fnd (t : Int) who with
  | none => -1
  | some c => (c : Int)
def KP (gw n : Nat) (vw : Value) (who : List Int) (k : Nat) (u : Value) : Prop := (k = 0 → u = .slice (some ⟨gw, 0, none⟩) n n) ∧ (∀ t, t ≤ 8 → k = 1 + t → u = .int .i64 (gv who t)) ∧ (k = 10 → u = vw)
structure KL (w : World) (kb gw : Nat) (vw : Value) (A : Al) : Prop where
  kp : DR w 62 kb 11 (KP gw A.who.length vw A.who)
  kw : DR w 4 gw A.who.length (fun k u => ∀ x, A.who[k]? = some x → u = .bool (decide (x ≠ 0)))
  wt : RWt w vw A.row
/-- The Keeper's blocks. -/
def Kb (kb gw : Nat) (vw : Value) (g : Nat) : Prop := (g = kb ∨ g = gw) ∨ vw.ownBlock = some g
theorem KL.lt {w : World} {kb gw : Nat} {vw : Value} {A : Al} (h : KL w kb gw vw A) : ∀ g, Kb kb gw vw g → g < w.heap.size := fun g hg => by
  rcases hg with (rfl | rfl) | hg
  · exact h.kp.lt
  · exact h.kw.lt
  · obtain ⟨cs, hc⟩ := h.wt.blk hg
    exact heap_lt hc
theorem KL.kept {w w' : World} {kb gw : Nat} {vw : Value} {A : Al} (h : KL w kb gw vw A) (hk : ∀ g, Kb kb gw vw g → w'.heap[g]? = w.heap[g]?) : KL w' kb gw vw A :=
  ⟨h.kp.kept (hk kb (.inl (.inl rfl))), h.kw.kept (hk gw (.inl (.inr rfl))), h.wt.kept (fun g hg => hk g (.inr hg))⟩
theorem KL.c0 {w : World} {kb gw : Nat} {vw : Value} {A : Al} (h : KL w kb gw vw A) : w.cell? ⟨kb, 0, none⟩ = some (.slice (some ⟨gw, 0, none⟩) A.who.length A.who.length) := by
  obtain ⟨u, hu, hp⟩ := h.kp.cell (j := 0) (by omega)
  rw [hu, hp.1 rfl]
theorem KL.cg {w : World} {kb gw : Nat} {vw : Value} {A : Al} (h : KL w kb gw vw A) {t : Nat} (ht : t ≤ 8) : w.cell? ⟨kb, 1 + t, none⟩ = some (.int .i64 (gv A.who t)) := by
  obtain ⟨u, hu, hp⟩ := h.kp.cell (j := 1 + t) (by omega)
  rw [hu, hp.2.1 t ht rfl]
theorem KL.cw {w : World} {kb gw : Nat} {vw : Value} {A : Al} (h : KL w kb gw vw A) : w.cell? ⟨kb, 10, none⟩ = some vw := by
  obtain ⟨u, hu, hp⟩ := h.kp.cell (j := 10) (by omega)
  rw [hu, hp.2.2 rfl]
theorem KL.who {w : World} {kb gw : Nat} {vw : Value} {A : Al} (h : KL w kb gw vw A) {c : Nat} {x : Int} (hc : A.who[c]? = some x) : w.cell? ⟨gw, c, none⟩ = some (.bool (decide (x ≠ 0))) := by
  obtain ⟨u, hu, hp⟩ := h.kw.cell (List.getElem?_eq_some_iff.1 hc).1
  rw [hu, hp x hc]
/-- An Alloc and a Keeper, all of it new. -/
def KT (B : Nat → Prop) (a ga gm gf cf n kb gw : Nat) (A' A : Al) (w0 w : World) : Prop := ∃ vr vw, AL w a ga gm gf cf vr n A' ∧ KL w kb gw vw A ∧ Fr B w0 w ∧ (∀ g, Ft a ga gm gf vr g → ¬ B g) ∧ (∀ g, Kb kb gw vw g → ¬ B g) ∧ (∀ g, vw.ownBlock = some g → vr.ownBlock ≠ some g)
/-- The Keeper's blocks are none of the Alloc's. -/
theorem kf_apart {w : World} {a ga gm gf cf n kb gw : Nat} {vr vw : Value} {A' A : Al} (hA : AL w a ga gm gf cf vr n A') (hK : KL w kb gw vw A) (hd : ∀ g, vw.ownBlock = some g → vr.ownBlock ≠ some g) : ∀ g, Kb kb gw vw g → ¬ Ft a ga gm gf vr g := fun g hg hf => by
  obtain ⟨c1, k1, _⟩ := hK.kp
  obtain ⟨c2, k2, _⟩ := hK.kw
  obtain ⟨d1, a1, _⟩ := hA.pl
  obtain ⟨es, ck, a2⟩ := hA.gm.isMapObj
  obtain ⟨d3, a3⟩ := own_blk hA.fr rfl
  rcases hg with (rfl | rfl) | hg
  · rcases hf with (rfl | rfl | rfl | rfl) | hf
    · exact ty_ne k1 hA.obj (by decide) rfl
    · exact ty_ne k1 a1 (by decide) rfl
    · exact mp_ne k1 a2 rfl
    · exact ty_ne k1 a3 (by decide) rfl
    · obtain ⟨d4, a4⟩ := own_blk hA.rw hf
      exact ty_ne k1 a4 (by decide) rfl
  · rcases hf with (rfl | rfl | rfl | rfl) | hf
    · exact ty_ne k2 hA.obj (by decide) rfl
    · exact ty_ne k2 a1 (by decide) rfl
    · exact mp_ne k2 a2 rfl
    · exact ty_ne k2 a3 (by decide) rfl
    · obtain ⟨d4, a4⟩ := own_blk hA.rw hf
      exact ty_ne k2 a4 (by decide) rfl
  · obtain ⟨c3, k3⟩ := hK.wt.blk hg
    rcases hf with (rfl | rfl | rfl | rfl) | hf
    · exact ty_ne k3 hA.obj (by decide) rfl
    · exact ty_ne k3 a1 (by decide) rfl
    · exact mp_ne k3 a2 rfl
    · exact ty_ne k3 a3 (by decide) rfl
    · exact hd g hg hf
theorem fr_of {B : Nat → Prop} {w0 w w' : World} (hb : Fr B w0 w) (h3 : Below 0 w w') (_ : ∀ g, B g → g < w0.heap.size) (h2 : ∀ g, B g → w'.heap[g]? = w.heap[g]?) : Fr B w0 w' :=
  ⟨hb.1.trans h3, fun g hg hl => (h2 g hg).trans (hb.2 g hg hl)⟩
theorem fr_lt {B : Nat → Prop} {w0 w : World} (hb : Fr B w0 w) (hs : ∀ g, B g → g < w0.heap.size) {g : Nat} (hg : B g) : g < w.heap.size := Nat.lt_of_lt_of_le (hs g hg) hb.1.size
/-- The Alloc does something. -/
theorem kt_alloc {B : Nat → Prop} {a ga gm gf cf n n' kb gw : Nat} {vr vw : Value} {A' A'' A : Al} {w0 w w' : World} (hs : ∀ g, B g → g < w0.heap.size) (hA : AL w a ga gm gf cf vr n A') (hK : KL w kb gw vw A) (hb : Fr B w0 w) (hf : ∀ g, Ft a ga gm gf vr g → ¬ B g) (hk : ∀ g, Kb kb gw vw g → ¬ B g) (hd : ∀ g, vw.ownBlock = some g → vr.ownBlock ≠ some g) (h : AR a ga gm gf cf vr n' A'' w w') : KT B a ga gm gf cf n' kb gw A'' A w0 w' := by
  obtain ⟨vr', h1, h2, h3, h4⟩ := h
  have hap := kf_apart hA hK hd
  refine ⟨vr', vw, h1, hK.kept (fun g hg => h2 g (hK.lt g hg) (hap g hg)), fr_of hb h3 hs (fun g hg => h2 g (fr_lt hb hs hg) (fun hF => hf g hF hg)), fun g hg hB => ?_, hk, fun g hg hr => ?_⟩
  · rcases hg with hg | hg
    · exact hf g (.inl hg) hB
    · rcases h4 g hg with h' | h'
      · exact hf g (.inr h') hB
      · have := fr_lt hb hs hB
        omega
  · rcases h4 g hr with h' | h'
    · exact hd g hg h'
    · have := hK.lt g (.inr hg)
      omega
/-- The Keeper does something. -/
theorem kt_keep {B : Nat → Prop} {a ga gm gf cf n kb gw : Nat} {vr vw vw' : Value} {A' A A2 : Al} {w0 w w' : World} (hs : ∀ g, B g → g < w0.heap.size) (hA : AL w a ga gm gf cf vr n A') (hK : KL w kb gw vw A) (hb : Fr B w0 w) (hf : ∀ g, Ft a ga gm gf vr g → ¬ B g) (hk : ∀ g, Kb kb gw vw g → ¬ B g) (hd : ∀ g, vw.ownBlock = some g → vr.ownBlock ≠ some g)
    (h1 : KL w' kb gw vw' A2) (h2 : ∀ g, g < w.heap.size → ¬ Kb kb gw vw g → w'.heap[g]? = w.heap[g]?) (h3 : Below 0 w w') (h4 : ∀ g, vw'.ownBlock = some g → vw.ownBlock = some g ∨ w.heap.size ≤ g) : KT B a ga gm gf cf n kb gw A' A2 w0 w' := by
  have hap := kf_apart hA hK hd
  refine ⟨vr, vw', hA.kept (fun g hg => h2 g (hA.lt g hg) (fun h => hap g h hg)), h1, fr_of hb h3 hs (fun g hg => h2 g (fr_lt hb hs hg) (fun hF => hk g hF hg)), hf, fun g hg hB => ?_, fun g hg hr => ?_⟩
  · rcases hg with hg | hg
    · exact hk g (.inl hg) hB
    · rcases h4 g hg with h' | h'
      · exact hk g (.inr h') hB
      · have := fr_lt hb hs hB
        omega
  · rcases h4 g hg with h' | h'
    · exact hd g h' hr
    · have := hA.lt g (.inr hr)
      omega
def Full (A : Al) : Prop := A.row = [] ∨ fnd 0 A.who = none
set_option maxRecDepth 100000 in
set_option maxHeartbeats 4000000 in
theorem kwaits_any (kb : Nat) (l : List (Int × Int)) (vw : Value) (t : Int) (w : World) (hl : l.length ≤ 1000000) (hc : w.cell? ⟨kb, 10, none⟩ = some vw) (hlt : kb < w.heap.size) (hW : RWt w vw l) :
    Calls Try.prog 46 #[.pointer (some ⟨kb, 0, none⟩), .int .i64 t] w fun e w' => e = .returned (.bool (l.any (fun p => p.1 == t))) ∧ w' = w := by
  obtain ⟨ra, ca, rfl⟩ := hW.sl
  have HW : Hid (WX w ra l) := hW.wx
  clear hW
  go_enter Try.func46, Try.ntmps46
  go_wp2
  go_loopw [5] (fun i wr => ∃ j : Nat, i = .int .i64 j ∧ j ≤ l.length ∧ Hid ((l.take j).any (fun p => p.1 == t) = false) ∧ wr = w) (fun i _ => l.length - (intOf i).toNat)
  case atStart => exact ⟨0, rfl, Nat.zero_le _, rfl, rfl⟩
  case round =>
    obtain ⟨j, rfl, hj, HN, rfl⟩ := hrel
    by_cases hjl : j < l.length
    · have k1 : (j : Int) < (l.length : Int) := by omega
      obtain ⟨x, hx⟩ : ∃ x, l[j]? = some x := ⟨_, List.getElem?_eq_getElem hjl⟩
      obtain ⟨b, o, q1, q2⟩ := HW.out.at
      obtain rfl := q1 (by omega)
      obtain ⟨q3, q4, q5⟩ := q2 j x hx
      have HXx : Hid (l[j]? = some x) := hx
      clear q1 q2 hx
      cases hwr : (x.1 == t)
      · have HW2 : Hid ((fun p : Int × Int => p.1 == t) x = false) := hwr
        go_wp2
        go_roundw
        case rel => exact ⟨j + 1, by go_num, by omega, (any_take HN.out HXx.out).trans HW2.out, trivial⟩
        case measure => simp [intOf]; omega
      · have HW2 : Hid (l.any (fun p : Int × Int => p.1 == t) = true) := any_at HXx.out hwr
        go_wp2
        go_ret
        exact ⟨by rw [HW2.out]; rfl, rfl⟩
    · have k1 : ¬ (j : Int) < (l.length : Int) := by omega
      have HE : Hid (l.any (fun p => p.1 == t) = false) := by have := HN.out; rwa [List.take_of_length_le (by omega)] at this
      go_wp2
      go_ret
      exact ⟨by rw [HE.out]; rfl, rfl⟩
end Go.Proofs.Ytaenoenchbfeiaa
