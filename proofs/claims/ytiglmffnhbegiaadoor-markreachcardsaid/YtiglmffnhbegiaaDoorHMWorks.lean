/- The chapter's first example. -/
import Derived.Test.YtiglmffnhbegiaaDoorHBSame
namespace Go.Proofs.YtiglmffnhbegiaaDoor
open Go.RowKit

theorem int_any (n : Int) (w : World) (hT : Tab w) :
    Calls Tryd.prog 17 #[.int .i64 n] w fun e w' => e = .returned (.tuple #[.int .u64 (mkW 5 n), .int .i64 (mkE 5 n)]) ∧ w' = w := by
  have HT : Hid (Tab w) := hT
  clear hT
  go_enter Tryd.func17, Tryd.ntmps17
  go_wp2_with fail
  refine Calls.mono (make_any 5 n w (by decide) (by decide) HT.out) ?_
  rintro e w' ⟨rfl, hw'⟩
  rw [hw']
  clear hw'
  go_wp2_with fail
  go_ret2
  exact ⟨rfl, rfl⟩
/-- A heap all whose blocks are new. -/
structure CN (w0 w : World) (hb ab : Nat) (h : List Cl) : Prop where
  c : CH w hb ab h
  b : Below w0.heap.size w0 w
  hb : w0.heap.size ≤ hb
  ab : w0.heap.size ≤ ab
theorem below_out {w0 w w' : World} (h : Below w0.heap.size w0 w) (hb : Below 0 w w') (hk : ∀ g, g < w0.heap.size → w'.heap[g]? = w.heap[g]?) : Below w0.heap.size w0 w' :=
  ⟨(h.mono (Nat.zero_le _)).trans hb |>.os, (h.mono (Nat.zero_le _)).trans hb |>.tape, (h.mono (Nat.zero_le _)).trans hb |>.output, (h.mono (Nat.zero_le _)).trans hb |>.size, fun g hg => (hk g hg).trans (h.block g hg)⟩
theorem CN.ex {w0 w w' : World} {hb ab : Nat} {h h' : List Cl} (H : CN w0 w hb ab h) (hE : ExR hb ab h' w w') : CN w0 w' hb ab h' :=
  ⟨hE.1, below_out H.b hE.2.1.1 (fun g hg => hE.2.1.2 g (by have := H.ab; omega) (Nat.lt_of_lt_of_le hg H.b.size)), H.hb, H.ab⟩
/-- A marker and its heap, all whose blocks are new. -/
structure MN (w0 w : World) (mb hb ab : Nat) (rv : Value) (row : List Int) (h : List Cl) : Prop where
  m : MM w mb hb ab rv row h
  b : Below w0.heap.size w0 w
  mb : w0.heap.size ≤ mb
  hb : w0.heap.size ≤ hb
  ab : w0.heap.size ≤ ab
  rv : ∀ g, rv.ownBlock = some g → w0.heap.size ≤ g
theorem MN.step {w0 w w' : World} {mb hb ab : Nat} {rv rv' : Value} {row row' : List Int} {h h' : List Cl} (H : MN w0 w mb hb ab rv row h) (hS : MkS mb hb ab rv rv' row' h' w w') : MN w0 w' mb hb ab rv' row' h' :=
  ⟨hS.m, below_out H.b hS.b (fun g hg => hS.f g (Nat.lt_of_lt_of_le hg H.b.size) (by have := H.mb; omega) (by have := H.ab; omega) (fun e => by have := H.rv g e; omega)), H.mb, H.hb, H.ab, fun g hg => by
    rcases hS.r g hg with h | h
    · exact H.rv g h
    · exact Nat.le_trans H.b.size h⟩
theorem MN.new {w0 w : World} {hb ab : Nat} {h : List Cl} (H : CN w0 w hb ab h) : MN w0 (w.alloc (.cells #[.pointer (some ⟨hb, 0, none⟩), .slice none 0 0] 88)) w.heap.size hb ab (.slice none 0 0) [] h :=
  ⟨MM.new H.c, H.b.alloc H.b.size _, H.b.size, H.hb, H.ab, fun g hg => by cases hg⟩
theorem MN.below {w0 w w' : World} {mb hb ab : Nat} {rv : Value} {row : List Int} {h : List Cl} (H : MN w0 w mb hb ab rv row h) (hB : Below w.heap.size w w') : MN w0 w' mb hb ab rv row h := H.step (MkS.of H.m hB)
/-- A row that is no part of the marker stays. -/
theorem MkS.own {w w' : World} {mb hb ab : Nat} {rv rv' : Value} {row row' : List Int} {h h' : List Cl} (s : MkS mb hb ab rv rv' row' h' w w') (H : MM w mb hb ab rv row h) {base n : Nat} {v : Value} {xs : List Value} (o : w.ownsRow base 3 1 v n xs) (hd : ∀ g, rv.ownBlock = some g → v.ownBlock ≠ some g) :
    w'.ownsRow base 3 1 v n xs ∧ ∀ g, rv'.ownBlock = some g → v.ownBlock ≠ some g := by
  refine ⟨own_same o (fun g hg => ?_), fun g hg e => ?_⟩
  · obtain ⟨cs, q1⟩ := own_blk o hg
    obtain ⟨cs2, r1, _⟩ := H.c.r
    exact s.f g (heap_lt q1) (ty_ne q1 H.m (by decide)) (ty_ne q1 r1 (by decide)) (fun e => hd g e hg)
  · rcases s.r g hg with h1 | h1
    · exact hd g h1 e
    · have := (o.lt g e).2
      omega
def y0 : Cl := ⟨1, 0, mkW 8 1, mkW 8 2⟩
def y1 : Cl := ⟨2, 0, mkW 5 5, mkW 1 0⟩
def y2 : Cl := ⟨1, 0, mkW 8 0, mkW 8 2⟩
theorem y0_ok : OkK y0 := ⟨⟨by decide, by decide⟩, ⟨by decide, by decide⟩, mkW_rng 8 1, mkW_rng 8 2⟩
theorem y1_ok : OkK y1 := ⟨⟨by decide, by decide⟩, ⟨by decide, by decide⟩, mkW_rng 5 5, mkW_rng 1 0⟩
theorem y2_ok : OkK y2 := ⟨⟨by decide, by decide⟩, ⟨by decide, by decide⟩, mkW_rng 8 0, mkW_rng 8 2⟩
def h0 : List Cl := [y0, y1, y2, c0, c0]
def ws5 : List Int := [mkW 8 0, mkW 5 5, mkW 8 0, mkW 8 4, mkW 8 9]
def h1 : List Cl := layH h0 (namL ws5)
def h2 : List Cl := scanH h1 0
def h3 : List Cl := scanH h2 1
theorem ex_make : makeH (makeH (makeH (List.replicate 5 c0) 0 y0) 1 y1) 2 y2 = h0 := by kernel_rfl
theorem ex_1 : layL h0 (namL ws5) = [0] := by kernel_rfl
theorem ex_2 : layL h1 (scanL h1 0) = [1, 2] := by kernel_rfl
theorem ex_3 : layL h2 (scanL h2 1) = [] := by kernel_rfl
theorem ex_4 : hdC h3 0 = 2 := by kernel_rfl
end Go.Proofs.YtiglmffnhbegiaaDoor
