/- What the chapter's first example fixes: works returns true. -/
import Derived.Test.YtfdpbmbafpieoaaDoorToks
namespace Go.Proofs.YtfdpbmbafpieoaaDoor
open Go.RowKit

theorem tokens_any (s : ByteArray) (hs : s.size ≤ 281474976710656) (w : World) (hE : EV w) :
    Calls Tryd.prog 13 #[.string s] w fun e w' => Below w.heap.size w w' ∧
      ((∃ v, e = .returned (.tuple #[v, .int .i64 0, .int .i64 0]) ∧ fine (items s.data.toList) ∧ w'.ownsRow w.heap.size 56 4 v (items s.data.toList).length (rowOf (items s.data.toList))) ∨
       (∃ q x, q ++ [x] <+: items s.data.toList ∧ fine q ∧ ¬ x.2 = 0 ∧ e = .returned (.tuple #[.slice none 0 0, .int .i64 x.2, .int .i64 x.1.pos]))) :=
  callsIn_wide.1 (tokens_in s hs w hE)

def ex1 : List UInt8 := [40, 97, 32, 39, 98, 32, 46, 32, 45, 55, 41]
theorem items_ex1 : items ex1 = [(⟨1, [], 0, 0⟩, 0), (⟨6, [97], 0, 1⟩, 0), (⟨3, [], 0, 3⟩, 0), (⟨6, [98], 0, 4⟩, 0), (⟨4, [], 0, 6⟩, 0), (⟨5, [], -7, 8⟩, 0), (⟨2, [], 0, 10⟩, 0), (⟨9, [], 0, 11⟩, 0)] := by kernel_rfl
theorem sym_ex1 : (begE [97, 39] == 0 && ((begT [97, 39]).kind == 6 && ((begS [97, 39] : Nat) : Int) == ((2 : Nat) : Int))) = false := by kernel_rfl

/-- What a row holds, cell by cell. -/
theorem ownsRow_cells {w : World} {base e size k : Nat} {v : Value} {xs : List Value} (h : w.ownsRow base e size v (k + 1) xs) :
    ∃ g cap, v = .slice (some ⟨g, 0, none⟩) (k + 1) cap ∧ base ≤ g ∧ g < w.heap.size ∧ ∀ j u, xs[j]? = some u → w.cell? ⟨g, j, none⟩ = some u := by
  rcases h.2 with ⟨_, h0⟩ | ⟨g, cap, cur, rfl, hb, hg, hk, _, hcs, ht⟩
  · omega
  · refine ⟨g, cap, rfl, hb, (Array.getElem?_eq_some_iff.1 hg).1, fun j u hu => ?_⟩
    rw [← ht] at hu
    have hj : j < (k + 1) * size := by
      have := (List.getElem?_eq_some_iff.1 hu).1; rw [List.length_take] at this; omega
    rw [List.getElem?_take_of_lt hj] at hu
    simp [World.cell?, hg]
    simpa using hu

set_option maxHeartbeats 1000000 in
theorem works_any (w : World) (hE : EV w) : Calls Tryd.prog 9 #[] w fun e w' => e = .returned (.bool true) ∧ Below w.heap.size w w' := by
  have HE : Hid (EV w) := hE
  clear hE
  go_enter Tryd.func9, Tryd.ntmps9
  go_wp2_with fail
  refine (tokens_any _ (by decide) _ HE.out).mono ?_
  rintro e w1 ⟨hb1, (⟨v, rfl, hf, hrow⟩ | ⟨q, x, hp, _, hx, _⟩)⟩
  · have hi : items (ByteArray.mk #[40, 97, 32, 39, 98, 32, 46, 32, 45, 55, 41]).data.toList = _ := items_ex1
    rw [hi] at hrow
    clear hi hf
    obtain ⟨g, cap, rfl, hg, hgl, hc⟩ := ownsRow_cells hrow
    have c5 := hc 5 _ rfl
    have c16 := hc 16 _ rfl
    have c22 := hc 22 _ rfl
    have c23 := hc 23 _ rfl
    have c28 := hc 28 _ rfl
    have c31 := hc 31 _ rfl
    clear hc hrow
    go_wp2_with fail
    refine (isSymbol_any _ _ (by decide) (HE.out.below hb1 HE.out.lt)).mono ?_
    rintro e w2 ⟨rfl, hb2⟩
    rw [show (begE (ByteArray.mk #[97, 39]).data.toList == 0 && ((begT (ByteArray.mk #[97, 39]).data.toList).kind == 6 && ((begS (ByteArray.mk #[97, 39]).data.toList : Nat) : Int) == ((ByteArray.mk #[97, 39]).size : Int))) = false from sym_ex1]
    have d5 := (hb2.cell (p := ⟨g, 5, none⟩) hgl).trans c5
    have d16 := (hb2.cell (p := ⟨g, 16, none⟩) hgl).trans c16
    have d22 := (hb2.cell (p := ⟨g, 22, none⟩) hgl).trans c22
    have d23 := (hb2.cell (p := ⟨g, 23, none⟩) hgl).trans c23
    have d28 := (hb2.cell (p := ⟨g, 28, none⟩) hgl).trans c28
    have d31 := (hb2.cell (p := ⟨g, 31, none⟩) hgl).trans c31
    clear c5 c16 c22 c23 c28 c31
    go_wp2
    go_ret
    exact ⟨rfl, hb1.trans (hb2.mono hb1.size)⟩
  · exfalso
    have hi : items (ByteArray.mk #[40, 97, 32, 39, 98, 32, 46, 32, 45, 55, 41]).data.toList = _ := items_ex1
    rw [hi] at hp
    have hm : x ∈ q ++ [x] := by simp
    have hm' := hp.subset hm
    simp at hm'
    rcases hm' with rfl | rfl | rfl | rfl | rfl | rfl | rfl | rfl <;> exact hx rfl

end Go.Proofs.YtfdpbmbafpieoaaDoor
