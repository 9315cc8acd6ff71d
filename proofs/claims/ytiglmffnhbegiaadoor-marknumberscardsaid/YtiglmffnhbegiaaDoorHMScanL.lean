/- Scan, whole; New of a marker. -/
import Derived.Test.YtiglmffnhbegiaaDoorHMScan
namespace Go.Proofs.YtiglmffnhbegiaaDoor
open Go.RowKit

set_option maxRecDepth 100000 in
set_option maxHeartbeats 8000000 in
theorem scan_last {mb hb ab g off : Nat} {h : List Cl} {p : Int} (w : World) (H : MM w mb hb ab (.slice (some ⟨g, off, none⟩) 1 1) [p] h) (_ : g < w.heap.size) (hp : w.cell? ⟨g, off, none⟩ = some (.int .i64 p)) (hQ : RQ w (.slice (some ⟨g, off, none⟩) 0 0) []) (hT : Tab w) :
    Calls Tryd.prog 13 #[.pointer (some ⟨mb, 0, none⟩)] w fun e w' => ScO mb hb ab (.slice (some ⟨g, off, none⟩) 1 1) p [] h w e w' := by
  have lm := heap_lt H.m
  have m0 : w.cell? ⟨mb, 0, none⟩ = some (.pointer (some ⟨hb, 0, none⟩)) := heap_cell H.m rfl
  have m1 : w.cell? ⟨mb, 1, none⟩ = some (.slice (some ⟨g, off, none⟩) 1 1) := heap_cell H.m rfl
  have f1 : w.frozen? ⟨mb, 1, none⟩ = false := by simp [World.frozen?, H.m]
  have HS1 : Hid (MkS mb hb ab (.slice (some ⟨g, off, none⟩) 1 1) (.slice (some ⟨g, off, none⟩) 0 0) [] h w (w.setCell ⟨mb, 1, none⟩ (.slice (some ⟨g, off, none⟩) 0 0))) := MkS.cut H rfl hQ
  have hTab : Tab (w.setCell ⟨mb, 1, none⟩ (.slice (some ⟨g, off, none⟩) 0 0)) := fun t ht => by
    have hne : 0 ≠ mb := fun e => by
      have := (hT 1 (by decide)).1
      simp only [World.cell?, e, H.m] at this
      simp at this
    obtain ⟨a, b⟩ := hT t ht
    exact ⟨(World.cell?_setCell_far _ _ _ _ (fun e => hne e.symm)).trans a, (World.cell?_setCell_far _ _ _ _ (fun e => hne e.symm)).trans b⟩
  have HT1 : Hid (Tab (w.setCell ⟨mb, 1, none⟩ (.slice (some ⟨g, off, none⟩) 0 0))) := hTab
  have HM : Hid (MM w mb hb ab (.slice (some ⟨g, off, none⟩) 1 1) [p] h) := H
  obtain ⟨w1, hw1⟩ : ∃ w1, w1 = w.setCell ⟨mb, 1, none⟩ (.slice (some ⟨g, off, none⟩) 0 0) := ⟨_, rfl⟩
  rw [← hw1] at HS1 HT1
  have HW1 : Hid (w1 = w.setCell ⟨mb, 1, none⟩ (.slice (some ⟨g, off, none⟩) 0 0)) := hw1
  have n1 : w1.cell? ⟨mb, 0, none⟩ = some (.pointer (some ⟨hb, 0, none⟩)) := heap_cell HS1.out.m.m rfl
  have HL1 : Hid (Calls Tryd.prog 65 #[.pointer (some ⟨hb, 0, none⟩), .int .i64 p, .int .i64 0] w1 fun e w' => LdR h p 0 w1 e w') := load_any p 0 HS1.out.m.c (.inl rfl)
  clear H hQ hT hTab hw1
  go_enter Tryd.func13, Tryd.ntmps13
  go_wp2_with fail
  rw [← HW1.out]
  go_wp2_with fail
  refine Calls.mono HL1.out ?_
  rintro e w2 ⟨rfl, hb2⟩
  have S2 := HS1.out.trans (MkS.of HS1.out.m hb2)
  have HS2 : Hid (MkS mb hb ab (.slice (some ⟨g, off, none⟩) 1 1) (.slice (some ⟨g, off, none⟩) 0 0) [] h w w2) := S2
  have HT2 : Hid (Tab w2) := HT1.out.below hb2
  have n2 : w2.cell? ⟨mb, 0, none⟩ = some (.pointer (some ⟨hb, 0, none⟩)) := heap_cell S2.m.m rfl
  have HL2 : Hid (Calls Tryd.prog 65 #[.pointer (some ⟨hb, 0, none⟩), .int .i64 p, .int .i64 1] w2 fun e w' => LdR h p 1 w2 e w') := load_any p 1 S2.m.c (.inr rfl)
  clear hb2 S2 HS1 HT1 HL1 HW1
  go_wp2_with fail
  refine Calls.mono HL2.out ?_
  rintro e w3 ⟨rfl, hb3⟩
  have S3 := HS2.out.trans (MkS.of HS2.out.m hb3)
  have HR0 : Hid (Rng (ldW h p 0)) := S3.m.c.rng p 0
  have HR1 : Hid (Rng (ldW h p 1)) := S3.m.c.rng p 1
  have hb4 : Below w3.heap.size w3 (w3.alloc (.cells #[.int .u64 (ldW h p 0), .int .u64 (ldW h p 1)] 29)) := (Below.refl _ _).alloc (Nat.le_refl _) _
  have S4 := S3.trans (MkS.of S3.m hb4)
  have HS4 : Hid (MkS mb hb ab (.slice (some ⟨g, off, none⟩) 1 1) (.slice (some ⟨g, off, none⟩) 0 0) [] h w (w3.alloc (.cells #[.int .u64 (ldW h p 0), .int .u64 (ldW h p 1)] 29))) := S4
  have hWR : WR (w3.alloc (.cells #[.int .u64 (ldW h p 0), .int .u64 (ldW h p 1)] 29)) (some ⟨w3.heap.size, 0, none⟩) [ldW h p 0, ldW h p 1] := by
    refine ⟨w3.heap.size, 0, .inr rfl, fun j x hx => ⟨by rw [World.size_alloc]; omega, ?_⟩⟩
    rw [Nat.zero_add]
    match j, hx with
    | 0, hx => cases hx; exact ⟨new_cell _ _ _ 0 _ rfl, HR0.out⟩
    | 1, hx => cases hx; exact ⟨new_cell _ _ _ 1 _ rfl, HR1.out⟩
    | j + 2, hx => simp at hx
  have HC : Hid (Calls Tryd.prog 12 #[.pointer (some ⟨mb, 0, none⟩), .slice (some ⟨w3.heap.size, 0, none⟩) 2 2] (w3.alloc (.cells #[.int .u64 (ldW h p 0), .int .u64 (ldW h p 1)] 29)) fun e w' => LayO mb hb ab (.slice (some ⟨g, off, none⟩) 0 0) [] h (namL [ldW h p 0, ldW h p 1]) (w3.alloc (.cells #[.int .u64 (ldW h p 0), .int .u64 (ldW h p 1)] 29)) e w') :=
    shadeM_any [ldW h p 0, ldW h p 1] (some ⟨w3.heap.size, 0, none⟩) 2 _ S4.m hWR (by simp) (by simp) ((HT2.out.below hb3).below hb4)
  clear hb3 hb4 S3 S4 HS2 HT2 HL2 hWR n1 n2
  go_wp2_with fail
  refine Calls.mono HC.out ?_
  rintro e w5 ⟨r5, c5, rv5, rfl, ho5, hs5, hd5⟩
  have S5 := HS4.out.trans hs5
  have HO5 : Hid (w5.ownsRow w.heap.size 3 1 (.slice r5 (layL h (scanL h p)).length c5) (layL h (scanL h p)).length (iL (layL h (scanL h p)))) := own_mono ho5 HS4.out.b.size
  have HS5 : Hid (MkS mb hb ab (.slice (some ⟨g, off, none⟩) 1 1) rv5 ([] ++ layL h (scanL h p)) (layH h (scanL h p)) w w5) := S5
  have HD5 : Hid (∀ g, rv5.ownBlock = some g → (Value.slice r5 (layL h (scanL h p)).length c5).ownBlock ≠ some g) := hd5
  have n5 : w5.cell? ⟨mb, 0, none⟩ = some (.pointer (some ⟨hb, 0, none⟩)) := heap_cell S5.m.m rfl
  have HTn : Hid (Calls Tryd.prog 37 #[.pointer (some ⟨hb, 0, none⟩), .int .i64 p, .int .u8 1, .int .u8 2] w5 fun e w' => e = .returned (.bool (turnB (layH h (scanL h p)) p 1 2)) ∧ ExR hb ab (turnH (layH h (scanL h p)) p 1 2) w5 w') := turn_any p 1 2 S5.m.c (by decide)
  have lab : ab < w.heap.size := HM.out.c.lt.2
  change _ at n5
  rw [show namL [ldW h p 0, ldW h p 1] = scanL h p from rfl]
  clear ho5 hs5 hd5 S5 HC HS4
  go_wp2_with fail
  refine Calls.mono HTn.out ?_
  rintro e w6 ⟨rfl, hx⟩
  have HRo : Hid (w6.ownsRow w.heap.size 3 1 (.slice r5 (layL h (scanL h p)).length c5) (layL h (scanL h p)).length (iL (layL h (scanL h p)))) := own_same HO5.out (fun k hk => hx.2.1.2 k (by have := (HO5.out.lt k hk).1; omega) (HO5.out.lt k hk).2)
  have HRs : Hid (MkS mb hb ab (.slice (some ⟨g, off, none⟩) 1 1) rv5 ([] ++ layL h (scanL h p)) (scanH h p) w w6) := HS5.out.trans (HS5.out.m.ex hx)
  clear hx
  go_wp2_with fail
  exact bodyPost_ret (results_tmp3 rfl _ _ _) rfl ⟨_, _, _, rfl, HRo.out, HRs.out, HD5.out⟩
def ScA (mb hb ab : Nat) (rv : Value) (row : List Int) (h : List Cl) (w : World) (e : Ending) (w' : World) : Prop := match row with
  | [] => e = .returned (.tuple #[.int .i64 0, .slice none 0 0, .bool false]) ∧ w' = w
  | p :: row => ScO mb hb ab rv p row h w e w'
theorem scan_any {mb hb ab : Nat} {rv : Value} {row : List Int} {h : List Cl} (w : World) (H : MM w mb hb ab rv row h) (hl : row.length ≤ 400000) (hT : Tab w) :
    Calls Tryd.prog 13 #[.pointer (some ⟨mb, 0, none⟩)] w fun e w' => ScA mb hb ab rv row h w e w' := by
  cases row with
  | nil => exact scan_none w H
  | cons p row =>
    obtain ⟨ra, c, rfl⟩ := H.q.sl
    have hq := H.q
    rw [List.length_cons] at hq H ⊢
    obtain ⟨g, off, rfl, h1, h2, h3, h4, h5⟩ := hq.tail
    by_cases hc : c = 1
    · subst hc
      have hr : row = [] := List.eq_nil_of_length_eq_zero (by omega)
      subst hr
      exact scan_last w H h2 h3 (h5 rfl) hT
    · exact scan_more c w H hc h2 h3 h1 (h4 hc) (by rw [List.length_cons] at hl; omega) hT
set_option maxRecDepth 100000 in
set_option maxHeartbeats 8000000 in
theorem markNew_any (hb : Nat) (w : World) : Calls Tryd.prog 8 #[.pointer (some ⟨hb, 0, none⟩)] w fun e w' => e = .returned (.pointer (some ⟨w.heap.size, 0, none⟩)) ∧ w' = w.alloc (.cells #[.pointer (some ⟨hb, 0, none⟩), .slice none 0 0] 88) := by
  go_enter Tryd.func8, Tryd.ntmps8
  go_wp2_with fail
  go_ret
  exact ⟨rfl, rfl⟩
theorem MM.new {w : World} {hb ab : Nat} {h : List Cl} (H : CH w hb ab h) : MM (w.alloc (.cells #[.pointer (some ⟨hb, 0, none⟩), .slice none 0 0] 88)) w.heap.size hb ab (.slice none 0 0) [] h :=
  ⟨heap_alloc_new w _, .inl ⟨rfl, rfl⟩, H.below ((Below.refl _ w).alloc (Nat.le_refl _) _)⟩
end Go.Proofs.YtiglmffnhbegiaaDoor
