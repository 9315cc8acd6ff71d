/- One step with both markers: Scan. -/
import Derived.Test.YtiglmffnhbegiaaDoorHDGrey
namespace Go.Proofs.YtiglmffnhbegiaaDoor
open Go.RowKit

section
variable {w0 w w' : World} {mb hb ab db rb g b Ni : Nat} {rv rd vi : Value} {row : List Int} {h : List Cl} {Vi : Nat → Value}
theorem op_head (w : World) (k : Int) (ws cs : Value) (i c d x : Int) {w1 : World} (hw1 : w1 = w.alloc (.cells (opC k ws cs i c d x) 31)) : w1.cell? ⟨w.heap.size, 0, none⟩ = some (.int .i64 k) := by rw [hw1]; exact (op_at w k ws cs i c d x).1
theorem GT.tab {row' : List Int} {h' : List Cl} (H : GT w0 w mb hb ab db rb g b rv rd row row' h h' vi Ni Vi) (hT : Tab w0) : Tab w := hT.below H.bl
/-- A row that is new stays while the document's marker works. -/
theorem DkS.own {w w' : World} {db rb g : Nat} {rv rv' : Value} {row row' : List Int} {h h' : List Cl} (s : DkS db rb g rv rv' row' h' w w') (H : DM w db rb g rv row h) {base n : Nat} {v : Value} {xs : List Value} (o : w.ownsRow base 3 1 v n xs) (hd : ∀ k, rv.ownBlock = some k → v.ownBlock ≠ some k) : w'.ownsRow base 3 1 v n xs := own_same o (fun k hk => by
    obtain ⟨cs, q1⟩ := own_blk o hk
    obtain ⟨cs2, r1, _⟩ := H.r.r
    exact s.f k (heap_lt q1) (ty_ne q1 H.m (by decide)) (ty_ne q1 r1 (by decide)) (fun e => hd k e hk))
set_option maxRecDepth 100000 in
set_option maxHeartbeats 16000000 in
theorem step_scan0 (H : GT w0 w mb hb ab db rb g b rv rd [] [] h h vi Ni Vi) (ws cs : Value) (i c d x : Int) (hN : Ni ≤ 800000) (_ : Tab w0) :
    Calls Tryd.prog 9 #[.pointer (some ⟨mb, 0, none⟩), .pointer (some ⟨hb, 0, none⟩), .pointer (some ⟨db, 0, none⟩), .agg (opC 3 ws cs i c d x), .pointer (some ⟨b, 0, none⟩)] w fun e w' => StR w0 mb hb ab db rb g b [] Ni 2 e w' := by
  obtain ⟨w1, hw1⟩ : ∃ w1, w1 = w.alloc (.cells (opC 3 ws cs i c d x) 31) := ⟨_, rfl⟩
  have hB1 : Below w.heap.size w w1 := hw1 ▸ (Below.refl _ w).alloc (Nat.le_refl _) _
  have H1 := H.below hB1
  have HH1 : Hid (GT w0 w1 mb hb ab db rb g b rv rd [] [] h h vi Ni Vi) := H1
  have q0 := op_head w 3 ws cs i c d x hw1
  have HW1 : Hid (w1 = w.alloc (.cells (opC 3 ws cs i c d x) 31)) := hw1
  have HC1 : Hid _ := scan_none w1 H1.m
  have HC2 : Hid _ := rscan_none w1 H1.d
  have HP : Hid _ := put_any H1 (by omega) none 0 [] 0 ⟨rfl, .inl ⟨rfl, rfl⟩⟩ (by simp) (fun k hk => by cases hk)
  clear hw1 hB1 H H1
  go_enter Tryd.func9, Tryd.ntmps9
  go_wp2_with fail
  rw [← HW1.out]
  refine Calls.mono HC1.out ?_
  rintro e w' ⟨rfl, hw'⟩
  rw [hw']
  clear hw' q0
  go_wp2_with fail
  refine Calls.mono HC2.out ?_
  rintro e w' ⟨rfl, hw'⟩
  rw [hw']
  clear hw'
  go_wp2_with fail
  refine Calls.mono HP.out ?_
  rintro e w4 ⟨⟨rr, rfl⟩, ⟨v4, V4, g4, _⟩, _, _⟩
  have HH4 : Hid (GT w0 w4 mb hb ab db rb g b rv rd [] [] h h v4 (Ni + 1) V4) := g4
  have HS : Hid _ := sameI_any [] [] none none 0 0 w4 (by decide) (by decide) ⟨0, 0, .inl rfl, fun j x hx => by simp at hx⟩ ⟨0, 0, .inl rfl, fun j x hx => by simp at hx⟩
  rw [decide_eq_true rfl] at HS
  clear g4
  go_wp2_with fail
  refine Calls.mono HS.out ?_
  rintro e w7 ⟨rfl, b7⟩
  have HF : Hid (StR w0 mb hb ab db rb g b [] Ni 2 (.returned (.bool true)) w7) := ⟨rfl, rv, rd, [], h, v4, _, V4, HH4.out.below b7, by omega, by omega⟩
  clear b7
  go_wp2_with fail
  go_ret
  exact HF.out
set_option maxRecDepth 100000 in
set_option maxHeartbeats 16000000 in
theorem step_scan1 {p : Int} (H : GT w0 w mb hb ab db rb g b rv rd (p :: row) (p :: row) h h vi Ni Vi) (ws cs : Value) (i c d x : Int) (hN : Ni ≤ 800000) (hrl : row.length + 1 ≤ 300000) (hT : Tab w0) :
    Calls Tryd.prog 9 #[.pointer (some ⟨mb, 0, none⟩), .pointer (some ⟨hb, 0, none⟩), .pointer (some ⟨db, 0, none⟩), .agg (opC 3 ws cs i c d x), .pointer (some ⟨b, 0, none⟩)] w fun e w' => StR w0 mb hb ab db rb g b (p :: row) Ni 2 e w' := by
  obtain ⟨w1, hw1⟩ : ∃ w1, w1 = w.alloc (.cells (opC 3 ws cs i c d x) 31) := ⟨_, rfl⟩
  have hB1 : Below w.heap.size w w1 := hw1 ▸ (Below.refl _ w).alloc (Nat.le_refl _) _
  have H1 := H.below hB1
  have HH1 : Hid (GT w0 w1 mb hb ab db rb g b rv rd (p :: row) (p :: row) h h vi Ni Vi) := H1
  have q0 := op_head w 3 ws cs i c d x hw1
  have HW1 : Hid (w1 = w.alloc (.cells (opC 3 ws cs i c d x) 31)) := hw1
  have HC1 : Hid (Calls Tryd.prog 13 #[.pointer (some ⟨mb, 0, none⟩)] w1 fun e w' => ScO mb hb ab rv p row h w1 e w') := scan_any w1 H1.m (by simp; omega) (H1.tab hT)
  have hlen : (layL h (scanL h p)).length ≤ 2 := Nat.le_trans (layL_len _ _) (by unfold scanL; have := nam_len [ldW h p 0, ldW h p 1] 2; simpa using this)
  clear hw1 hB1 H H1
  generalize hL : layL h (scanL h p) = L at hlen
  go_enter Tryd.func9, Tryd.ntmps9
  go_wp2_with fail
  rw [← HW1.out]
  refine Calls.mono HC1.out ?_
  rintro e w2 ⟨r2, c2, rv2, rfl, o2, s2, d2⟩
  rw [hL] at o2 s2 d2 ⊢
  have H2 := HH1.out.mks s2
  have HH2 : Hid (GT w0 w2 mb hb ab db rb g b rv2 rd (row ++ L) (p :: row) (scanH h p) h vi Ni Vi) := H2
  have HO2 : Hid (w2.ownsRow w1.heap.size 3 1 (.slice r2 L.length c2) L.length (iL L)) := o2
  have HD2 : Hid (∀ k, rv2.ownBlock = some k → (Value.slice r2 L.length c2).ownBlock ≠ some k) := d2
  have hs12 := s2.b.size
  have HC2 : Hid (Calls Tryd.prog 35 #[.pointer (some ⟨db, 0, none⟩)] w2 fun e w' => DScO db rb g rd p row h w2 e w') := rscan_any w2 H2.d (by simp; omega)
  clear o2 s2 d2 H2 HC1 q0
  go_wp2_with fail
  refine Calls.mono HC2.out ?_
  rintro e w3 ⟨r3, c3, rd3, rfl, o3, s3, d3⟩
  rw [hL] at o3 s3 d3 ⊢
  have H3 := HH2.out.dk s3
  have HH3 : Hid (GT w0 w3 mb hb ab db rb g b rv2 rd3 (row ++ L) (row ++ L) (scanH h p) (scanH h p) vi Ni Vi) := H3
  have O2 := s3.own HH2.out.d HO2.out (fun k hk e => by
    obtain ⟨cs, q⟩ := HH1.out.d.q.blk hk
    have := heap_lt q
    have := (HO2.out.lt k e).1
    omega)
  have HO3 : Hid (w3.ownsRow w2.heap.size 3 1 (.slice r3 L.length c3) L.length (iL L)) := o3
  have HO2' : Hid (w3.ownsRow w1.heap.size 3 1 (.slice r2 L.length c2) L.length (iL L)) := O2
  have HP : Hid _ := put_any H3 (by omega) r2 c2 L w1.heap.size O2 (by omega) (fun k hk => by
    obtain ⟨e1, _, _, e4⟩ := HH1.out.new (O2.lt k hk).1
    refine ⟨e1, fun e => HD2.out k e hk, fun e => ?_, e4⟩
    rcases s3.r k e with e5 | e5
    · obtain ⟨cs, q⟩ := HH1.out.d.q.blk e5
      have := heap_lt q
      have := (O2.lt k hk).1
      omega
    · have := (HO2.out.lt k hk).2
      omega)
  clear o3 s3 d3 H3 O2 HC2
  go_wp2_with fail
  refine Calls.mono HP.out ?_
  rintro e w4 ⟨⟨rr, rfl⟩, ⟨v4, V4, g4, _⟩, _, k4⟩
  have HH4 : Hid (GT w0 w4 mb hb ab db rb g b rv2 rd3 (row ++ L) (row ++ L) (scanH h p) (scanH h p) v4 (Ni + 1) V4) := g4
  have HS : Hid _ := sameI_any L L r2 r3 c2 c3 w4 (by unfold maxLen; omega) (by unfold maxLen; omega) (own_rx (rx_keep HO2'.out k4) rfl) (own_rx (rx_keep HO3.out k4) rfl)
  rw [decide_eq_true rfl] at HS
  clear g4 k4 HP
  go_wp2_with fail
  refine Calls.mono HS.out ?_
  rintro e w7 ⟨rfl, b7⟩
  have HF : Hid (StR w0 mb hb ab db rb g b (p :: row) Ni 2 (.returned (.bool true)) w7) := ⟨rfl, rv2, rd3, row ++ L, scanH h p, v4, _, V4, HH4.out.below b7, by simp; omega, by omega⟩
  clear b7
  go_wp2_with fail
  go_ret
  exact HF.out
end
end Go.Proofs.YtiglmffnhbegiaaDoor
