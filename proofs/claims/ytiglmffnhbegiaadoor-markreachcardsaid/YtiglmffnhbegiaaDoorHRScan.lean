/- The document's Scan. -/
import Derived.Test.YtiglmffnhbegiaaDoorHRShade
namespace Go.Proofs.YtiglmffnhbegiaaDoor
open Go.RowKit

def DScO (db rb g : Nat) (rv : Value) (p : Int) (row : List Int) (h : List Cl) (w : World) (e : Ending) (w' : World) : Prop := ∃ ra c rv', e = .returned (.tuple #[.int .i64 p, .slice ra (layL h (scanL h p)).length c, .bool true]) ∧ w'.ownsRow w.heap.size 3 1 (.slice ra (layL h (scanL h p)).length c) (layL h (scanL h p)).length (iL (layL h (scanL h p))) ∧ DkS db rb g rv rv' (row ++ layL h (scanL h p)) (scanH h p) w w' ∧ ∀ k, rv'.ownBlock = some k → (Value.slice ra (layL h (scanL h p)).length c).ownBlock ≠ some k
theorem ld_rng {h : List Cl} (H : ∀ x ∈ h, OkK x) (i f : Int) : Rng (ldW h i f) := by
  unfold ldW
  cases hg : getC h i with
  | none =>
    show Rng 0
    exact ⟨by decide, by decide⟩
  | some x =>
    have hx : x ∈ h := by
      unfold getC at hg
      split at hg
      · exact List.mem_of_getElem? hg
      · cases hg
    dsimp only
    split
    · show Rng 0
      exact ⟨by decide, by decide⟩
    · split
      · exact (H x hx).a
      · exact (H x hx).b
theorem RH.rng {w : World} {rb g : Nat} {h : List Cl} (H : RH w rb g h) (i f : Int) : Rng (ldW h i f) := ld_rng H.ok i f
theorem scan_nil {h : List Cl} {p : Int} (he : ldE h p ≠ 0) : scanL h p = [] := by
  have E : ∀ f, ldW h p f = 0 := fun f => by
    unfold ldE chE at he
    unfold ldW
    cases hg : getC h p with
    | none => rfl
    | some x =>
      rw [hg] at he
      dsimp only at he ⊢
      by_cases h0 : x.k = 0
      · rw [if_pos h0]
      · rw [if_neg h0] at he; exact absurd rfl he
  have h0 : refB 0 = false := by kernel_rfl
  unfold scanL namL
  simp [E, h0]
theorem DkS.cut {w : World} {db rb g k off' n c' : Nat} {r : Value} {row : List Int} {h : List Cl} (H : DM w db rb g r row h) {row' : List Int} (hr : r.ownBlock = some k) (hq : RQ w (.slice (some ⟨k, off', none⟩) n c') row') : DkS db rb g r (.slice (some ⟨k, off', none⟩) n c') row' h w (w.setCell ⟨db, 1, none⟩ (.slice (some ⟨k, off', none⟩) n c')) := by
  obtain ⟨cs, r1, _⟩ := H.r.r
  have sf : ∀ j, j ≠ db → (w.setCell ⟨db, 1, none⟩ (.slice (some ⟨k, off', none⟩) n c')).heap[j]? = w.heap[j]? := fun j hj => Below.heap_setCell _ _ _ _ hj
  have st : ∀ (j : Nat) (cs : Array Value) (t : Nat), t ≠ 40 → w.heap[j]? = some (.cells cs t (0, 0)) → (w.setCell ⟨db, 1, none⟩ (.slice (some ⟨k, off', none⟩) n c')).heap[j]? = w.heap[j]? := fun j cs t ht hj => sf j (ty_ne hj H.m ht)
  refine ⟨⟨set_atC H.m _, hq.kept (fun j hj => ?_), H.r.kept (st _ _ _ (by decide) H.r.v) (st _ _ _ (by decide) r1)⟩, (Below.refl 0 w).setCell (p := ⟨db, 1, none⟩) (Nat.zero_le _) _, fun j _ n1 _ _ => sf j n1, fun j hj => .inl ?_⟩
  · obtain ⟨cs, q1⟩ := hq.blk hj
    exact st _ _ _ (by decide) q1
  · have : k = j := by simpa [Value.ownBlock] using hj
    rw [← this]; exact hr
set_option maxRecDepth 100000 in
set_option maxHeartbeats 8000000 in
theorem rscan_more {db rb g k off : Nat} {row : List Int} {h : List Cl} {p : Int} (c : Nat) (w : World) (H : DM w db rb g (.slice (some ⟨k, off, none⟩) (row.length + 1) c) (p :: row) h) (hp : w.cell? ⟨k, off, none⟩ = some (.int .i64 p)) (hQ : RQ w (.slice (some ⟨k, off + 1, none⟩) row.length (c - 1)) row) (hc : c ≠ 1) (hle : row.length + 1 ≤ c) (hl : row.length ≤ 400000) :
    Calls Tryd.prog 35 #[.pointer (some ⟨db, 0, none⟩)] w fun e w' => DScO db rb g (.slice (some ⟨k, off, none⟩) (row.length + 1) c) p row h w e w' := by
  have lm := heap_lt H.m
  have m0 : w.cell? ⟨db, 0, none⟩ = some (.pointer (some ⟨rb, 0, none⟩)) := heap_cell H.m rfl
  have m1 : w.cell? ⟨db, 1, none⟩ = some (.slice (some ⟨k, off, none⟩) (row.length + 1) c) := heap_cell H.m rfl
  have f1 : w.frozen? ⟨db, 1, none⟩ = false := by simp [World.frozen?, H.m]
  have z1 : ¬ (c = 1) := hc
  have z2 : ¬ (c - 1 = 0) := by omega
  have HS1 : Hid (DkS db rb g (.slice (some ⟨k, off, none⟩) (row.length + 1) c) (.slice (some ⟨k, off + 1, none⟩) row.length (c - 1)) row h w (w.setCell ⟨db, 1, none⟩ (.slice (some ⟨k, off + 1, none⟩) row.length (c - 1)))) := DkS.cut H rfl hQ
  have HM : Hid (DM w db rb g (.slice (some ⟨k, off, none⟩) (row.length + 1) c) (p :: row) h) := H
  obtain ⟨w1, hw1⟩ : ∃ w1, w1 = w.setCell ⟨db, 1, none⟩ (.slice (some ⟨k, off + 1, none⟩) row.length (c - 1)) := ⟨_, rfl⟩
  rw [← hw1] at HS1
  have HW1 : Hid (w1 = w.setCell ⟨db, 1, none⟩ (.slice (some ⟨k, off + 1, none⟩) row.length (c - 1))) := hw1
  have n1 : w1.cell? ⟨db, 0, none⟩ = some (.pointer (some ⟨rb, 0, none⟩)) := heap_cell HS1.out.m.m rfl
  have HL1 : Hid (Calls Tryd.prog 81 #[.pointer (some ⟨rb, 0, none⟩), .int .i64 p, .int .i64 0] w1 fun e w' => RLd h p 0 w1 e w') := rload_any p 0 HS1.out.m.r (.inl rfl)
  have HL2 : Hid (Calls Tryd.prog 81 #[.pointer (some ⟨rb, 0, none⟩), .int .i64 p, .int .i64 1] w1 fun e w' => RLd h p 1 w1 e w') := rload_any p 1 HS1.out.m.r (.inr rfl)
  have HR0 : Hid (Rng (ldW h p 0)) := HS1.out.m.r.rng p 0
  have HR1 : Hid (Rng (ldW h p 1)) := HS1.out.m.r.rng p 1
  clear H hQ hw1
  by_cases he : ldE h p = 0
  · have z9 : (ldE h p == 0) = true := by simpa using he
    have hb4 : Below w1.heap.size w1 (w1.alloc (.cells #[.int .u64 (ldW h p 0), .int .u64 (ldW h p 1)] 29)) := (Below.refl _ _).alloc (Nat.le_refl _) _
    have S4 := HS1.out.trans (DkS.of HS1.out.m hb4)
    have HS4 : Hid (DkS db rb g (.slice (some ⟨k, off, none⟩) (row.length + 1) c) (.slice (some ⟨k, off + 1, none⟩) row.length (c - 1)) row h w (w1.alloc (.cells #[.int .u64 (ldW h p 0), .int .u64 (ldW h p 1)] 29))) := S4
    have hWR : WR (w1.alloc (.cells #[.int .u64 (ldW h p 0), .int .u64 (ldW h p 1)] 29)) (some ⟨w1.heap.size, 0, none⟩) [ldW h p 0, ldW h p 1] := by
      refine ⟨w1.heap.size, 0, .inr rfl, fun j x hx => ⟨by rw [World.size_alloc]; omega, ?_⟩⟩
      rw [Nat.zero_add]
      match j, hx with
      | 0, hx => cases hx; exact ⟨new_cell _ _ _ 0 _ rfl, HR0.out⟩
      | 1, hx => cases hx; exact ⟨new_cell _ _ _ 1 _ rfl, HR1.out⟩
      | j + 2, hx => simp at hx
    have HC : Hid (Calls Tryd.prog 26 #[.pointer (some ⟨db, 0, none⟩), .slice (some ⟨w1.heap.size, 0, none⟩) 2 2] (w1.alloc (.cells #[.int .u64 (ldW h p 0), .int .u64 (ldW h p 1)] 29)) fun e w' => DLayO db rb g (.slice (some ⟨k, off + 1, none⟩) row.length (c - 1)) row h (namL [ldW h p 0, ldW h p 1]) (w1.alloc (.cells #[.int .u64 (ldW h p 0), .int .u64 (ldW h p 1)] 29)) e w') :=
      rshadeM_any [ldW h p 0, ldW h p 1] (some ⟨w1.heap.size, 0, none⟩) 2 _ S4.m hWR (by simp) (by omega)
    clear hb4 S4 hWR
    go_enter Tryd.func35, Tryd.ntmps35
    go_wp2_with fail
    rw [← HW1.out]
    go_wp2_with fail
    refine Calls.mono HL1.out ?_
    rintro e w' ⟨rfl, hw'⟩
    rw [hw']
    clear hw'
    go_wp2_with fail
    refine Calls.mono HL2.out ?_
    rintro e w' ⟨rfl, hw'⟩
    rw [hw']
    clear hw'
    go_wp2_with fail
    refine Calls.mono HC.out ?_
    rintro e w5 ⟨r5, c5, rv5, rfl, ho5, hs5, hd5⟩
    have S5 := HS4.out.trans hs5
    have HO5 : Hid (w5.ownsRow w.heap.size 3 1 (.slice r5 (layL h (scanL h p)).length c5) (layL h (scanL h p)).length (iL (layL h (scanL h p)))) := own_mono ho5 HS4.out.b.size
    have HS5 : Hid (DkS db rb g (.slice (some ⟨k, off, none⟩) (row.length + 1) c) rv5 (row ++ layL h (scanL h p)) (layH h (scanL h p)) w w5) := S5
    have HD5 : Hid (∀ j, rv5.ownBlock = some j → (Value.slice r5 (layL h (scanL h p)).length c5).ownBlock ≠ some j) := hd5
    have n5 : w5.cell? ⟨db, 0, none⟩ = some (.pointer (some ⟨rb, 0, none⟩)) := heap_cell S5.m.m rfl
    have HTn : Hid (Calls Tryd.prog 38 #[.pointer (some ⟨rb, 0, none⟩), .int .i64 p, .int .u8 1, .int .u8 2] w5 fun e w' => e = .returned (.bool (turnB (layH h (scanL h p)) p 1 2)) ∧ RhR rb g (turnH (layH h (scanL h p)) p 1 2) w5 w') := rturn_any p 1 2 S5.m.r (by decide)
    rw [show namL [ldW h p 0, ldW h p 1] = scanL h p from rfl]
    clear ho5 hs5 hd5 S5 HC HS4 HL1 HL2
    go_wp2_with fail
    refine Calls.mono HTn.out ?_
    rintro e w6 ⟨rfl, hx⟩
    obtain ⟨csg, gr1, _⟩ := HS5.out.m.r.r
    have HRo : Hid (w6.ownsRow w.heap.size 3 1 (.slice r5 (layL h (scanL h p)).length c5) (layL h (scanL h p)).length (iL (layL h (scanL h p)))) := own_same HO5.out (fun j hj => by
      obtain ⟨cs, q1⟩ := own_blk HO5.out hj
      exact hx.2.2 j (ty_ne q1 gr1 (by decide)) (heap_lt q1))
    have HRs : Hid (DkS db rb g (.slice (some ⟨k, off, none⟩) (row.length + 1) c) rv5 (row ++ layL h (scanL h p)) (scanH h p) w w6) := HS5.out.trans (HS5.out.m.rh hx)
    clear hx gr1
    go_wp2_with fail
    exact bodyPost_ret (results_tmp3 rfl _ _ _) rfl ⟨_, _, _, rfl, HRo.out, HRs.out, HD5.out⟩
  · have z9 : (ldE h p == 0) = false := by simpa using he
    have E1 : Hid (scanL h p = []) := scan_nil he
    have HTn : Hid (Calls Tryd.prog 38 #[.pointer (some ⟨rb, 0, none⟩), .int .i64 p, .int .u8 1, .int .u8 2] w1 fun e w' => e = .returned (.bool (turnB h p 1 2)) ∧ RhR rb g (turnH h p 1 2) w1 w') := rturn_any p 1 2 HS1.out.m.r (by decide)
    go_enter Tryd.func35, Tryd.ntmps35
    go_wp2_with fail
    rw [← HW1.out]
    go_wp2_with fail
    refine Calls.mono HL1.out ?_
    rintro e w' ⟨rfl, hw'⟩
    rw [hw']
    clear hw'
    go_wp2_with fail
    refine Calls.mono HL2.out ?_
    rintro e w' ⟨rfl, hw'⟩
    rw [hw']
    clear hw'
    go_wp2_with fail
    refine Calls.mono HTn.out ?_
    rintro e w6 ⟨rfl, hx⟩
    have HRs : Hid (DkS db rb g (.slice (some ⟨k, off, none⟩) (row.length + 1) c) (.slice (some ⟨k, off + 1, none⟩) row.length (c - 1)) (row ++ layL h (scanL h p)) (scanH h p) w w6) := by
      have := HS1.out.trans (HS1.out.m.rh hx)
      unfold Hid scanH
      rw [E1.out]
      simpa [layL, layH] using this
    clear hx
    go_wp2_with fail
    refine bodyPost_ret (results_tmp3 rfl _ _ _) rfl ⟨none, 0, _, ?_, ?_, HRs.out, fun _ _ e => by cases e⟩
    · rw [E1.out]; rfl
    · rw [E1.out]; exact ⟨rfl, .inl ⟨rfl, rfl⟩⟩
set_option maxRecDepth 100000 in
set_option maxHeartbeats 8000000 in
theorem rscan_last {db rb g k off : Nat} {h : List Cl} {p : Int} (w : World) (H : DM w db rb g (.slice (some ⟨k, off, none⟩) 1 1) [p] h) (hp : w.cell? ⟨k, off, none⟩ = some (.int .i64 p)) (hQ : RQ w (.slice (some ⟨k, off, none⟩) 0 0) []) :
    Calls Tryd.prog 35 #[.pointer (some ⟨db, 0, none⟩)] w fun e w' => DScO db rb g (.slice (some ⟨k, off, none⟩) 1 1) p [] h w e w' := by
  have lm := heap_lt H.m
  have m0 : w.cell? ⟨db, 0, none⟩ = some (.pointer (some ⟨rb, 0, none⟩)) := heap_cell H.m rfl
  have m1 : w.cell? ⟨db, 1, none⟩ = some (.slice (some ⟨k, off, none⟩) 1 1) := heap_cell H.m rfl
  have f1 : w.frozen? ⟨db, 1, none⟩ = false := by simp [World.frozen?, H.m]
  have HS1 : Hid (DkS db rb g (.slice (some ⟨k, off, none⟩) 1 1) (.slice (some ⟨k, off, none⟩) 0 0) [] h w (w.setCell ⟨db, 1, none⟩ (.slice (some ⟨k, off, none⟩) 0 0))) := DkS.cut H rfl hQ
  have HM : Hid (DM w db rb g (.slice (some ⟨k, off, none⟩) 1 1) [p] h) := H
  obtain ⟨w1, hw1⟩ : ∃ w1, w1 = w.setCell ⟨db, 1, none⟩ (.slice (some ⟨k, off, none⟩) 0 0) := ⟨_, rfl⟩
  rw [← hw1] at HS1
  have HW1 : Hid (w1 = w.setCell ⟨db, 1, none⟩ (.slice (some ⟨k, off, none⟩) 0 0)) := hw1
  have n1 : w1.cell? ⟨db, 0, none⟩ = some (.pointer (some ⟨rb, 0, none⟩)) := heap_cell HS1.out.m.m rfl
  have HL1 : Hid (Calls Tryd.prog 81 #[.pointer (some ⟨rb, 0, none⟩), .int .i64 p, .int .i64 0] w1 fun e w' => RLd h p 0 w1 e w') := rload_any p 0 HS1.out.m.r (.inl rfl)
  have HL2 : Hid (Calls Tryd.prog 81 #[.pointer (some ⟨rb, 0, none⟩), .int .i64 p, .int .i64 1] w1 fun e w' => RLd h p 1 w1 e w') := rload_any p 1 HS1.out.m.r (.inr rfl)
  have HR0 : Hid (Rng (ldW h p 0)) := HS1.out.m.r.rng p 0
  have HR1 : Hid (Rng (ldW h p 1)) := HS1.out.m.r.rng p 1
  clear H hQ hw1
  by_cases he : ldE h p = 0
  · have z9 : (ldE h p == 0) = true := by simpa using he
    have hb4 : Below w1.heap.size w1 (w1.alloc (.cells #[.int .u64 (ldW h p 0), .int .u64 (ldW h p 1)] 29)) := (Below.refl _ _).alloc (Nat.le_refl _) _
    have S4 := HS1.out.trans (DkS.of HS1.out.m hb4)
    have HS4 : Hid (DkS db rb g (.slice (some ⟨k, off, none⟩) 1 1) (.slice (some ⟨k, off, none⟩) 0 0) [] h w (w1.alloc (.cells #[.int .u64 (ldW h p 0), .int .u64 (ldW h p 1)] 29))) := S4
    have hWR : WR (w1.alloc (.cells #[.int .u64 (ldW h p 0), .int .u64 (ldW h p 1)] 29)) (some ⟨w1.heap.size, 0, none⟩) [ldW h p 0, ldW h p 1] := by
      refine ⟨w1.heap.size, 0, .inr rfl, fun j x hx => ⟨by rw [World.size_alloc]; omega, ?_⟩⟩
      rw [Nat.zero_add]
      match j, hx with
      | 0, hx => cases hx; exact ⟨new_cell _ _ _ 0 _ rfl, HR0.out⟩
      | 1, hx => cases hx; exact ⟨new_cell _ _ _ 1 _ rfl, HR1.out⟩
      | j + 2, hx => simp at hx
    have HC : Hid (Calls Tryd.prog 26 #[.pointer (some ⟨db, 0, none⟩), .slice (some ⟨w1.heap.size, 0, none⟩) 2 2] (w1.alloc (.cells #[.int .u64 (ldW h p 0), .int .u64 (ldW h p 1)] 29)) fun e w' => DLayO db rb g (.slice (some ⟨k, off, none⟩) 0 0) [] h (namL [ldW h p 0, ldW h p 1]) (w1.alloc (.cells #[.int .u64 (ldW h p 0), .int .u64 (ldW h p 1)] 29)) e w') :=
      rshadeM_any [ldW h p 0, ldW h p 1] (some ⟨w1.heap.size, 0, none⟩) 2 _ S4.m hWR (by simp) (by simp)
    clear hb4 S4 hWR
    go_enter Tryd.func35, Tryd.ntmps35
    go_wp2_with fail
    rw [← HW1.out]
    go_wp2_with fail
    refine Calls.mono HL1.out ?_
    rintro e w' ⟨rfl, hw'⟩
    rw [hw']
    clear hw'
    go_wp2_with fail
    refine Calls.mono HL2.out ?_
    rintro e w' ⟨rfl, hw'⟩
    rw [hw']
    clear hw'
    go_wp2_with fail
    refine Calls.mono HC.out ?_
    rintro e w5 ⟨r5, c5, rv5, rfl, ho5, hs5, hd5⟩
    have S5 := HS4.out.trans hs5
    have HO5 : Hid (w5.ownsRow w.heap.size 3 1 (.slice r5 (layL h (scanL h p)).length c5) (layL h (scanL h p)).length (iL (layL h (scanL h p)))) := own_mono ho5 HS4.out.b.size
    have HS5 : Hid (DkS db rb g (.slice (some ⟨k, off, none⟩) 1 1) rv5 ([] ++ layL h (scanL h p)) (layH h (scanL h p)) w w5) := S5
    have HD5 : Hid (∀ j, rv5.ownBlock = some j → (Value.slice r5 (layL h (scanL h p)).length c5).ownBlock ≠ some j) := hd5
    have n5 : w5.cell? ⟨db, 0, none⟩ = some (.pointer (some ⟨rb, 0, none⟩)) := heap_cell S5.m.m rfl
    have HTn : Hid (Calls Tryd.prog 38 #[.pointer (some ⟨rb, 0, none⟩), .int .i64 p, .int .u8 1, .int .u8 2] w5 fun e w' => e = .returned (.bool (turnB (layH h (scanL h p)) p 1 2)) ∧ RhR rb g (turnH (layH h (scanL h p)) p 1 2) w5 w') := rturn_any p 1 2 S5.m.r (by decide)
    rw [show namL [ldW h p 0, ldW h p 1] = scanL h p from rfl]
    clear ho5 hs5 hd5 S5 HC HS4 HL1 HL2
    go_wp2_with fail
    refine Calls.mono HTn.out ?_
    rintro e w6 ⟨rfl, hx⟩
    obtain ⟨csg, gr1, _⟩ := HS5.out.m.r.r
    have HRo : Hid (w6.ownsRow w.heap.size 3 1 (.slice r5 (layL h (scanL h p)).length c5) (layL h (scanL h p)).length (iL (layL h (scanL h p)))) := own_same HO5.out (fun j hj => by
      obtain ⟨cs, q1⟩ := own_blk HO5.out hj
      exact hx.2.2 j (ty_ne q1 gr1 (by decide)) (heap_lt q1))
    have HRs : Hid (DkS db rb g (.slice (some ⟨k, off, none⟩) 1 1) rv5 ([] ++ layL h (scanL h p)) (scanH h p) w w6) := HS5.out.trans (HS5.out.m.rh hx)
    clear hx gr1
    go_wp2_with fail
    exact bodyPost_ret (results_tmp3 rfl _ _ _) rfl ⟨_, _, _, rfl, HRo.out, HRs.out, HD5.out⟩
  · have z9 : (ldE h p == 0) = false := by simpa using he
    have E1 : Hid (scanL h p = []) := scan_nil he
    have HTn : Hid (Calls Tryd.prog 38 #[.pointer (some ⟨rb, 0, none⟩), .int .i64 p, .int .u8 1, .int .u8 2] w1 fun e w' => e = .returned (.bool (turnB h p 1 2)) ∧ RhR rb g (turnH h p 1 2) w1 w') := rturn_any p 1 2 HS1.out.m.r (by decide)
    go_enter Tryd.func35, Tryd.ntmps35
    go_wp2_with fail
    rw [← HW1.out]
    go_wp2_with fail
    refine Calls.mono HL1.out ?_
    rintro e w' ⟨rfl, hw'⟩
    rw [hw']
    clear hw'
    go_wp2_with fail
    refine Calls.mono HL2.out ?_
    rintro e w' ⟨rfl, hw'⟩
    rw [hw']
    clear hw'
    go_wp2_with fail
    refine Calls.mono HTn.out ?_
    rintro e w6 ⟨rfl, hx⟩
    have HRs : Hid (DkS db rb g (.slice (some ⟨k, off, none⟩) 1 1) (.slice (some ⟨k, off, none⟩) 0 0) ([] ++ layL h (scanL h p)) (scanH h p) w w6) := by
      have := HS1.out.trans (HS1.out.m.rh hx)
      unfold Hid scanH
      rw [E1.out]
      simpa [layL, layH] using this
    clear hx
    go_wp2_with fail
    refine bodyPost_ret (results_tmp3 rfl _ _ _) rfl ⟨none, 0, _, ?_, ?_, HRs.out, fun _ _ e => by cases e⟩
    · rw [E1.out]; rfl
    · rw [E1.out]; exact ⟨rfl, .inl ⟨rfl, rfl⟩⟩
set_option maxRecDepth 100000 in
set_option maxHeartbeats 8000000 in
theorem rscan_none {db rb g : Nat} {rv : Value} {h : List Cl} (w : World) (H : DM w db rb g rv [] h) :
    Calls Tryd.prog 35 #[.pointer (some ⟨db, 0, none⟩)] w fun e w' => e = .returned (.tuple #[.int .i64 0, .slice none 0 0, .bool false]) ∧ w' = w := by
  have lm := heap_lt H.m
  obtain ⟨r, c, rfl⟩ := H.q.sl
  have m1 : w.cell? ⟨db, 1, none⟩ = some (.slice r 0 c) := heap_cell H.m rfl
  clear H
  go_enter Tryd.func35, Tryd.ntmps35
  go_wp2_with fail
  exact bodyPost_ret (results_tmp3 rfl _ _ _) rfl ⟨rfl, rfl⟩
def DScA (db rb g : Nat) (rv : Value) (row : List Int) (h : List Cl) (w : World) (e : Ending) (w' : World) : Prop := match row with
  | [] => e = .returned (.tuple #[.int .i64 0, .slice none 0 0, .bool false]) ∧ w' = w
  | p :: row => DScO db rb g rv p row h w e w'
theorem rscan_any {db rb g : Nat} {rv : Value} {row : List Int} {h : List Cl} (w : World) (H : DM w db rb g rv row h) (hl : row.length ≤ 400000) :
    Calls Tryd.prog 35 #[.pointer (some ⟨db, 0, none⟩)] w fun e w' => DScA db rb g rv row h w e w' := by
  cases row with
  | nil => exact rscan_none w H
  | cons p row =>
    obtain ⟨ra, c, rfl⟩ := H.q.sl
    have hq := H.q
    rw [List.length_cons] at hq H ⊢
    obtain ⟨k, off, rfl, h1, h2, h3, h4, h5⟩ := hq.tail
    by_cases hc : c = 1
    · subst hc
      have hr : row = [] := List.eq_nil_of_length_eq_zero (by omega)
      subst hr
      exact rscan_last w H h3 (h5 rfl)
    · exact rscan_more c w H h3 (h4 hc) hc h1 (by rw [List.length_cons] at hl; omega)
end Go.Proofs.YtiglmffnhbegiaaDoor
