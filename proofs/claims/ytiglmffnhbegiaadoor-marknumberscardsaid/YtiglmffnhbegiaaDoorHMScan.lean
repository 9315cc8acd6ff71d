/- Shade, Scan, Grey of a marker. -/
import Derived.Test.YtiglmffnhbegiaaDoorHMLay
namespace Go.Proofs.YtiglmffnhbegiaaDoor
open Go.RowKit

theorem own_mono {w : World} {base base' e size n : Nat} {v : Value} {xs : List Value} (h : w.ownsRow base e size v n xs) (hb : base' ≤ base) : w.ownsRow base' e size v n xs := by
  refine ⟨h.1, ?_⟩
  rcases h.2 with h' | ⟨g, cap, cur, hv, hg, r⟩
  · exact .inl h'
  · exact .inr ⟨g, cap, cur, hv, Nat.le_trans hb hg, r⟩
theorem MM.below {w w' : World} {mb hb ab : Nat} {rv : Value} {row : List Int} {h : List Cl} (H : MM w mb hb ab rv row h) (hB : Below w.heap.size w w') : MM w' mb hb ab rv row h :=
  ⟨(hB.block _ (heap_lt H.m)).trans H.m, H.q.kept (fun g hg => by obtain ⟨cs, q1⟩ := H.q.blk hg; exact hB.block g (heap_lt q1)), H.c.below hB⟩
theorem MkS.of {w w' : World} {mb hb ab : Nat} {rv : Value} {row : List Int} {h : List Cl} (H : MM w mb hb ab rv row h) (hB : Below w.heap.size w w') : MkS mb hb ab rv rv row h w w' :=
  ⟨H.below hB, hB.mono (Nat.zero_le _), fun g hg _ _ _ => hB.block g hg, fun _ hg => .inl hg, fun _ hg => .inl (hg.kept (hB.block _ H.c.lt.2))⟩
theorem MkS.trans {w w' w'' : World} {mb hb ab : Nat} {rv rv' rv'' : Value} {row row' : List Int} {h h' : List Cl} (a : MkS mb hb ab rv rv' row h w w') (b : MkS mb hb ab rv' rv'' row' h' w' w'') : MkS mb hb ab rv rv'' row' h' w w'' :=
  ⟨b.m, a.b.trans b.b, fun g hg n1 n2 n3 => (b.f g (Nat.lt_of_lt_of_le hg a.b.size) n1 n2 (fun e => by
      rcases a.r g e with h | h
      · exact n3 h
      · omega)).trans (a.f g hg n1 n2 n3), fun g hg => by
      rcases b.r g hg with h | h
      · exact a.r g h
      · exact .inr (Nat.le_trans a.b.size h), fun g hg => by
      rcases b.u g hg with h | h
      · exact a.u g h
      · exact .inr (Nat.le_trans a.b.size h)⟩
theorem MM.ex {w w' : World} {mb hb ab : Nat} {rv : Value} {row : List Int} {h h' : List Cl} (H : MM w mb hb ab rv row h) (hE : ExR hb ab h' w w') : MkS mb hb ab rv rv row h' w w' := by
  obtain ⟨cs, r1, _⟩ := H.c.r
  refine ⟨⟨(hE.2.1.2 _ (ty_ne H.m r1 (by decide)) (heap_lt H.m)).trans H.m, H.q.kept (fun g hg => ?_), hE.1⟩, hE.2.1.1, fun g hg _ n2 _ => hE.2.1.2 g n2 hg, fun g hg => .inl hg, hE.2.2⟩
  obtain ⟨cs, q1⟩ := H.q.blk hg
  exact hE.2.1.2 g (ty_ne q1 r1 (by decide)) (heap_lt q1)
set_option maxRecDepth 100000 in
set_option maxHeartbeats 8000000 in
theorem shadeM_any {mb hb ab : Nat} {rv : Value} {row : List Int} {h : List Cl} (l : List Int) (ra : Option Addr) (ca : Nat) (w : World) (H : MM w mb hb ab rv row h) (hW : WR w ra l) (hl : l.length ≤ 100000) (hrl : row.length ≤ 500000) (hT : Tab w) :
    Calls Tryd.prog 12 #[.pointer (some ⟨mb, 0, none⟩), .slice ra l.length ca] w fun e w' => LayO mb hb ab rv row h (namL l) w e w' := by
  have HN : Hid (Calls Tryd.prog 64 #[.slice ra l.length ca] w fun e w' => OutL w (namL l) e w') := named_any l ra ca w hW hl hT
  have HM : Hid (MM w mb hb ab rv row h) := H
  have hnl : (namL l).length ≤ l.length := by have := nam_len l l.length; rwa [List.take_length] at this
  clear H hW hT
  go_enter Tryd.func12, Tryd.ntmps12
  go_wp2_with fail
  refine Calls.mono HN.out ?_
  rintro e w1 ⟨r1, c1, rfl, ho, hb1⟩
  have HB1 : Hid (Below w.heap.size w w1) := hb1
  have HC : Hid (Calls Tryd.prog 31 #[.pointer (some ⟨mb, 0, none⟩), .slice r1 (namL l).length c1] w1 fun e w' => LayO mb hb ab rv row h (namL l) w1 e w') := lay_any (namL l) r1 c1 w1 (HM.out.below hb1) (own_rx ho rfl) (by omega)
  clear ho hb1
  go_wp2_with fail
  refine Calls.mono HC.out ?_
  rintro e w2 ⟨r2, c2, rv', rfl, ho, hs, hd⟩
  have HR : Hid (LayO mb hb ab rv row h (namL l) w (.returned (.slice r2 (layL h (namL l)).length c2)) w2) := ⟨r2, c2, rv', rfl, own_mono ho HB1.out.size, (MkS.of HM.out HB1.out).trans hs, hd⟩
  clear ho hs hd
  go_wp2_with fail
  go_ret
  exact HR.out
def scanL (h : List Cl) (p : Int) : List Int := namL [ldW h p 0, ldW h p 1]
def scanH (h : List Cl) (p : Int) : List Cl := turnH (layH h (scanL h p)) p 1 2
def ScO (mb hb ab : Nat) (rv : Value) (p : Int) (row : List Int) (h : List Cl) (w : World) (e : Ending) (w' : World) : Prop := ∃ ra c rv', e = .returned (.tuple #[.int .i64 p, .slice ra (layL h (scanL h p)).length c, .bool true]) ∧ w'.ownsRow w.heap.size 3 1 (.slice ra (layL h (scanL h p)).length c) (layL h (scanL h p)).length (iL (layL h (scanL h p))) ∧ MkS mb hb ab rv rv' (row ++ layL h (scanL h p)) (scanH h p) w w' ∧ ∀ g, rv'.ownBlock = some g → (Value.slice ra (layL h (scanL h p)).length c).ownBlock ≠ some g
theorem CH.rng {w : World} {hb ab : Nat} {h : List Cl} (H : CH w hb ab h) (i f : Int) : Rng (ldW h i f) := by
  unfold ldW
  cases hg : getC h i with
  | none =>
    show Rng 0
    exact ⟨by decide, by decide⟩
  | some x =>
    have hx : x ∈ h := by
      unfold getC at hg
      split at hg
      · exact List.mem_of_getElem? hg
      · cases hg
    dsimp only
    split
    · show Rng 0
      exact ⟨by decide, by decide⟩
    · split
      · exact (H.ok x hx).a
      · exact (H.ok x hx).b
set_option maxRecDepth 100000 in
set_option maxHeartbeats 8000000 in
theorem scan_none {mb hb ab : Nat} {rv : Value} {h : List Cl} (w : World) (H : MM w mb hb ab rv [] h) :
    Calls Tryd.prog 13 #[.pointer (some ⟨mb, 0, none⟩)] w fun e w' => e = .returned (.tuple #[.int .i64 0, .slice none 0 0, .bool false]) ∧ w' = w := by
  have lm := heap_lt H.m
  obtain ⟨r, c, rfl⟩ := H.q.sl
  have m1 : w.cell? ⟨mb, 1, none⟩ = some (.slice r 0 c) := heap_cell H.m rfl
  clear H
  go_enter Tryd.func13, Tryd.ntmps13
  go_wp2_with fail
  exact bodyPost_ret (results_tmp3 rfl _ _ _) rfl ⟨rfl, rfl⟩
/-- The first goes from the row. -/
theorem MkS.cut {w : World} {mb hb ab g off' n c' : Nat} {r : Value} {row : List Int} {h : List Cl} (H : MM w mb hb ab r row h) {row' : List Int} (hr : r.ownBlock = some g) (hq : RQ w (.slice (some ⟨g, off', none⟩) n c') row') : MkS mb hb ab r (.slice (some ⟨g, off', none⟩) n c') row' h w (w.setCell ⟨mb, 1, none⟩ (.slice (some ⟨g, off', none⟩) n c')) := by
  obtain ⟨cs, r1, _⟩ := H.c.r
  have sf : ∀ k, k ≠ mb → (w.setCell ⟨mb, 1, none⟩ (.slice (some ⟨g, off', none⟩) n c')).heap[k]? = w.heap[k]? := fun k hk => Below.heap_setCell _ _ _ _ hk
  have st : ∀ (k : Nat) (cs : Array Value) (t : Nat), t ≠ 88 → w.heap[k]? = some (.cells cs t (0, 0)) → (w.setCell ⟨mb, 1, none⟩ (.slice (some ⟨g, off', none⟩) n c')).heap[k]? = w.heap[k]? := fun k cs t ht hk => sf k (ty_ne hk H.m ht)
  refine ⟨⟨set_atC H.m _, hq.kept (fun k hk => ?_), H.c.kept (st _ _ _ (by decide) H.c.v) (st _ _ _ (by decide) r1) (fun q cs hq => st _ _ _ (by decide) hq)⟩, (Below.refl 0 w).setCell (p := ⟨mb, 1, none⟩) (Nat.zero_le _) _, fun k _ n1 _ _ => sf k n1, fun k hk => .inl ?_, fun k hk => .inl (hk.kept (st _ _ _ (by decide) r1))⟩
  · obtain ⟨cs, q1⟩ := hq.blk hk
    exact st _ _ _ (by decide) q1
  · have : g = k := by simpa [Value.ownBlock] using hk
    rw [← this]; exact hr
set_option maxRecDepth 100000 in
set_option maxHeartbeats 8000000 in
theorem scan_more {mb hb ab g off : Nat} {row : List Int} {h : List Cl} {p : Int} (c : Nat) (w : World) (H : MM w mb hb ab (.slice (some ⟨g, off, none⟩) (row.length + 1) c) (p :: row) h) (hc : c ≠ 1) (_ : g < w.heap.size) (hp : w.cell? ⟨g, off, none⟩ = some (.int .i64 p)) (hle : row.length + 1 ≤ c) (hQ : RQ w (.slice (some ⟨g, off + 1, none⟩) row.length (c - 1)) row) (hl : row.length ≤ 400000) (hT : Tab w) :
    Calls Tryd.prog 13 #[.pointer (some ⟨mb, 0, none⟩)] w fun e w' => ScO mb hb ab (.slice (some ⟨g, off, none⟩) (row.length + 1) c) p row h w e w' := by
  have lm := heap_lt H.m
  have m0 : w.cell? ⟨mb, 0, none⟩ = some (.pointer (some ⟨hb, 0, none⟩)) := heap_cell H.m rfl
  have m1 : w.cell? ⟨mb, 1, none⟩ = some (.slice (some ⟨g, off, none⟩) (row.length + 1) c) := heap_cell H.m rfl
  have f1 : w.frozen? ⟨mb, 1, none⟩ = false := by simp [World.frozen?, H.m]
  have z1 : ¬ (c = 1) := hc
  have z2 : ¬ (c - 1 = 0) := by omega
  have HS1 : Hid (MkS mb hb ab (.slice (some ⟨g, off, none⟩) (row.length + 1) c) (.slice (some ⟨g, off + 1, none⟩) row.length (c - 1)) row h w (w.setCell ⟨mb, 1, none⟩ (.slice (some ⟨g, off + 1, none⟩) row.length (c - 1)))) := MkS.cut H rfl hQ
  have hTab : Tab (w.setCell ⟨mb, 1, none⟩ (.slice (some ⟨g, off + 1, none⟩) row.length (c - 1))) := fun t ht => by
    have hne : 0 ≠ mb := fun e => by
      have := (hT 1 (by decide)).1
      simp only [World.cell?, e, H.m] at this
      simp at this
    obtain ⟨a, b⟩ := hT t ht
    exact ⟨(World.cell?_setCell_far _ _ _ _ (fun e => hne e.symm)).trans a, (World.cell?_setCell_far _ _ _ _ (fun e => hne e.symm)).trans b⟩
  have HT1 : Hid (Tab (w.setCell ⟨mb, 1, none⟩ (.slice (some ⟨g, off + 1, none⟩) row.length (c - 1)))) := hTab
  have HM : Hid (MM w mb hb ab (.slice (some ⟨g, off, none⟩) (row.length + 1) c) (p :: row) h) := H
  obtain ⟨w1, hw1⟩ : ∃ w1, w1 = w.setCell ⟨mb, 1, none⟩ (.slice (some ⟨g, off + 1, none⟩) row.length (c - 1)) := ⟨_, rfl⟩
  rw [← hw1] at HS1 HT1
  have HW1 : Hid (w1 = w.setCell ⟨mb, 1, none⟩ (.slice (some ⟨g, off + 1, none⟩) row.length (c - 1))) := hw1
  have n1 : w1.cell? ⟨mb, 0, none⟩ = some (.pointer (some ⟨hb, 0, none⟩)) := heap_cell HS1.out.m.m rfl
  have HL1 : Hid (Calls Tryd.prog 65 #[.pointer (some ⟨hb, 0, none⟩), .int .i64 p, .int .i64 0] w1 fun e w' => LdR h p 0 w1 e w') := load_any p 0 HS1.out.m.c (.inl rfl)
  clear H hQ hT hTab hw1
  go_enter Tryd.func13, Tryd.ntmps13
  go_wp2_with fail
  rw [← HW1.out]
  go_wp2_with fail
  refine Calls.mono HL1.out ?_
  rintro e w2 ⟨rfl, hb2⟩
  have S2 := HS1.out.trans (MkS.of HS1.out.m hb2)
  have HS2 : Hid (MkS mb hb ab (.slice (some ⟨g, off, none⟩) (row.length + 1) c) (.slice (some ⟨g, off + 1, none⟩) row.length (c - 1)) row h w w2) := S2
  have HT2 : Hid (Tab w2) := HT1.out.below hb2
  have n2 : w2.cell? ⟨mb, 0, none⟩ = some (.pointer (some ⟨hb, 0, none⟩)) := heap_cell S2.m.m rfl
  have HL2 : Hid (Calls Tryd.prog 65 #[.pointer (some ⟨hb, 0, none⟩), .int .i64 p, .int .i64 1] w2 fun e w' => LdR h p 1 w2 e w') := load_any p 1 S2.m.c (.inr rfl)
  clear hb2 S2 HS1 HT1 HL1 HW1
  go_wp2_with fail
  refine Calls.mono HL2.out ?_
  rintro e w3 ⟨rfl, hb3⟩
  have S3 := HS2.out.trans (MkS.of HS2.out.m hb3)
  have HR0 : Hid (Rng (ldW h p 0)) := S3.m.c.rng p 0
  have HR1 : Hid (Rng (ldW h p 1)) := S3.m.c.rng p 1
  have hb4 : Below w3.heap.size w3 (w3.alloc (.cells #[.int .u64 (ldW h p 0), .int .u64 (ldW h p 1)] 29)) := (Below.refl _ _).alloc (Nat.le_refl _) _
  have S4 := S3.trans (MkS.of S3.m hb4)
  have HS4 : Hid (MkS mb hb ab (.slice (some ⟨g, off, none⟩) (row.length + 1) c) (.slice (some ⟨g, off + 1, none⟩) row.length (c - 1)) row h w (w3.alloc (.cells #[.int .u64 (ldW h p 0), .int .u64 (ldW h p 1)] 29))) := S4
  have hWR : WR (w3.alloc (.cells #[.int .u64 (ldW h p 0), .int .u64 (ldW h p 1)] 29)) (some ⟨w3.heap.size, 0, none⟩) [ldW h p 0, ldW h p 1] := by
    refine ⟨w3.heap.size, 0, .inr rfl, fun j x hx => ⟨by rw [World.size_alloc]; omega, ?_⟩⟩
    rw [Nat.zero_add]
    match j, hx with
    | 0, hx => cases hx; exact ⟨new_cell _ _ _ 0 _ rfl, HR0.out⟩
    | 1, hx => cases hx; exact ⟨new_cell _ _ _ 1 _ rfl, HR1.out⟩
    | j + 2, hx => simp at hx
  have HC : Hid (Calls Tryd.prog 12 #[.pointer (some ⟨mb, 0, none⟩), .slice (some ⟨w3.heap.size, 0, none⟩) 2 2] (w3.alloc (.cells #[.int .u64 (ldW h p 0), .int .u64 (ldW h p 1)] 29)) fun e w' => LayO mb hb ab (.slice (some ⟨g, off + 1, none⟩) row.length (c - 1)) row h (namL [ldW h p 0, ldW h p 1]) (w3.alloc (.cells #[.int .u64 (ldW h p 0), .int .u64 (ldW h p 1)] 29)) e w') :=
    shadeM_any [ldW h p 0, ldW h p 1] (some ⟨w3.heap.size, 0, none⟩) 2 _ S4.m hWR (by simp) (by omega) ((HT2.out.below hb3).below hb4)
  clear hb3 hb4 S3 S4 HS2 HT2 HL2 hWR n1 n2
  go_wp2_with fail
  refine Calls.mono HC.out ?_
  rintro e w5 ⟨r5, c5, rv5, rfl, ho5, hs5, hd5⟩
  have S5 := HS4.out.trans hs5
  have HO5 : Hid (w5.ownsRow w.heap.size 3 1 (.slice r5 (layL h (scanL h p)).length c5) (layL h (scanL h p)).length (iL (layL h (scanL h p)))) := own_mono ho5 HS4.out.b.size
  have HS5 : Hid (MkS mb hb ab (.slice (some ⟨g, off, none⟩) (row.length + 1) c) rv5 (row ++ layL h (scanL h p)) (layH h (scanL h p)) w w5) := S5
  have HD5 : Hid (∀ g, rv5.ownBlock = some g → (Value.slice r5 (layL h (scanL h p)).length c5).ownBlock ≠ some g) := hd5
  have n5 : w5.cell? ⟨mb, 0, none⟩ = some (.pointer (some ⟨hb, 0, none⟩)) := heap_cell S5.m.m rfl
  have HTn : Hid (Calls Tryd.prog 37 #[.pointer (some ⟨hb, 0, none⟩), .int .i64 p, .int .u8 1, .int .u8 2] w5 fun e w' => e = .returned (.bool (turnB (layH h (scanL h p)) p 1 2)) ∧ ExR hb ab (turnH (layH h (scanL h p)) p 1 2) w5 w') := turn_any p 1 2 S5.m.c (by decide)
  have lab : ab < w.heap.size := HM.out.c.lt.2
  change _ at n5
  rw [show namL [ldW h p 0, ldW h p 1] = scanL h p from rfl]
  clear ho5 hs5 hd5 S5 HC HS4
  go_wp2_with fail
  refine Calls.mono HTn.out ?_
  rintro e w6 ⟨rfl, hx⟩
  have HRo : Hid (w6.ownsRow w.heap.size 3 1 (.slice r5 (layL h (scanL h p)).length c5) (layL h (scanL h p)).length (iL (layL h (scanL h p)))) := own_same HO5.out (fun k hk => hx.2.1.2 k (by have := (HO5.out.lt k hk).1; omega) (HO5.out.lt k hk).2)
  have HRs : Hid (MkS mb hb ab (.slice (some ⟨g, off, none⟩) (row.length + 1) c) rv5 (row ++ layL h (scanL h p)) (scanH h p) w w6) := HS5.out.trans (HS5.out.m.ex hx)
  clear hx
  go_wp2_with fail
  exact bodyPost_ret (results_tmp3 rfl _ _ _) rfl ⟨_, _, _, rfl, HRo.out, HRs.out, HD5.out⟩
end Go.Proofs.YtiglmffnhbegiaaDoor
