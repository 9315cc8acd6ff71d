/- A list put into the book. -/
import Derived.Test.YtdcmkifljcdmmaaGreatDoorHHBook
namespace Go.Proofs.YtdcmkifljcdmmaaGreatDoor
open Go.RowKit

def upd {α : Type} (f : Nat → α) (k : Nat) (x : α) : Nat → α := fun j => if j = k then x else f j
theorem upd_eq {α : Type} (f : Nat → α) (k : Nat) (x : α) : upd f k x k = x := if_pos rfl
theorem upd_ne {α : Type} (f : Nat → α) {k j : Nat} (x : α) (h : j ≠ k) : upd f k x j = f j := if_neg h
/-- Nothing turns but the book's own and its rows. -/
def Rw (t : TypeId) : Prop := t = 46 ∨ ∃ k, Fo k ∧ t = (KK k).lt
def KpB (w w' : World) : Prop := Below 0 w w' ∧ ∀ (g : Nat) (cs : Array Value) (t : TypeId), w.heap[g]? = some (.cells cs t (0, 0)) → ¬ Rw t → w'.heap[g]? = w.heap[g]?
theorem KpB.trans {w w' w'' : World} (h : KpB w w') (h' : KpB w' w'') : KpB w w'' := ⟨h.1.trans h'.1, fun g cs t hg ht => (h'.2 g cs t ((h.2 g cs t hg ht).trans hg) ht).trans (h.2 g cs t hg ht)⟩
theorem KpB.of {w w' : World} (h : Below w.heap.size w w') : KpB w w' := ⟨h.mono (Nat.zero_le _), fun g _ _ hg _ => h.block g (heap_lt hg)⟩
/-- What a list that is put in leaves. -/
structure PutR (w w' : World) (b : Nat) (c : Nat → Value) (N : Nat → Nat) (V : Nat → Nat → Value) (k : Nat) (l v' : Value) : Prop where
  bk : Bk w' b (upd c k v') (upd N k (N k + 1)) (upd V k (fun j => if j = N k then l else V k j)) Fo
  gr : ∀ g, BkF b (upd c k v') (upd N k (N k + 1)) (upd V k (fun j => if j = N k then l else V k j)) Fo g → BkF b c N V Fo g ∨ l.ownBlock = some g ∨ w.heap.size ≤ g
  kp : KpB w w'
  st : ∀ g, g < w.heap.size → ¬ BkF b c N V Fo g → w'.heap[g]? = w.heap[g]?
/-- Its row has grown, and is written into the book. -/
theorem put_row {w w1 : World} {b : Nat} {c : Nat → Value} {N : Nat → Nat} {V : Nat → Nat → Value} {k : Nat} {l v' : Value} {m : Nat} {xs : List Value} {ob : Obj} (h : Bk w b c N V Fo) (hk : Fo k) (hl : w.ownsRow 0 (KK k).e (KK k).sz l m xs) (hm : m ≤ 1000000) (hf : ∀ g, l.ownBlock = some g → ¬ BkF b c N V Fo g)
    (hrow : w1.ownsRow 0 (KK k).lt 1 v' (N k + 1) ((List.range (N k)).map (V k) ++ [l])) (hgr : (w.alloc ob).grownBy w1 (c k).ownBlock) (hw : v'.ownBlock = (c k).ownBlock ∨ ∃ g, v'.ownBlock = some g ∧ w.heap.size ≤ g)
    (hset : BkH (w1.setCell ⟨b, k, none⟩ v') b (upd c k v')) : PutR w (w1.setCell ⟨b, k, none⟩ v') b c N V k l v' := by
  obtain ⟨n, X, hs⟩ := h.sh k hk
  have lb := heap_lt h.h
  have kk : ∀ g, g < w.heap.size → (c k).ownBlock ≠ some g → w1.heap[g]? = w.heap[g]? := fun g hg hn => (hgr.block g (by rw [World.size_alloc]; omega) (fun e => hn e.symm)).trans (Below.heap_alloc _ _ _ hg)
  have kb : ∀ g, g ≠ b → (w1.setCell ⟨b, k, none⟩ v').heap[g]? = w1.heap[g]? := fun g hg => Below.heap_setCell _ _ _ _ hg
  have hb1 : w1.heap[b]? = w.heap[b]? := kk b lb (fun e => by
    obtain ⟨cs, hc⟩ := own_blk hs.row e
    exact ty_ne hc h.h (kk_bk hk).2 rfl)
  have hown1 : ∀ {e s n : Nat} {v : Value} {ys : List Value}, e ≠ 46 → w1.ownsRow 0 e s v n ys → (w1.setCell ⟨b, k, none⟩ v').ownsRow 0 e s v n ys := fun he ho => own_same ho (fun g hg => kb g (by
    obtain ⟨cs, hc⟩ := own_blk ho hg
    exact ty_ne hc (hb1.trans h.h) he))
  refine ⟨⟨hset, fun _ h => h, fun k' hk' => ?_⟩, fun g hg => ?_, ⟨?_, fun g cs t hg ht => ?_⟩, fun g hg hn => ?_⟩
  · by_cases e : k' = k
    · subst e
      rw [upd_eq, upd_eq, upd_eq]
      exact ⟨_, _, hs.more hl hm (fun g hg hF => hf g hg (.inr ⟨k', hk, hF⟩)) (hown1 (kk_bk hk).2 hrow) (fun g hg hne hty => by
        obtain ⟨cs, hc⟩ := hty
        rw [kb g (ty_ne hc h.h (kk_bk hk).1), kk g hg hne])⟩
    · rw [upd_ne _ _ e, upd_ne _ _ e, upd_ne _ _ e]
      obtain ⟨n', X', hs'⟩ := h.sh k' hk'
      refine ⟨n', X', hs'.kept (fun g hg => ?_)⟩
      have hgb : g ≠ b := by
        rcases hg with hg | ⟨j, hj, hg⟩
        · obtain ⟨cs, hc⟩ := own_blk hs'.row hg
          exact ty_ne hc h.h (kk_bk hk').2
        · obtain ⟨cs, hc⟩ := own_blk (hs'.own j hj) hg
          exact ty_ne hc h.h (kk_bk hk').1
      refine (kb g hgb).trans (kk g (hs'.lt g hg) (fun e' => ?_))
      rcases hg with hg | ⟨j, hj, hg⟩
      · exact own_types hs.row hs'.row (kk_ne hk hk' (fun e2 => e e2.symm)).2 g e' hg
      · exact own_types (hs'.own j hj) hs.row (kk_lt hk' hk) g hg e'
  · rcases hg with hg | ⟨k', hk', hg⟩
    · exact .inl (.inl hg)
    · by_cases e : k' = k
      · subst e
        rw [upd_eq, upd_eq, upd_eq] at hg
        rcases shf_more hw g hg with h' | h' | h'
        · exact .inl (.inr ⟨k', hk, h'⟩)
        · exact .inr (.inl h')
        · exact .inr (.inr h')
      · rw [upd_ne _ _ e, upd_ne _ _ e, upd_ne _ _ e] at hg
        exact .inl (.inr ⟨k', hk', hg⟩)
  · exact (((Below.refl 0 w).alloc (Nat.zero_le _) _).grown hgr (Nat.zero_le _) (fun _ _ => Nat.zero_le _)).setCell (p := ⟨b, k, none⟩) (Nat.zero_le _) _
  · rw [kb g (ty_ne hg h.h (fun e => ht (.inl e))), kk g (heap_lt hg) (fun e => by
      obtain ⟨c2, k2⟩ := own_blk hs.row e
      exact ty_ne hg k2 (fun e2 => ht (.inr ⟨k, hk, e2⟩)) rfl)]
  · rw [kb g (fun e => hn (.inl e)), kk g hg (fun e => hn (.inr ⟨k, hk, .inl e⟩))]
set_option maxRecDepth 100000 in
set_option maxHeartbeats 4000000 in
theorem putInts_any (b : Nat) (c : Nat → Value) (N : Nat → Nat) (V : Nat → Nat → Value) (ra : Option Addr) (m q : Nat) (xs : List Value) (w : World) (h : Bk w b c N V Fo) (hN : N 2 ≤ 1000) (hl : w.ownsRow 0 (KK 2).e (KK 2).sz (.slice ra m q) m xs) (hm : m ≤ 1000000) (hf : ∀ g, (Value.slice ra m q).ownBlock = some g → ¬ BkF b c N V Fo g) :
    Calls Tryz.prog 16 #[.pointer (some ⟨b, 0, none⟩), .slice ra m q] w fun e w' => (∃ r, e = .returned r) ∧ ∃ v', PutR w w' b c N V 2 (.slice ra m q) v' := by
  obtain ⟨i3, hi3, hy0, hy1, hy2⟩ := info_parts infoLKI
  have HH : Hid (Bk w b c N V Fo) := h
  have HL : Hid (w.ownsRow 0 (KK 2).e (KK 2).sz (.slice ra m q) m xs) := hl
  have Hf : Hid (∀ g, (Value.slice ra m q).ownBlock = some g → ¬ BkF b c N V Fo g) := hf
  obtain ⟨n1, X1, h1⟩ := h.sh 2 (by simp [Fo])
  have HR : Hid (w.ownsRow 0 59 1 (c 2) (N 2) ((List.range (N 2)).map (V 2))) := h1.row
  obtain ⟨r0, q0, hv0⟩ := own_sl h1.row
  have cb : w.cell? ⟨b, 2, none⟩ = some (c 2) := heap_cell h.h rfl
  have lb := heap_lt h.h
  have HV : Hid (c 2 = .slice r0 (N 2) q0) := hv0
  rw [hv0] at cb
  clear h hl hf h1 hv0
  generalize hn : N 2 = nn at *
  have Hnn : Hid (N 2 = nn) := hn
  clear hn
  go_enter Tryz.func16, Tryz.ntmps16
  go_wp2_with (at_builtin; refine stop_of ?_)
  unfold Hid
  rw [← HV.out]
  refine wpList_append_told _ rfl _ _ 30 rfl 0 59 i3 (.slice none 0 0) 1 24 Tryz.underlying30 hi3 hy0 hy1 hy2 rfl (by decide) (c 2) nn ((List.range nn).map (V 2)) rfl (HR.out.alloc _) _ 1 1 [.slice ra m q] rfl rfl (cell_one_new _ _ _) (slice_one _ _ _) (by unfold maxLen; omega) (by omega) (Nat.zero_le _) (by decide) ?_
  intro v1 w1 hown1 hgrow1 hold1 hw1
  obtain ⟨ra1, q1, hv1⟩ := own_sl hown1
  subst hv1
  have hs1 : w.heap.size ≤ w1.heap.size := by have := hgrow1.size; rw [World.size_alloc] at this; omega
  have hb1 : w1.heap[b]? = w.heap[b]? := (hgrow1.block b (by rw [World.size_alloc]; omega) (fun e => by
    obtain ⟨cs, hc⟩ := own_blk HR.out e.symm
    exact ty_ne hc HH.out.h (by decide) rfl)).trans (Below.heap_alloc _ _ _ lb)
  have hB1 := hb1.trans HH.out.h
  have cb1 : w1.cell? ⟨b, 2, none⟩ = some (c 2) := heap_cell hB1 rfl
  have fb1 : w1.frozen? ⟨b, 2, none⟩ = false := by simp [World.frozen?, hB1]
  have lb1 := heap_lt hB1
  have hw2 : (Value.slice ra1 (nn + 1) q1).ownBlock = (c 2).ownBlock ∨ ∃ g, (Value.slice ra1 (nn + 1) q1).ownBlock = some g ∧ w.heap.size ≤ g := by
    rcases hw1 with e | e
    · exact .inl e
    · exact .inr ⟨_, e, by rw [World.size_alloc]; omega⟩
  have HF : Hid (PutR w (w1.setCell ⟨b, 2, none⟩ (.slice ra1 (nn + 1) q1)) b c N V 2 (.slice ra m q) (.slice ra1 (nn + 1) q1)) := by
    have hset : BkH (w1.setCell ⟨b, 2, none⟩ (.slice ra1 (nn + 1) q1)) b (upd c 2 (.slice ra1 (nn + 1) q1)) := by
      show (w1.setCell _ _).heap[b]? = _
      rw [set_atC hB1]; rfl
    refine put_row HH.out (by simp [Fo]) HL.out hm Hf.out ?_ hgrow1 hw2 hset
    rw [Hnn.out]; exact hown1
  clear hown1 hgrow1 hold1 hw1 hw2 hB1 hb1 HH HL Hf HR HV Hnn
  go_wp2
  go_end0
  exact ⟨⟨_, rfl⟩, _, HF.out⟩
set_option maxRecDepth 100000 in
set_option maxHeartbeats 4000000 in
theorem putWords_any (b : Nat) (c : Nat → Value) (N : Nat → Nat) (V : Nat → Nat → Value) (ra : Option Addr) (m q : Nat) (xs : List Value) (w : World) (h : Bk w b c N V Fo) (hN : N 5 ≤ 1000) (hl : w.ownsRow 0 (KK 5).e (KK 5).sz (.slice ra m q) m xs) (hm : m ≤ 1000000) (hf : ∀ g, (Value.slice ra m q).ownBlock = some g → ¬ BkF b c N V Fo g) :
    Calls Tryz.prog 29 #[.pointer (some ⟨b, 0, none⟩), .slice ra m q] w fun e w' => (∃ r, e = .returned r) ∧ ∃ v', PutR w w' b c N V 5 (.slice ra m q) v' := by
  obtain ⟨i3, hi3, hy0, hy1, hy2⟩ := info_parts infoLKV
  have HH : Hid (Bk w b c N V Fo) := h
  have HL : Hid (w.ownsRow 0 (KK 5).e (KK 5).sz (.slice ra m q) m xs) := hl
  have Hf : Hid (∀ g, (Value.slice ra m q).ownBlock = some g → ¬ BkF b c N V Fo g) := hf
  obtain ⟨n1, X1, h1⟩ := h.sh 5 (by simp [Fo])
  have HR : Hid (w.ownsRow 0 23 1 (c 5) (N 5) ((List.range (N 5)).map (V 5))) := h1.row
  obtain ⟨r0, q0, hv0⟩ := own_sl h1.row
  have cb : w.cell? ⟨b, 5, none⟩ = some (c 5) := heap_cell h.h rfl
  have lb := heap_lt h.h
  have HV : Hid (c 5 = .slice r0 (N 5) q0) := hv0
  rw [hv0] at cb
  clear h hl hf h1 hv0
  generalize hn : N 5 = nn at *
  have Hnn : Hid (N 5 = nn) := hn
  clear hn
  go_enter Tryz.func29, Tryz.ntmps29
  go_wp2_with (at_builtin; refine stop_of ?_)
  unfold Hid
  rw [← HV.out]
  refine wpList_append_told _ rfl _ _ 33 rfl 0 23 i3 (.slice none 0 0) 1 24 Tryz.underlying33 hi3 hy0 hy1 hy2 rfl (by decide) (c 5) nn ((List.range nn).map (V 5)) rfl (HR.out.alloc _) _ 1 1 [.slice ra m q] rfl rfl (cell_one_new _ _ _) (slice_one _ _ _) (by unfold maxLen; omega) (by omega) (Nat.zero_le _) (by decide) ?_
  intro v1 w1 hown1 hgrow1 hold1 hw1
  obtain ⟨ra1, q1, hv1⟩ := own_sl hown1
  subst hv1
  have hs1 : w.heap.size ≤ w1.heap.size := by have := hgrow1.size; rw [World.size_alloc] at this; omega
  have hb1 : w1.heap[b]? = w.heap[b]? := (hgrow1.block b (by rw [World.size_alloc]; omega) (fun e => by
    obtain ⟨cs, hc⟩ := own_blk HR.out e.symm
    exact ty_ne hc HH.out.h (by decide) rfl)).trans (Below.heap_alloc _ _ _ lb)
  have hB1 := hb1.trans HH.out.h
  have cb1 : w1.cell? ⟨b, 5, none⟩ = some (c 5) := heap_cell hB1 rfl
  have fb1 : w1.frozen? ⟨b, 5, none⟩ = false := by simp [World.frozen?, hB1]
  have lb1 := heap_lt hB1
  have hw2 : (Value.slice ra1 (nn + 1) q1).ownBlock = (c 5).ownBlock ∨ ∃ g, (Value.slice ra1 (nn + 1) q1).ownBlock = some g ∧ w.heap.size ≤ g := by
    rcases hw1 with e | e
    · exact .inl e
    · exact .inr ⟨_, e, by rw [World.size_alloc]; omega⟩
  have HF : Hid (PutR w (w1.setCell ⟨b, 5, none⟩ (.slice ra1 (nn + 1) q1)) b c N V 5 (.slice ra m q) (.slice ra1 (nn + 1) q1)) := by
    have hset : BkH (w1.setCell ⟨b, 5, none⟩ (.slice ra1 (nn + 1) q1)) b (upd c 5 (.slice ra1 (nn + 1) q1)) := by
      show (w1.setCell _ _).heap[b]? = _
      rw [set_atC hB1]; rfl
    refine put_row HH.out (by simp [Fo]) HL.out hm Hf.out ?_ hgrow1 hw2 hset
    rw [Hnn.out]; exact hown1
  clear hown1 hgrow1 hold1 hw1 hw2 hB1 hb1 HH HL Hf HR HV Hnn
  go_wp2
  go_end0
  exact ⟨⟨_, rfl⟩, _, HF.out⟩
set_option maxRecDepth 100000 in
set_option maxHeartbeats 4000000 in
theorem putCells_any (b : Nat) (c : Nat → Value) (N : Nat → Nat) (V : Nat → Nat → Value) (ra : Option Addr) (m q : Nat) (xs : List Value) (w : World) (h : Bk w b c N V Fo) (hN : N 6 ≤ 1000) (hl : w.ownsRow 0 (KK 6).e (KK 6).sz (.slice ra m q) m xs) (hm : m ≤ 1000000) (hf : ∀ g, (Value.slice ra m q).ownBlock = some g → ¬ BkF b c N V Fo g) :
    Calls Tryz.prog 28 #[.pointer (some ⟨b, 0, none⟩), .slice ra m q] w fun e w' => (∃ r, e = .returned r) ∧ ∃ v', PutR w w' b c N V 6 (.slice ra m q) v' := by
  obtain ⟨i3, hi3, hy0, hy1, hy2⟩ := info_parts infoLKC
  have HH : Hid (Bk w b c N V Fo) := h
  have HL : Hid (w.ownsRow 0 (KK 6).e (KK 6).sz (.slice ra m q) m xs) := hl
  have Hf : Hid (∀ g, (Value.slice ra m q).ownBlock = some g → ¬ BkF b c N V Fo g) := hf
  obtain ⟨n1, X1, h1⟩ := h.sh 6 (by simp [Fo])
  have HR : Hid (w.ownsRow 0 22 1 (c 6) (N 6) ((List.range (N 6)).map (V 6))) := h1.row
  obtain ⟨r0, q0, hv0⟩ := own_sl h1.row
  have cb : w.cell? ⟨b, 6, none⟩ = some (c 6) := heap_cell h.h rfl
  have lb := heap_lt h.h
  have HV : Hid (c 6 = .slice r0 (N 6) q0) := hv0
  rw [hv0] at cb
  clear h hl hf h1 hv0
  generalize hn : N 6 = nn at *
  have Hnn : Hid (N 6 = nn) := hn
  clear hn
  go_enter Tryz.func28, Tryz.ntmps28
  go_wp2_with (at_builtin; refine stop_of ?_)
  unfold Hid
  rw [← HV.out]
  refine wpList_append_told _ rfl _ _ 34 rfl 0 22 i3 (.slice none 0 0) 1 24 Tryz.underlying34 hi3 hy0 hy1 hy2 rfl (by decide) (c 6) nn ((List.range nn).map (V 6)) rfl (HR.out.alloc _) _ 1 1 [.slice ra m q] rfl rfl (cell_one_new _ _ _) (slice_one _ _ _) (by unfold maxLen; omega) (by omega) (Nat.zero_le _) (by decide) ?_
  intro v1 w1 hown1 hgrow1 hold1 hw1
  obtain ⟨ra1, q1, hv1⟩ := own_sl hown1
  subst hv1
  have hs1 : w.heap.size ≤ w1.heap.size := by have := hgrow1.size; rw [World.size_alloc] at this; omega
  have hb1 : w1.heap[b]? = w.heap[b]? := (hgrow1.block b (by rw [World.size_alloc]; omega) (fun e => by
    obtain ⟨cs, hc⟩ := own_blk HR.out e.symm
    exact ty_ne hc HH.out.h (by decide) rfl)).trans (Below.heap_alloc _ _ _ lb)
  have hB1 := hb1.trans HH.out.h
  have cb1 : w1.cell? ⟨b, 6, none⟩ = some (c 6) := heap_cell hB1 rfl
  have fb1 : w1.frozen? ⟨b, 6, none⟩ = false := by simp [World.frozen?, hB1]
  have lb1 := heap_lt hB1
  have hw2 : (Value.slice ra1 (nn + 1) q1).ownBlock = (c 6).ownBlock ∨ ∃ g, (Value.slice ra1 (nn + 1) q1).ownBlock = some g ∧ w.heap.size ≤ g := by
    rcases hw1 with e | e
    · exact .inl e
    · exact .inr ⟨_, e, by rw [World.size_alloc]; omega⟩
  have HF : Hid (PutR w (w1.setCell ⟨b, 6, none⟩ (.slice ra1 (nn + 1) q1)) b c N V 6 (.slice ra m q) (.slice ra1 (nn + 1) q1)) := by
    have hset : BkH (w1.setCell ⟨b, 6, none⟩ (.slice ra1 (nn + 1) q1)) b (upd c 6 (.slice ra1 (nn + 1) q1)) := by
      show (w1.setCell _ _).heap[b]? = _
      rw [set_atC hB1]; rfl
    refine put_row HH.out (by simp [Fo]) HL.out hm Hf.out ?_ hgrow1 hw2 hset
    rw [Hnn.out]; exact hown1
  clear hown1 hgrow1 hold1 hw1 hw2 hB1 hb1 HH HL Hf HR HV Hnn
  go_wp2
  go_end0
  exact ⟨⟨_, rfl⟩, _, HF.out⟩
set_option maxRecDepth 100000 in
set_option maxHeartbeats 4000000 in
theorem putBools_any (b : Nat) (c : Nat → Value) (N : Nat → Nat) (V : Nat → Nat → Value) (ra : Option Addr) (m q : Nat) (xs : List Value) (w : World) (h : Bk w b c N V Fo) (hN : N 16 ≤ 1000) (hl : w.ownsRow 0 (KK 16).e (KK 16).sz (.slice ra m q) m xs) (hm : m ≤ 1000000) (hf : ∀ g, (Value.slice ra m q).ownBlock = some g → ¬ BkF b c N V Fo g) :
    Calls Tryz.prog 27 #[.pointer (some ⟨b, 0, none⟩), .slice ra m q] w fun e w' => (∃ r, e = .returned r) ∧ ∃ v', PutR w w' b c N V 16 (.slice ra m q) v' := by
  obtain ⟨i3, hi3, hy0, hy1, hy2⟩ := info_parts infoLKB
  have HH : Hid (Bk w b c N V Fo) := h
  have HL : Hid (w.ownsRow 0 (KK 16).e (KK 16).sz (.slice ra m q) m xs) := hl
  have Hf : Hid (∀ g, (Value.slice ra m q).ownBlock = some g → ¬ BkF b c N V Fo g) := hf
  obtain ⟨n1, X1, h1⟩ := h.sh 16 (by simp [Fo])
  have HR : Hid (w.ownsRow 0 70 1 (c 16) (N 16) ((List.range (N 16)).map (V 16))) := h1.row
  obtain ⟨r0, q0, hv0⟩ := own_sl h1.row
  have cb : w.cell? ⟨b, 16, none⟩ = some (c 16) := heap_cell h.h rfl
  have lb := heap_lt h.h
  have HV : Hid (c 16 = .slice r0 (N 16) q0) := hv0
  rw [hv0] at cb
  clear h hl hf h1 hv0
  generalize hn : N 16 = nn at *
  have Hnn : Hid (N 16 = nn) := hn
  clear hn
  go_enter Tryz.func27, Tryz.ntmps27
  go_wp2_with (at_builtin; refine stop_of ?_)
  unfold Hid
  rw [← HV.out]
  refine wpList_append_told _ rfl _ _ 44 rfl 0 70 i3 (.slice none 0 0) 1 24 Tryz.underlying44 hi3 hy0 hy1 hy2 rfl (by decide) (c 16) nn ((List.range nn).map (V 16)) rfl (HR.out.alloc _) _ 1 1 [.slice ra m q] rfl rfl (cell_one_new _ _ _) (slice_one _ _ _) (by unfold maxLen; omega) (by omega) (Nat.zero_le _) (by decide) ?_
  intro v1 w1 hown1 hgrow1 hold1 hw1
  obtain ⟨ra1, q1, hv1⟩ := own_sl hown1
  subst hv1
  have hs1 : w.heap.size ≤ w1.heap.size := by have := hgrow1.size; rw [World.size_alloc] at this; omega
  have hb1 : w1.heap[b]? = w.heap[b]? := (hgrow1.block b (by rw [World.size_alloc]; omega) (fun e => by
    obtain ⟨cs, hc⟩ := own_blk HR.out e.symm
    exact ty_ne hc HH.out.h (by decide) rfl)).trans (Below.heap_alloc _ _ _ lb)
  have hB1 := hb1.trans HH.out.h
  have cb1 : w1.cell? ⟨b, 16, none⟩ = some (c 16) := heap_cell hB1 rfl
  have fb1 : w1.frozen? ⟨b, 16, none⟩ = false := by simp [World.frozen?, hB1]
  have lb1 := heap_lt hB1
  have hw2 : (Value.slice ra1 (nn + 1) q1).ownBlock = (c 16).ownBlock ∨ ∃ g, (Value.slice ra1 (nn + 1) q1).ownBlock = some g ∧ w.heap.size ≤ g := by
    rcases hw1 with e | e
    · exact .inl e
    · exact .inr ⟨_, e, by rw [World.size_alloc]; omega⟩
  have HF : Hid (PutR w (w1.setCell ⟨b, 16, none⟩ (.slice ra1 (nn + 1) q1)) b c N V 16 (.slice ra m q) (.slice ra1 (nn + 1) q1)) := by
    have hset : BkH (w1.setCell ⟨b, 16, none⟩ (.slice ra1 (nn + 1) q1)) b (upd c 16 (.slice ra1 (nn + 1) q1)) := by
      show (w1.setCell _ _).heap[b]? = _
      rw [set_atC hB1]; rfl
    refine put_row HH.out (by simp [Fo]) HL.out hm Hf.out ?_ hgrow1 hw2 hset
    rw [Hnn.out]; exact hown1
  clear hown1 hgrow1 hold1 hw1 hw2 hB1 hb1 HH HL Hf HR HV Hnn
  go_wp2
  go_end0
  exact ⟨⟨_, rfl⟩, _, HF.out⟩
end Go.Proofs.YtdcmkifljcdmmaaGreatDoor
