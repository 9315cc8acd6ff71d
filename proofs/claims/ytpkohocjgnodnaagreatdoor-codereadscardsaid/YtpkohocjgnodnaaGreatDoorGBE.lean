/- A list put into the book.; Code put into the book: what stays, whose blocks are there.; Code put into the book. -/
import Derived.Test.YtpkohocjgnodnaaGreatDoorGAP
import Derived.Test.YtpkohocjgnodnaaGreatDoorGBD
import Derived.Test.YtpkohocjgnodnaaGreatDoorHZLin0
/- A list put into the book. -/
namespace Go.Proofs.YtpkohocjgnodnaaGreatDoor
open Go.RowKit

def upd {α : Type} (f : Nat → α) (k : Nat) (x : α) : Nat → α := fun j => if j = k then x else f j
theorem upd_eq {α : Type} (f : Nat → α) (k : Nat) (x : α) : upd f k x k = x := if_pos rfl
theorem upd_ne {α : Type} (f : Nat → α) {k j : Nat} (x : α) (h : j ≠ k) : upd f k x j = f j := if_neg h
/-- Nothing turns but the book's own and its rows. -/
def Rw (t : TypeId) : Prop := t = 59 ∨ ∃ k, Fo k ∧ t = (KK k).lt
def KpB (w w' : World) : Prop := Below 0 w w' ∧ ∀ (g : Nat) (cs : Array Value) (t : TypeId), w.heap[g]? = some (.cells cs t (0, 0)) → ¬ Rw t → w'.heap[g]? = w.heap[g]?
theorem KpB.trans {w w' w'' : World} (h : KpB w w') (h' : KpB w' w'') : KpB w w'' := ⟨h.1.trans h'.1, fun g cs t hg ht => (h'.2 g cs t ((h.2 g cs t hg ht).trans hg) ht).trans (h.2 g cs t hg ht)⟩
theorem KpB.of {w w' : World} (h : Below w.heap.size w w') : KpB w w' := ⟨h.mono (Nat.zero_le _), fun g _ _ hg _ => h.block g (heap_lt hg)⟩
/-- What a list that is put in leaves. -/
structure PutR (w w' : World) (b : Nat) (c : Nat → Value) (N : Nat → Nat) (V : Nat → Nat → Value) (k : Nat) (l v' : Value) : Prop where
  bk : Bk w' b (upd c k v') (upd N k (N k + 1)) (upd V k (fun j => if j = N k then l else V k j)) Fo
  gr : ∀ g, BkF b (upd c k v') (upd N k (N k + 1)) (upd V k (fun j => if j = N k then l else V k j)) Fo g → BkF b c N V Fo g ∨ l.ownBlock = some g ∨ w.heap.size ≤ g
  kp : KpB w w'
  st : ∀ g, g < w.heap.size → ¬ BkF b c N V Fo g → w'.heap[g]? = w.heap[g]?
/-- Its row has grown, and is written into the book. -/
theorem put_row {w w1 : World} {b : Nat} {c : Nat → Value} {N : Nat → Nat} {V : Nat → Nat → Value} {k : Nat} {l v' : Value} {m : Nat} {xs : List Value} {ob : Obj} (h : Bk w b c N V Fo) (hk : Fo k) (hl : w.ownsRow 0 (KK k).e (KK k).sz l m xs) (hm : m ≤ 1000000) (hf : ∀ g, l.ownBlock = some g → ¬ BkF b c N V Fo g)
    (hrow : w1.ownsRow 0 (KK k).lt 1 v' (N k + 1) ((List.range (N k)).map (V k) ++ [l])) (hgr : (w.alloc ob).grownBy w1 (c k).ownBlock) (hw : v'.ownBlock = (c k).ownBlock ∨ ∃ g, v'.ownBlock = some g ∧ w.heap.size ≤ g)
    (hset : BkH (w1.setCell ⟨b, k, none⟩ v') b (upd c k v')) : PutR w (w1.setCell ⟨b, k, none⟩ v') b c N V k l v' := by
  obtain ⟨n, X, hs⟩ := h.sh k hk
  have lb := heap_lt h.h
  have kk : ∀ g, g < w.heap.size → (c k).ownBlock ≠ some g → w1.heap[g]? = w.heap[g]? := fun g hg hn => (hgr.block g (by rw [World.size_alloc]; omega) (fun e => hn e.symm)).trans (Below.heap_alloc _ _ _ hg)
  have kb : ∀ g, g ≠ b → (w1.setCell ⟨b, k, none⟩ v').heap[g]? = w1.heap[g]? := fun g hg => Below.heap_setCell _ _ _ _ hg
  have hb1 : w1.heap[b]? = w.heap[b]? := kk b lb (fun e => by
    obtain ⟨cs, hc⟩ := own_blk hs.row e
    exact ty_ne hc h.h (kk_bk hk).2 rfl)
  have hown1 : ∀ {e s n : Nat} {v : Value} {ys : List Value}, e ≠ 59 → w1.ownsRow 0 e s v n ys → (w1.setCell ⟨b, k, none⟩ v').ownsRow 0 e s v n ys := fun he ho => own_same ho (fun g hg => kb g (by
    obtain ⟨cs, hc⟩ := own_blk ho hg
    exact ty_ne hc (hb1.trans h.h) he))
  refine ⟨⟨hset, fun _ h => h, fun k' hk' => ?_⟩, fun g hg => ?_, ⟨?_, fun g cs t hg ht => ?_⟩, fun g hg hn => ?_⟩
  · by_cases e : k' = k
    · subst e
      rw [upd_eq, upd_eq, upd_eq]
      exact ⟨_, _, hs.more hl hm (fun g hg hF => hf g hg (.inr ⟨k', hk, hF⟩)) (hown1 (kk_bk hk).2 hrow) (fun g hg hne hty => by
        obtain ⟨cs, hc⟩ := hty
        rw [kb g (ty_ne hc h.h (kk_bk hk).1), kk g hg hne])⟩
    · rw [upd_ne _ _ e, upd_ne _ _ e, upd_ne _ _ e]
      obtain ⟨n', X', hs'⟩ := h.sh k' hk'
      refine ⟨n', X', hs'.kept (fun g hg => ?_)⟩
      have hgb : g ≠ b := by
        rcases hg with hg | ⟨j, hj, hg⟩
        · obtain ⟨cs, hc⟩ := own_blk hs'.row hg
          exact ty_ne hc h.h (kk_bk hk').2
        · obtain ⟨cs, hc⟩ := own_blk (hs'.own j hj) hg
          exact ty_ne hc h.h (kk_bk hk').1
      refine (kb g hgb).trans (kk g (hs'.lt g hg) (fun e' => ?_))
      rcases hg with hg | ⟨j, hj, hg⟩
      · exact own_types hs.row hs'.row (kk_ne hk hk' (fun e2 => e e2.symm)).2 g e' hg
      · exact own_types (hs'.own j hj) hs.row (kk_lt hk' hk) g hg e'
  · rcases hg with hg | ⟨k', hk', hg⟩
    · exact .inl (.inl hg)
    · by_cases e : k' = k
      · subst e
        rw [upd_eq, upd_eq, upd_eq] at hg
        rcases shf_more hw g hg with h' | h' | h'
        · exact .inl (.inr ⟨k', hk, h'⟩)
        · exact .inr (.inl h')
        · exact .inr (.inr h')
      · rw [upd_ne _ _ e, upd_ne _ _ e, upd_ne _ _ e] at hg
        exact .inl (.inr ⟨k', hk', hg⟩)
  · exact (((Below.refl 0 w).alloc (Nat.zero_le _) _).grown hgr (Nat.zero_le _) (fun _ _ => Nat.zero_le _)).setCell (p := ⟨b, k, none⟩) (Nat.zero_le _) _
  · rw [kb g (ty_ne hg h.h (fun e => ht (.inl e))), kk g (heap_lt hg) (fun e => by
      obtain ⟨c2, k2⟩ := own_blk hs.row e
      exact ty_ne hg k2 (fun e2 => ht (.inr ⟨k, hk, e2⟩)) rfl)]
  · rw [kb g (fun e => hn (.inl e)), kk g hg (fun e => hn (.inr ⟨k, hk, .inl e⟩))]
set_option maxRecDepth 100000 in
set_option maxHeartbeats 4000000 in
theorem putTexts_any (b : Nat) (c : Nat → Value) (N : Nat → Nat) (V : Nat → Nat → Value) (ra : Option Addr) (m q : Nat) (xs : List Value) (w : World) (h : Bk w b c N V Fo) (hN : N 1 ≤ 1000) (hl : w.ownsRow 0 (KK 1).e (KK 1).sz (.slice ra m q) m xs) (hm : m ≤ 1000000) (hf : ∀ g, (Value.slice ra m q).ownBlock = some g → ¬ BkF b c N V Fo g) :
    Calls Tryz.prog 47 #[.pointer (some ⟨b, 0, none⟩), .slice ra m q] w fun e w' => (∃ r, e = .returned r) ∧ ∃ v', PutR w w' b c N V 1 (.slice ra m q) v' := by
  obtain ⟨i3, hi3, hy0, hy1, hy2⟩ := info_parts infoLKS
  have HH : Hid (Bk w b c N V Fo) := h
  have HL : Hid (w.ownsRow 0 (KK 1).e (KK 1).sz (.slice ra m q) m xs) := hl
  have Hf : Hid (∀ g, (Value.slice ra m q).ownBlock = some g → ¬ BkF b c N V Fo g) := hf
  obtain ⟨n1, X1, h1⟩ := h.sh 1 (by simp [Fo])
  have HR : Hid (w.ownsRow 0 24 1 (c 1) (N 1) ((List.range (N 1)).map (V 1))) := h1.row
  obtain ⟨r0, q0, hv0⟩ := own_sl h1.row
  have cb : w.cell? ⟨b, 1, none⟩ = some (c 1) := heap_cell h.h rfl
  have lb := heap_lt h.h
  have HV : Hid (c 1 = .slice r0 (N 1) q0) := hv0
  rw [hv0] at cb
  clear h hl hf h1 hv0
  generalize hn : N 1 = nn at *
  have Hnn : Hid (N 1 = nn) := hn
  clear hn
  go_enter Tryz.func47, Tryz.ntmps47
  go_wp2_with (at_builtin; refine stop_of ?_)
  unfold Hid
  rw [← HV.out]
  refine wpList_append_told _ rfl _ _ 42 rfl 0 24 i3 (.slice none 0 0) 1 24 Tryz.underlying42 hi3 hy0 hy1 hy2 rfl (by decide) (c 1) nn ((List.range nn).map (V 1)) rfl (HR.out.alloc _) _ 1 1 [.slice ra m q] rfl rfl (cellQ_one _ _ _) (slice_one _ _ _) (by unfold maxLen; omega) (by omega) (Nat.zero_le _) (by decide) ?_
  intro v1 w1 hown1 hgrow1 hold1 hw1
  obtain ⟨ra1, q1, hv1⟩ := own_sl hown1
  subst hv1
  have hs1 : w.heap.size ≤ w1.heap.size := by have := hgrow1.size; rw [World.size_alloc] at this; omega
  have hb1 : w1.heap[b]? = w.heap[b]? := (hgrow1.block b (by rw [World.size_alloc]; omega) (fun e => by
    obtain ⟨cs, hc⟩ := own_blk HR.out e.symm
    exact ty_ne hc HH.out.h (by decide) rfl)).trans (Below.heap_alloc _ _ _ lb)
  have hB1 := hb1.trans HH.out.h
  have cb1 : w1.cell? ⟨b, 1, none⟩ = some (c 1) := heap_cell hB1 rfl
  have fb1 : w1.frozen? ⟨b, 1, none⟩ = false := by simp [World.frozen?, hB1]
  have lb1 := heap_lt hB1
  have hw2 : (Value.slice ra1 (nn + 1) q1).ownBlock = (c 1).ownBlock ∨ ∃ g, (Value.slice ra1 (nn + 1) q1).ownBlock = some g ∧ w.heap.size ≤ g := by
    rcases hw1 with e | e
    · exact .inl e
    · exact .inr ⟨_, e, by rw [World.size_alloc]; omega⟩
  have HF : Hid (PutR w (w1.setCell ⟨b, 1, none⟩ (.slice ra1 (nn + 1) q1)) b c N V 1 (.slice ra m q) (.slice ra1 (nn + 1) q1)) := by
    have hset : BkH (w1.setCell ⟨b, 1, none⟩ (.slice ra1 (nn + 1) q1)) b (upd c 1 (.slice ra1 (nn + 1) q1)) := by
      show (w1.setCell _ _).heap[b]? = _
      rw [set_atC hB1]; rfl
    refine put_row HH.out (by simp [Fo]) HL.out hm Hf.out ?_ hgrow1 hw2 hset
    rw [Hnn.out]; exact hown1
  clear hown1 hgrow1 hold1 hw1 hw2 hB1 hb1 HH HL Hf HR HV Hnn
  go_wp2
  go_end0
  exact ⟨⟨_, rfl⟩, _, HF.out⟩
set_option maxRecDepth 100000 in
set_option maxHeartbeats 4000000 in
theorem putWords_any (b : Nat) (c : Nat → Value) (N : Nat → Nat) (V : Nat → Nat → Value) (ra : Option Addr) (m q : Nat) (xs : List Value) (w : World) (h : Bk w b c N V Fo) (hN : N 5 ≤ 1000) (hl : w.ownsRow 0 (KK 5).e (KK 5).sz (.slice ra m q) m xs) (hm : m ≤ 1000000) (hf : ∀ g, (Value.slice ra m q).ownBlock = some g → ¬ BkF b c N V Fo g) :
    Calls Tryz.prog 46 #[.pointer (some ⟨b, 0, none⟩), .slice ra m q] w fun e w' => (∃ r, e = .returned r) ∧ ∃ v', PutR w w' b c N V 5 (.slice ra m q) v' := by
  obtain ⟨i3, hi3, hy0, hy1, hy2⟩ := info_parts infoLKV
  have HH : Hid (Bk w b c N V Fo) := h
  have HL : Hid (w.ownsRow 0 (KK 5).e (KK 5).sz (.slice ra m q) m xs) := hl
  have Hf : Hid (∀ g, (Value.slice ra m q).ownBlock = some g → ¬ BkF b c N V Fo g) := hf
  obtain ⟨n1, X1, h1⟩ := h.sh 5 (by simp [Fo])
  have HR : Hid (w.ownsRow 0 22 1 (c 5) (N 5) ((List.range (N 5)).map (V 5))) := h1.row
  obtain ⟨r0, q0, hv0⟩ := own_sl h1.row
  have cb : w.cell? ⟨b, 5, none⟩ = some (c 5) := heap_cell h.h rfl
  have lb := heap_lt h.h
  have HV : Hid (c 5 = .slice r0 (N 5) q0) := hv0
  rw [hv0] at cb
  clear h hl hf h1 hv0
  generalize hn : N 5 = nn at *
  have Hnn : Hid (N 5 = nn) := hn
  clear hn
  go_enter Tryz.func46, Tryz.ntmps46
  go_wp2_with (at_builtin; refine stop_of ?_)
  unfold Hid
  rw [← HV.out]
  refine wpList_append_told _ rfl _ _ 46 rfl 0 22 i3 (.slice none 0 0) 1 24 Tryz.underlying46 hi3 hy0 hy1 hy2 rfl (by decide) (c 5) nn ((List.range nn).map (V 5)) rfl (HR.out.alloc _) _ 1 1 [.slice ra m q] rfl rfl (cellQ_one _ _ _) (slice_one _ _ _) (by unfold maxLen; omega) (by omega) (Nat.zero_le _) (by decide) ?_
  intro v1 w1 hown1 hgrow1 hold1 hw1
  obtain ⟨ra1, q1, hv1⟩ := own_sl hown1
  subst hv1
  have hs1 : w.heap.size ≤ w1.heap.size := by have := hgrow1.size; rw [World.size_alloc] at this; omega
  have hb1 : w1.heap[b]? = w.heap[b]? := (hgrow1.block b (by rw [World.size_alloc]; omega) (fun e => by
    obtain ⟨cs, hc⟩ := own_blk HR.out e.symm
    exact ty_ne hc HH.out.h (by decide) rfl)).trans (Below.heap_alloc _ _ _ lb)
  have hB1 := hb1.trans HH.out.h
  have cb1 : w1.cell? ⟨b, 5, none⟩ = some (c 5) := heap_cell hB1 rfl
  have fb1 : w1.frozen? ⟨b, 5, none⟩ = false := by simp [World.frozen?, hB1]
  have lb1 := heap_lt hB1
  have hw2 : (Value.slice ra1 (nn + 1) q1).ownBlock = (c 5).ownBlock ∨ ∃ g, (Value.slice ra1 (nn + 1) q1).ownBlock = some g ∧ w.heap.size ≤ g := by
    rcases hw1 with e | e
    · exact .inl e
    · exact .inr ⟨_, e, by rw [World.size_alloc]; omega⟩
  have HF : Hid (PutR w (w1.setCell ⟨b, 5, none⟩ (.slice ra1 (nn + 1) q1)) b c N V 5 (.slice ra m q) (.slice ra1 (nn + 1) q1)) := by
    have hset : BkH (w1.setCell ⟨b, 5, none⟩ (.slice ra1 (nn + 1) q1)) b (upd c 5 (.slice ra1 (nn + 1) q1)) := by
      show (w1.setCell _ _).heap[b]? = _
      rw [set_atC hB1]; rfl
    refine put_row HH.out (by simp [Fo]) HL.out hm Hf.out ?_ hgrow1 hw2 hset
    rw [Hnn.out]; exact hown1
  clear hown1 hgrow1 hold1 hw1 hw2 hB1 hb1 HH HL Hf HR HV Hnn
  go_wp2
  go_end0
  exact ⟨⟨_, rfl⟩, _, HF.out⟩
set_option maxRecDepth 100000 in
set_option maxHeartbeats 4000000 in
theorem putInstrs_any (b : Nat) (c : Nat → Value) (N : Nat → Nat) (V : Nat → Nat → Value) (ra : Option Addr) (m q : Nat) (xs : List Value) (w : World) (h : Bk w b c N V Fo) (hN : N 7 ≤ 1000) (hl : w.ownsRow 0 (KK 7).e (KK 7).sz (.slice ra m q) m xs) (hm : m ≤ 1000000) (hf : ∀ g, (Value.slice ra m q).ownBlock = some g → ¬ BkF b c N V Fo g) :
    Calls Tryz.prog 48 #[.pointer (some ⟨b, 0, none⟩), .slice ra m q] w fun e w' => (∃ r, e = .returned r) ∧ ∃ v', PutR w w' b c N V 7 (.slice ra m q) v' := by
  obtain ⟨i3, hi3, hy0, hy1, hy2⟩ := info_parts infoLKN
  have HH : Hid (Bk w b c N V Fo) := h
  have HL : Hid (w.ownsRow 0 (KK 7).e (KK 7).sz (.slice ra m q) m xs) := hl
  have Hf : Hid (∀ g, (Value.slice ra m q).ownBlock = some g → ¬ BkF b c N V Fo g) := hf
  obtain ⟨n1, X1, h1⟩ := h.sh 7 (by simp [Fo])
  have HR : Hid (w.ownsRow 0 62 1 (c 7) (N 7) ((List.range (N 7)).map (V 7))) := h1.row
  obtain ⟨r0, q0, hv0⟩ := own_sl h1.row
  have cb : w.cell? ⟨b, 7, none⟩ = some (c 7) := heap_cell h.h rfl
  have lb := heap_lt h.h
  have HV : Hid (c 7 = .slice r0 (N 7) q0) := hv0
  rw [hv0] at cb
  clear h hl hf h1 hv0
  generalize hn : N 7 = nn at *
  have Hnn : Hid (N 7 = nn) := hn
  clear hn
  go_enter Tryz.func48, Tryz.ntmps48
  go_wp2_with (at_builtin; refine stop_of ?_)
  unfold Hid
  rw [← HV.out]
  refine wpList_append_told _ rfl _ _ 48 rfl 0 62 i3 (.slice none 0 0) 1 24 Tryz.underlying48 hi3 hy0 hy1 hy2 rfl (by decide) (c 7) nn ((List.range nn).map (V 7)) rfl (HR.out.alloc _) _ 1 1 [.slice ra m q] rfl rfl (cellQ_one _ _ _) (slice_one _ _ _) (by unfold maxLen; omega) (by omega) (Nat.zero_le _) (by decide) ?_
  intro v1 w1 hown1 hgrow1 hold1 hw1
  obtain ⟨ra1, q1, hv1⟩ := own_sl hown1
  subst hv1
  have hs1 : w.heap.size ≤ w1.heap.size := by have := hgrow1.size; rw [World.size_alloc] at this; omega
  have hb1 : w1.heap[b]? = w.heap[b]? := (hgrow1.block b (by rw [World.size_alloc]; omega) (fun e => by
    obtain ⟨cs, hc⟩ := own_blk HR.out e.symm
    exact ty_ne hc HH.out.h (by decide) rfl)).trans (Below.heap_alloc _ _ _ lb)
  have hB1 := hb1.trans HH.out.h
  have cb1 : w1.cell? ⟨b, 7, none⟩ = some (c 7) := heap_cell hB1 rfl
  have fb1 : w1.frozen? ⟨b, 7, none⟩ = false := by simp [World.frozen?, hB1]
  have lb1 := heap_lt hB1
  have hw2 : (Value.slice ra1 (nn + 1) q1).ownBlock = (c 7).ownBlock ∨ ∃ g, (Value.slice ra1 (nn + 1) q1).ownBlock = some g ∧ w.heap.size ≤ g := by
    rcases hw1 with e | e
    · exact .inl e
    · exact .inr ⟨_, e, by rw [World.size_alloc]; omega⟩
  have HF : Hid (PutR w (w1.setCell ⟨b, 7, none⟩ (.slice ra1 (nn + 1) q1)) b c N V 7 (.slice ra m q) (.slice ra1 (nn + 1) q1)) := by
    have hset : BkH (w1.setCell ⟨b, 7, none⟩ (.slice ra1 (nn + 1) q1)) b (upd c 7 (.slice ra1 (nn + 1) q1)) := by
      show (w1.setCell _ _).heap[b]? = _
      rw [set_atC hB1]; rfl
    refine put_row HH.out (by simp [Fo]) HL.out hm Hf.out ?_ hgrow1 hw2 hset
    rw [Hnn.out]; exact hown1
  clear hown1 hgrow1 hold1 hw1 hw2 hB1 hb1 HH HL Hf HR HV Hnn
  go_wp2
  go_end0
  exact ⟨⟨_, rfl⟩, _, HF.out⟩
end Go.Proofs.YtpkohocjgnodnaaGreatDoor

/- Code put into the book: what stays, whose blocks are there. -/
namespace Go.Proofs.YtpkohocjgnodnaaGreatDoor
open Go.RowKit

theorem own0 {w : World} {base e s n : Nat} {v : Value} {xs : List Value} (h : w.ownsRow base e s v n xs) : w.ownsRow 0 e s v n xs := by
  refine ⟨h.1, ?_⟩
  rcases h.2 with h' | ⟨g, cap, cur, hv, hg, r⟩
  · exact .inl h'
  · exact .inr ⟨g, cap, cur, hv, Nat.zero_le _, r⟩
theorem not_rw {t : TypeId} (h : t = 70 ∨ t = 64 ∨ t = 9 ∨ t = 79 ∨ t = 26) : ¬ Rw t := fun hr => by
  rcases hr with e | ⟨k, hk, e⟩
  · rcases h with rfl | rfl | rfl | rfl | rfl <;> exact absurd e (by decide)
  · rcases hk with rfl | rfl | rfl | rfl <;> rcases h with rfl | rfl | rfl | rfl | rfl <;> exact absurd e (by decide)
theorem OC.kpb {w w' : World} {base : Nat} {v1 v2 v3 : Value} {vs : List Value} {c : Cd} (h : OC w base v1 v2 v3 vs c) (hk : KpB w w') : OC w' base v1 v2 v3 vs c := by
  have key : ∀ {e s n : Nat} {v : Value} {xs : List Value}, w.ownsRow base e s v n xs → ¬ Rw e → w'.ownsRow base e s v n xs := fun ho he => own_same ho (fun g hg => by
    obtain ⟨cs, hc⟩ := own_blk ho hg
    exact hk.2 g cs _ hc he)
  exact ⟨key h.o1 (not_rw (.inl rfl)), key h.o2 (not_rw (.inr (.inl rfl))), key h.o3 (not_rw (.inr (.inr (.inl rfl)))), h.hv, fun j p v hp hv => key (h.code j p v hp hv) (not_rw (.inr (.inr (.inr (.inl rfl))))), h.inc⟩
theorem KpB.code {w w' : World} {b : Nat} {cs : Array Value} (hk : KpB w w') (h : w.heap[b]? = some (.cells cs 26 (0, 0))) : w'.heap[b]? = some (.cells cs 26 (0, 0)) := (hk.2 b cs _ h (not_rw (.inr (.inr (.inr (.inr rfl)))))).trans h
theorem KpB.refl (w : World) : KpB w w := KpB.of (Below.refl _ _)
/-- The blocks of code's lists that have been put in. -/
def PutB (v1 v2 v3 : Value) (vs : List Value) (a1 a2 a3 : Prop) (i g : Nat) : Prop := (a1 ∧ v1.ownBlock = some g) ∨ (a2 ∧ v2.ownBlock = some g) ∨ (a3 ∧ v3.ownBlock = some g) ∨ ∃ (j : Nat) (v : Value), j < i ∧ vs[j]? = some v ∧ v.ownBlock = some g
/-- How the book stands while code is put in. -/
structure BC (w W : World) (b base lo : Nat) (v1 v2 v3 : Value) (vs : List Value) (cd : Cd) (c : Nat → Value) (N : Nat → Nat) (V : Nat → Nat → Value) (M : Nat) (a1 a2 a3 : Prop) (i : Nat) : Prop where
  bk : Bk W b c N V Fo
  fr : ∀ g, BkF b c N V Fo g → (lo ≤ g ∧ g < base) ∨ PutB v1 v2 v3 vs a1 a2 a3 i g ∨ w.heap.size ≤ g
  kp : KpB w W
  box : W.heap[w.heap.size]? = some (CO v1 v2 v3)
  oc : OC W base v1 v2 v3 vs cd
  n : ∀ k, N k ≤ M
  lb : Below lo w W
theorem OC.lts {w : World} {base : Nat} {v1 v2 v3 : Value} {vs : List Value} {c : Cd} (h : OC w base v1 v2 v3 vs c) : (∀ g, v1.ownBlock = some g → base ≤ g ∧ g < w.heap.size) ∧ (∀ g, v2.ownBlock = some g → base ≤ g ∧ g < w.heap.size) ∧ (∀ g, v3.ownBlock = some g → base ≤ g ∧ g < w.heap.size) ∧ ∀ (j : Nat) (v : Value), vs[j]? = some v → ∀ g, v.ownBlock = some g → base ≤ g ∧ g < w.heap.size :=
  ⟨fun g hg => h.o1.lt g hg, fun g hg => h.o2.lt g hg, fun g hg => h.o3.lt g hg, fun j v hj g hg => by obtain ⟨p, _, hc⟩ := h.at hj; exact hc.lt g hg⟩
/-- The step: one list more has been put in. -/
theorem BC.put {w W W' : World} {b base lo : Nat} {v1 v2 v3 : Value} {vs : List Value} {cd : Cd} {c : Nat → Value} {N : Nat → Nat} {V : Nat → Nat → Value} {M : Nat} {a1 a2 a3 b1 b2 b3 : Prop} {i i' k : Nat} {l v' : Value} (h : BC w W b base lo v1 v2 v3 vs cd c N V M a1 a2 a3 i)
    (hp : PutR W W' b c N V k l v') (hlo : lo ≤ base) (hbw : base ≤ w.heap.size) (m1 : a1 → b1) (m2 : a2 → b2) (m3 : a3 → b3) (hi : i ≤ i') (hl : ∀ g, l.ownBlock = some g → PutB v1 v2 v3 vs b1 b2 b3 i' g) (hsz : w.heap.size ≤ W.heap.size) :
    BC w W' b base lo v1 v2 v3 vs cd (upd c k v') (upd N k (N k + 1)) (upd V k (fun j => if j = N k then l else V k j)) (M + 1) b1 b2 b3 i' := by
  have mono : ∀ g, PutB v1 v2 v3 vs a1 a2 a3 i g → PutB v1 v2 v3 vs b1 b2 b3 i' g := fun g hg => by
    rcases hg with ⟨x, e⟩ | ⟨x, e⟩ | ⟨x, e⟩ | ⟨j, v, hj, e⟩
    · exact .inl ⟨m1 x, e⟩
    · exact .inr (.inl ⟨m2 x, e⟩)
    · exact .inr (.inr (.inl ⟨m3 x, e⟩))
    · exact .inr (.inr (.inr ⟨j, v, by omega, e⟩))
  have low : ∀ g, BkF b c N V Fo g → lo ≤ g := fun g hg => by
    rcases h.fr g hg with h' | h' | h'
    · exact h'.1
    · obtain ⟨l1, l2, l3, l4⟩ := h.oc.lts
      rcases h' with ⟨_, e⟩ | ⟨_, e⟩ | ⟨_, e⟩ | ⟨j, v, _, hv, e⟩
      · have := (l1 g e).1; omega
      · have := (l2 g e).1; omega
      · have := (l3 g e).1; omega
      · have := (l4 j v hv g e).1; omega
    · omega
  refine ⟨hp.bk, fun g hg => ?_, h.kp.trans hp.kp, hp.kp.code h.box, h.oc.kpb hp.kp, fun k' => ?_, ?_⟩
  · rcases hp.gr g hg with h' | h' | h'
    · rcases h.fr g h' with q | q | q
      · exact .inl q
      · exact .inr (.inl (mono g q))
      · exact .inr (.inr q)
    · exact .inr (.inl (hl g h'))
    · exact .inr (.inr (by omega))
  · by_cases e : k' = k
    · rw [e, upd_eq]; have := h.n k; omega
    · rw [upd_ne _ _ e]; have := h.n k'; omega
  · refine h.lb.trans ⟨hp.kp.1.os, hp.kp.1.tape, hp.kp.1.output, hp.kp.1.size, fun g hg => hp.st g (by have := h.lb.size; omega) (fun hF => by have := low g hF; omega)⟩
/-- A list of code's that has not been put in is in no block of the book. -/
theorem BC.free {w W : World} {b base lo : Nat} {v1 v2 v3 : Value} {vs : List Value} {cd : Cd} {c : Nat → Value} {N : Nat → Nat} {V : Nat → Nat → Value} {M : Nat} {a1 a2 a3 : Prop} {i : Nat} (h : BC w W b base lo v1 v2 v3 vs cd c N V M a1 a2 a3 i) {l : Value}
    (h1 : ∀ g, l.ownBlock = some g → base ≤ g ∧ g < w.heap.size) (h2 : ∀ g, l.ownBlock = some g → ¬ PutB v1 v2 v3 vs a1 a2 a3 i g) : ∀ g, l.ownBlock = some g → ¬ BkF b c N V Fo g := fun g hg hF => by
  have := h1 g hg
  rcases h.fr g hF with q | q | q
  · omega
  · exact h2 g hg q
  · omega
theorem BC.below {w W W' : World} {b base lo : Nat} {v1 v2 v3 : Value} {vs : List Value} {cd : Cd} {c : Nat → Value} {N : Nat → Nat} {V : Nat → Nat → Value} {M : Nat} {a1 a2 a3 : Prop} {i : Nat} (h : BC w W b base lo v1 v2 v3 vs cd c N V M a1 a2 a3 i) (hb : Below W.heap.size W W') (hlo : lo ≤ w.heap.size) :
    BC w W' b base lo v1 v2 v3 vs cd c N V M a1 a2 a3 i :=
  ⟨h.bk.below hb, h.fr, h.kp.trans (KpB.of hb), (KpB.of hb).code h.box, h.oc.below hb, h.n, h.lb.trans (hb.mono (by have := h.lb.size; omega))⟩
theorem BC.new {w : World} {b base lo : Nat} {v1 v2 v3 : Value} {vs : List Value} {cd : Cd} {c : Nat → Value} {N : Nat → Nat} {V : Nat → Nat → Value} {M : Nat} (h : Bk w b c N V Fo) (hF : ∀ g, BkF b c N V Fo g → lo ≤ g ∧ g < base) (hO : OC w base v1 v2 v3 vs cd) (hn : ∀ k, N k ≤ M) (hlo : lo ≤ w.heap.size) :
    BC w (w.alloc (CO v1 v2 v3)) b base lo v1 v2 v3 vs cd c N V M False False False 0 := by
  have hb : Below w.heap.size w (w.alloc (CO v1 v2 v3)) := (Below.refl _ w).alloc (Nat.le_refl _) _
  exact ⟨h.below hb, fun g hg => .inl (hF g hg), KpB.of hb, heap_alloc_new w _, hO.below hb, hn, hb.mono hlo⟩
end Go.Proofs.YtpkohocjgnodnaaGreatDoor

/- Code put into the book. -/
namespace Go.Proofs.YtpkohocjgnodnaaGreatDoor
open Go.RowKit

theorem BC.sz {w W : World} {b base lo : Nat} {v1 v2 v3 : Value} {vs : List Value} {cd : Cd} {c : Nat → Value} {N : Nat → Nat} {V : Nat → Nat → Value} {M : Nat} {a1 a2 a3 : Prop} {i : Nat} (h : BC w W b base lo v1 v2 v3 vs cd c N V M a1 a2 a3 i) : w.heap.size < W.heap.size := heap_lt h.box
theorem no_put {v1 v2 v3 : Value} {vs : List Value} {a1 a2 a3 : Prop} {i g : Nat} (h1 : a1 → v1.ownBlock ≠ some g) (h2 : a2 → v2.ownBlock ≠ some g) (h3 : a3 → v3.ownBlock ≠ some g) (h4 : ∀ (j : Nat) (v : Value), j < i → vs[j]? = some v → v.ownBlock ≠ some g) : ¬ PutB v1 v2 v3 vs a1 a2 a3 i g := fun h => by
  rcases h with ⟨x, e⟩ | ⟨x, e⟩ | ⟨x, e⟩ | ⟨j, v, hj, hv, e⟩
  · exact h1 x e
  · exact h2 x e
  · exact h3 x e
  · exact h4 j v hj hv e
theorem frz_of {W : World} {b j : Nat} {cs : Array Value} {ty : TypeId} (h : W.heap[b]? = some (.cells cs ty (0, 0))) : W.frozen? ⟨b, j, none⟩ = false := by simp [World.frozen?, h]
theorem infoLP : (Tryz.prog.info? 23).map (fun i => (i.zero, i.size, i.bytes)) = some (some (.slice none 0 0), 1, 24) := by kernel_rfl
set_option maxRecDepth 100000 in
set_option maxHeartbeats 8000000 in
theorem bookCode_any (b base lo M : Nat) (c : Nat → Value) (N : Nat → Nat) (V : Nat → Nat → Value) (v1 v2 v3 : Value) (vs : List Value) (cd : Cd) (w : World) (h : Bk w b c N V Fo) (hF : ∀ g, BkF b c N V Fo g → lo ≤ g ∧ g < base) (hlo : lo ≤ base) (hB : base ≤ w.heap.size)
    (hO : OC w base v1 v2 v3 vs cd) (hn : ∀ k, N k ≤ M) (hM : M ≤ 400) (hs : cd.consts.length ≤ 1000000 ∧ cd.globals.length ≤ 1000000 ∧ cd.procs.length ≤ 500 ∧ ∀ p ∈ cd.procs, p.code.length ≤ 1000000) :
    Calls Tryz.prog 17 #[.pointer (some ⟨b, 0, none⟩), .agg #[v1, v2, v3]] w fun e w' => (∃ r, e = .returned r) ∧ ∃ c' N' V', BC w w' b base lo v1 v2 v3 vs cd c' N' V' (M + 3 + cd.procs.length) True True True cd.procs.length := by
  obtain ⟨s1, s2, s3, s4⟩ := hs
  have HS4 : Hid (∀ p ∈ cd.procs, p.code.length ≤ 1000000) := s4
  have H0 : Hid (BC w (w.alloc (CO v1 v2 v3)) b base lo v1 v2 v3 vs cd c N V M False False False 0) := BC.new h hF hO hn (by omega)
  have HOw : Hid (OC w base v1 v2 v3 vs cd) := hO
  obtain ⟨l1, l2, l3, l4⟩ := hO.lts
  have HL : Hid ((∀ g, v1.ownBlock = some g → base ≤ g ∧ g < w.heap.size) ∧ (∀ g, v2.ownBlock = some g → base ≤ g ∧ g < w.heap.size) ∧ (∀ g, v3.ownBlock = some g → base ≤ g ∧ g < w.heap.size) ∧ ∀ (j : Nat) (v : Value), vs[j]? = some v → ∀ g, v.ownBlock = some g → base ≤ g ∧ g < w.heap.size) := ⟨l1, l2, l3, l4⟩
  obtain ⟨r1, d1, rfl⟩ := own_slice' hO.o1
  obtain ⟨r2, d2, rfl⟩ := own_slice' hO.o2
  obtain ⟨r3, d3, rfl⟩ := own_slice' hO.o3
  have HA : Hid ((∀ g, Value.ownBlock (.slice r3 cd.globals.length d3) = some g → Value.ownBlock (.slice r1 cd.consts.length d1) ≠ some g) ∧ (∀ g, Value.ownBlock (.slice r2 cd.procs.length d2) = some g → Value.ownBlock (.slice r1 cd.consts.length d1) ≠ some g ∧ Value.ownBlock (.slice r3 cd.globals.length d3) ≠ some g)) := ⟨fun g hg => own_apart hO.o3 hO.o1 (by decide) hg, fun g hg => ⟨own_apart hO.o2 hO.o1 (by decide) hg, own_apart hO.o2 hO.o3 (by decide) hg⟩⟩
  have HP1 : Hid (Calls Tryz.prog 46 #[.pointer (some ⟨b, 0, none⟩), .slice r1 cd.consts.length d1] (w.alloc (CO (.slice r1 cd.consts.length d1) (.slice r2 cd.procs.length d2) (.slice r3 cd.globals.length d3))) fun e w' => (∃ r, e = .returned r) ∧ ∃ v', PutR (w.alloc (CO (.slice r1 cd.consts.length d1) (.slice r2 cd.procs.length d2) (.slice r3 cd.globals.length d3))) w' b c N V 5 (.slice r1 cd.consts.length d1) v') :=
    putWords_any b c N V r1 cd.consts.length d1 _ _ H0.out.bk (by have := hn 5; omega) (own0 H0.out.oc.o1) s1 (H0.out.free l1 (fun g _ => no_put (fun x => x.elim) (fun x => x.elim) (fun x => x.elim) (fun j v hj => absurd hj (Nat.not_lt_zero _))))
  clear h hF hO hn s4 l1 l2 l3 l4
  have hb0 : w.heap.size < (w.alloc (CO (.slice r1 cd.consts.length d1) (.slice r2 cd.procs.length d2) (.slice r3 cd.globals.length d3))).heap.size := H0.out.sz
  go_enter Tryz.func17, Tryz.ntmps17
  go_wp2_with fail
  refine Calls.mono HP1.out ?_
  rintro e w1 ⟨⟨rr1, rfl⟩, x1, hp1⟩
  have H1 : Hid (BC w w1 b base lo (.slice r1 cd.consts.length d1) (.slice r2 cd.procs.length d2) (.slice r3 cd.globals.length d3) vs cd (upd c 5 x1) (upd N 5 (N 5 + 1)) (upd V 5 (fun j => if j = N 5 then .slice r1 cd.consts.length d1 else V 5 j)) (M + 1) True False False 0) := H0.out.put hp1 hlo hB (fun _ => trivial) (fun x => x) (fun x => x) (Nat.le_refl _) (fun g hg => .inl ⟨trivial, hg⟩) (by omega)
  clear hp1 HP1 H0 hb0
  generalize upd c 5 x1 = c1 at H1
  generalize upd N 5 (N 5 + 1) = N1 at H1
  generalize upd V 5 (fun j => if j = N 5 then .slice r1 cd.consts.length d1 else V 5 j) = V1 at H1
  have b1 := H1.out.sz
  have k2 : w1.cell? ⟨w.heap.size, 2, none⟩ = some (.slice r3 cd.globals.length d3) := heap_cell H1.out.box rfl
  have HP2 : Hid (Calls Tryz.prog 47 #[.pointer (some ⟨b, 0, none⟩), .slice r3 cd.globals.length d3] w1 fun e w' => (∃ r, e = .returned r) ∧ ∃ v', PutR w1 w' b c1 N1 V1 1 (.slice r3 cd.globals.length d3) v') :=
    putTexts_any b c1 N1 V1 r3 cd.globals.length d3 _ _ H1.out.bk (by have := H1.out.n 1; omega) (own0 H1.out.oc.o3) s2 (H1.out.free HL.out.2.2.1 (fun g hg => no_put (fun _ => HA.out.1 g hg) (fun x => x.elim) (fun x => x.elim) (fun j v hj => absurd hj (Nat.not_lt_zero _))))
  go_wp2_with fail
  refine Calls.mono HP2.out ?_
  rintro e w2 ⟨⟨rr2, rfl⟩, x2, hp2⟩
  have H2 : Hid (BC w w2 b base lo (.slice r1 cd.consts.length d1) (.slice r2 cd.procs.length d2) (.slice r3 cd.globals.length d3) vs cd (upd c1 1 x2) (upd N1 1 (N1 1 + 1)) (upd V1 1 (fun j => if j = N1 1 then .slice r3 cd.globals.length d3 else V1 1 j)) (M + 2) True False True 0) := H1.out.put hp2 hlo hB (fun x => x) (fun x => x) (fun _ => trivial) (Nat.le_refl _) (fun g hg => .inr (.inr (.inl ⟨trivial, hg⟩))) (by omega)
  clear hp2 HP2 H1 b1 k2
  generalize upd c1 1 x2 = c2 at H2
  generalize upd N1 1 (N1 1 + 1) = N2 at H2
  generalize upd V1 1 (fun j => if j = N1 1 then .slice r3 cd.globals.length d3 else V1 1 j) = V2 at H2
  have b2 := H2.out.sz
  have k1 : w2.cell? ⟨w.heap.size, 1, none⟩ = some (.slice r2 cd.procs.length d2) := heap_cell H2.out.box rfl
  have HD : Hid (BC w w2.drew b base lo (.slice r1 cd.consts.length d1) (.slice r2 cd.procs.length d2) (.slice r3 cd.globals.length d3) vs cd c2 N2 V2 (M + 2) True False True 0) := H2.out.below ((Below.refl _ w2).drew) (by omega)
  obtain ⟨n1, X1, h1⟩ := HD.out.bk.sh 14 (by simp [Fo])
  have HR : Hid (w2.drew.ownsRow 0 23 1 (c2 14) (N2 14) ((List.range (N2 14)).map (V2 14))) := h1.row
  obtain ⟨r0, q0, hv0⟩ := own_sl h1.row
  have cb : w2.cell? ⟨b, 14, none⟩ = some (c2 14) := heap_cell H2.out.bk.h rfl
  have lb := heap_lt H2.out.bk.h
  have HV : Hid (c2 14 = .slice r0 (N2 14) q0) := hv0
  rw [hv0] at cb
  have hN14 : N2 14 ≤ 402 := by have := H2.out.n 14; omega
  clear h1 hv0
  generalize hnn : N2 14 = nn at *
  have Hnn : Hid (N2 14 = nn) := hnn
  clear hnn
  obtain ⟨i3, hi3, hy0, hy1, hy2⟩ := info_parts infoLP
  have HVn : Hid (c2 14 = .slice r0 nn q0) := by show _ = _; rw [HV.out]
  have HR2 : Hid (∀ o : Obj, (w2.alloc o).drew.ownsRow 0 23 1 (.slice r0 nn q0) nn ((List.range nn).map (V2 14))) := fun o => by
    have := HR.out.alloc o
    rw [HVn.out] at this
    exact this
  have HC1 : Hid (∀ (j : Nat) (u : Value), [Value.slice r2 cd.procs.length d2][j]? = some u → (w2.alloc (.cells #[.slice r2 cd.procs.length d2] 23)).drew.cell? ((⟨w2.heap.size, 0, none⟩ : Addr).add j) = some u) := fun j u h => cellQ_one w2 _ _ j u h
  have HK6 : Hid (∀ (o : Obj) (w6 : World), (w2.alloc o).drew.grownBy w6 (Value.slice r0 nn q0).ownBlock → w6.heap[b]? = w2.heap[b]?) := fun o w6 hgr => by
    refine (hgr.block b (by show b < (w2.alloc o).heap.size; rw [World.size_alloc]; omega) (fun e => ?_)).trans (Below.heap_alloc w2 o b lb)
    have h1 := HR.out
    rw [HVn.out] at h1
    obtain ⟨cs, hc⟩ := own_blk h1 e.symm
    exact ty_ne hc HD.out.bk.h (by decide) rfl
  have HBh : Hid (BkH w2 b c2) := H2.out.bk.h
  have HSz : Hid (∀ o : Obj, (w2.alloc o).drew.heap.size = w2.heap.size + 1) := fun o => World.size_alloc ..
  go_upto_region 3 with fail
  go_region_law (refine step_append_lies _ rfl _ _ 55 rfl 0 23 i3 (.slice none 0 0) 1 24 Tryz.underlying55 hi3 hy0 hy1 hy2 rfl (by decide) (.slice r0 nn q0) nn ((List.range nn).map (V2 14)) rfl (HR2.out _) ⟨_, 0, none⟩ 1 1 [.slice r2 cd.procs.length d2] rfl rfl HC1.out (slice_one _ _ _) (by omega) (by unfold maxLen; omega) (by omega) (Nat.zero_le _) _ rfl ?_; intro gg cap6 w6 hown hgr hat hlt6; have hw6 := (HK6.out _ w6 hgr).trans HBh.out; have c6 : w6.cell? ⟨b, 14, none⟩ = some (c2 14) := heap_cell hw6 rfl; have f6 := frz_of (j := 14) hw6; have l6 := heap_lt hw6)
  all_goals
    have hw2 : (Value.slice (some ⟨gg, 0, none⟩) (nn + 1) cap6).ownBlock = (c2 14).ownBlock ∨ ∃ g, (Value.slice (some ⟨gg, 0, none⟩) (nn + 1) cap6).ownBlock = some g ∧ w2.drew.heap.size ≤ g := by
      rw [HVn.out]
      rcases hat with e | e
      · exact .inl e.symm
      · exact .inr ⟨gg, rfl, by rw [e, HSz.out]; show w2.heap.size ≤ _; omega⟩
    have hset : BkH (w6.setCell ⟨b, 14, none⟩ (.slice (some ⟨gg, 0, none⟩) (nn + 1) cap6)) b (upd c2 14 (.slice (some ⟨gg, 0, none⟩) (nn + 1) cap6)) := by
      show (w6.setCell _ _).heap[b]? = _
      rw [set_atC hw6]; rfl
    have HF : PutR w2.drew (w6.setCell ⟨b, 14, none⟩ (.slice (some ⟨gg, 0, none⟩) (nn + 1) cap6)) b c2 N2 V2 14 (.slice r2 cd.procs.length d2) (.slice (some ⟨gg, 0, none⟩) (nn + 1) cap6) := by
      refine put_row (ob := .cells #[.slice r2 cd.procs.length d2] 23) HD.out.bk (by simp [Fo]) (own0 HD.out.oc.o2) (by omega) (HD.out.free HL.out.2.1 (fun g hg => no_put (fun _ => (HA.out.2 g hg).1) (fun x => x.elim) (fun _ => (HA.out.2 g hg).2) (fun j v hj => absurd hj (Nat.not_lt_zero _)))) ?_ ?_ hw2 hset
      · rw [Hnn.out]; exact hown
      · rw [HVn.out]; exact hgr
    have H3 : Hid (BC w (w6.setCell ⟨b, 14, none⟩ (.slice (some ⟨gg, 0, none⟩) (nn + 1) cap6)) b base lo (.slice r1 cd.consts.length d1) (.slice r2 cd.procs.length d2) (.slice r3 cd.globals.length d3) vs cd (upd c2 14 (.slice (some ⟨gg, 0, none⟩) (nn + 1) cap6)) (upd N2 14 (N2 14 + 1)) (upd V2 14 (fun j => if j = N2 14 then .slice r2 cd.procs.length d2 else V2 14 j)) (M + 3) True True True 0) := HD.out.put HF hlo hB (fun x => x) (fun _ => trivial) (fun x => x) (Nat.le_refl _) (fun g hg => .inr (.inl ⟨trivial, hg⟩)) (Nat.le_of_lt HD.out.sz)
    clear HF hset hw2 hown hgr hat hw6 HD HR HR2 HC1 HK6 H2 HV HVn HBh HSz k1 cb b2 lb
    go_upto_region 4 with fail
    generalize w6.setCell ⟨b, 14, none⟩ (.slice (some ⟨gg, 0, none⟩) (nn + 1) cap6) = w7 at *
    generalize upd c2 14 (.slice (some ⟨gg, 0, none⟩) (nn + 1) cap6) = c3 at *
    generalize upd N2 14 (N2 14 + 1) = N3 at *
    generalize upd V2 14 (fun j => if j = N2 14 then .slice r2 cd.procs.length d2 else V2 14 j) = V3' at *
    clear c6 f6 l6 hlt6
    go_wp2_with fail
    go_loopw [4] (fun i wr => ∃ (j : Nat) (c' : Nat → Value) (N' : Nat → Nat) (V' : Nat → Nat → Value), i = .int .i64 j ∧ j ≤ cd.procs.length ∧ Hid (BC w wr b base lo (.slice r1 cd.consts.length d1) (.slice r2 cd.procs.length d2) (.slice r3 cd.globals.length d3) vs cd c' N' V' (M + 3 + j) True True True j)) (fun i _ => cd.procs.length - (intOf i).toNat)
    case atStart => exact ⟨0, c3, N3, V3', rfl, Nat.zero_le _, H3⟩
    case round =>
      clear H3
      obtain ⟨j, c', N', V', rfl, hj, H4⟩ := hrel
      have k1 : wr.cell? ⟨w.heap.size, 1, none⟩ = some (.slice r2 cd.procs.length d2) := heap_cell H4.out.box rfl
      have b4 := H4.out.sz
      by_cases hlt : j < cd.procs.length
      · have i1 : (j : Int) < (cd.procs.length : Int) := by omega
        obtain ⟨g2, cap2, e2, _, lg2⟩ := H4.out.oc.o2.form (by omega)
        cases e2
        have hvj : vs[j]? = some (vs[j]'(by rw [H4.out.oc.hv]; exact hlt)) := List.getElem?_eq_getElem _
        have hpj : cd.procs[j]? = some cd.procs[j] := List.getElem?_eq_getElem hlt
        generalize vs[j]'(by rw [H4.out.oc.hv]; exact hlt) = u at hvj
        have hu := H4.out.oc.code j _ u hpj hvj
        have hul := HS4.out _ (List.mem_of_getElem? hpj)
        generalize cd.procs[j] = p at hpj hu hul
        obtain ⟨ru, du, rfl⟩ := own_slice' hu
        have m0 : wr.cell? ⟨g2, j * 2 + 1, none⟩ = some (.slice ru p.code.length du) := by rw [H4.out.oc.o2.cellAt (j * 2 + 1) (by omega)]; exact (prcCells_at _ _ j p _ hpj hvj).2
        have HP4 : Hid (Calls Tryz.prog 48 #[.pointer (some ⟨b, 0, none⟩), .slice ru p.code.length du] wr fun e w' => (∃ r, e = .returned r) ∧ ∃ v', PutR wr w' b c' N' V' 7 (.slice ru p.code.length du) v') :=
          putInstrs_any b c' N' V' ru p.code.length du _ _ H4.out.bk (by have := H4.out.n 7; omega) (own0 hu) hul (H4.out.free (HL.out.2.2.2 j _ hvj) (fun g hg => no_put (fun _ => own_apart hu H4.out.oc.o1 (by decide) hg) (fun _ => own_apart hu H4.out.oc.o2 (by decide) hg) (fun _ => own_apart hu H4.out.oc.o3 (by decide) hg) (fun j' v' hj' hv' e' => by have := H4.out.oc.inc j' j v' _ g g hj' hv' hvj e' hg; omega)))
        have Hvj : Hid (vs[j]? = some (.slice ru p.code.length du)) := hvj
        clear hu hul hpj hvj
        go_wp2_with fail
        refine Calls.mono HP4.out ?_
        rintro e w8 ⟨⟨rr8, rfl⟩, x8, hp8⟩
        have H8 : Hid (BC w w8 b base lo (.slice r1 cd.consts.length d1) (.slice (some ⟨g2, 0, none⟩) cd.procs.length d2) (.slice r3 cd.globals.length d3) vs cd (upd c' 7 x8) (upd N' 7 (N' 7 + 1)) (upd V' 7 (fun q => if q = N' 7 then .slice ru p.code.length du else V' 7 q)) (M + 3 + (j + 1)) True True True (j + 1)) := H4.out.put hp8 hlo hB (fun x => x) (fun x => x) (fun x => x) (Nat.le_succ _) (fun g hg => .inr (.inr (.inr ⟨j, _, Nat.lt_succ_self _, Hvj.out, hg⟩))) (Nat.le_of_lt b4)
        clear hp8 HP4 H4
        go_wp2
        go_roundw
        case rel => exact ⟨j + 1, _, _, _, by go_num, by omega, H8⟩
        case measure => simp [intOf]; omega
      · have hjj : j = cd.procs.length := by omega
        have H5 : Hid (BC w wr b base lo (.slice r1 cd.consts.length d1) (.slice r2 cd.procs.length d2) (.slice r3 cd.globals.length d3) vs cd c' N' V' (M + 3 + cd.procs.length) True True True cd.procs.length) := by have q := H4.out; rw [hjj] at q; exact q
        have i1 : ¬ (j : Int) < (cd.procs.length : Int) := by omega
        clear hjj
        go_wp2
        go_end0
        exact ⟨⟨_, rfl⟩, c', N', V', H5.out⟩
end Go.Proofs.YtpkohocjgnodnaaGreatDoor
