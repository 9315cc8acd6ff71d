/- Order.; Words whose cells stand elsewhere: mover. -/
import Derived.Test.YtejmoopgfnjaaaaDoorHGWalk
/- Order. -/
namespace Go.Proofs.YtejmoopgfnjaaaaDoor
open Go.RowKit

def IOr (vb : Nat) (r : St) (w : World) (A : Nat → Prop) : Prop :=
  ∃ rv cv, w.heap[vb]? = some (.cells #[.slice rv r.length cv] 34 (0, 0)) ∧ w.ownsRow (vb + 1) 3 1 (.slice rv r.length cv) r.length (r.map (fun p => .int .i64 p.1)) ∧ ¬ A vb ∧ (∀ g, (Value.slice rv r.length cv).ownBlock = some g → ¬ A g) ∧ ∀ g, A g → g < w.heap.size
set_option maxRecDepth 100000 in
set_option maxHeartbeats 4000000 in
theorem order1_any {n vb : Nat} (hn : n ≤ 1000000) (r : St) (c : Nat) (q : Int) (w : World) (A : Nat → Prop) (hI : IOr vb r w A) (hok : OkS n r) :
    Calls Tryd.prog 58 #[.int .i64 c, .int .i64 q, .pointer (some ⟨vb, 0, none⟩)] w fun e w' => e = .returned (.tuple #[]) ∧ IOr vb (r ++ [(c, q)]) w' A ∧ Fr A w w' := by
  obtain ⟨rv, cv, h1, h2, h3, h4, h5⟩ := hI
  obtain ⟨i0, hi0, hz0, hz1, hz2⟩ := info_parts infoI
  have hlen := hok.len
  have v0 : w.cell? ⟨vb, 0, none⟩ = some (.slice rv r.length cv) := heap_cell h1 rfl
  have lv := heap_lt h1
  have H1 : Hid (w.heap[vb]? = some (.cells #[.slice rv r.length cv] 34 (0, 0))) := h1
  have H2 : Hid (w.ownsRow (vb + 1) 3 1 (.slice rv r.length cv) r.length (r.map (fun p => .int .i64 p.1))) := h2
  have H4 : Hid (¬ A vb ∧ (∀ g, (Value.slice rv r.length cv).ownBlock = some g → ¬ A g) ∧ ∀ g, A g → g < w.heap.size) := ⟨h3, h4, h5⟩
  clear h1 h2 h3 h4 h5 hok
  go_enter Tryd.func58, Tryd.ntmps58
  go_wp2_with (at_builtin; refine stop_of ?_)
  unfold Hid
  refine wpList_append_lies _ rfl _ _ 34 rfl (vb + 1) 3 i0 (.int .i64 0) 1 8 Tryd.underlying34 hi0 hz0 hz1 hz2 rfl (by decide) (.slice rv r.length cv) r.length (r.map (fun p => .int .i64 p.1)) rfl (H2.out.alloc _) ⟨w.heap.size, 0, none⟩ 1 1 [.int .i64 c] rfl rfl (fun j u hu => ?_) (fun u hu => ?_) (by omega) (by unfold maxLen; omega) (by omega) (by rw [World.size_alloc]; omega) _ rfl ?_
  · rw [ad_add, Nat.zero_add]
    exact new_cell _ #[.int .i64 c] _ j u hu
  · simp at hu; subst hu; rfl
  intro g cap w2 hown hgr hat hlt2
  have hal : Below w.heap.size w (w.alloc (.cells #[.int .i64 (c : Int)] 3)) := (Below.refl _ w).alloc (Nat.le_refl _) _
  obtain ⟨h3, h4, h5⟩ := H4.out
  have nb : ∀ k, (Value.slice rv r.length cv).ownBlock = some k → vb + 1 ≤ k := fun k hk => (H2.out.lt k hk).1
  have k2 : ∀ k, k < w.heap.size → (Value.slice rv r.length cv).ownBlock ≠ some k → w2.heap[k]? = w.heap[k]? := fun k q1 q2 => (hgr.block k (by rw [World.size_alloc]; omega) (fun e => q2 e.symm)).trans (hal.block k q1)
  have hv2 : w2.heap[vb]? = some (.cells #[.slice rv r.length cv] 34 (0, 0)) := (k2 _ lv (fun e => by have := nb _ e; omega)).trans H1.out
  have b2 : Below 0 w w2 := (hal.mono (Nat.zero_le _)).trans (grown_low hgr (fun _ _ => Nat.zero_le _) (Nat.zero_le _))
  have hgA : ¬ A g := fun hA => by
    rcases hat with h' | h'
    · exact h4 g h' hA
    · have := h5 g hA; rw [World.size_alloc] at h'; omega
  have HE : Hid (IOr vb (r ++ [(c, q)]) (w2.setCell ⟨vb, 0, none⟩ (.slice (some ⟨g, 0, none⟩) (r.length + 1) cap)) A ∧ Fr A w (w2.setCell ⟨vb, 0, none⟩ (.slice (some ⟨g, 0, none⟩) (r.length + 1) cap))) := by
    have e1 : (r ++ [(c, q)]).length = r.length + 1 := by simp
    refine ⟨⟨some ⟨g, 0, none⟩, cap, ?_, ?_, h3, fun k hk => ?_, fun k hk => ?_⟩, b2.setCell (p := ⟨vb, 0, none⟩) (Nat.zero_le _) _, fun k hk hk2 => ?_⟩
    · rw [e1]; exact set_atC hv2 _
    · rw [e1, List.map_append]
      exact own_same hown (fun k hk => Below.heap_setCell _ _ _ _ (by show k ≠ vb; have := (hown.lt k hk).1; omega))
    · have : g = k := by simpa [Value.ownBlock] using hk
      rw [← this]; exact hgA
    · rw [World.size_setCell]; exact Nat.lt_of_lt_of_le (h5 k hk) b2.size
    · exact (Below.heap_setCell _ _ _ _ (by show k ≠ vb; exact fun e => h3 (by rw [← e]; exact hk))).trans (k2 k hk2 (fun e => h4 k e hk))
  have sc0 : w2.cell? ⟨vb, 0, none⟩ = some (.slice rv r.length cv) := heap_cell hv2 rfl
  have sf0 : w2.frozen? ⟨vb, 0, none⟩ = false := by simp [World.frozen?, hv2]
  have sl0 : vb < w2.heap.size := heap_lt hv2
  clear hown hgr hat hal k2 hv2 b2 nb hgA h3 h4 h5
  go_wp2
  go_end0
  exact ⟨rfl, HE.out.1, HE.out.2⟩
theorem order_ok (n vb : Nat) (hn : n ≤ 1000000) : MeetOk n 58 vb (IOr vb) where
  enter := fun args w => by go_simp
  call := fun r c q w A hI _ _ hok => order1_any hn r c q w A hI hok
  stab := fun r w w' A A' ⟨rv, cv, h1, h2, h3, h4, h5⟩ hs hk hA hA' => by
    have lv := heap_lt h1
    exact ⟨rv, cv, (hk _ lv h3).trans h1, own_same h2 (fun g hg => hk g (h2.lt g hg).2 (h4 g hg)), fun h => by rcases hA _ h with h | h; exact h3 h; omega, fun g hg h => by
      have := (h2.lt g hg).2
      rcases hA _ h with h | h
      · exact h4 g hg h
      · omega, hA'⟩
/-- What Order tells. -/
def OrderR (h : List Cl) (l : List Int) (B : Nat) (e : Ending) (w' : World) : Prop :=
  (heapB h l = false ∧ e = .returned (.tuple #[.slice none 0 0, .int .i64 100])) ∨ (heapB h l = true ∧ ∃ rv cv, e = .returned (.tuple #[.slice rv (walkM h false l).length cv, .int .i64 0]) ∧ w'.ownsRow B 3 1 (.slice rv (walkM h false l).length cv) (walkM h false l).length ((walkM h false l).map (fun p => .int .i64 p.1)))
theorem own_mono {w : World} {base base' e size n : Nat} {v : Value} {xs : List Value} (h : w.ownsRow base e size v n xs) (hb : base' ≤ base) : w.ownsRow base' e size v n xs := by
  refine ⟨h.1, ?_⟩
  rcases h.2 with h' | ⟨g, cap, cur, hv, hg, hh, r⟩
  · exact .inl h'
  · exact .inr ⟨g, cap, cur, hv, Nat.le_trans hb hg, hh, r⟩
set_option maxRecDepth 100000 in
set_option maxHeartbeats 8000000 in
theorem order_any (h : List Cl) (l : List Int) (ra rb : Option Addr) (ca cb : Nat) (w : World) (hH : HR w ra h) (hR : WR w rb l) (hT : Tab w) (hn : h.length ≤ 1000000) (hl : l.length ≤ 1000000) :
    Calls Tryd.prog 43 #[.slice ra h.length ca, .slice rb l.length cb] w fun e w' => OrderR h l w.heap.size e w' ∧ Below w.heap.size w w' := by
  have HIs : Hid (Calls Tryd.prog 55 #[.slice ra h.length ca, .slice rb l.length cb] w fun e w' => e = .returned (.bool (heapB h l)) ∧ Below w.heap.size w w') := isHeap_any h l ra rb ca cb w hH hR (by omega) (by omega) hT
  have HH : Hid (HR w ra h ∧ WR w rb l ∧ Tab w) := ⟨hH, hR, hT⟩
  clear hH hR hT
  cases hok : heapB h l
  · rw [hok] at HIs
    have Hk : Hid (heapB h l = false) := hok
    clear hok
    go_enter Tryd.func43, Tryd.ntmps43
    go_wp2_with fail
    refine Calls.mono HIs.out ?_
    rintro e w1 ⟨rfl, hb1⟩
    have HB1 : Hid (Below w.heap.size w w1) := hb1
    clear hb1
    go_wp2
    go_ret2
    exact ⟨.inl ⟨Hk.out, rfl⟩, HB1.out⟩
  · rw [hok] at HIs
    have Hk : Hid (heapB h l = true) := hok
    clear hok
    go_enter Tryd.func43, Tryd.ntmps43
    go_wp2_with fail
    refine Calls.mono HIs.out ?_
    rintro e w1 ⟨rfl, hb1⟩
    have s1 := hb1.size
    have a3 : Below w1.heap.size w1 (w1.alloc (.cells #[.slice none 0 0] 34)) := (Below.refl _ w1).alloc (Nat.le_refl _) _
    have b3 : Below w.heap.size w (w1.alloc (.cells #[.slice none 0 0] 34)) := hb1.trans (a3.mono s1)
    have hi3 : IOr w1.heap.size [] (w1.alloc (.cells #[.slice none 0 0] 34)) (fun g => g < w.heap.size) := ⟨none, 0, heap_alloc_new _ _, ⟨by simp, .inl ⟨rfl, rfl⟩⟩, by omega, (fun g hg => by cases hg), fun g hg => Nat.lt_of_lt_of_le hg b3.size⟩
    have HWk : Hid (Calls Tryd.prog 56 #[.slice ra h.length ca, .slice rb l.length cb, .func (.func 57) #[] #[], .func (.func 58) #[] #[.pointer (some ⟨w1.heap.size, 0, none⟩)]] (w1.alloc (.cells #[.slice none 0 0] 34)) fun e w' => e = .returned (.tuple #[]) ∧ IOr w1.heap.size (walkM h false l) w' (fun g => g < w.heap.size) ∧ Below w.heap.size (w1.alloc (.cells #[.slice none 0 0] 34)) w') := walk_any h l ra rb ca cb w _ (order_ok _ _ hn) asLaid_ok hi3 rfl b3 HH.out.1 HH.out.2.1 HH.out.2.2 Hk.out hn hl
    have HB3 : Hid (Below w.heap.size w (w1.alloc (.cells #[.slice none 0 0] 34))) := b3
    clear a3 b3 hi3 hb1 HIs
    go_wp2_with fail
    refine Calls.mono HWk.out ?_
    rintro e w4 ⟨rfl, ⟨rv, cv, g1, g2, _, _, _⟩, hb4⟩
    have v0 : w4.cell? ⟨w1.heap.size, 0, none⟩ = some (.slice rv (walkM h false l).length cv) := heap_cell g1 rfl
    have HR : Hid (w4.ownsRow w.heap.size 3 1 (.slice rv (walkM h false l).length cv) (walkM h false l).length ((walkM h false l).map (fun p => .int .i64 p.1))) := own_mono g2 (by omega)
    have HBe : Hid (Below w.heap.size w w4) := HB3.out.trans hb4
    clear g1 g2 hb4 HWk
    go_wp2
    go_ret2
    exact ⟨.inr ⟨Hk.out, rv, cv, rfl, HR.out⟩, HBe.out⟩
end Go.Proofs.YtejmoopgfnjaaaaDoor

/- Words whose cells stand elsewhere: mover. -/
namespace Go.Proofs.YtejmoopgfnjaaaaDoor
open Go.RowKit

/-- The place of a cell in a row. -/
def plcM (row : List Nat) (k : Nat) : Nat := row.zipIdx.foldl (fun a p => if p.1 = k then p.2 else a) 0
theorem plc_snoc (l : List Nat) (x k : Nat) : plcM (l ++ [x]) k = if x = k then l.length else plcM l k := by
  unfold plcM
  rw [List.zipIdx_append, List.foldl_append]
  simp
/-- A word whose cell stands elsewhere. -/
def movedM (row : List Nat) (x : Int) : Int := match refN x with
  | some c => mkW 8 (plcM row c)
  | none => x
/-- Where the places of cells lie. -/
structure MV (w : World) (pb g n : Nat) (row : List Nat) : Prop where
  v : w.heap[pb]? = some (.cells #[.slice (some ⟨g, 0, none⟩) n n] 34 (0, 0))
  d : DR w 3 g n (fun k u => u = .int .i64 (plcM row k : Nat))
theorem MV.below {w w' : World} {pb g n : Nat} {row : List Nat} (h : MV w pb g n row) (hb : Below w.heap.size w w') : MV w' pb g n row :=
  ⟨(hb.block _ (heap_lt h.v)).trans h.v, h.d.kept (hb.block _ h.d.lt)⟩
set_option maxRecDepth 100000 in
set_option maxHeartbeats 4000000 in
theorem mover1_any {pb g n : Nat} (row : List Nat) (x : Int) (w : World) (hV : MV w pb g n row) (hx : fitsW n x = true) (hR : Rng x) (hT : Tab w) :
    Calls Tryd.prog 59 #[.int .u64 x, .pointer (some ⟨pb, 0, none⟩)] w fun e w' => e = .returned (.int .u64 (movedM row x)) ∧ w' = w := by
  have HC : Hid (Calls Tryd.prog 12 #[.int .u64 x] w fun e w' => e = .returned (.tuple #[.int .i64 (cellV x), .bool (refB x)]) ∧ w' = w) := cell_any x w hR hT
  have HRf : Hid (∀ k : Int, Calls Tryd.prog 15 #[.int .i64 k] w fun e w' => e = .returned (.int .u64 (mkW 8 k)) ∧ w' = w) := fun k => ref_any k w hT
  cases hr : refB x
  · have HL : Hid (movedM row x = x) := by
      have : ¬ ofT x = 8 := by simpa [refB] using hr
      show _ = _
      unfold movedM refN; rw [if_neg this]
    rw [hr] at HC
    clear hV hx hR hT hr
    go_enter Tryd.func59, Tryd.ntmps59
    go_wp2_with fail
    refine Calls.mono HC.out ?_
    rintro e w1 ⟨rfl, hw1⟩
    rw [hw1]
    clear hw1 HC
    go_wp2
    go_ret
    exact ⟨by rw [HL.out]; rfl, rfl⟩
  · obtain ⟨c, hc, hcv⟩ := ref_some hr
    have hcn : c < n := ref_fits hx hc
    obtain ⟨u, hu, hu2⟩ := hV.d.cell hcn
    subst hu2
    have HL : Hid (movedM row x = mkW 8 (plcM row c)) := by show _ = _; unfold movedM; rw [hc]
    have i1 : (c : Int) < (n : Int) := by omega
    have v0 : w.cell? ⟨pb, 0, none⟩ = some (.slice (some ⟨g, 0, none⟩) n n) := heap_cell hV.v rfl
    have lv := heap_lt hV.v
    have lg := hV.d.lt
    rw [hr, hcv] at HC
    generalize plcM row c = pc at *
    clear hV hx hR hT hr hc hcv
    go_enter Tryd.func59, Tryd.ntmps59
    go_wp2_with fail
    refine Calls.mono HC.out ?_
    rintro e w1 ⟨rfl, hw1⟩
    rw [hw1]
    clear hw1 HC
    go_wp2_with fail
    refine Calls.mono (HRf.out _) ?_
    rintro e w1 ⟨rfl, hw1⟩
    rw [hw1]
    clear hw1
    go_wp2
    go_ret
    exact ⟨by rw [HL.out]; rfl, rfl⟩
theorem made_zero (n : Nat) : ∀ u ∈ (madeCells (Value.int .i64 0).cells (n * 1)).toList, u = .int .i64 0 := by
  intro u hu
  unfold madeCells at hu
  rw [Array.toList_map] at hu
  obtain ⟨i, _, rfl⟩ := List.mem_map.1 hu
  show (#[Value.int .i64 0])[i % 1]! = _
  rw [Nat.mod_one]; rfl
set_option maxRecDepth 100000 in
set_option maxHeartbeats 8000000 in
theorem mover_any (row : List Nat) (rv : Option Addr) (cv n : Nat) (w : World) (hrow : ∀ (j c : Nat), row[j]? = some c → ∃ b, rv = some ⟨b, 0, none⟩ ∧ b < w.heap.size ∧ w.cell? ⟨b, j, none⟩ = some (.int .i64 c) ∧ c < n) (hl : row.length ≤ 1000000) (hn : n ≤ 1000000) :
    Calls Tryd.prog 44 #[.slice rv row.length cv, .int .i64 n] w fun e w' => (∃ pb g, (w.heap.size ≤ pb ∧ w.heap.size ≤ g) ∧ e = .returned (.func (.func 59) #[] #[.pointer (some ⟨pb, 0, none⟩)]) ∧ MV w' pb g n row) ∧ Below w.heap.size w w' := by
  obtain ⟨i0, hi0, hz0, hz1, hz2⟩ := info_parts infoI
  have HRw : Hid (∀ (j c : Nat), row[j]? = some c → ∃ b, rv = some ⟨b, 0, none⟩ ∧ b < w.heap.size ∧ w.cell? ⟨b, j, none⟩ = some (.int .i64 c) ∧ c < n) := hrow
  clear hrow
  go_enter Tryd.func44, Tryd.ntmps44
  go_wp2_with (at_make; refine stop_of ?_)
  unfold Hid
  refine wpList_make_full _ rfl _ _ 34 rfl w.heap.size 3 i0 (.int .i64 0) 1 Tryd.underlying34 hi0 hz0 hz1 .i64 .i64 _ _ n rfl rfl rfl rfl (by rw [hz2]; omega) (by unfold maxLen; omega) (Nat.le_refl _) ?_
  intro w2 hown hgr
  have hd2 := dr_made hown (made_zero _)
  have hb2 : Below w.heap.size w w2 := grown_low hgr (fun g hg => by cases hg) (Nat.le_refl _)
  have ld2 := hd2.lt
  have a3 : Below w2.heap.size w2 (w2.alloc (.cells #[.slice (some ⟨w.heap.size, 0, none⟩) n n] 34)) := (Below.refl _ w2).alloc (Nat.le_refl _) _
  have HM3 : Hid (MV (w2.alloc (.cells #[.slice (some ⟨w.heap.size, 0, none⟩) n n] 34)) w2.heap.size w.heap.size n []) := ⟨heap_alloc_new _ _, (hd2.mono (fun k u _ hu => by rw [hu]; rfl)).kept (a3.block _ ld2)⟩
  have HB3 : Hid (Below w.heap.size w (w2.alloc (.cells #[.slice (some ⟨w.heap.size, 0, none⟩) n n] 34))) := hb2.trans (a3.mono hb2.size)
  have hs2 := hb2.size
  clear hown hgr hd2 hb2 a3
  go_upto_region 2 with fail
  generalize w2.alloc (.cells #[.slice (some ⟨w.heap.size, 0, none⟩) n n] 34) = W3 at *
  go_wp2
  go_loopw [12, 6, 7] (fun i _ _ wr => ∃ j : Nat, i = .int .i64 j ∧ j ≤ row.length ∧ Hid (MV wr w2.heap.size w.heap.size n (row.take j)) ∧ Hid (Below w.heap.size w wr)) (fun i _ _ _ => row.length - (intOf i).toNat)
  case atStart => exact ⟨0, rfl, Nat.zero_le _, HM3, HB3⟩
  case round =>
    obtain ⟨j, rfl, hj, HV, HB⟩ := hrel
    by_cases hlt : j < row.length
    · have i1 : (j : Int) < (row.length : Int) := by omega
      obtain ⟨c, hc⟩ : ∃ c, row[j]? = some c := ⟨_, List.getElem?_eq_getElem hlt⟩
      obtain ⟨b, hrv, g1, g2, g3⟩ := HRw.out j c hc
      subst hrv
      have c0 := (HB.out.cell (p := ⟨b, j, none⟩) g1).trans g2
      have l0 : b < wr.heap.size := Nat.lt_of_lt_of_le g1 HB.out.size
      have i2 : (c : Int) < (n : Int) := by omega
      have v0 : wr.cell? ⟨w2.heap.size, 0, none⟩ = some (.slice (some ⟨w.heap.size, 0, none⟩) n n) := heap_cell HV.out.v rfl
      have lv := heap_lt HV.out.v
      have lg := HV.out.d.lt
      obtain ⟨u, hu, _⟩ := HV.out.d.cell g3
      have hfz := HV.out.d.fz c
      have HV2 : Hid (MV (wr.setCell ⟨w.heap.size, c, none⟩ (.int .i64 j)) w2.heap.size w.heap.size n (row.take (j + 1))) := by
        have e1 : row.take (j + 1) = row.take j ++ [c] := by rw [List.take_add_one, hc]; rfl
        have e2 : (row.take j).length = j := by simp; omega
        refine ⟨(Below.heap_setCell _ _ _ _ (by show w2.heap.size ≠ w.heap.size; omega)).trans HV.out.v, ?_⟩
        rw [e1]
        refine HV.out.d.set (fun k u hk hh => ?_) ?_
        · rw [hh, plc_snoc, if_neg (fun e => hk e.symm)]
        · rw [plc_snoc, if_pos rfl, e2]
      have HB2 : Hid (Below w.heap.size w (wr.setCell ⟨w.heap.size, c, none⟩ (.int .i64 j))) := HB.out.setCell (p := ⟨w.heap.size, c, none⟩) (Nat.le_refl _) _
      clear hc g1 g2
      go_wp2
      go_roundw
      case rel => exact ⟨j + 1, by go_num, by omega, HV2, HB2⟩
      case measure => simp [intOf]; omega
    · have i1 : ¬ (j : Int) < (row.length : Int) := by omega
      have HVe : Hid (MV wr w2.heap.size w.heap.size n row) := by
        have := HV.out
        rwa [List.take_of_length_le (by omega)] at this
      go_wp2
      go_ret
      exact ⟨⟨w2.heap.size, w.heap.size, ⟨by omega, Nat.le_refl _⟩, rfl, HVe.out⟩, HB.out⟩
end Go.Proofs.YtejmoopgfnjaaaaDoor
