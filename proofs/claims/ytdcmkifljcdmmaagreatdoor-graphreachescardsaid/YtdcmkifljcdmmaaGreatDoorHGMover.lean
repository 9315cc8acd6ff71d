/- Words whose cells stand elsewhere: mover. -/
import Derived.Test.YtdcmkifljcdmmaaGreatDoorHGOrder
namespace Go.Proofs.YtdcmkifljcdmmaaGreatDoor
open Go.RowKit

/-- The place of a cell in a row. -/
def plcM (row : List Nat) (k : Nat) : Nat := row.zipIdx.foldl (fun a p => if p.1 = k then p.2 else a) 0
theorem plc_snoc (l : List Nat) (x k : Nat) : plcM (l ++ [x]) k = if x = k then l.length else plcM l k := by
  unfold plcM
  rw [List.zipIdx_append, List.foldl_append]
  simp
/-- A word whose cell stands elsewhere. -/
def movedM (row : List Nat) (x : Int) : Int := match refN x with
  | some c => mkW 8 (plcM row c)
  | none => x
/-- Where the places of cells lie. -/
structure MV (w : World) (pb g n : Nat) (row : List Nat) : Prop where
  v : w.heap[pb]? = some (.cells #[.slice (some ⟨g, 0, none⟩) n n] 59 (0, 0))
  d : DR w 3 g n (fun k u => u = .int .i64 (plcM row k : Nat))
theorem MV.below {w w' : World} {pb g n : Nat} {row : List Nat} (h : MV w pb g n row) (hb : Below w.heap.size w w') : MV w' pb g n row :=
  ⟨(hb.block _ (heap_lt h.v)).trans h.v, h.d.kept (hb.block _ h.d.lt)⟩
set_option maxRecDepth 100000 in
set_option maxHeartbeats 4000000 in
theorem mover1_any {pb g n : Nat} (row : List Nat) (x : Int) (w : World) (hV : MV w pb g n row) (hx : fitsW n x = true) (hR : Rng x) (hT : Tab w) :
    Calls Tryz.prog 81 #[.int .u64 x, .pointer (some ⟨pb, 0, none⟩)] w fun e w' => e = .returned (.int .u64 (movedM row x)) ∧ w' = w := by
  have HC : Hid (Calls Tryz.prog 80 #[.int .u64 x] w fun e w' => e = .returned (.tuple #[.int .i64 (cellV x), .bool (refB x)]) ∧ w' = w) := cell_any x w hR hT
  have HRf : Hid (∀ k : Int, Calls Tryz.prog 82 #[.int .i64 k] w fun e w' => e = .returned (.int .u64 (mkW 8 k)) ∧ w' = w) := fun k => ref_any k w hT
  cases hr : refB x
  · have HL : Hid (movedM row x = x) := by
      have : ¬ ofT x = 8 := by simpa [refB] using hr
      show _ = _
      unfold movedM refN; rw [if_neg this]
    rw [hr] at HC
    clear hV hx hR hT hr
    go_enter Tryz.func81, Tryz.ntmps81
    go_wp2_with fail
    refine Calls.mono HC.out ?_
    rintro e w1 ⟨rfl, hw1⟩
    rw [hw1]
    clear hw1 HC
    go_wp2
    go_ret
    exact ⟨by rw [HL.out]; rfl, rfl⟩
  · obtain ⟨c, hc, hcv⟩ := ref_some hr
    have hcn : c < n := ref_fits hx hc
    obtain ⟨u, hu, hu2⟩ := hV.d.cell hcn
    subst hu2
    have HL : Hid (movedM row x = mkW 8 (plcM row c)) := by show _ = _; unfold movedM; rw [hc]
    have i1 : (c : Int) < (n : Int) := by omega
    have v0 : w.cell? ⟨pb, 0, none⟩ = some (.slice (some ⟨g, 0, none⟩) n n) := heap_cell hV.v rfl
    have lv := heap_lt hV.v
    have lg := hV.d.lt
    rw [hr, hcv] at HC
    generalize plcM row c = pc at *
    clear hV hx hR hT hr hc hcv
    go_enter Tryz.func81, Tryz.ntmps81
    go_wp2_with fail
    refine Calls.mono HC.out ?_
    rintro e w1 ⟨rfl, hw1⟩
    rw [hw1]
    clear hw1 HC
    go_wp2_with fail
    refine Calls.mono (HRf.out _) ?_
    rintro e w1 ⟨rfl, hw1⟩
    rw [hw1]
    clear hw1
    go_wp2
    go_ret
    exact ⟨by rw [HL.out]; rfl, rfl⟩
theorem made_zero (n : Nat) : ∀ u ∈ (madeCells (Value.int .i64 0).cells (n * 1)).toList, u = .int .i64 0 := by
  intro u hu
  unfold madeCells at hu
  rw [Array.toList_map] at hu
  obtain ⟨i, _, rfl⟩ := List.mem_map.1 hu
  show (#[Value.int .i64 0])[i % 1]! = _
  rw [Nat.mod_one]; rfl
set_option maxRecDepth 100000 in
set_option maxHeartbeats 8000000 in
theorem mover_any (row : List Nat) (rv : Option Addr) (cv n : Nat) (w : World) (hrow : ∀ (j c : Nat), row[j]? = some c → ∃ b, rv = some ⟨b, 0, none⟩ ∧ b < w.heap.size ∧ w.cell? ⟨b, j, none⟩ = some (.int .i64 c) ∧ c < n) (hl : row.length ≤ 1000000) (hn : n ≤ 1000000) :
    Calls Tryz.prog 65 #[.slice rv row.length cv, .int .i64 n] w fun e w' => (∃ pb g, (w.heap.size ≤ pb ∧ w.heap.size ≤ g) ∧ e = .returned (.func (.func 81) #[] #[.pointer (some ⟨pb, 0, none⟩)]) ∧ MV w' pb g n row) ∧ Below w.heap.size w w' := by
  obtain ⟨i0, hi0, hz0, hz1, hz2⟩ := info_parts infoI
  have HRw : Hid (∀ (j c : Nat), row[j]? = some c → ∃ b, rv = some ⟨b, 0, none⟩ ∧ b < w.heap.size ∧ w.cell? ⟨b, j, none⟩ = some (.int .i64 c) ∧ c < n) := hrow
  clear hrow
  go_enter Tryz.func65, Tryz.ntmps65
  go_wp2_with (at_make; refine stop_of ?_)
  unfold Hid
  refine wpList_make_full _ rfl _ _ 59 rfl w.heap.size 3 i0 (.int .i64 0) 1 Tryz.underlying59 hi0 hz0 hz1 .i64 .i64 _ _ n rfl rfl rfl rfl (by rw [hz2]; omega) (by unfold maxLen; omega) (Nat.le_refl _) ?_
  intro w2 hown hgr
  have hd2 := dr_made hown (made_zero _)
  have hb2 : Below w.heap.size w w2 := grown_low hgr (fun g hg => by cases hg) (Nat.le_refl _)
  have ld2 := hd2.lt
  have a3 : Below w2.heap.size w2 (w2.alloc (.cells #[.slice (some ⟨w.heap.size, 0, none⟩) n n] 59)) := (Below.refl _ w2).alloc (Nat.le_refl _) _
  have HM3 : Hid (MV (w2.alloc (.cells #[.slice (some ⟨w.heap.size, 0, none⟩) n n] 59)) w2.heap.size w.heap.size n []) := ⟨heap_alloc_new _ _, (hd2.mono (fun k u _ hu => by rw [hu]; rfl)).kept (a3.block _ ld2)⟩
  have HB3 : Hid (Below w.heap.size w (w2.alloc (.cells #[.slice (some ⟨w.heap.size, 0, none⟩) n n] 59))) := hb2.trans (a3.mono hb2.size)
  have hs2 := hb2.size
  clear hown hgr hd2 hb2 a3
  go_upto_region 2 with fail
  generalize w2.alloc (.cells #[.slice (some ⟨w.heap.size, 0, none⟩) n n] 59) = W3 at *
  go_wp2
  go_loopw [12, 6, 7] (fun i _ _ wr => ∃ j : Nat, i = .int .i64 j ∧ j ≤ row.length ∧ Hid (MV wr w2.heap.size w.heap.size n (row.take j)) ∧ Hid (Below w.heap.size w wr)) (fun i _ _ _ => row.length - (intOf i).toNat)
  case atStart => exact ⟨0, rfl, Nat.zero_le _, HM3, HB3⟩
  case round =>
    obtain ⟨j, rfl, hj, HV, HB⟩ := hrel
    by_cases hlt : j < row.length
    · have i1 : (j : Int) < (row.length : Int) := by omega
      obtain ⟨c, hc⟩ : ∃ c, row[j]? = some c := ⟨_, List.getElem?_eq_getElem hlt⟩
      obtain ⟨b, hrv, g1, g2, g3⟩ := HRw.out j c hc
      subst hrv
      have c0 := (HB.out.cell (p := ⟨b, j, none⟩) g1).trans g2
      have l0 : b < wr.heap.size := Nat.lt_of_lt_of_le g1 HB.out.size
      have i2 : (c : Int) < (n : Int) := by omega
      have v0 : wr.cell? ⟨w2.heap.size, 0, none⟩ = some (.slice (some ⟨w.heap.size, 0, none⟩) n n) := heap_cell HV.out.v rfl
      have lv := heap_lt HV.out.v
      have lg := HV.out.d.lt
      obtain ⟨u, hu, _⟩ := HV.out.d.cell g3
      have hfz := HV.out.d.fz c
      have HV2 : Hid (MV (wr.setCell ⟨w.heap.size, c, none⟩ (.int .i64 j)) w2.heap.size w.heap.size n (row.take (j + 1))) := by
        have e1 : row.take (j + 1) = row.take j ++ [c] := by rw [List.take_add_one, hc]; rfl
        have e2 : (row.take j).length = j := by simp; omega
        refine ⟨(Below.heap_setCell _ _ _ _ (by show w2.heap.size ≠ w.heap.size; omega)).trans HV.out.v, ?_⟩
        rw [e1]
        refine HV.out.d.set (fun k u hk hh => ?_) ?_
        · rw [hh, plc_snoc, if_neg (fun e => hk e.symm)]
        · rw [plc_snoc, if_pos rfl, e2]
      have HB2 : Hid (Below w.heap.size w (wr.setCell ⟨w.heap.size, c, none⟩ (.int .i64 j))) := HB.out.setCell (p := ⟨w.heap.size, c, none⟩) (Nat.le_refl _) _
      clear hc g1 g2
      go_wp2
      go_roundw
      case rel => exact ⟨j + 1, by go_num, by omega, HV2, HB2⟩
      case measure => simp [intOf]; omega
    · have i1 : ¬ (j : Int) < (row.length : Int) := by omega
      have HVe : Hid (MV wr w2.heap.size w.heap.size n row) := by
        have := HV.out
        rwa [List.take_of_length_le (by omega)] at this
      go_wp2
      go_ret
      exact ⟨⟨w2.heap.size, w.heap.size, ⟨by omega, Nat.le_refl _⟩, rfl, HVe.out⟩, HB.out⟩
end Go.Proofs.YtdcmkifljcdmmaaGreatDoor
