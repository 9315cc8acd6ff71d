/- New. -/
import Derived.Test.YtaenoenchbfeiaaHAAl
namespace Go.Proofs.Ytaenoenchbfeiaa
open Go.RowKit

theorem dr_made {W : World} {base g n t : Nat} {xs : List Value} {u0 : Value} (h : W.ownsRow base t 1 (.slice (some ⟨g, 0, none⟩) n n) n xs) (hx : ∀ u ∈ xs, u = u0) : DR W t g n (fun _ u => u = u0) := by
  rcases h.2 with ⟨h0, _⟩ | ⟨g', cap', cur, hv, _, hh, _, _, hsz, ht⟩
  · cases h0
  · cases hv
    refine ⟨cur, hh, by simpa using hsz, fun k u hk => hx u ?_⟩
    have hk2 : k < cur.size := (Array.getElem?_eq_some_iff.1 hk).1
    rw [← ht, List.take_of_length_le (by simp; omega)]
    exact Array.mem_toList_iff.2 (Array.mem_of_getElem? hk)
theorem made_u8 (n : Nat) : ∀ u ∈ (madeCells (Value.int .u8 0).cells (n * 1)).toList, u = .int .u8 0 := by
  intro u hu
  unfold madeCells at hu
  rw [Array.toList_map] at hu
  obtain ⟨i, _, rfl⟩ := List.mem_map.1 hu
  show (#[Value.int .u8 0])[i % 1]! = _
  rw [Nat.mod_one]; rfl
theorem infoP : (Try.prog.info? 109).map (fun i => (i.zero, i.size, i.bytes)) = some (some (.int .u8 0), 1, 1) := by kernel_rfl
def ints (n : Nat) : List Value := (List.range n).map (fun (j : Nat) => Value.int .i64 (j : Int))
def al0 (n : Nat) : Al := ⟨List.replicate n 0, []⟩
theorem own_mono {w : World} {base e size n : Nat} {v : Value} {xs : List Value} (h : w.ownsRow base e size v n xs) : w.ownsRow 0 e size v n xs := by
  refine ⟨h.1, ?_⟩
  rcases h.2 with h' | ⟨g, cap, cur, hv, hb, r⟩
  · exact .inl h'
  · exact .inr ⟨g, cap, cur, hv, Nat.zero_le _, r⟩
/-- What New gives. -/
def NewR (n : Nat) (e : Ending) (w w' : World) : Prop := ∃ a ga gm gf cf, e = .returned (.tuple #[.pointer (some ⟨a, 0, none⟩), .int .i64 0]) ∧ AL w' a ga gm gf cf (.slice none 0 0) 0 (al0 n) ∧ Below w.heap.size w w' ∧ ∀ g, Ft a ga gm gf (.slice none 0 0) g → w.heap.size ≤ g
theorem new_bad (n : Int) (w : World) (h : ¬ (4 ≤ n ∧ n ≤ 4096)) : Calls Try.prog 7 #[.int .i64 n] w fun e w' => e = .returned (.tuple #[.pointer none, .int .i64 120]) ∧ w' = w := by
  by_cases h1 : n < 4
  · go_enter Try.func7, Try.ntmps7
    go_wp2
    all_goals
      go_ret2
      exact ⟨rfl, rfl⟩
  · have h2 : n > 4096 := by omega
    clear h
    go_enter Try.func7, Try.ntmps7
    go_wp2
    all_goals
      go_ret2
      exact ⟨rfl, rfl⟩
set_option maxRecDepth 100000 in
set_option maxHeartbeats 4000000 in
theorem new_any (n : Nat) (w : World) (h4 : 4 ≤ n) (h40 : n ≤ 4096) : Calls Try.prog 7 #[.int .i64 n] w fun e w' => NewR n e w w' := by
  obtain ⟨i0, hi0, hz0, hz1, hz2⟩ := info_parts infoP
  obtain ⟨j0, hj0, hy0, hy1, hy2⟩ := info_parts infoI
  have k1 : ¬ (n : Int) < 4 := by omega
  have k2 : ¬ (n : Int) > 4096 := by omega
  go_enter Try.func7, Try.ntmps7
  go_wp2_with (at_make; refine stop_of ?_)
  unfold Hid
  refine wpList_make_full _ rfl _ _ 75 rfl w.heap.size 109 i0 (.int .u8 0) 1 Try.underlying75 hi0 hz0 hz1 .i64 .i64 _ _ n rfl rfl rfl rfl (by rw [hz2]; omega) (by unfold maxLen; omega) (Nat.le_refl _) ?_
  intro w1 hown hgr
  have hd1 := dr_made hown (made_u8 _)
  have hb1 : Below w.heap.size w w1 := grown_low hgr (fun g hg => by cases hg) (Nat.le_refl _)
  have l1 := hd1.lt
  have HM : Hid (GM (w1.alloc (.map #[] 0)) w1.heap.size 0 (fun _ => none)) := GM.made w1
  have mm : (Instr.makeMap 76 none).run Try.prog w1 = .ok (.map (some w1.heap.size)) (w1.alloc (.map #[] 0)) := run_makeMap (P := Try.prog) 76 w1
  obtain ⟨OB, hOB⟩ : ∃ OB : Value → Obj, ∀ v, OB v = .cells #[.slice (some ⟨w.heap.size, 0, none⟩) n n, v, .slice none 0 0, .map (some w1.heap.size)] 78 := ⟨_, fun _ => rfl⟩
  obtain ⟨W2, hW2⟩ : ∃ W2, W2 = (w1.alloc (.map #[] 0)).alloc (.cells #[.slice (some ⟨w.heap.size, 0, none⟩) n n, .slice none 0 0, .slice none 0 0, .map (some w1.heap.size)] 78) := ⟨_, rfl⟩
  have s1 : (w1.alloc (.map #[] 0)).heap.size = w1.heap.size + 1 := World.size_alloc ..
  have s2 : W2.heap.size = w1.heap.size + 2 := by rw [hW2, World.size_alloc, s1]
  have b2 : Below w1.heap.size w1 W2 := by
    rw [hW2]
    exact ((Below.refl _ w1).alloc (Nat.le_refl _) _).alloc (by rw [s1]; omega) _
  have o2 : W2.heap[w1.heap.size + 1]? = some (.cells #[.slice (some ⟨w.heap.size, 0, none⟩) n n, .slice none 0 0, .slice none 0 0, .map (some w1.heap.size)] 78 (0, 0)) := by
    have := heap_alloc_new (w1.alloc (.map #[] 0)) (.cells #[.slice (some ⟨w.heap.size, 0, none⟩) n n, .slice none 0 0, .slice none 0 0, .map (some w1.heap.size)] 78)
    rw [← hW2, s1] at this
    exact this
  have HM2 : Hid (GM W2 w1.heap.size 0 (fun _ => none)) := HM.out.kept (by rw [hW2]; exact Below.heap_alloc _ _ _ (by rw [s1]; omega))
  have HD2 : Hid (DR W2 109 w.heap.size n (fun _ u => u = .int .u8 0)) := hd1.kept (b2.block _ l1)
  have HB2 : Hid (Below w.heap.size w W2) := hb1.trans (b2.mono hb1.size)
  have HO2 : Hid (W2.ownsRow (w1.heap.size + 2) 3 1 (.slice none 0 0) 0 (ints 0)) := World.ownsRow_nil _ _ _ _
  have HOB : Hid _ := o2
  clear hown hgr hd1 hb1 HM hOB b2 o2
  go_upto_region 4 with fail
  try rw [s1]
  rw [← hW2]
  clear mm s1 hW2
  go_wp2
  go_loopw [18, 5] (fun i _ wr => ∃ (j : Nat) (v : Value), i = .int .i64 j ∧ j ≤ n ∧ Hid (wr.ownsRow (w1.heap.size + 2) 3 1 v j (ints j)) ∧ Hid (wr.heap[w1.heap.size + 1]? = some (.cells #[.slice (some ⟨w.heap.size, 0, none⟩) n n, v, .slice none 0 0, .map (some w1.heap.size)] 78 (0, 0))) ∧ Hid (Below (w1.heap.size + 1) W2 wr)) (fun i _ _ => n - (intOf i).toNat)
  case atStart => exact ⟨0, _, rfl, Nat.zero_le _, HO2, HOB, Below.refl _ _⟩
  case round =>
    obtain ⟨j, v, rfl, hj, HO, HOb, HB⟩ := hrel
    have sz := HB.out.size
    by_cases hlt : j < n
    · have k3 : (j : Int) < (n : Int) := by omega
      obtain ⟨ra, cap, rfl⟩ := own_sl HO.out
      have c1 := heap_cell (j := 1) HOb.out rfl
      have l1 := heap_lt HOb.out
      go_wp2_with (at_builtin; refine stop_of ?_)
      unfold Hid
      refine wpList_append_lies _ rfl _ _ 65 rfl (w1.heap.size + 2) 3 j0 (.int .i64 0) 1 8 Try.underlying65 hj0 hy0 hy1 hy2 rfl (by decide) (.slice ra j cap) j (ints j) rfl (HO.out.alloc _) ⟨wr.heap.size, 0, none⟩ 1 1 [.int .i64 j] rfl rfl (fun k u hu => ?_) (fun u hu => ?_) (by omega) (by unfold maxLen; omega) (by omega) (by rw [World.size_alloc]; omega) _ rfl ?_
      · rw [ad_add, Nat.zero_add]
        exact new_cell _ #[.int .i64 j] _ k u hu
      · simp at hu; subst hu; rfl
      intro g cp w3 hown hgr hat hl3
      have al : Below (w1.heap.size + 1) wr (wr.alloc (.cells #[.int .i64 (j : Int)] 3)) := (Below.refl _ _).alloc (by omega) _
      have b3 : Below (w1.heap.size + 2) wr w3 := ((Below.refl _ _).alloc (by omega) _).trans (grown_low hgr (fun k hk => ((HO.out.lt k hk).1)) (by rw [World.size_alloc]; omega))
      have hob3 := (b3.block (w1.heap.size + 1) (by omega)).trans HOb.out
      have c3 := heap_cell (j := 1) hob3 rfl
      have f3 : w3.frozen? ⟨w1.heap.size + 1, 1, none⟩ = false := by simp [World.frozen?, hob3]
      have hgg : w1.heap.size + 2 ≤ g := (hown.lt g rfl).1
      have HOn : Hid ((w3.setCell ⟨w1.heap.size + 1, 1, none⟩ (.slice (some ⟨g, 0, none⟩) (j + 1) cp)).ownsRow (w1.heap.size + 2) 3 1 (.slice (some ⟨g, 0, none⟩) (j + 1) cp) (j + 1) (ints (j + 1))) := by
        have e : ints (j + 1) = ints j ++ [.int .i64 (j : Int)] := by unfold ints; rw [List.range_succ, List.map_append]; rfl
        show World.ownsRow ..
        rw [e]
        exact own_same hown (fun k hk => Below.heap_setCell _ _ _ _ (by cases hk; show g ≠ w1.heap.size + 1; omega))
      have HObn : Hid ((w3.setCell ⟨w1.heap.size + 1, 1, none⟩ (.slice (some ⟨g, 0, none⟩) (j + 1) cp)).heap[w1.heap.size + 1]? = some (.cells #[.slice (some ⟨w.heap.size, 0, none⟩) n n, .slice (some ⟨g, 0, none⟩) (j + 1) cp, .slice none 0 0, .map (some w1.heap.size)] 78 (0, 0))) := set_atC hob3 _
      have HBn : Hid (Below (w1.heap.size + 1) W2 (w3.setCell ⟨w1.heap.size + 1, 1, none⟩ (.slice (some ⟨g, 0, none⟩) (j + 1) cp))) := (HB.out.trans (b3.mono (by omega))).setCell (p := ⟨w1.heap.size + 1, 1, none⟩) (Nat.le_refl _) _
      have s3 := b3.size
      clear hown hgr hat al b3 hob3 HO HOb c1
      go_wp2
      go_roundw
      case rel => exact ⟨j + 1, _, by go_num, by omega, HOn, HObn, HBn⟩
      case measure => simp [intOf]; omega
    · obtain rfl : j = n := by omega
      have k3 : ¬ (j : Int) < (j : Int) := by omega
      have HE : Hid (∃ gf cf, v = .slice (some ⟨gf, 0, none⟩) j cf ∧ AL wr (w1.heap.size + 1) w.heap.size w1.heap.size gf cf (.slice none 0 0) 0 (al0 j) ∧ w1.heap.size + 2 ≤ gf) := by
        have hO := HO.out
        rcases hO.2 with ⟨_, h0⟩ | ⟨gf, cf, cur, hv, hb, hh, hn, hm, hs, ht⟩
        · omega
        · refine ⟨gf, cf, hv, ⟨?_, ?_, ?_, ?_, ?_, ?_⟩, hb⟩
          · have := HOb.out
            rw [hv] at this
            simpa [al0, frs_all] using this
          · have := HD2.out.kept (HB.out.block _ (by omega))
            have e1 : (al0 j).who.length = j := by simp [al0]
            rw [e1]
            refine this.mono (fun k u hk hu x hx => ?_)
            have hx2 := List.eq_of_mem_replicate (List.mem_of_getElem? hx)
            rw [hx2, hu]
            rfl
          · have h2 := own_mono hO
            rw [hv] at h2
            have e1 : (frs 0 (al0 j).who).length = j := by simp [al0, frs_all]
            have e2 : (frs 0 (al0 j).who).map (Value.int .i64) = ints j := by
              unfold al0 ints
              rw [frs_all, List.map_map]
              exact List.map_congr_left (fun k _ => by simp)
            rw [e1, e2]
            exact h2
          · simp [al0]; omega
          · exact World.ownsRow_nil _ _ _ _
          · obtain ⟨D, d1, d2, d3⟩ := HM2.out.kept (HB.out.block _ (by omega))
            refine ⟨D, d1, d2, fun t h1 h8 => ?_⟩
            have e : fnd t (al0 j).who = none := fnd_none.2 (fun hm => by have := List.eq_of_mem_replicate hm; omega)
            dsimp only
            rw [e]
            exact d3 t h1 h8
      have HBe : Hid (Below w.heap.size w wr) := HB2.out.trans (HB.out.mono (by omega))
      have lw : w.heap.size ≤ w1.heap.size := by omega
      clear HO HOb HB
      go_wp2
      go_ret2
      obtain ⟨gf, cf, rfl, hal, hgf⟩ := HE.out
      exact ⟨w1.heap.size + 1, w.heap.size, w1.heap.size, gf, cf, rfl, hal, HBe.out, fun g hg => by
        rcases hg with (rfl | rfl | rfl | rfl) | hg
        · omega
        · omega
        · omega
        · omega
        · cases hg⟩
end Go.Proofs.Ytaenoenchbfeiaa
