/- The walk of LexTokens. -/
import Derived.Test.YtfdpbmbafpieoaaDoorTokTwo
import Derived.Laws.EntriesVeiled
namespace Go.Proofs.YtfdpbmbafpieoaaDoor
open Go.RowKit Go.Shelf

theorem got_len (s : ByteArray) : (got (items s.data.toList)).length ≤ (items s.data.toList).length := by
  unfold got; split
  · exact Nat.le_refl _
  · exact Nat.zero_le _
theorem ahead_len (xs : List (Tok × Int)) : (ahead xs).length ≤ xs.length := (List.takeWhile_prefix _).length_le

theorem neNil (b : Nat) (w : World) : (binOp .eql 51 (.func (.func 23) #[] #[.pointer (some ⟨b, 0, none⟩)]) .nilFunc).run Tryd.prog w = .ok (.bool false) w := by kernel_rfl

set_option maxRecDepth 100000 in
set_option maxHeartbeats 4000000 in
theorem lexTokens_in (s : ByteArray) (most : Int) (w : World) (hE : EV w) :
    CallsIn Fence.wide 6 Tryd.prog 4 #[.string s, .int .i64 most] w fun e w' => e = .returned (.bool true) ∧ Below w.heap.size w w' := by
  have HE : Hid (EV w) := hE
  clear hE
  have hEa : Hid (EV ((w.alloc (.cells #[.int .i64 most] 3)).alloc (.cells #[.bool false] 4))) := (HE.out.alloc _).alloc _
  refine callsIn_of_wp_marks Tryd.func4 rfl trivial ?_ rfl
  simp only [Tryd.ntmps4, List.size_toArray, List.length_cons, List.length_nil, Nat.reduceAdd, Nat.reduceSub, Array.replicate_succ, Array.replicate_zero, List.push_toArray, List.append_toArray, List.nil_append, List.cons_append]
  by_cases hbig : 1048576 < s.size
  · gi_wp2_with fail
    refine ⟨trivial, ?_⟩
    refine (callsIn_wide.2 (works_any _ hEa.out)).mono ?_
    rintro e w1 ⟨rfl, hb1⟩
    have r0 : Boxed ((w.alloc (.cells #[.int .i64 most] 3)).alloc (.cells #[.bool false] 4)) (w.heap.size + 1) 4 (.bool false) := by
      have := Boxed.new (w.alloc (.cells #[.int .i64 most] 3)) 4 (.bool false)
      rwa [World.size_alloc] at this
    have r1 : Boxed w1 (w.heap.size + 1) 4 (.bool false) := (hb1.block _ r0.lt).trans r0
    have c1 := r1.cell
    have f1 := r1.frozen
    have Hb1 : Hid _ := hb1
    clear hb1
    gi_wp2_with fail
    have rr := r1.set (.bool true)
    have qc := rr.cell
    refine ⟨.bool true, by simp [results, Tryd.results4, go_sem, qc], rfl, ?_⟩
    exact ((((Below.refl _ w).alloc (Nat.le_refl _) (.cells #[.int .i64 most] 3)).alloc (by simp) (.cells #[.bool false] 4)).trans (Hb1.out.mono (by simp; omega))).setCell (p := ⟨w.heap.size + 1, 0, none⟩) (by simp) (.bool true)
  · gi_wp2_with fail
    refine ⟨trivial, ?_⟩
    refine (callsIn_wide.2 (works_any _ hEa.out)).mono ?_
    rintro e w1 ⟨rfl, hb1⟩
    have Hb1 : Hid _ := hb1
    clear hb1
    gi_wp2_with fail
    refine ⟨trivial, ?_⟩
    refine (callsIn_wide.2 (refTokens_any s w1 (by omega))).mono ?_
    rintro e w2 ⟨hb2, vw, rfl, how⟩
    obtain ⟨rq, cw, rfl⟩ := own_slice how
    have Hb2 : Hid _ := hb2
    have How : Hid (w2.ownsRow w1.heap.size 56 4 (.slice rq (got (items s.data.toList)).length cw) (got (items s.data.toList)).length (rowOf (got (items s.data.toList)))) := how
    clear hb2 how
    gi_wp2_with fail
    refine ⟨trivial, ?_⟩
    refine (callsIn_wide.2 (refAll_any s w2 (by omega))).mono ?_
    rintro e w3 ⟨hb3, vs, rfl, hos⟩
    obtain ⟨ra, cap, rfl⟩ := own_slice hos
    have Hb3 : Hid _ := hb3
    have Hos : Hid (w3.ownsRow w2.heap.size 56 4 (.slice ra (ahead (items s.data.toList)).length cap) (ahead (items s.data.toList)).length (rowOf (ahead (items s.data.toList)))) := hos
    clear hb3 hos
    gi_wp2_with fail
    refine ⟨trivial, ?_⟩
    refine (all_in _ s _).mono ?_
    rintro e w4 ⟨rfl, hw4⟩
    have Hw4 : Hid _ := hw4
    clear hw4
    have hnn := neNil
    simp only [World.size_alloc]
    gi_wp2_with fail
    have hsz4 : w4.heap.size = w3.heap.size + 3 := by rw [Hw4.out]; simp
    have hw0s : ((w.alloc (.cells #[.int .i64 most] 3)).alloc (.cells #[.bool false] 4)).heap.size = w.heap.size + 2 := by simp
    have hb13 : Below w1.heap.size w1 w3 := Hb2.out.trans (Hb3.out.mono Hb2.out.size)
    have hb03 := Hb1.out.trans (hb13.mono Hb1.out.size)
    have hb34 : Below w3.heap.size w3 w4 := by rw [Hw4.out]; exact (((Below.refl _ w3).alloc (Nat.le_refl _) _).alloc (by simp) _).alloc (by simp; omega) _
    have hb4 : Below w4.heap.size w4 (w4.alloc (.cells #[.func (.func 23) #[] #[.pointer (some ⟨w3.heap.size + 1 + 1, 0, none⟩)]] 51)) := (Below.refl _ w4).alloc (Nat.le_refl _) _
    have hb3W := hb34.trans (hb4.mono hb34.size)
    have r0 : Boxed ((w.alloc (.cells #[.int .i64 most] 3)).alloc (.cells #[.bool false] 4)) (w.heap.size + 1) 4 (.bool false) := by
      have := Boxed.new (w.alloc (.cells #[.int .i64 most] 3)) 4 (.bool false)
      rwa [World.size_alloc] at this
    have m0 : Boxed ((w.alloc (.cells #[.int .i64 most] 3)).alloc (.cells #[.bool false] 4)) w.heap.size 3 (.int .i64 most) := (Boxed.new w 3 (.int .i64 most)).alloc _
    have hb0W := hb03.trans (hb3W.mono hb03.size)
    have q9 : Boxed w4 w3.heap.size 25 (.slice ra (ahead (items s.data.toList)).length cap) := by rw [Hw4.out]; exact ((Boxed.new w3 25 _).alloc _).alloc _
    have qs : Boxed w4 (w3.heap.size + 1 + 1) 9 (.string s) := by
      rw [Hw4.out]
      have := Boxed.new ((w3.alloc (.cells #[.slice ra (ahead (items s.data.toList)).length cap] 25)).alloc (.cells #[.slice none 0 0, .slice none 0 0, .slice none 0 0, .slice none 0 0, .slice none 0 0, .slice none 0 0, .slice none 0 0, .slice none 0 0, .slice none 0 0, .slice none 0 0, .slice none 0 0, .slice none 0 0, .slice none 0 0, .slice none 0 0, .slice none 0 0, .slice none 0 0, .slice none 0 0] 49)) 9 (.string s)
      rwa [World.size_alloc, World.size_alloc] at this
    have qb : Bk w4 (w3.heap.size + 1) (.slice none 0 0) := by
      refine ⟨?_⟩
      rw [Hw4.out, Below.heap_alloc _ _ _ (by simp)]
      have := World.alloc_heap_new (w3.alloc (.cells #[.slice ra (ahead (items s.data.toList)).length cap] 25)) (.cells #[.slice none 0 0, .slice none 0 0, .slice none 0 0, .slice none 0 0, .slice none 0 0, .slice none 0 0, .slice none 0 0, .slice none 0 0, .slice none 0 0, .slice none 0 0, .slice none 0 0, .slice none 0 0, .slice none 0 0, .slice none 0 0, .slice none 0 0, .slice none 0 0, .slice none 0 0] 49)
      rwa [World.size_alloc] at this
    have e03 : w.heap.size + 2 ≤ w3.heap.size := by have := hb03.size; omega
    have l1 : 1 < w.heap.size := HE.out.lt
    have hrwl : ∀ g, rq = some ⟨g, 0, none⟩ → g < w3.heap.size := fun g hg => Nat.lt_of_lt_of_le (How.out.lt g (by rw [hg]; rfl)).2 Hb3.out.size
    have hral : ∀ g, ra = some ⟨g, 0, none⟩ → g < w3.heap.size := fun g hg => (Hos.out.lt g (by rw [hg]; rfl)).2
    have hts : TS w3 ra (ahead (items s.data.toList)) := own_ts Hos.out
    have htw : TS w3 rq (got (items s.data.toList)) := (own_ts How.out).below Hb3.out
    have hEnv : Env (w4.heap.size + 1) (w.heap.size + 1) w3.heap.size w4.heap.size (w3.heap.size + 1 + 1) (ahead (items s.data.toList)).length cap ra s (w4.alloc (.cells #[.func (.func 23) #[] #[.pointer (some ⟨w3.heap.size + 1 + 1, 0, none⟩)]] 51)) :=
      ⟨(hb0W.block _ r0.lt).trans r0, q9.alloc _, Boxed.new _ _ _, (hb4.block _ qs.lt).trans qs, hts.below hb3W, hEa.out.below hb0W (by omega), by omega, by omega, by omega, by omega, fun g hg => by have := hral g hg; omega, by omega⟩
    have hlen : (items s.data.toList).length ≤ 1000000 := by have := (items_len s.data.toList).2; omega
    have hsW : (w4.alloc (.cells #[.func (.func 23) #[] #[.pointer (some ⟨w3.heap.size + 1 + 1, 0, none⟩)]] 51)).heap.size = w4.heap.size + 1 := by simp
    refine loop_ok w.heap.size (w4.heap.size + 1) (w3.heap.size + 1) w.heap.size (w.heap.size + 1) w3.heap.size w4.heap.size (w3.heap.size + 1 + 1) _ cap _ cw ra rq s (by omega) most _ (by omega) l1 (by omega) rfl (Nat.le_trans (ahead_len _) hlen) rfl (Nat.le_trans (got_len s) hlen) hlen hEnv ((hb0W.block _ m0.lt).trans m0) (by omega) (htw.below hb3W) (fun g hg => by have := hrwl g hg; omega) (by omega) (by omega) (qb.below hb4 qb.lt) (by omega) (by omega) (by omega) (by omega) (by omega) (by omega) (fun g hg => by have := hral g hg; omega) (fun g hg => by have := hrwl g hg; omega) (by omega) _ ?_
    intros
    rename_i D1 D2 D3 D4 B capB V X w5 h12 h23 h34 hd1 hd2 hd3 hd4 hBk hBB hHeld hE5 hs5 hbD hB5
    have HB0W : Hid (Below w.heap.size w w5) := ((((Below.refl _ w).alloc (Nat.le_refl _) (.cells #[.int .i64 most] 3)).alloc (by simp) (.cells #[.bool false] 4)).trans (hb0W.mono (by omega))).trans hB5
    have Hd1 : Hid _ := hd1
    have Hd2 : Hid _ := hd2
    have Hd3 : Hid _ := hd3
    have Hd4 : Hid _ := hd4
    have HHeld : Hid _ := hHeld
    have HBk : Hid _ := hBk
    have HE5 : Hid (Env (w4.heap.size + 1) (w.heap.size + 1) w3.heap.size w4.heap.size (w3.heap.size + 1 + 1) (ahead (items s.data.toList)).length cap ra s w5) := hE5
    have hgl : (got (items s.data.toList)).length ≤ 1000000 := Nat.le_trans (got_len s) hlen
    clear hd1 hd2 hd3 hd4 hHeld hBk hE5 hB5 hEnv hts htw hrwl hral qb qs q9 r0 m0 hb0W hb3W hb4 hb34 hb03 hb13 hsW hlen hnn
    gi_wp2_with fail
    refine ⟨trivial, ?_⟩
    refine (callsIn_wide.2 (bookOwn_any (w4.heap.size + 1) (w3.heap.size + 1) 2 B capB V (fun _ => (got (items s.data.toList)).length) X w5 (by omega) hBB (by omega) hs5 (fun _ _ => hgl) HHeld.out HBk.out)).mono ?_
    rintro e w6 ⟨rfl, hb6⟩
    have r6 : Boxed w6 (w.heap.size + 1) 4 (.bool false) := (hb6.below.block _ (by omega)).trans HE5.out.res
    have c6 := r6.cell
    have f6 := r6.frozen
    have Hk1 : Hid (w6.heap[D1]? = some (.deferred (some []))) := hb6.others.same _ _ Hd1.out rfl
    have Hk2 : Hid (w6.heap[D2]? = some (.deferred (some []))) := hb6.others.same _ _ Hd2.out rfl
    have Hk3 : Hid (w6.heap[D3]? = some (.deferred (some []))) := hb6.others.same _ _ Hd3.out rfl
    have Hk4 : Hid (w6.heap[D4]? = some (.deferred (some []))) := hb6.others.same _ _ Hd4.out rfl
    have Hb6 : Hid (Below w.heap.size w w6) := HB0W.out.trans (hb6.below.mono (by omega))
    clear hb6 Hd1 Hd2 Hd3 Hd4 HHeld HBk
    gi_wp2_with fail
    have hs6 := KeepsOthers.setCell w6 ⟨w.heap.size + 1, 0, none⟩ (.bool true)
    have rr := r6.set (.bool true)
    have bb := Hb6.out.setCell (p := ⟨w.heap.size + 1, 0, none⟩) (by simp) (.bool true)
    have k1 := hs6.same D1 _ Hk1.out rfl
    have k2 := hs6.same D2 _ Hk2.out rfl
    have k3 := hs6.same D3 _ Hk3.out rfl
    have k4 := hs6.same D4 _ Hk4.out rfl
    obtain ⟨W0, hW0⟩ : ∃ W0, w6.setCell ⟨w.heap.size + 1, 0, none⟩ (.bool true) = W0 := ⟨_, rfl⟩
    rw [hW0] at rr bb k1 k2 k3 k4 ⊢
    clear hW0 hs6 c6 f6 Hk1 Hk2 Hk3 Hk4
    have j3 : (W0.putObj D4 (.deferred none)).heap[D3]? = some (.deferred (some [])) := (World.putObj_heap_other (by omega)).trans k3
    have j2 : ((W0.putObj D4 (.deferred none)).putObj D3 (.deferred none)).heap[D2]? = some (.deferred (some [])) := (World.putObj_heap_other (by omega)).trans ((World.putObj_heap_other (by omega)).trans k2)
    have j1 : (((W0.putObj D4 (.deferred none)).putObj D3 (.deferred none)).putObj D2 (.deferred none)).heap[D1]? = some (.deferred (some [])) := (World.putObj_heap_other (by omega)).trans ((World.putObj_heap_other (by omega)).trans ((World.putObj_heap_other (by omega)).trans k1))
    refine ⟨by simp, .inl ⟨_, _, rfl, run_takeDeferred k4, ?_⟩⟩
    refine ⟨by simp, .inl ⟨_, _, rfl, run_takeDeferred j3, ?_⟩⟩
    refine ⟨by simp, .inl ⟨_, _, rfl, run_takeDeferred j2, ?_⟩⟩
    refine ⟨by simp, .inl ⟨_, _, rfl, run_takeDeferred j1, ?_⟩⟩
    have q := boxed_putObj (boxed_putObj (boxed_putObj (boxed_putObj rr (.deferred none) k4 rfl) (.deferred none) j3 rfl) (.deferred none) j2 rfl) (.deferred none) j1 rfl
    have qc := q.cell
    refine ⟨.bool true, by simp [results, Tryd.results4, go_sem, qc], rfl, ?_⟩
    have hbD1 : w.heap.size ≤ D1 := by omega
    exact (((bb.trans (belowK_b (w := w) (Nat.le_refl _) _ D4 _ _ (by omega) k4 rfl rfl)).trans (belowK_b (w := w) (Nat.le_refl _) _ D3 _ _ (by omega) j3 rfl rfl)).trans (belowK_b (w := w) (Nat.le_refl _) _ D2 _ _ (by omega) j2 rfl rfl)).trans (belowK_b (w := w) (Nat.le_refl _) _ D1 _ _ hbD1 j1 rfl rfl)

theorem lexTokens_walk (s : ByteArray) (most : Int) (w : World) (hE : EV w) :
    Calls Tryd.prog 4 #[.string s, .int .i64 most] w fun e w' => e = .returned (.bool true) ∧ Below w.heap.size w w' := callsIn_wide.1 (lexTokens_in s most w hE)
end Go.Proofs.YtfdpbmbafpieoaaDoor
