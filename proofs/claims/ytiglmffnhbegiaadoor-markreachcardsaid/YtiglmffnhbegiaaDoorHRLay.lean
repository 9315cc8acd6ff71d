/- The document's Lay. -/
import Derived.Test.YtiglmffnhbegiaaDoorHRMark
import Derived.Deep.RegionLaw
namespace Go.Proofs.YtiglmffnhbegiaaDoor
open Go.RowKit

def DLayO (db rb g : Nat) (rv : Value) (row : List Int) (h : List Cl) (l : List Int) (w : World) (e : Ending) (w' : World) : Prop := ∃ ra c rv', e = .returned (.slice ra (layL h l).length c) ∧ w'.ownsRow w.heap.size 3 1 (.slice ra (layL h l).length c) (layL h l).length (iL (layL h l)) ∧ DkS db rb g rv rv' (row ++ layL h l) (layH h l) w w' ∧ ∀ k, rv'.ownBlock = some k → (Value.slice ra (layL h l).length c).ownBlock ≠ some k
set_option maxRecDepth 100000 in
set_option maxHeartbeats 16000000 in
theorem rlay_any {db rb g : Nat} {rv : Value} {row : List Int} {h : List Cl} (l : List Int) (ra : Option Addr) (ca b o : Nat) (w : World) (H : DM w db rb g rv row h) (hor : l.length = 0 ∨ ra = some ⟨b, o, none⟩) (hcs : ∀ (j : Nat) (x : Int), l[j]? = some x → b < w.heap.size ∧ w.cell? ⟨b, o + j, none⟩ = some (.int .i64 x)) (hne : l ≠ [] → b ≠ db ∧ b ≠ g ∧ rv.ownBlock ≠ some b) (hl : row.length + l.length ≤ 1000000) :
    Calls Tryd.prog 32 #[.pointer (some ⟨db, 0, none⟩), .slice ra l.length ca] w fun e w' => DLayO db rb g rv row h l w e w' := by
  have HCS : Hid (∀ (j : Nat) (x : Int), l[j]? = some x → b < w.heap.size ∧ w.cell? ⟨b, o + j, none⟩ = some (.int .i64 x)) := hcs
  have HOR : Hid (l.length = 0 ∨ ra = some ⟨b, o, none⟩) := hor
  have HNE : Hid (l ≠ [] → b ≠ db ∧ b ≠ g ∧ rv.ownBlock ≠ some b) := hne
  have HM : Hid (DM w db rb g rv row h) := H
  have H0 : Hid (DyI w w db rb g rv rv (.slice none 0 0) (row ++ layL h (l.take 0)) (layL h (l.take 0)) (layH h (l.take 0))) := ⟨⟨rfl, .inl ⟨rfl, rfl⟩⟩, by simpa [layL, layH] using DkS.of H (Below.refl _ _), fun _ _ e => by cases e⟩
  have hmx : Tryd.prog.follows .mixedOrders = true := by kernel_rfl
  clear hor hcs H hne
  obtain ⟨i0, hi0, hz0, hz1, hz2⟩ := info_parts infoI
  go_enter Tryd.func32, Tryd.ntmps32
  go_wp2_with fail
  go_loopw [5, 6, 7] (fun v i _ wr => ∃ (j : Nat) (r : Option Addr) (c' : Nat) (rv' : Value), i = .int .i64 j ∧ j ≤ l.length ∧ v = .slice r (layL h (l.take j)).length c' ∧ Hid (DyI w wr db rb g rv rv' (.slice r (layL h (l.take j)).length c') (row ++ layL h (l.take j)) (layL h (l.take j)) (layH h (l.take j)))) (fun _ i _ _ => l.length - (intOf i).toNat)
  case atStart => exact ⟨0, none, 0, rv, rfl, Nat.zero_le _, by simp [layL], H0⟩
  case round =>
    clear H0
    obtain ⟨j, r, c', rv', rfl, hj, rfl, HI⟩ := hrel
    have hnl : (layL h (l.take j)).length ≤ j := Nat.le_trans (layL_len _ _) (by rw [List.length_take]; omega)
    by_cases hjl : j < l.length
    · have k1 : (j : Int) < (l.length : Int) := by omega
      obtain ⟨x, hx⟩ : ∃ x, l[j]? = some x := ⟨_, List.getElem?_eq_getElem hjl⟩
      obtain ⟨g1, y1⟩ := HCS.out j x hx
      have hra : ra = some ⟨b, o, none⟩ := HOR.out.resolve_left (by omega)
      obtain ⟨q1, q2, q3⟩ := HNE.out (fun e => by rw [e] at hjl; simp at hjl)
      have HE1 : Hid (layL h (l.take (j + 1)) = layL h (l.take j) ++ if turnB (layH h (l.take j)) x 0 1 = true then [x] else []) := by show _ = _; rw [take_succ' hx, layL_snoc]
      have HE2 : Hid (layH h (l.take (j + 1)) = turnH (layH h (l.take j)) x 0 1) := by show _ = _; rw [take_succ' hx, layH_snoc]
      generalize hL : layL h (l.take j) = L at HI HE1 hnl ⊢
      generalize hG : layH h (l.take j) = G at HI HE1 HE2
      have HLo : Hid (∀ wx rx vx Rx Lx Gx, DyI w wx db rb g rv rx vx Rx Lx Gx → wx.cell? ⟨b, o + j, none⟩ = some (.int .i64 x) ∧ wx.cell? ⟨db, 0, none⟩ = some (.pointer (some ⟨rb, 0, none⟩))) := fun wx rx vx Rx Lx Gx hw => ⟨by rw [World.cell?, hw.s.f b g1 q1 q2 q3]; exact y1, heap_cell hw.s.m.m rfl⟩
      obtain ⟨y3, m0⟩ := HLo.out _ _ _ _ _ _ HI.out
      have HC : Hid (Calls Tryd.prog 80 #[.pointer (some ⟨rb, 0, none⟩), .int .i64 x] wr.drew fun e w' => e = .returned (.bool (turnB G x 0 1)) ∧ RhR rb g (turnH G x 0 1) wr.drew w') := rshade_any x HI.out.drew.s.m.r
      have HMk : Hid (∀ wx, RhR rb g (turnH G x 0 1) wr.drew wx → wx.cell? ⟨b, o + j, none⟩ = some (.int .i64 x) ∧ wx.cell? ⟨db, 0, none⟩ = some (.pointer (some ⟨rb, 0, none⟩))) := fun wx hr => HLo.out _ _ _ _ _ _ (HI.out.drew.rh hr)
      rw [hra]
      have hs : w.heap.size ≤ wr.heap.size := HI.out.s.b.size
      cases hb' : turnB G x 0 1
      · rw [hb'] at HC HE1
        clear hb' hx y1 hra hL hG
        go_wp2_with fail
        go_region_held3 (fun wx => wx.cell? ⟨b, o + j, none⟩ = some (.int .i64 x) ∧ wx.cell? ⟨db, 0, none⟩ = some (.pointer (some ⟨rb, 0, none⟩))) (first | (go_keep; done) | exact ⟨y3, m0⟩ | exact HMk.out _ hx) (first | (go_at_call 80; refine HC.out.mono ?_; rintro e w' ⟨rfl, hx⟩) | fail)
        have HI' : Hid (DyI w w' db rb g rv rv' (.slice r L.length c') (row ++ L) L (turnH G x 0 1)) := HI.out.drew.rh hx
        clear hx y3 m0 HMk HC
        go_wp2_with fail
        have e : layL h (l.take (j + 1)) = L := by rw [HE1.out]; simp
        refine ⟨⟨j + 1, r, c', rv', by go_num, by omega, by rw [e], ?_⟩, by simp [intOf]; omega⟩
        rw [e, HE2.out]
        exact HI'
      · rw [hb'] at HC HE1
        clear hb' hx y1 hra hL hG
        go_wp2_with fail
        go_region_held3 (fun wx => wx.cell? ⟨b, o + j, none⟩ = some (.int .i64 x) ∧ wx.cell? ⟨db, 0, none⟩ = some (.pointer (some ⟨rb, 0, none⟩))) (first | (go_keep; done) | exact ⟨y3, m0⟩ | exact HMk.out _ hx) (first | (go_at_call 80; refine HC.out.mono ?_; rintro e w' ⟨rfl, hx⟩) | fail)
        have HI' : Hid (DyI w w' db rb g rv rv' (.slice r L.length c') (row ++ L) L (turnH G x 0 1)) := HI.out.drew.rh hx
        clear hx y3 m0 HMk HC
        obtain ⟨y3, m0⟩ := HLo.out _ _ _ _ _ _ HI'.out
        have hs' : w.heap.size ≤ w'.heap.size := HI'.out.s.b.size
        go_wp2_with (at_builtin; refine stop_of ?_)
        unfold Hid
        refine wpList_append_lies _ rfl _ _ 26 rfl w.heap.size 3 i0 (.int .i64 0) 1 8 Tryd.underlying26 hi0 hz0 hz1 hz2 rfl (by decide) (.slice r L.length c') L.length (iL L) rfl (HI'.out.o.alloc _) ⟨w'.heap.size, 0, none⟩ 1 1 [.int .i64 x] rfl rfl (fun j u hu => ?_) (fun u hu => ?_) (by omega) (by unfold maxLen; omega) (by omega) (by rw [World.size_alloc]; omega) _ rfl ?_
        · rw [ad_add, Nat.zero_add]
          exact new_cell _ #[.int .i64 x] _ j u hu
        · simp at hu; subst hu; rfl
        intro gg cap w2 hown hgr hat hlt2
        have HE : Hid (DyI w w2 db rb g rv rv' (.slice (some ⟨gg, 0, none⟩) (L.length + 1) cap) (row ++ L) (L ++ [x]) (turnH G x 0 1)) := HI'.out.grown (by simpa using hown) hgr (fun k hk => by
          have e : gg = k := by simpa [Value.ownBlock] using hk
          subst e
          rcases hat with h1 | h1
          · exact .inl h1
          · rw [World.size_alloc] at h1; exact .inr (by omega))
        clear hown hgr hat hlt2 y3 m0 hs'
        obtain ⟨y3, m0⟩ := HLo.out _ _ _ _ _ _ HE.out
        have m1 : w2.cell? ⟨db, 1, none⟩ = some rv' := heap_cell HE.out.s.m.m rfl
        have lm := heap_lt HE.out.s.m.m
        have hq : RQ (w2.drew.alloc (.cells #[.int .i64 x] 3)) rv' (row ++ L) := HE.out.s.m.q.kept (fun k hk => by
          obtain ⟨cs, q1⟩ := HE.out.s.m.q.blk hk
          exact Below.heap_alloc _ _ _ (heap_lt q1))
        obtain ⟨v', w4, hr, a1, a2, a3, a4⟩ := hq.app (l' := [x]) (c := 1) (by simp; omega) (rx_new (w := w2.drew) [x])
        obtain ⟨vr, vc, rfl⟩ := a1.sl
        have hsz : (w2.drew.alloc (.cells #[.int .i64 x] 3)).heap.size = w2.heap.size + 1 := by rw [World.size_alloc]; rfl
        obtain ⟨F1, F2⟩ := HE.out.drew.app a1 (fun k hk hn => (a2 k (by rw [hsz]; have : k < w2.heap.size := hk; omega) hn).trans (Below.heap_alloc _ _ _ hk)) (((Below.refl 0 w2.drew).alloc (Nat.zero_le _) _).trans a3) (fun k hk => by
          rcases a4 with h1 | h1
          · exact .inl (h1 ▸ hk)
          · rw [h1] at hk
            cases hk
            exact .inr (by rw [hsz]; show w2.heap.size ≤ _; omega))
        have hlen : (row ++ L ++ [x]).length = row.length + L.length + 1 := by simp; omega
        rw [hlen] at F1
        simp only [hlen] at hr
        have HF : Hid (DyI w (w4.setCell ⟨db, 1, none⟩ (.slice vr (row.length + L.length + 1) vc)) db rb g rv (.slice vr (row.length + L.length + 1) vc) (.slice (some ⟨gg, 0, none⟩) (L.length + 1) cap) (row ++ L ++ [x]) (L ++ [x]) (turnH G x 0 1)) := F1
        have c4 : w4.cell? ⟨db, 1, none⟩ = some rv' := heap_cell F2 rfl
        have f4 : w4.frozen? ⟨db, 1, none⟩ = false := by simp [World.frozen?, F2]
        have l4 := heap_lt F2
        have Hr : Hid (∀ ty, (Builtin.append_ #[26, 26] ty #[rv', .slice (some ⟨w2.heap.size, 0, none⟩) 1 1]).run Tryd.prog (w2.drew.alloc (.cells #[.int .i64 x] 3)) = .ok (.slice vr (row.length + L.length + 1) vc) w4) := hr
        clear F1 F2 hr a1 a2 a3 a4 hq hsz hlen
        go_upto_region 8 with fail
        go_region_law (refine step_append_known rfl _ _ 26 26 rfl _ _ rfl rfl (Hr.out _) ?_)
        all_goals
          clear Hr c4 f4 l4 m1 lm y3 m0
          go_wp2_with fail
          have e : layL h (l.take (j + 1)) = L ++ [x] := by rw [HE1.out]; simp
          refine ⟨⟨j + 1, some ⟨gg, 0, none⟩, cap, .slice vr (row.length + L.length + 1) vc, by go_num, by omega, by rw [e]; simp, ?_⟩, by simp [intOf]; omega⟩
          rw [e, HE2.out, show (L ++ [x]).length = L.length + 1 by simp, ← List.append_assoc]
          exact HF
    · have e : j = l.length := by omega
      subst e
      have k1 : ¬ ((l.length : Int) < (l.length : Int)) := by omega
      rw [List.take_length] at HI hnl ⊢
      go_wp2_with fail
      go_ret
      exact ⟨_, _, _, rfl, HI.out.o, HI.out.s, HI.out.d⟩
end Go.Proofs.YtiglmffnhbegiaaDoor
