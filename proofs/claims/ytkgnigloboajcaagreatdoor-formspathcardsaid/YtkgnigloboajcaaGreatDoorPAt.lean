/- at: the datum to which a path leads. -/
import Derived.Test.YtkgnigloboajcaaGreatDoorK41
import Derived.Test.YtkgnigloboajcaaGreatDoorFPathM
namespace Go.Proofs.YtkgnigloboajcaaGreatDoor
open Go.RowKit

theorem Rd.nd {w : World} : ∀ {f : Fo} {b o j : Nat} {x : Dt}, Rd w b o f → f.nd j = some x →
    (b < w.heap.size ∧ w.cell? ⟨b, o + j * 5, none⟩ = some (.int .u8 x.k) ∧ w.cell? ⟨b, o + j * 5 + 1, none⟩ = some (.int .i64 x.n) ∧ w.cell? ⟨b, o + j * 5 + 1 + 1, none⟩ = some (S x.t) ∧ w.cell? ⟨b, o + j * 5 + 1 + 1 + 1 + 1, none⟩ = some (.bool x.d) ∧ x.s.len ≤ maxLen) ∧
      ∃ rk ck, w.cell? ⟨b, o + j * 5 + 1 + 1 + 1, none⟩ = some (.slice rk x.s.len ck) ∧ RS w rk x.s
  | .nil, _, _, _, _, _, hx => by cases hx
  | .cons k n t s d r, b, o, 0, x, ⟨⟨h0, h1, h2, h3, h4, h5⟩, ⟨rk, ck, b', o', hk, hz, hs⟩, _⟩, hx => by
    cases hx
    rw [Nat.zero_mul, Nat.add_zero]
    exact ⟨⟨h0, h1, h2, h3, h4, h5⟩, rk, ck, hk, b', o', hz, hs⟩
  | .cons k n t s d r, b, o, j + 1, x, ⟨_, _, hr⟩, hx => by
    have := Rd.nd hr (j := j) hx
    rw [show o + 5 + j * 5 = o + (j + 1) * 5 by omega] at this
    exact this

theorem atM_next {z y : Dt} {p : List Int} {j : Nat} {i : Int} (hi : p[j]? = some i) (h : atM z (p.drop j) = some y) : ∃ (n : Nat) (z' : Dt), i = (n : Int) ∧ z.s.nd n = some z' ∧ atM z' (p.drop (j + 1)) = some y := by
  have e : p.drop j = i :: p.drop (j + 1) := by
    obtain ⟨hl, he⟩ := List.getElem?_eq_some_iff.1 hi
    rw [← he]; exact List.drop_eq_getElem_cons hl
  rw [e] at h
  simp only [atM] at h
  split at h
  · rename_i h0
    split at h
    · rename_i z' hz
      exact ⟨i.toNat, z', by omega, hz, h⟩
    · cases h
  · cases h
theorem atM_end {z y : Dt} {p : List Int} {j : Nat} (hj : p.length ≤ j) (h : atM z (p.drop j) = some y) : z = y := by
  rw [List.drop_eq_nil_of_le hj] at h
  exact Option.some.inj h

set_option maxRecDepth 100000 in
set_option maxHeartbeats 8000000 in
theorem at_any (x y : Dt) (p : List Int) (rk rp : Option Addr) (ck cp : Nat) (w : World) (hR : RS w rk x.s) (hm : x.s.len ≤ maxLen) (hP : RX (Value.int .i64) w rp p) (hpl : p.length ≤ maxLen) (hy : atM x p = some y) :
    Calls Tryz.prog 38 #[datV x (.slice rk x.s.len ck), .slice rp p.length cp] w fun e w' => ∃ rk' ck', e = .returned (.tuple #[datV y (.slice rk' y.s.len ck'), .bool true]) ∧ Below w.heap.size w w' := by
  obtain ⟨b, o, hz, hp⟩ := RX.at hP
  have a1 := (Below.refl _ w).alloc (Nat.le_refl w.heap.size) (boxD x (.slice rk x.s.len ck))
  have q0 := World.alloc_heap_new w (boxD x (.slice rk x.s.len ck))
  have HZ : Hid (p.length ≠ 0 → rp = some ⟨b, o, none⟩) := hz
  have HP : Hid (∀ (j : Nat) (x : Int), p[j]? = some x → b < w.heap.size ∧ w.cell? ⟨b, o + j, none⟩ = some (.int .i64 x)) := hp
  have HR : Hid (RS w rk x.s) := hR
  have HY : Hid (atM x p = some y) := hy
  have HB1 : Hid (Below w.heap.size w ((w.alloc (boxD x (.slice rk x.s.len ck))).alloc Z5)) := a1.alloc a1.size _
  have HQ1 : Hid (((w.alloc (boxD x (.slice rk x.s.len ck))).alloc Z5).heap[w.heap.size]? = some (.cells #[.int .u8 x.k, .int .i64 x.n, S x.t, .slice rk x.s.len ck, .bool x.d] 32 (0, 0))) := (Below.heap_alloc _ _ _ (by simp)).trans q0
  have HZ1 : Hid (((w.alloc (boxD x (.slice rk x.s.len ck))).alloc Z5).heap[w.heap.size + 1]? = some Z5) := by
    have := World.alloc_heap_new (w.alloc (boxD x (.slice rk x.s.len ck))) Z5
    rwa [World.size_alloc] at this
  unfold maxLen at hpl hm
  clear hz hp hP hR hy a1 q0
  go_enter Tryz.func38, Tryz.ntmps38
  go_upto_region 2 with fail
  generalize (w.alloc (boxD x (.slice rk x.s.len ck))).alloc Z5 = W1 at *
  go_loopw [6] (fun v wr => ∃ (j : Nat) (z : Dt) (rz : Option Addr) (cz : Nat), v = .int .i64 j ∧ j ≤ p.length ∧ z.s.len ≤ maxLen ∧ Hid (atM z (p.drop j) = some y) ∧ Hid (RS w rz z.s) ∧ Hid (Below w.heap.size w wr) ∧ Hid (wr.heap[w.heap.size]? = some (.cells #[.int .u8 z.k, .int .i64 z.n, S z.t, .slice rz z.s.len cz, .bool z.d] 32 (0, 0))) ∧ Hid (wr.heap[w.heap.size + 1]? = some Z5)) (fun v _ => p.length - (intOf v).toNat)
  case atStart => exact ⟨0, x, rk, ck, rfl, Nat.zero_le _, hm, HY, HR, HB1, HQ1, HZ1⟩
  case round =>
    obtain ⟨j, z, rz, cz, rfl, hj, hzm, HA, HRz, HBj, HQj, HZj⟩ := hrel
    unfold maxLen at hzm
    by_cases hlt : j < p.length
    · have k1 : (j : Int) < (p.length : Int) := by omega
      obtain ⟨i, hi⟩ : ∃ i, p[j]? = some i := ⟨_, List.getElem?_eq_getElem hlt⟩
      obtain ⟨n, z', rfl, hn, hA⟩ := atM_next hi HA.out
      have hnl := Fo.nd_lt hn
      obtain ⟨hpb, hpc⟩ := HP.out j _ hi
      have hrp := HZ.out (by omega)
      subst hrp
      have f1 : wr.cell? ⟨b, o + j, none⟩ = some (.int .i64 n) := (HBj.out.cell (p := ⟨b, o + j, none⟩) hpb).trans hpc
      have f2 : b < wr.heap.size := Nat.lt_of_lt_of_le hpb HBj.out.size
      obtain ⟨bz, oz, hz, hrd⟩ := HRz.out
      have hz := hz.resolve_left (by omega)
      subst hz
      obtain ⟨⟨g0, g1, g2, g3, g4, g5⟩, rk', ck', gk, gs⟩ := Rd.nd hrd hn
      have ec : ∀ o, wr.cell? ⟨bz, o, none⟩ = w.cell? ⟨bz, o, none⟩ := fun o => HBj.out.cell (p := ⟨bz, o, none⟩) g0
      have h1 := (ec _).trans g1
      have h2 := (ec _).trans g2
      have h3 := (ec _).trans g3
      have h4 := (ec _).trans g4
      have hk := (ec _).trans gk
      have hbz : bz < wr.heap.size := Nat.lt_of_lt_of_le g0 HBj.out.size
      obtain ⟨c0, c1, c2, c3, c4, cf⟩ := cells5 HQj.out
      have y0 := cf 0
      have y1 := cf 1
      have y2 := cf 2
      have y3 := cf 3
      have y4 := cf 4
      have HA2 : Hid _ := hA
      have HRz2 : Hid (RS w rk' z'.s) := gs
      have hn0 : ¬ ((n : Int) < 0) := by omega
      have hd0 : decide ((n : Int) < 0) = false := by simp
      have hn1 : (n : Int) < (z.s.len : Int) := by omega
      have hd1 : decide ((z.s.len : Int) ≤ (n : Int)) = false := by simp; omega
      clear hi hn hA hpb hpc hrd g0 g1 g2 g3 g4 gk gs ec cf
      go_upto_region 4 with fail
      go_quiet (fail)
      go_upto_region 6 with fail
      go_region
      go_wp2_with fail
      go_roundw
      case rel =>
        refine ⟨j + 1, z', rk', ck', by go_num, by omega, g5, HA2, HRz2, ?_, ?_, ?_⟩
        · exact (((((below_drewN HBj.out (nq + 1)).setCell (p := ⟨w.heap.size, 0, none⟩) (Nat.le_refl _) _).setCell (p := ⟨w.heap.size, 1, none⟩) (Nat.le_refl _) _).setCell (p := ⟨w.heap.size, 2, none⟩) (Nat.le_refl _) _).setCell (p := ⟨w.heap.size, 3, none⟩) (Nat.le_refl _) _).setCell (p := ⟨w.heap.size, 4, none⟩) (Nat.le_refl _) _
        · exact five_at (W := wr.drewN (nq + 1)) HQj.out _ _ _ _ _
        · exact (five_other (W := wr.drewN (nq + 1)) (show w.heap.size + 1 ≠ w.heap.size by omega) _ _ _ _ _).trans HZj.out
      case measure => simp [intOf]; omega
    · have k1 : ¬ (j : Int) < (p.length : Int) := by omega
      obtain rfl := atM_end (Nat.le_of_not_lt hlt) HA.out
      obtain ⟨c0, c1, c2, c3, c4, _⟩ := cells5 HQj.out
      obtain ⟨e0, e1, e2, e3, e4, ef⟩ := cells5 HZj.out
      have y0 := ef 0
      have y1 := ef 1
      have y2 := ef 2
      have y3 := ef 3
      have y4 := ef 4
      clear ef
      go_wp2_with fail
      refine bodyPost_fives rfl rfl rfl rfl HZj.out (fun W5 ho hb => ⟨⟨rz, cz, rfl⟩, ?_⟩)
      have b5 := hb w.heap.size w.heap.size (by omega)
      have h := HBj.out
      exact ⟨b5.os.trans h.os, b5.tape.trans h.tape, b5.output.trans h.output, Nat.le_trans h.size b5.size, fun k hk => (ho k (by omega)).trans (h.block k hk)⟩
end Go.Proofs.YtkgnigloboajcaaGreatDoor
