/- apart: does nothing that is black name what is white? -/
import Derived.Test.YtiglmffnhbegiaaDoorHXMath2
namespace Go.Proofs.YtiglmffnhbegiaaDoor
open Go.RowKit

/-- A word names nothing that is white. -/
def Ap (h : List Cl) (w : Int) : Prop := refB w = false ∨ (refB w = true ∧ ∃ d : Nat, cellV w = d ∧ (h.length ≤ d ∨ ∃ y, h[d]? = some y ∧ (y.k = 0 ∨ (y.k ≠ 0 ∧ y.c ≠ 0))))
def Apt (h : List Cl) : Prop := ∀ (i : Nat) (x : Cl), h[i]? = some x → x.k ≠ 0 → x.c = 2 → Ap h x.a ∧ Ap h x.b
theorem KR.at {w : World} {g j : Nat} {h : List Cl} {x : Cl} (H : KR w g h h.length) (hx : h[j]? = some x) : w.cell? ⟨g, j * 4, none⟩ = some (.int .u8 x.k) ∧ w.cell? ⟨g, j * 4 + 1, none⟩ = some (.int .u8 x.c) ∧ w.cell? ⟨g, j * 4 + 1 + 1, none⟩ = some (.int .u64 x.a) ∧ w.cell? ⟨g, j * 4 + 1 + 1 + 1, none⟩ = some (.int .u64 x.b) := by
  have hj : j < h.length := (List.getElem?_eq_some_iff.1 hx).1
  obtain ⟨a0, a1, a2, a3⟩ := clCells_at h j x hx
  have F : ∀ k v, k < h.length * 4 → (clCells h)[k]? = some v → w.cell? ⟨g, k, none⟩ = some v := fun k v hk hv => by
    obtain ⟨u, u1, u2⟩ := DR.cell H hk
    have := u2 hk
    rw [hv] at this
    cases this
    exact u1
  exact ⟨F _ _ (by omega) a0, F _ _ (by omega) a1, F _ _ (by omega) a2, F _ _ (by omega) a3⟩
/-- What is known of a word, spelt for a walk. -/
inductive ApW (h : List Cl) (g : Nat) (W : World) (w : Int) : Prop
  | no (e : refB w = false) : ApW h g W w
  | far (d : Nat) (e : refB w = true) (c : cellV w = d) (l : decide ((d : Int) < (h.length : Int)) = false) (nl : ¬ ((d : Int) < (h.length : Int))) : ApW h g W w
  | free (d : Nat) (e : refB w = true) (c : cellV w = d) (l : decide ((d : Int) < (h.length : Int)) = true) (l' : (d : Int) < (h.length : Int)) (k : W.cell? ⟨g, d * 4, none⟩ = some (.int .u8 0)) : ApW h g W w
  | dark (d : Nat) (y : Cl) (e : refB w = true) (c : cellV w = d) (l : decide ((d : Int) < (h.length : Int)) = true) (l' : (d : Int) < (h.length : Int)) (k : W.cell? ⟨g, d * 4, none⟩ = some (.int .u8 y.k)) (k' : W.cell? ⟨g, d * 4 + 1, none⟩ = some (.int .u8 y.c)) (n : (y.k != 0) = true) (n' : (y.c == 0) = false) : ApW h g W w
theorem Ap.w {h : List Cl} {g : Nat} {W : World} {w : Int} (H : Ap h w) (K : KR W g h h.length) : ApW h g W w := by
  rcases H with e | ⟨e, d, c, l | ⟨y, hy, k | ⟨k, k'⟩⟩⟩
  · exact .no e
  · exact .far d e c (by simp; omega) (by omega)
  · have hd := (List.getElem?_eq_some_iff.1 hy).1
    exact .free d e c (by simp; omega) (by omega) (by rw [← k]; exact (K.at hy).1)
  · have hd := (List.getElem?_eq_some_iff.1 hy).1
    exact .dark d y e c (by simp; omega) (by omega) (K.at hy).1 (K.at hy).2.1 (by simpa using k) (by simpa using k')
set_option maxRecDepth 100000 in
set_option maxHeartbeats 32000000 in
theorem apart_any {hb ab : Nat} {h : List Cl} {w : World} (H : CH w hb ab h) (hA : Apt h) (hT : Tab w) :
    Calls Tryd.prog 14 #[.pointer (some ⟨hb, 0, none⟩)] w fun e w' => e = .returned (.bool true) ∧ Below w.heap.size w w' := by
  have HC : Hid _ := snapshot_any H
  have hlen := H.len
  have HOk : Hid (∀ x ∈ h, OkK x) := H.ok
  have HA : Hid (Apt h) := hA
  have HT : Hid (Tab w) := hT
  clear H hA hT
  go_enter Tryd.func14, Tryd.ntmps14
  go_wp2_with fail
  refine Calls.mono HC.out ?_
  rintro e w1 ⟨g, rfl, hk, hb1, _⟩
  have HK : Hid (KR w1 g h h.length) := hk
  have HB : Hid (Below w.heap.size w w1) := hb1
  have HT1 : Hid (Tab w1) := HT.out.below hb1
  clear hk hb1 HC
  go_wp2_with fail
  go_loopw [4, 5, 6, 7, 8] (fun i _ _ _ _ wr => ∃ j : Nat, i = .int .i64 j ∧ j ≤ h.length ∧ wr = w1) (fun i _ _ _ _ _ => h.length - (intOf i).toNat)
  case atStart => exact ⟨0, rfl, Nat.zero_le _, rfl⟩
  case round =>
    obtain ⟨j, rfl, hj, rfl⟩ := hrel
    by_cases hjl : j < h.length
    · have k1 : (j : Int) < (h.length : Int) := by omega
      obtain ⟨x, hx⟩ : ∃ x, h[j]? = some x := ⟨_, List.getElem?_eq_getElem hjl⟩
      obtain ⟨a0, a1, a2, a3⟩ := HK.out.at hx
      have ok := HOk.out x (List.mem_of_getElem? hx)
      by_cases h0 : x.k = 0
      · have z0 : (x.k == 0) = true := by simpa using h0
        clear hx ok h0
        go_wp2_with fail
        exact ⟨⟨j + 1, by go_num, by omega, by first | rfl | trivial⟩, by simp [intOf]; omega⟩
      · have z0 : (x.k == 0) = false := by simpa using h0
        by_cases h2 : x.c = 2
        · have z2 : (x.c != 2) = false := by simpa using h2
          obtain ⟨pa, pb⟩ := HA.out j x hx h0 h2
          have wa := pa.w HK.out
          have wb := pb.w HK.out
          have HC1 : Hid (Calls Tryd.prog 63 #[.int .u64 x.a] wr fun e w' => e = .returned (.tuple #[.int .i64 (cellV x.a), .bool (refB x.a)]) ∧ w' = wr) := cell_any x.a wr ok.a HT1.out
          have HC2 : Hid (Calls Tryd.prog 63 #[.int .u64 x.b] wr fun e w' => e = .returned (.tuple #[.int .i64 (cellV x.b), .bool (refB x.b)]) ∧ w' = wr) := cell_any x.b wr ok.b HT1.out
          clear hx ok h0 h2 pa pb
          rcases wa with e1 | ⟨d1, e1, c1, l1, nl1⟩ | ⟨d1, e1, c1, l1, l1', q1⟩ | ⟨d1, y1, e1, c1, l1, l1', q1, q1', n1, n1'⟩
          all_goals
            rcases wb with e2 | ⟨d2, e2, c2, l2, nl2⟩ | ⟨d2, e2, c2, l2, l2', q2⟩ | ⟨d2, y2, e2, c2, l2, l2', q2, q2', n2, n2'⟩
          all_goals
            rw [e1] at HC1
            rw [e2] at HC2
            try rw [c1] at HC1
            try rw [c2] at HC2
            go_wp2_with fail
            refine Calls.mono HC1.out ?_
            rintro e w' ⟨rfl, hw'⟩
            rw [hw']
            clear hw'
            go_wp2_with fail
            refine Calls.mono HC2.out ?_
            rintro e w' ⟨rfl, hw'⟩
            rw [hw']
            clear hw'
            go_wp2_with fail
            exact ⟨⟨j + 1, by go_num, by omega, by first | rfl | trivial⟩, by simp [intOf]; omega⟩
        · have z2 : (x.c != 2) = true := by simpa using h2
          clear hx ok h0 h2
          go_wp2_with fail
          exact ⟨⟨j + 1, by go_num, by omega, by first | rfl | trivial⟩, by simp [intOf]; omega⟩
    · have e : j = h.length := by omega
      subst e
      have k1 : ¬ ((h.length : Int) < (h.length : Int)) := by omega
      go_wp2_with fail
      go_ret
      exact ⟨rfl, HB.out⟩
end Go.Proofs.YtiglmffnhbegiaaDoor
