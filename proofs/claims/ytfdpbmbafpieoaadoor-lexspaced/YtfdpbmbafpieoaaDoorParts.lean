/- The contracts of the law's own helpers: alike, placed, bytes. -/
import Derived.Test.YtfdpbmbafpieoaaDoorJoinWalk
import Derived.Test.YtfdpbmbafpieoaaDoorPartMath
import Derived.Test.YtfdpbmbafpieoaaDoorRefMath
namespace Go.Proofs.YtfdpbmbafpieoaaDoor
open Go.RowKit

set_option maxHeartbeats 1000000 in
theorem alike_same (k n p q : Int) (s : ByteArray) (w : World) :
    Calls Tryd.prog 21 #[.agg #[.int .u8 k, .string s, .int .i64 n, .int .i64 p], .agg #[.int .u8 k, .string s, .int .i64 n, .int .i64 q]] w fun e w' => e = .returned (.bool true) ∧ Below w.heap.size w w' := by
  go_enter Tryd.func21, Tryd.ntmps21
  go_wp2
  go_ret
  exact ⟨rfl, ((Below.refl _ w).alloc (Nat.le_refl _) _).alloc (by simp) _⟩

/-- The stations of a source without an error. -/
theorem stations (l : List UInt8) (h : l.length ≤ 65536) (hf : fineB (items l) = true) :
    ∃ q, items l = (q ++ [[]]).map (tokAt l.length) ∧ ∀ i a, q[i]? = some a → (a ≠ [] ∧ leave false a = a ∧ begE a = 0 ∧ a <:+ l) ∧ ∃ b, (q ++ [[]])[i + 1]? = some b ∧ b = leave false (a.drop (begS a)) ∧ b.length < a.length := by
  have hm : items l = (ssc l).map (tokAt l.length) := by rw [items_sc l h]; exact sc_map l.length l.length l (Nat.le_refl _)
  obtain ⟨q, a, hq, ha, hall⟩ := ssc_ends l.length l (Nat.le_refl _)
  have hae : begE a = 0 := by
    have := (fine_iff _).2 hf (tokAt l.length a) (by rw [hm, hq]; simp)
    exact this
  obtain rfl : a = [] := by rcases ha with h | h; exact h; exact absurd hae h
  have hlink := ssc_linked l.length l (Nat.le_refl _)
  rw [hq] at hlink
  refine ⟨q, by rw [hm, hq], fun i a hi => ?_⟩
  have hi' : (q ++ [[]])[i]? = some a := by
    rw [List.getElem?_append_left (List.getElem?_eq_some_iff.1 hi).1]; exact hi
  have hlt := (List.getElem?_eq_some_iff.1 hi).1
  obtain ⟨b, hb⟩ : ∃ b, (q ++ [[]])[i + 1]? = some b := ⟨_, List.getElem?_eq_getElem (by simp; omega)⟩
  obtain ⟨h1, h2⟩ := linked_at _ i a hlink hi'
  obtain ⟨h3, h4, h5⟩ := h2 b hb
  have hsuf := ssc_suffix l.length l (Nat.le_refl _) a (by rw [hq]; exact List.mem_of_getElem? hi')
  refine ⟨⟨h3, h1, h4, hsuf⟩, b, hb, h5, ?_⟩
  have := leave_le false (a.drop (begS a))
  have := begS_pos a h3 h4
  have := List.length_pos_iff.2 h3
  rw [h5]; rw [List.length_drop] at *; omega

set_option maxHeartbeats 1000000 in
theorem placed_any (s : ByteArray) (g cap m : Nat) (q : List (List UInt8)) (w : World) (hm : q.length = m) (hmb : m ≤ 65537) (hpos : ∀ x ∈ (q ++ [[]]).map (tokAt s.data.toList.length), 0 ≤ x.1.pos) (hr : TRow w g ((q ++ [[]]).map (tokAt s.data.toList.length)))
    (hst : ∀ i a, q[i]? = some a → (a ≠ [] ∧ leave false a = a ∧ begE a = 0 ∧ a <:+ s.data.toList) ∧ ∃ b, (q ++ [[]])[i + 1]? = some b ∧ b = leave false (a.drop (begS a)) ∧ b.length < a.length) :
    Calls Tryd.prog 19 #[.string s, .slice (some ⟨g, 0, none⟩) (m + 1) cap] w fun e w' => e = .returned (.bool true) ∧ Below w.heap.size w w' := by
  have hsl : s.data.toList.length = s.size := (size_len s).symm
  rw [hsl] at hr hpos
  have Hst : Hid (∀ i a, q[i]? = some a → (a ≠ [] ∧ leave false a = a ∧ begE a = 0 ∧ a <:+ s.data.toList) ∧ ∃ b, (q ++ [[]])[i + 1]? = some b ∧ b = leave false (a.drop (begS a)) ∧ b.length < a.length) := hst
  have HR : Hid (TRow w g ((q ++ [[]]).map (tokAt s.size))) := hr
  have Hm : Hid (q.length = m) := hm
  have Hsl : Hid (s.data.toList.length = s.size) := hsl
  clear hst hr hm hsl
  obtain ⟨l0, l1, l2, l3⟩ := HR.out.2 m (tokAt s.size []) (by rw [List.getElem?_map, List.getElem?_append_right (by rw [Hm.out]; exact Nat.le_refl _), Hm.out]; simp)
  obtain ⟨x0, hx0⟩ : ∃ x0, ((q ++ [[]]).map (tokAt s.size))[0]? = some x0 := ⟨_, List.getElem?_eq_getElem (by simp)⟩
  have hx0p : ¬ x0.1.pos < 0 := by have := hpos x0 (List.mem_of_getElem? hx0); omega
  clear hpos
  obtain ⟨f0, f1, f2, f3⟩ := HR.out.2 0 x0 hx0
  simp only [Nat.zero_mul, Nat.zero_add, Nat.reduceAdd] at f3
  clear f0 f1 f2 hx0
  simp only [tokAt, put, begT, tk, List.length_nil] at l0 l1 l2 l3
  have hq := fun wx => neqTok_same 9 0 (s.size : Int) ⟨#[]⟩ wx
  go_enter Tryd.func19, Tryd.ntmps19
  go_wp2_with fail
  go_loopw [5] (fun i wr => ∃ k : Nat, k ≤ m ∧ i = .int .i64 k ∧ Hid (Below w.heap.size w wr)) (fun i _ => m - (intOf i).toNat)
  case atStart => exact ⟨0, Nat.zero_le _, rfl, Below.refl _ _⟩
  case round =>
    obtain ⟨k, hk, rfl, HB⟩ := hrel
    by_cases hlt : k < m
    · have hR : Hid (TRow wr g ((q ++ [[]]).map (tokAt s.size))) := HR.out.below HB.out HR.out.1
      obtain ⟨a, ha⟩ : ∃ a, q[k]? = some a := ⟨_, List.getElem?_eq_getElem (by rw [Hm.out]; exact hlt)⟩
      obtain ⟨⟨h1, h2, h3, h4⟩, b, hb, h5, h6⟩ := Hst.out k a ha
      obtain ⟨a0, a1, a2, a3⟩ := hR.out.2 k (tokAt s.size a) (by rw [List.getElem?_map, List.getElem?_append_left (by rw [Hm.out]; exact hlt), ha]; rfl)
      obtain ⟨b0, b1, b2, b3⟩ := hR.out.2 (k + 1) (tokAt s.size b) (by rw [List.getElem?_map, hb]; rfl)
      have hd : decide ((tokAt s.size b).1.pos ≤ (tokAt s.size a).1.pos) = false := by rw [decide_eq_false_iff_not]; simp only [tokAt, put]; omega
      have h9 : ((tokAt s.size a).1.kind == 9) = false := by
        have := begT_kind9 a; rw [List.isEmpty_eq_false_iff.2 h1] at this; exact this
      clear a1 a2 b0 b1 b2 h1 h2 h3 h4 h5 h6 hb ha
      generalize (tokAt s.size a).1.pos = pa at *
      generalize (tokAt s.size b).1.pos = pb at *
      generalize (tokAt s.size a).1.kind = ka at *
      have i1 : (k : Int) + 1 < (m : Int) + 1 := by omega
      have i2 : (k : Int) < (m : Int) + 1 := by omega
      go_wp2_with fail
      go_quiet (fail)
      go_wp2
      go_roundw
      case rel => exact ⟨k + 1, by omega, by go_num, below_drewN HB.out _⟩
      case measure => simp [intOf]; omega
    · go_wp2
      go_ret
      exact ⟨rfl, HB.out⟩

theorem drop_get (s : ByteArray) (p j : Nat) (h : p + j < s.size) : (s.data.toList.drop p)[j]? = some s[p + j] := by
  rw [List.getElem?_drop, List.getElem?_eq_getElem (by simpa using h)]; rfl
theorem slice_part (s : ByteArray) (p z : Nat) (a : List UInt8) (ha : a = s.data.toList.drop p) (hz : begS a = z) : (s.extract p (p + z)).data.toList = part a := by
  rw [Lib.extract_data]; unfold part; rw [hz, ha]; congr 1; omega

set_option maxHeartbeats 1000000 in
theorem bytes_any (s : ByteArray) (g cap n i p pb : Nat) (a : List UInt8) (w : World) (hs : s.size ≤ 65536) (hn : n ≤ 65537) (hi : i + 1 < n) (hp : p ≤ s.size) (ha : a = s.data.toList.drop p) (hne : a ≠ []) (he : begE a = 0)
    (hpb : pb = s.size - (leave false (a.drop (begS a))).length)
    (c0 : w.cell? ⟨g, i * 4, none⟩ = some (.int .u8 (begT a).kind)) (c3 : w.cell? ⟨g, i * 4 + 1 + 1 + 1, none⟩ = some (.int .i64 p)) (d3 : w.cell? ⟨g, (i + 1) * 4 + 1 + 1 + 1, none⟩ = some (.int .i64 pb)) :
    Calls Tryd.prog 20 #[.string s, .slice (some ⟨g, 0, none⟩) n cap, .int .i64 i] w fun e w' => (∃ d : ByteArray, e = .returned (.string d) ∧ d.data.toList = part a) ∧ w' = w := by
  have halen : a.length = s.size - p := by rw [ha, List.length_drop, ← size_len]
  have hapos := List.length_pos_iff.2 hne
  have hz1 := begS_pos a hne he
  have hz2 := begS_le a
  have i1 : (i : Int) < (n : Int) := by omega
  have i2 : (i : Int) + 1 < (n : Int) := by omega
  have hps : p < s.size := by omega
  rcases part_one a hne he with ⟨hk, hs1⟩ | ⟨hk, hw⟩
  · have HX := slice_part s p 1 a ha hs1
    have HXh : Hid _ := HX
    clear HX
    generalize (begT a).kind = ka at *
    clear ha he hpb d3 halen hapos hz1 hz2 hs1
    rcases hk with rfl | rfl | rfl
    all_goals
      go_enter Tryd.func20, Tryd.ntmps20
      go_wp2_with fail
      go_ret
      exact ⟨⟨_, rfl, HXh.out⟩, rfl⟩
  · obtain ⟨z, hz⟩ : ∃ z, begS a = z := ⟨_, rfl⟩
    rw [hz] at hz1 hz2 hpb
    have HXh : Hid _ := slice_part s p z a ha hz
    have hwin : Hid (∀ j, j < z → ∀ h : p + j < s.size, (32 : Int) < s[p + j].toNat ∧ ¬ (s[p + j].toNat : Int) = 59) := by
      intro j hj h
      have h1 := part_all a hw j (by rw [hz]; exact hj) s[p + j] (by rw [ha]; exact drop_get s p j h)
      have := isW_ne _ h1
      omega
    have hstop : Hid (pb ≤ p + z ∨ ∃ h : p + z < s.size, ((s[p + z].toNat : Int) ≤ 32 ∨ (s[p + z].toNat : Int) = 59)) := by
      show _ ∨ _
      by_cases hend : p + z < s.size
      · have hdr : a.drop z = s[p + z] :: s.data.toList.drop (p + z + 1) := by rw [ha, List.drop_drop]; exact drop_step s (p + z) hend
        have hnw := part_stop a hw hne _ _ (by rw [hz]; exact hdr)
        by_cases h32 : (s[p + z].toNat : Int) ≤ 32
        · exact .inr ⟨hend, .inl h32⟩
        · by_cases h59 : (s[p + z].toNat : Int) = 59
          · exact .inr ⟨hend, .inr h59⟩
          · left
            have hnb : isB s[p + z] = false := by
              cases e : isB s[p + z] with
              | false => rfl
              | true => exfalso; simp [isB, isBI] at e; omega
            rw [hpb, hdr, leave_fix' _ _ hnb (by omega)]
            simp only [List.length_cons, List.length_drop, ← size_len]; omega
      · left; rw [hpb]; omega
    have hnext : p + z ≤ pb := by
      have := leave_le false (a.drop z); rw [List.length_drop] at this; rw [hpb]; omega
    have k1 : ((begT a).kind == 1) = false := beq_eq_false_iff_ne.2 (fun h => hk (.inl h))
    have k2 : ((begT a).kind == 2) = false := beq_eq_false_iff_ne.2 (fun h => hk (.inr (.inl h)))
    have k3 : ((begT a).kind == 3) = false := beq_eq_false_iff_ne.2 (fun h => hk (.inr (.inr h)))
    have hpz : p + z ≤ s.size := by omega
    have hpbs : pb ≤ s.size := by rw [hpb]; omega
    clear hpb hk hw hz ha he hne halen hapos hz2
    generalize (begT a).kind = ka at *
    go_enter Tryd.func20, Tryd.ntmps20
    go_wp2_with fail
    go_loop [8] (fun t => ∃ m : Nat, 1 ≤ m ∧ m ≤ z ∧ t = .int .i64 ((p : Int) + (m : Int))) (fun t => s.size - (intOf t).toNat)
    case atStart => exact ⟨1, by omega, by omega, by go_num⟩
    case round =>
      obtain ⟨m, hm1, hm2, rfl⟩ := hrel
      by_cases hlt : m < z
      · have hin : p + m < s.size := by omega
        obtain ⟨hg1, hg2⟩ := hwin.out m hlt hin
        have g1 : ((s[p + m].toNat : Int) != 59) = true := by simpa using hg2
        have g2 : (p : Int) + (m : Int) < (pb : Int) := by omega
        have g3 : (p : Int) + (m : Int) < (s.size : Int) := by omega
        clear hg2
        go_wp2_with fail
        go_round
        case rel => exact ⟨m + 1, by omega, by omega, congrArg (Value.int .i64) (by omega)⟩
        case measure => simp [intOf]; omega
      · obtain rfl : m = z := by omega
        rcases hstop.out with hst | ⟨hin, hst⟩
        · have g2 : decide ((p : Int) + (m : Int) < (pb : Int)) = false := decide_eq_false (by omega)
          go_wp2_with fail
          go_ret
          exact ⟨⟨_, rfl, HXh.out⟩, rfl⟩
        · have g3 : (p : Int) + (m : Int) < (s.size : Int) := by omega
          have hb := byte_le s (p + m) hin
          by_cases hpm : p + m < pb
          · have g2 : (p : Int) + (m : Int) < (pb : Int) := by omega
            rcases hst with h32 | h59
            · have g4 : decide ((32 : Int) < (s[p + m].toNat : Int)) = false := decide_eq_false (by omega)
              clear h32
              go_wp2_with fail
              go_ret
              exact ⟨⟨_, rfl, HXh.out⟩, rfl⟩
            · have g5 : ((s[p + m].toNat : Int) != 59) = false := by rw [h59]; rfl
              have g4 : (32 : Int) < (s[p + m].toNat : Int) := by omega
              clear h59
              go_wp2_with fail
              go_ret
              exact ⟨⟨_, rfl, HXh.out⟩, rfl⟩
          · have g2 : decide ((p : Int) + (m : Int) < (pb : Int)) = false := decide_eq_false (by omega)
            go_wp2_with fail
            go_ret
            exact ⟨⟨_, rfl, HXh.out⟩, rfl⟩

end Go.Proofs.YtfdpbmbafpieoaaDoor
