/- The document's cut.; The document's number.; The document's small.; IsSymbol, as the program has it and as the chapter has it: the same.; What the document's number says, as mathematics.; What the document's word says, as mathematics.; The chapter's example: plain mathematics. -/
import Derived.Test.YtpkohocjgnodnaaGreatDoorGAA
import Derived.Test.YtpkohocjgnodnaaGreatDoorGAJ
import Derived.Test.YtpkohocjgnodnaaGreatDoorGAK
/- The document's cut. -/
namespace Go.Proofs.YtpkohocjgnodnaaGreatDoor
open Go.RowKit

theorem pre_iff (t p : List UInt8) : Lib.hasPrefix t p = decide (t.take p.length = p) := by
  rw [Bool.eq_iff_iff, decide_eq_true_eq]
  constructor
  · intro h
    have := prefix_split h
    rw [this, List.take_left]
  · intro h
    have h2 : t = p ++ t.drop p.length := by
      have := List.take_append_drop p.length t
      rw [h] at this
      exact this.symm
    rw [h2]
    exact hasPrefix_app p _
set_option maxHeartbeats 2000000 in
theorem dCut_any (t p : List UInt8) (w : World) (_ : t.length ≤ 140737488355328) :
    Calls Tryz.prog 90 #[S t, S p] w fun e w' => e = .returned (.tuple #[S (if Lib.hasPrefix t p = true then t.drop p.length else []), .bool (Lib.hasPrefix t p)]) ∧ w' = w := by
  have hsz : (ByteArray.mk t.toArray).size = t.length := rfl
  have hpz : (ByteArray.mk p.toArray).size = p.length := rfl
  have hv := pre_iff t p
  generalize hV : (Value.tuple #[S (if Lib.hasPrefix t p = true then t.drop p.length else []), .bool (Lib.hasPrefix t p)]) = V
  by_cases hlen : t.length < p.length
  · have i1 : (t.length : Int) < (p.length : Int) := by omega
    have HV : Hid (V = .tuple #[S [], .bool false]) := by
      have h0 : Lib.hasPrefix t p = false := by
        rw [hv, decide_eq_false_iff_not]
        intro e
        have := congrArg List.length e
        rw [List.length_take] at this
        omega
      show _ = _
      rw [← hV, h0]; rfl
    clear hv hV
    go_enter Tryz.func90, Tryz.ntmps90
    go_wp2
    go_ret2
    exact ⟨by rw [HV.out]; rfl, rfl⟩
  · have i1 : ¬ (t.length : Int) < (p.length : Int) := by omega
    have c2 : ((ByteArray.mk p.toArray).size : Int) ≤ ↑(ByteArray.mk t.toArray).size := by rw [hsz, hpz]; omega
    have c3 : (0 : Int) ≤ ((ByteArray.mk p.toArray).size : Int) := by omega
    have E1 : Hid (Value.string ((ByteArray.mk t.toArray).extract 0 p.length) = S (t.take p.length)) := S_extract0 t p.length (by omega)
    have E2 : Hid (Value.string ((ByteArray.mk t.toArray).extract p.length (ByteArray.mk t.toArray).size) = S (t.drop p.length)) := S_extractE t p.length
    have e1 : (ByteArray.mk t.toArray).extract 0 p.length = ByteArray.mk (t.take p.length).toArray := by
      have := E1.out
      injection this
    by_cases hp : t.take p.length = p
    · have HV : Hid (V = .tuple #[S (t.drop p.length), .bool true]) := by show _ = _; rw [← hV, hv, decide_eq_true hp]; rfl
      have e2 : (ByteArray.mk t.toArray).extract 0 p.length = ByteArray.mk p.toArray := by rw [e1, hp]
      clear hv hp e1 hV
      go_enter Tryz.func90, Tryz.ntmps90
      go_wp2
      go_ret2
      exact ⟨by rw [HV.out, ← E2.out]; rfl, rfl⟩
    · have HV : Hid (V = .tuple #[S [], .bool false]) := by show _ = _; rw [← hV, hv, decide_eq_false hp]; rfl
      have e2 : (t.take p.length == p) = false := by simpa using hp
      clear hv hp hV
      go_enter Tryz.func90, Tryz.ntmps90
      go_wp2
      go_ret2
      exact ⟨by rw [HV.out]; rfl, rfl⟩
end Go.Proofs.YtpkohocjgnodnaaGreatDoor

/- The document's number. -/
namespace Go.Proofs.YtpkohocjgnodnaaGreatDoor
open Go.RowKit

/-- What digits say. -/
def numL : Nat → List UInt8 → Option Nat
  | n, [] => some n
  | n, b :: r => if b.toNat < 48 ∨ 57 < b.toNat ∨ 576460752303423488 < n then none else numL (10 * n + (b.toNat - 48)) r
def numD (s : List UInt8) : Option Nat := if s.length = 0 ∨ 19 < s.length ∨ ((s.headD 0).toNat = 48 ∧ 1 < s.length) then none else numL 0 s
def numR (o : Option Nat) : Value := match o with
  | some n => .tuple #[.int .i64 (n : Int), .bool true]
  | none => .tuple #[.int .i64 0, .bool false]
theorem numD_no {s : ByteArray} (h : s.size = 0 ∨ 19 < s.size ∨ ((s.data.toList.headD 0).toNat = 48 ∧ 1 < s.size)) : numD s.data.toList = none := by
  unfold numD
  rw [← size_len, if_pos h]
theorem head_at (s : ByteArray) (h : 0 < s.size) : s.data.toList.headD 0 = s[0] := by
  have := drop_step s 0 h
  rw [List.drop_zero] at this
  rw [this]; rfl
set_option maxHeartbeats 4000000 in
theorem dNumber_any (s : ByteArray) (w : World) (hs : s.size ≤ 281474976710656) :
    Calls Tryz.prog 120 #[.string s] w fun e w' => e = .returned (numR (numD s.data.toList)) ∧ w' = w := by
  generalize hV : numR (numD s.data.toList) = V
  by_cases h0 : s.size = 0
  · have he : s.toList.isEmpty = true := by rw [Lib.toList_data, List.isEmpty_iff_length_eq_zero, ← size_len]; exact h0
    have HV : Hid (V = .tuple #[.int .i64 0, .bool false]) := by show _ = _; rw [← hV, numD_no (.inl h0)]; rfl
    clear h0 hV
    go_enter Tryz.func120, Tryz.ntmps120
    go_wp2
    go_ret2
    exact ⟨by rw [HV.out]; rfl, rfl⟩
  have hlt0 : 0 < s.size := by omega
  have hmx : s.size ≤ 9223372036854775807 := by omega
  have hne : Hid (s.data.toList.isEmpty = false) := by
    show _ = _
    rw [Bool.eq_false_iff]; intro h; rw [List.isEmpty_iff_length_eq_zero, ← size_len] at h; exact h0 h
  have he : s.toList.isEmpty = false := by rw [Lib.toList_data]; exact hne.out
  have hb0 := byte_le s 0 hlt0
  have HH : Hid (s.data.toList.headD 0 = s[0]) := head_at s hlt0
  by_cases h1 : 19 < s.size
  · have i1 : (19 : Int) < (s.size : Int) := by omega
    have HV : Hid (V = .tuple #[.int .i64 0, .bool false]) := by show _ = _; rw [← hV, numD_no (.inr (.inl h1))]; rfl
    clear h0 hV
    go_enter Tryz.func120, Tryz.ntmps120
    go_wp2
    go_ret2
    exact ⟨by rw [HV.out]; rfl, rfl⟩
  have i1 : ¬ (19 : Int) < (s.size : Int) := by omega
  by_cases h2 : s[0].toNat = 48 ∧ 1 < s.size
  · have i2 : (s[0].toNat : Int) = 48 := by omega
    have i3 : (1 : Int) < (s.size : Int) := by omega
    have HV : Hid (V = .tuple #[.int .i64 0, .bool false]) := by show _ = _; rw [← hV, numD_no (.inr (.inr (by rw [HH.out]; exact h2)))]; rfl
    clear h0 h1 h2 hV
    go_enter Tryz.func120, Tryz.ntmps120
    go_wp2
    go_ret2
    exact ⟨by rw [HV.out]; rfl, rfl⟩
  have HV : Hid (numR (numL 0 s.data.toList) = V) := by
    show _ = _
    rw [← hV]
    unfold numD
    rw [← size_len, if_neg (by rw [HH.out]; omega)]
  clear hV h0 h1
  have hcase : ((s[0].toNat : Int) = 48 ∧ ¬ (1 : Int) < (s.size : Int)) ∨ ¬ (s[0].toNat : Int) = 48 := by
    by_cases q : (s[0].toNat : Int) = 48
    · exact .inl ⟨q, by omega⟩
    · exact .inr q
  clear h2
  rcases hcase with ⟨i2, i3⟩ | i2
  all_goals
    go_enter Tryz.func120, Tryz.ntmps120
    go_wp2_with fail
    clear i2 hb0 he
    go_loop [4, 5] (fun n i => ∃ (k a : Nat), k ≤ s.size ∧ i = .int .i64 k ∧ n = .int .i64 a ∧ a ≤ 5764607523034234889 ∧ Hid (numR (numL a (s.data.toList.drop k)) = V)) (fun _ i => s.size - (intOf i).toNat)
    case atStart => exact ⟨0, 0, Nat.zero_le _, rfl, rfl, by omega, by show _ = _; rw [List.drop_zero]; exact HV.out⟩
    case round =>
      clear HV
      obtain ⟨k, a, hk, rfl, rfl, ha, H⟩ := hrel
      by_cases hlt : k < s.size
      · have hdr : Hid _ := drop_step s k hlt
        have hb := byte_le s k hlt
        have H2 : Hid ((if s[k].toNat < 48 ∨ 57 < s[k].toNat ∨ 576460752303423488 < a then numR none else numR (numL (10 * a + (s[k].toNat - 48)) (s.data.toList.drop (k + 1)))) = V) := by
          show _ = _
          rw [← H.out, hdr.out]
          simp only [numL]
          split <;> rfl
        clear H hdr
        by_cases c1 : s[k].toNat < 48
        · have d1 : (s[k].toNat : Int) < 48 := by omega
          have HV : Hid (V = .tuple #[.int .i64 0, .bool false]) := by show _ = _; rw [← H2.out, if_pos (.inl c1)]; rfl
          clear H2 c1
          go_wp2
          go_ret2
          exact ⟨by rw [HV.out]; rfl, rfl⟩
        have d1 : ¬ (s[k].toNat : Int) < 48 := by omega
        by_cases c2 : 57 < s[k].toNat
        · have d2 : (57 : Int) < (s[k].toNat : Int) := by omega
          have HV : Hid (V = .tuple #[.int .i64 0, .bool false]) := by show _ = _; rw [← H2.out, if_pos (.inr (.inl c2))]; rfl
          clear H2 c2
          go_wp2
          go_ret2
          exact ⟨by rw [HV.out]; rfl, rfl⟩
        have d2 : ¬ (57 : Int) < (s[k].toNat : Int) := by omega
        by_cases c3 : 576460752303423488 < a
        · have d3 : (576460752303423488 : Int) < (a : Int) := by omega
          have HV : Hid (V = .tuple #[.int .i64 0, .bool false]) := by show _ = _; rw [← H2.out, if_pos (.inr (.inr c3))]; rfl
          clear H2 c3
          go_wp2
          go_ret2
          exact ⟨by rw [HV.out]; rfl, rfl⟩
        have d3 : ¬ (576460752303423488 : Int) < (a : Int) := by omega
        have H3 : Hid (numR (numL (10 * a + (s[k].toNat - 48)) (s.data.toList.drop (k + 1))) = V) := by show _ = _; rw [← H2.out, if_neg (by omega)]
        clear H2
        go_wp2
        go_round
        case rel => exact ⟨k + 1, 10 * a + (s[k].toNat - 48), by omega, by go_num, by go_num, by omega, H3⟩
        case measure => simp [intOf]; omega
      · have HV : Hid (V = .tuple #[.int .i64 (a : Int), .bool true]) := by show _ = _; rw [← H.out, drop_all s k (by omega)]; rfl
        go_wp2
        go_ret2
        exact ⟨by rw [HV.out]; rfl, rfl⟩
end Go.Proofs.YtpkohocjgnodnaaGreatDoor

/- The document's small. -/
namespace Go.Proofs.YtpkohocjgnodnaaGreatDoor
open Go.RowKit

def smallR (o : Option Nat) : Value := match o with
  | some n => .tuple #[.int .i64 (n : Int), .bool (decide (n ≤ 2147483647))]
  | none => .tuple #[.int .i64 0, .bool false]
theorem numL_le : ∀ (l : List UInt8) (a n : Nat), a ≤ 5764607523034234889 → numL a l = some n → n ≤ 5764607523034234889
  | [], a, n, ha, h => by
    simp only [numL, Option.some.injEq] at h
    omega
  | b :: r, a, n, ha, h => by
    simp only [numL] at h
    split at h
    · cases h
    · exact numL_le r _ n (by omega) h
theorem numD_le {s : List UInt8} {n : Nat} (h : numD s = some n) : n ≤ 5764607523034234889 := by
  unfold numD at h
  split at h
  · cases h
  · exact numL_le s 0 n (by omega) h
set_option maxHeartbeats 2000000 in
theorem dSmall_any (s : ByteArray) (w : World) (hs : s.size ≤ 281474976710656) :
    Calls Tryz.prog 92 #[.string s] w fun e w' => e = .returned (smallR (numD s.data.toList)) ∧ w' = w := by
  have HN : Hid (Calls Tryz.prog 120 #[.string s] w fun e w' => e = .returned (numR (numD s.data.toList)) ∧ w' = w) := dNumber_any s w hs
  have hle := @numD_le s.data.toList
  generalize numD s.data.toList = o at HN hle
  generalize hV : smallR o = V
  cases o with
  | none =>
    have HV : Hid (V = .tuple #[.int .i64 0, .bool false]) := by show _ = _; rw [← hV]; rfl
    clear hV hle
    unfold numR at HN
    go_enter Tryz.func92, Tryz.ntmps92
    go_wp2_with fail
    refine Calls.mono HN.out ?_
    rintro e w1 ⟨rfl, rfl⟩
    go_wp2
    go_ret2
    exact ⟨by rw [HV.out]; rfl, rfl⟩
  | some n =>
    have hn := hle rfl
    clear hle
    unfold numR at HN
    have HV : Hid (V = .tuple #[.int .i64 (n : Int), .bool (decide ((n : Int) ≤ 2147483647))]) := by
      show _ = _
      rw [← hV, show decide ((n : Int) ≤ 2147483647) = decide (n ≤ 2147483647) from decide_eq_decide.2 (by omega)]
      rfl
    clear hV
    go_enter Tryz.func92, Tryz.ntmps92
    go_wp2_with fail
    refine Calls.mono HN.out ?_
    rintro e w1 ⟨rfl, rfl⟩
    go_wp2
    go_ret2
    exact ⟨by rw [HV.out]; rfl, rfl⟩
end Go.Proofs.YtpkohocjgnodnaaGreatDoor

/- IsSymbol, as the program has it and as the chapter has it: the same. -/
namespace Go.Proofs.YtpkohocjgnodnaaGreatDoor

theorem takeWhile_all (l : List UInt8) (h : l.all isW = true) : l.takeWhile isW = l := by
  induction l with
  | nil => rfl
  | cons b r ih =>
    simp only [List.all_cons, Bool.and_eq_true] at h
    simp [h.1, ih h.2]
theorem all_takeWhile (l : List UInt8) (h : (l.takeWhile isW).length = l.length) : l.all isW = true := by
  induction l with
  | nil => rfl
  | cons b r ih =>
    cases hb : isW b
    · simp [hb] at h
    · simp [hb] at h ⊢
      simpa using ih h
theorem isW_ne (b : UInt8) (h : isW b = true) : ¬ b.toNat = 40 ∧ ¬ b.toNat = 41 ∧ ¬ b.toNat = 39 ∧ ¬ b.toNat = 59 ∧ ¬ b.toNat = 34 ∧ 33 ≤ b.toNat := by
  simp [isW, isWI] at h; omega

/-- Whether a text is a symbol. -/
def symB5 (l : List UInt8) : Bool := begE l == 0 && ((begT l).kind == 6 && ((begS l : Nat) : Int) == (l.length : Int))
/-- .. as the chapter has it. -/
def refSym (l : List UInt8) : Bool := !l.isEmpty && (l.all isW && (wordE l == 0 && (word l).kind == 6))

theorem sym_ref (l : List UInt8) : symB5 l = refSym l := by
  cases l with
  | nil => rfl
  | cons b r =>
    cases hw : isW b
    · have h1 : refSym (b :: r) = false := by simp [refSym, hw]
      rw [h1]
      simp only [symB5, begE, begT, begS]
      split; · rfl
      split; · rfl
      split; · rfl
      simp [hw]
    · have hn := isW_ne b hw
      have e1 : begE (b :: r) = wordE ((b :: r).takeWhile isW) := by simp only [begE]; rw [if_neg hn.1, if_neg hn.2.1, if_neg hn.2.2.1, hw]; rfl
      have e2 : begT (b :: r) = word ((b :: r).takeWhile isW) := by simp only [begT]; rw [if_neg hn.1, if_neg hn.2.1, if_neg hn.2.2.1, hw]; rfl
      have e3 : begS (b :: r) = ((b :: r).takeWhile isW).length := by simp only [begS]; rw [if_neg hn.1, if_neg hn.2.1, if_neg hn.2.2.1, hw]; rfl
      unfold symB5 refSym
      rw [e1, e2, e3]
      cases ha : (b :: r).all isW
      · have : ¬ (((b :: r).takeWhile isW).length : Int) = ((b :: r).length : Int) := fun e => by
          rw [all_takeWhile (b :: r) (by omega)] at ha; cases ha
        rw [beq_eq_false_iff_ne.2 this]; simp
      · rw [takeWhile_all _ ha]; simp
end Go.Proofs.YtpkohocjgnodnaaGreatDoor

/- What the document's number says, as mathematics. -/
namespace Go.Proofs.YtpkohocjgnodnaaGreatDoor

theorem numL_val : ∀ (l : List UInt8) (a n : Nat), numL a l = some n → l.all isD = true ∧ n = val a l
  | [], a, n, h => by
    simp only [numL, Option.some.injEq] at h
    exact ⟨rfl, h.symm⟩
  | b :: r, a, n, h => by
    simp only [numL] at h
    split at h
    · cases h
    · rename_i hc
      obtain ⟨h1, h2⟩ := numL_val r _ n h
      refine ⟨?_, by rw [val_cons]; exact h2⟩
      rw [List.all_cons, h1, (isD_iff b).2 (by omega)]
      rfl
theorem numL_of : ∀ (l : List UInt8) (a : Nat), l.all isD = true → val a l ≤ 576460752303423488 → numL a l = some (val a l)
  | [], _, _, _ => rfl
  | b :: r, a, h, hv => by
    rw [List.all_cons, Bool.and_eq_true] at h
    have hb := (isD_iff b).1 h.1
    rw [val_cons] at hv ⊢
    have hg := val_ge r (10 * a + (b.toNat - 48))
    simp only [numL]
    rw [if_neg (by omega)]
    exact numL_of r _ h.2 hv
theorem byte_dig {d : UInt8} (h : isD d = true) : UInt8.ofNat (48 + (d.toNat - 48)) = d := by
  have hb := (isD_iff d).1 h
  rw [show 48 + (d.toNat - 48) = d.toNat by omega]
  exact UInt8.ofNat_toNat
/-- Digits with no nought ahead are the digits of what they say. -/
theorem dec_val : ∀ (k : Nat) (l : List UInt8), l.length = k → l ≠ [] → l.all isD = true → ((l.headD 0).toNat ≠ 48 ∨ l.length = 1) → Lib.decDigits (val 0 l) = l ∧ ((l.headD 0).toNat ≠ 48 → 1 ≤ val 0 l)
  | 0, l, hk, hne, _, _ => absurd (List.length_eq_zero_iff.1 hk) hne
  | k + 1, l, hk, _, hall, hh => by
    rcases List.eq_nil_or_concat l with rfl | ⟨r, d, rfl⟩
    · simp at hk
    · rw [List.concat_eq_append] at hk hall hh ⊢
      rw [List.all_append, Bool.and_eq_true, List.all_cons, List.all_nil, Bool.and_true] at hall
      have hd := (isD_iff d).1 hall.2
      rw [val_snoc]
      by_cases hr : r = []
      · subst hr
        rw [val_nil, Nat.mul_zero, Nat.zero_add, Lib.decDigits_one (by omega), byte_dig hall.2]
        refine ⟨rfl, fun h => ?_⟩
        have : d.toNat ≠ 48 := h
        omega
      · obtain ⟨b, r', rfl⟩ := List.exists_cons_of_ne_nil hr
        have hb : b.toNat ≠ 48 := by
          rcases hh with h | h
          · exact h
          · simp at h
        obtain ⟨h1, h2⟩ := dec_val k (b :: r') (by simpa using hk) hr hall.1 (.inl hb)
        have h3 : 1 ≤ val 0 (b :: r') := h2 hb
        refine ⟨?_, fun _ => by omega⟩
        have hlt : ¬ 10 * val 0 (b :: r') + (d.toNat - 48) < 10 := by omega
        rw [Lib.decDigits, dif_neg hlt, show (10 * val 0 (b :: r') + (d.toNat - 48)) / 10 = val 0 (b :: r') by omega, h1, show (10 * val 0 (b :: r') + (d.toNat - 48)) % 10 = d.toNat - 48 by omega, byte_dig hall.2]
/-- What number takes is a number's own digits. -/
theorem numD_is {s : List UInt8} {n : Nat} (h : numD s = some n) : s = Lib.decDigits n := by
  unfold numD at h
  split at h
  · cases h
  · rename_i hc
    obtain ⟨h1, h2⟩ := numL_val s 0 n h
    rw [h2]
    exact (dec_val s.length s rfl (fun e => hc (.inl (by rw [e]; rfl))) h1 (by omega)).1.symm
theorem dec_head : ∀ (N n : Nat), n ≤ N → 1 ≤ n → ((Lib.decDigits n).headD 0).toNat ≠ 48
  | 0, n, hN, h => by omega
  | N + 1, n, hN, h => by
    by_cases h1 : n < 10
    · rw [Lib.decDigits_one h1]
      show (UInt8.ofNat (48 + n)).toNat ≠ 48
      rw [UInt8.toNat_ofNat']
      omega
    · rw [Lib.decDigits, dif_neg h1]
      have ih := dec_head N (n / 10) (by omega) (by omega)
      obtain ⟨b, r, e⟩ := List.exists_cons_of_ne_nil (dec_spec (n / 10)).2.1
      rw [e] at ih ⊢
      exact ih
theorem dec_short : ∀ (k n : Nat), n < 10 ^ (k + 1) → (Lib.decDigits n).length ≤ k + 1
  | 0, n, h => by rw [Lib.decDigits_one (by simpa using h)]; simp
  | k + 1, n, h => by
    by_cases h1 : n < 10
    · rw [Lib.decDigits_one h1]; simp
    · rw [Lib.decDigits, dif_neg h1, List.length_append]
      have := dec_short k (n / 10) (by rw [Nat.pow_succ] at h; omega)
      simpa using this
/-- .. and a number's own digits are taken, where it is not too great. -/
theorem numD_of {n : Nat} (h : n ≤ 576460752303423488) : numD (Lib.decDigits n) = some n := by
  obtain ⟨h1, h2, h3⟩ := dec_spec n
  have h4 : (Lib.decDigits n).length ≤ 18 := dec_short 17 n (by omega)
  have h5 : ¬ (((Lib.decDigits n).headD 0).toNat = 48 ∧ 1 < (Lib.decDigits n).length) := fun ⟨q, q2⟩ => by
    by_cases h0 : n = 0
    · rw [h0, Lib.decDigits_one (by omega)] at q2
      simp at q2
    · exact dec_head n n (Nat.le_refl _) (by omega) q
  have h6 : (Lib.decDigits n).length ≠ 0 := fun e => h2 (List.length_eq_zero_iff.1 e)
  unfold numD
  rw [if_neg (by omega), numL_of _ 0 h1 (by rw [h3]; exact h), h3]
/-- A small number is the program's count. -/
theorem count_is (s : List UInt8) : countV s = match numD s with | some n => (if n ≤ 2147483647 then some (n : Int) else none) | none => none := by
  have hback : ∀ m : Int, countV s = some m → ∃ k : Nat, m = (k : Int) ∧ numD s = some k ∧ k ≤ 2147483647 := fun m hm => by
    obtain ⟨e, h0, h1⟩ := countV_is hm
    obtain ⟨k, rfl⟩ : ∃ k : Nat, m = (k : Int) := ⟨m.toNat, by omega⟩
    rw [Lib.itoa_nonneg] at e
    exact ⟨k, rfl, by rw [← e]; exact numD_of (by omega), by omega⟩
  cases hc : countV s with
  | some m =>
    obtain ⟨k, rfl, h1, h2⟩ := hback m hc
    rw [h1]
    show _ = if k ≤ 2147483647 then some (k : Int) else none
    rw [if_pos h2]
  | none =>
    cases hd : numD s with
    | none => rfl
    | some n =>
      show _ = if n ≤ 2147483647 then some (n : Int) else none
      by_cases h : n ≤ 2147483647
      · have e := numD_is hd
        rw [e, ← Lib.itoa_nonneg, countV_itoa ⟨by omega, by omega⟩] at hc
        cases hc
      · rw [if_neg h]
end Go.Proofs.YtpkohocjgnodnaaGreatDoor

/- What the document's word says, as mathematics. -/
namespace Go.Proofs.YtpkohocjgnodnaaGreatDoor

/-- Digits, with a minus ahead or none. -/
def numW (d : List UInt8) : Option Int :=
  if Lib.hasPrefix d [45] = true then (match numD (d.drop 1) with | some n => (if n = 0 then none else some (-(n : Int))) | none => none)
  else (match numD d with | some n => some (n : Int) | none => none)
def wordM (tag : Int) (o : Option Int) : Option Int := match o with | some n => wordN tag n | none => none
theorem wordN_rng {tag n x : Int} (h : wordN tag n = some x) : -576460752303423488 ≤ n ∧ n ≤ 576460752303423487 := by
  obtain ⟨h1, h2, _⟩ := wordN_is h
  have h3 := may_iff.1 h2
  have h4 := isTag_iff.1 h1
  unfold lo hi at h3
  (repeat' split at h3) <;> omega
theorem pre_minus (r : List UInt8) : Lib.hasPrefix (45 :: r) [45] = true := hasPrefix_app [45] r
theorem pre_dig {n : Nat} : Lib.hasPrefix (Lib.decDigits n) [45] = false := by
  rw [Bool.eq_false_iff]
  intro h
  have e := prefix_split h
  have h1 := (dec_spec n).1
  rw [e, List.all_append, Bool.and_eq_true] at h1
  exact absurd h1.1 (by decide)
theorem numW_of {n : Int} (h : -576460752303423488 ≤ n ∧ n ≤ 576460752303423487) : numW (Lib.itoa n) = some n := by
  unfold numW
  by_cases hn : 0 ≤ n
  · obtain ⟨k, rfl⟩ : ∃ k : Nat, n = (k : Int) := ⟨n.toNat, by omega⟩
    rw [Lib.itoa_nonneg, if_neg (by rw [pre_dig]; exact Bool.false_ne_true), numD_of (by omega)]
  · obtain ⟨k, rfl⟩ : ∃ k : Nat, n = -(k : Int) := ⟨n.natAbs, by omega⟩
    rw [Lib.itoa_neg k (by omega), if_pos (pre_minus _), List.drop_one, List.tail_cons, numD_of (by omega)]
    show (if k = 0 then none else some (-(k : Int))) = _
    rw [if_neg (by omega)]
theorem numW_is {d : List UInt8} {n : Int} (h : numW d = some n) : d = Lib.itoa n := by
  unfold numW at h
  split at h
  · rename_i hp
    cases hd : numD (d.drop 1) with
    | none => rw [hd] at h; cases h
    | some k =>
      rw [hd] at h
      have h' : (if k = 0 then none else some (-(k : Int))) = some n := h
      split at h'
      · cases h'
      · rename_i hk
        cases h'
        rw [Lib.itoa_neg k (by omega), ← numD_is hd]
        exact prefix_split hp
  · cases hd : numD d with
    | none => rw [hd] at h; cases h
    | some k =>
      rw [hd] at h
      cases h
      rw [Lib.itoa_nonneg]
      exact numD_is hd
theorem wordM_is (tag : Int) (d : List UInt8) : wordM tag (numW d) = wordM tag (numV d) := by
  refine Option.ext fun x => ⟨fun h => ?_, fun h => ?_⟩
  · cases hd : numW d with
    | none => rw [hd] at h; cases h
    | some n =>
      rw [hd] at h
      have h' : wordN tag n = some x := h
      rw [numW_is hd, numV_itoa (wordN_rng h')]
      exact h'
  · cases hd : numV d with
    | none => rw [hd] at h; cases h
    | some n =>
      rw [hd] at h
      have h' : wordN tag n = some x := h
      rw [← numV_is hd, numW_of (wordN_rng h')]
      exact h'
theorem pre_cut {t p : List UInt8} (hp : (32 : UInt8) ∉ p) : Lib.hasPrefix t (p ++ [32]) = (cutH t && decide (cut1 t = p)) := by
  rw [Bool.eq_iff_iff, Bool.and_eq_true, decide_eq_true_eq]
  constructor
  · intro h
    have e := prefix_split h
    rw [List.append_assoc] at e
    obtain ⟨h1, h2, _⟩ := cut_some (r := t.drop (p ++ [32]).length) hp
    rw [e]
    exact ⟨h1, h2⟩
  · rintro ⟨h1, h2⟩
    have e := cut_put t
    rw [if_pos h1, h2] at e
    rw [e, show p ++ 32 :: cut2 t = (p ++ [32]) ++ cut2 t by simp]
    exact hasPrefix_app _ _
theorem drop_cut {t p : List UInt8} (hp : (32 : UInt8) ∉ p) (h : Lib.hasPrefix t (p ++ [32]) = true) : t.drop (p.length + 1) = cut2 t := by
  have e := prefix_split h
  rw [List.length_append, List.append_assoc] at e
  obtain ⟨_, _, h3⟩ := cut_some (r := t.drop (p.length + [(32 : UInt8)].length)) hp
  exact h3.symm.trans (by rw [show p ++ 32 :: List.drop (p.length + [(32 : UInt8)].length) t = t from e.symm])
theorem cut_has {t p : List UInt8} (hp : (32 : UInt8) ∉ p) : (t = p) ↔ (cutH t = false ∧ cut1 t = p) := by
  constructor
  · rintro rfl
    obtain ⟨h1, h2, _⟩ := cut_none hp
    exact ⟨h1, h2⟩
  · rintro ⟨h1, h2⟩
    have e := cut_put t
    rw [if_neg (by rw [h1]; exact Bool.false_ne_true), h2] at e
    exact e
/-- The document's word. -/
def wordD (t : List UInt8) : Option Int :=
  if t = [110, 105, 108] then wordN 1 0
  else if t = [102, 97, 108, 115, 101] then wordN 2 0
  else if t = [116, 114, 117, 101] then wordN 3 0
  else if t = [110, 111, 110, 101] then wordN 4 0
  else if Lib.hasPrefix t [105, 110, 116, 32] = true then wordM 5 (numW (t.drop 4))
  else if Lib.hasPrefix t [115, 121, 109, 98, 111, 108, 32] = true then wordM 6 (numW (t.drop 7))
  else if Lib.hasPrefix t [112, 114, 105, 109, 32] = true then wordM 7 (numW (t.drop 5))
  else none
theorem wordD_is (t : List UInt8) : wordD t = constV t := by
  have p5 := pre_cut (t := t) (p := [105, 110, 116]) (by decide)
  have p6 := pre_cut (t := t) (p := [115, 121, 109, 98, 111, 108]) (by decide)
  have p7 := pre_cut (t := t) (p := [112, 114, 105, 109]) (by decide)
  have d5 := drop_cut (t := t) (p := [105, 110, 116]) (by decide)
  have d6 := drop_cut (t := t) (p := [115, 121, 109, 98, 111, 108]) (by decide)
  have d7 := drop_cut (t := t) (p := [112, 114, 105, 109]) (by decide)
  simp only [List.cons_append, List.nil_append, List.length_cons, List.length_nil, Nat.zero_add, Nat.reduceAdd] at p5 p6 p7 d5 d6 d7
  have c1 := cut_has (t := t) (p := [110, 105, 108]) (by decide)
  have c2 := cut_has (t := t) (p := [102, 97, 108, 115, 101]) (by decide)
  have c3 := cut_has (t := t) (p := [116, 114, 117, 101]) (by decide)
  have c4 := cut_has (t := t) (p := [110, 111, 110, 101]) (by decide)
  unfold wordD constV
  have hW : ∀ (tag : Int) (d : List UInt8), (match numV d with | some n => wordN tag n | none => none) = wordM tag (numV d) := fun _ _ => rfl
  cases hc : cutH t with
  | false =>
    rw [hc] at p5 p6 p7 c1 c2 c3 c4
    simp only [Bool.false_and] at p5 p6 p7
    simp only [true_and] at c1 c2 c3 c4
    rw [if_neg (c := Lib.hasPrefix t [105, 110, 116, 32] = true) (by rw [p5]; exact Bool.false_ne_true), if_neg (c := Lib.hasPrefix t [115, 121, 109, 98, 111, 108, 32] = true) (by rw [p6]; exact Bool.false_ne_true), if_neg (c := Lib.hasPrefix t [112, 114, 105, 109, 32] = true) (by rw [p7]; exact Bool.false_ne_true)]
    simp only [c1, c2, c3, c4]
    generalize cut1 t = nm
    simp [constFrom, tagNames, tagNumB, wordV, eq_comm]
  | true =>
    rw [hc] at p5 p6 p7 c1 c2 c3 c4
    simp only [Bool.true_and] at p5 p6 p7
    have e1 : ¬ t = [110, 105, 108] := fun e => by have := (c1.1 e).1; cases this
    have e2 : ¬ t = [102, 97, 108, 115, 101] := fun e => by have := (c2.1 e).1; cases this
    have e3 : ¬ t = [116, 114, 117, 101] := fun e => by have := (c3.1 e).1; cases this
    have e4 : ¬ t = [110, 111, 110, 101] := fun e => by have := (c4.1 e).1; cases this
    rw [if_neg e1, if_neg e2, if_neg e3, if_neg e4]
    by_cases g5 : Lib.hasPrefix t [105, 110, 116, 32] = true
    · rw [if_pos g5, d5 g5, wordM_is]
      rw [p5, decide_eq_true_eq] at g5
      rw [g5]
      simp [constFrom, tagNames, tagNumB, wordV, wordM]
      cases numV (cut2 t) <;> rfl
    · rw [if_neg g5]
      rw [p5, decide_eq_true_eq] at g5
      by_cases g6 : Lib.hasPrefix t [115, 121, 109, 98, 111, 108, 32] = true
      · rw [if_pos g6, d6 g6, wordM_is]
        rw [p6, decide_eq_true_eq] at g6
        rw [g6]
        simp [constFrom, tagNames, tagNumB, wordV, wordM]
        cases numV (cut2 t) <;> rfl
      · rw [if_neg g6]
        rw [p6, decide_eq_true_eq] at g6
        by_cases g7 : Lib.hasPrefix t [112, 114, 105, 109, 32] = true
        · rw [if_pos g7, d7 g7, wordM_is]
          rw [p7, decide_eq_true_eq] at g7
          rw [g7]
          simp [constFrom, tagNames, tagNumB, wordV, wordM]
          cases numV (cut2 t) <;> rfl
        · rw [if_neg g7]
          rw [p7, decide_eq_true_eq] at g7
          generalize cut1 t = nm at g5 g6 g7
          simp [constFrom, tagNames, tagNumB, Ne.symm g5, Ne.symm g6, Ne.symm g7]
/-- What the document says of an instruction, from op on. -/
def instD (t : List UInt8) : Nat → Nat → Option Ins
  | _, 0 => none
  | op, k + 1 => if opNumB op = false ∧ t = opNames.getD op [] then some ⟨op, 0⟩
    else if opNumB op = true ∧ Lib.hasPrefix t (opNames.getD op [] ++ [32]) = true then (match countV (t.drop ((opNames.getD op []).length + 1)) with | some a => some ⟨op, a⟩ | none => none)
    else instD t (op + 1) k
theorem ops_no32 : ∀ j : Nat, j < 19 → (32 : UInt8) ∉ opNames.getD j [] := by decide
theorem instD_is (t : List UInt8) : ∀ (k op : Nat), op + k ≤ 19 → instD t op k = instrFrom (cut1 t) (cut2 t) (cutH t) op k
  | 0, _, _ => rfl
  | k + 1, op, h => by
    have hp := ops_no32 op (by omega)
    have p1 := pre_cut (t := t) hp
    have d1 := drop_cut (t := t) hp
    have c1 := cut_has (t := t) hp
    have ih := instD_is t k (op + 1) (by omega)
    unfold instD instrFrom
    rw [ih]
    generalize opNames.getD op [] = nm at p1 d1 c1
    cases ho : opNumB op with
    | false =>
      by_cases ht : t = nm
      · obtain ⟨h1, h2⟩ := c1.1 ht
        rw [if_pos ⟨rfl, ht⟩, if_pos ⟨h2.symm, h1.symm⟩, h1]
        simp [insV]
      · rw [if_neg (fun q => ht q.2), if_neg (fun q => absurd q.1 Bool.false_ne_true)]
        rw [if_neg (fun q => ht (c1.2 ⟨q.2.symm, q.1.symm⟩))]
    | true =>
      rw [if_neg (fun q => absurd q.1 (by simp))]
      by_cases hb : Lib.hasPrefix t (nm ++ [32]) = true
      · rw [if_pos ⟨rfl, hb⟩, d1 hb]
        rw [p1, Bool.and_eq_true, decide_eq_true_eq] at hb
        rw [if_pos ⟨hb.2.symm, hb.1.symm⟩, hb.1]
        simp only [insV, if_true]
        cases countV (cut2 t) <;> rfl
      · rw [if_neg (fun q => hb q.2)]
        rw [p1, Bool.and_eq_true, decide_eq_true_eq] at hb
        rw [if_neg (fun q => hb ⟨q.2.symm, q.1.symm⟩)]
end Go.Proofs.YtpkohocjgnodnaaGreatDoor

/- The chapter's example: plain mathematics. -/
namespace Go.Proofs.YtpkohocjgnodnaaGreatDoor

def exC : Cd := ⟨[mk 5 5, mk 1 0], [⟨0, [⟨1, 0⟩, ⟨5, 0⟩, ⟨12, 0⟩]⟩, ⟨1, [⟨2, 0⟩, ⟨12, 0⟩]⟩], [[120]]⟩
def exC2 : Cd := ⟨[mk 5 5, mk 1 0], [⟨0, [⟨1, 0⟩, ⟨5, 0⟩, ⟨12, 0⟩]⟩, ⟨1, [⟨2, 0⟩]⟩], [[120]]⟩
def exT : List UInt8 := [99, 111, 110, 115, 116, 32, 105, 110, 116, 32, 53, 10, 99, 111, 110, 115, 116, 32, 110, 105, 108, 10, 103, 108, 111, 98, 97, 108, 32, 120, 10, 112, 114, 111, 99, 32, 48, 10, 32, 99, 111, 110, 115, 116, 32, 48, 10, 32, 115, 101, 116, 103, 108, 111, 98, 97, 108, 32, 48, 10, 32, 114, 101, 116, 117, 114, 110, 10, 112, 114, 111, 99, 32, 49, 10, 32, 118, 97, 114, 32, 48, 10, 32, 114, 101, 116, 117, 114, 110, 10]
theorem exC_ok : chkC exC = (0, 0, 0) := by kernel_rfl
theorem exC2_bad : chkC exC2 = (80, 1, 0) := by kernel_rfl
theorem exC_rng : ∀ x ∈ exC.consts, Rng x := fun x hx => by
  simp only [exC, List.mem_cons, List.not_mem_nil, or_false] at hx
  rcases hx with rfl | rfl <;> exact mk_rng _ _
theorem itoa_small (n : Nat) (h : n < 10) : Lib.itoa (n : Int) = [UInt8.ofNat (48 + n)] := by
  unfold Lib.itoa
  rw [if_neg (by omega), show ((n : Int)).toNat = n from rfl, Lib.decDigits, dif_pos h]
theorem ofs : ofT (mk 5 5) = 5 ∧ ofN (mk 5 5) = 5 ∧ ofT (mk 1 0) = 1 := ⟨by kernel_rfl, by kernel_rfl, by kernel_rfl⟩
theorem c1T : constT (mk 5 5) = [105, 110, 116, 32, 53] := by
  unfold constT; rw [ofs.1, ofs.2.1, show (5 : Int) = ((5 : Nat) : Int) from rfl, itoa_small 5 (by decide)]; rfl
theorem c2T : constT (mk 1 0) = [110, 105, 108] := by unfold constT; rw [ofs.2.2]; rfl
theorem iT0 (op : Int) (h : opNumB op = true) : instrT ⟨op, 0⟩ = opNames.getD op.toNat [] ++ [32, 48] := by
  unfold instrT; simp only; rw [if_pos h, show (0 : Int) = ((0 : Nat) : Int) from rfl, itoa_small 0 (by decide)]; rfl
theorem exT_is : writtenT exC = exT := by
  unfold writtenT exC
  simp only [constsT, globsT, procsT, codeT]
  rw [c1T, c2T, iT0 1 rfl, iT0 5 rfl, iT0 2 rfl, show Lib.itoa 0 = [48] from itoa_small 0 (by decide), show Lib.itoa 1 = [49] from itoa_small 1 (by decide)]
  rfl
theorem ex_parse : parsedV exT noCd 1 = (exC, 0) := by
  rw [← exT_is]; exact parse_text (by rw [exC_ok]) exC_rng
theorem pstep {l r : List UInt8} {c c' : Cd} {n : Int} (h : (10 : UInt8) ∉ l) (ht : takeV c l = some c') : parsedV (l ++ 10 :: r) c n = parsedV r c' (n + 1) := by rw [parsedV_line h, ht]
theorem num0 : countV [48] = some 0 := by have := countV_itoa (n := 0) (by omega); rwa [show Lib.itoa 0 = [48] from itoa_small 0 (by decide)] at this
theorem num1 : countV [49] = some 1 := by have := countV_itoa (n := 1) (by omega); rwa [show Lib.itoa 1 = [49] from itoa_small 1 (by decide)] at this
theorem ex_open : (parsedV (exT.take 89) noCd 1).2 = 10 := by
  have k1 : constV [105, 110, 116, 32, 53] = some (mk 5 5) := by have := constV_T (x := mk 5 5) (by kernel_rfl) (mk_rng _ _); rwa [c1T] at this
  have k2 : constV [110, 105, 108] = some (mk 1 0) := by have := constV_T (x := mk 1 0) (by kernel_rfl) (mk_rng _ _); rwa [c2T] at this
  have j1 : instrV [99, 111, 110, 115, 116, 32, 48] = some ⟨1, 0⟩ := by have := instrV_T (x := ⟨1, 0⟩) (by decide) (by decide) (by decide); rwa [iT0 1 rfl] at this
  have j2 : instrV [115, 101, 116, 103, 108, 111, 98, 97, 108, 32, 48] = some ⟨5, 0⟩ := by have := instrV_T (x := ⟨5, 0⟩) (by decide) (by decide) (by decide); rwa [iT0 5 rfl] at this
  have j3 : instrV [114, 101, 116, 117, 114, 110] = some ⟨12, 0⟩ := by have := instrV_T (x := ⟨12, 0⟩) (by decide) (by decide) (by decide); exact this
  have j4 : instrV [118, 97, 114, 32, 48] = some ⟨2, 0⟩ := by have := instrV_T (x := ⟨2, 0⟩) (by decide) (by decide) (by decide); rwa [iT0 2 rfl] at this
  have e : exT.take 89 = (constA ++ [105, 110, 116, 32, 53]) ++ 10 :: ((constA ++ [110, 105, 108]) ++ 10 :: ((globA ++ [120]) ++ 10 :: ((procA ++ [48]) ++ 10 :: (([32] ++ [99, 111, 110, 115, 116, 32, 48]) ++ 10 :: (([32] ++ [115, 101, 116, 103, 108, 111, 98, 97, 108, 32, 48]) ++ 10 :: (([32] ++ [114, 101, 116, 117, 114, 110]) ++ 10 :: ((procA ++ [49]) ++ 10 :: (([32] ++ [118, 97, 114, 32, 48]) ++ 10 :: [32, 114, 101, 116, 117, 114, 110])))))))) := rfl
  rw [e]
  rw [pstep (by decide) (by rw [takeV_const]; unfold takeC; rw [k1]; rfl)]
  rw [pstep (by decide) (by rw [takeV_const]; unfold takeC; rw [k2]; rfl)]
  rw [pstep (by decide) (by rw [takeV_glob]; rfl)]
  rw [pstep (by decide) (by rw [takeV_proc]; unfold takeP; rw [num0])]
  rw [pstep (by decide) (by rw [takeV_instr]; unfold takeI; rw [j1]; rfl)]
  rw [pstep (by decide) (by rw [takeV_instr]; unfold takeI; rw [j2]; rfl)]
  rw [pstep (by decide) (by rw [takeV_instr]; unfold takeI; rw [j3]; rfl)]
  rw [pstep (by decide) (by rw [takeV_proc]; unfold takeP; rw [num1])]
  rw [pstep (by decide) (by rw [takeV_instr]; unfold takeI; rw [j4]; rfl)]
  rw [parsedV_open (by decide) (by decide)]
  rfl
end Go.Proofs.YtpkohocjgnodnaaGreatDoor
