/- What digits spell, held against the library's own function; the contracts of number, word, begin, IsSymbol.; The contracts of begin and IsSymbol. -/
import Derived.Test.YtejmoopgfnjaaaaDoorK12
/- What digits spell, held against the library's own function; the contracts of number, word, begin, IsSymbol. -/
namespace Go.Proofs.YtejmoopgfnjaaaaDoor
open Go.RowKit

theorem val_ge (l : List UInt8) : ∀ acc, acc ≤ val acc l := by
  induction l with
  | nil => intro acc; rw [val_nil]; exact Nat.le_refl _
  | cons d r ih => intro acc; have := ih (10 * acc + (d.toNat - 48)); rw [val_cons]; omega
theorem val_ge10 (d : UInt8) (r : List UInt8) (acc : Nat) : 10 * acc ≤ val acc (d :: r) := by
  have := val_ge r (10 * acc + (d.toNat - 48)); rw [val_cons]; omega
theorem isD_iff (d : UInt8) : isD d = true ↔ 48 ≤ d.toNat ∧ d.toNat ≤ 57 := by simp [isD, isDI]; omega

theorem parseM (l : List UInt8) (h : l.all isD = true) : ∀ acc, acc ≤ 18446744073709551615 →
    (Lib.parseUintM 18446744073709551615 acc l = .ok (val acc l) ∧ val acc l ≤ 18446744073709551615) ∨ (Lib.parseUintM 18446744073709551615 acc l = .range ∧ 18446744073709551615 < val acc l) := by
  induction l with
  | nil => intro acc h; exact .inl ⟨by rw [val_nil]; rfl, by rw [val_nil]; exact h⟩
  | cons d r ih =>
    intro acc ha
    simp only [List.all_cons, Bool.and_eq_true] at h
    have hd := (isD_iff d).1 h.1
    simp only [Lib.parseUintM, if_pos hd]
    have h10 := val_ge10 d r acc
    have hg := val_ge r (10 * acc + (d.toNat - 48))
    have hv := val_cons acc d r
    by_cases h1 : 1844674407370955162 ≤ acc
    · rw [if_pos h1]; exact .inr ⟨rfl, by omega⟩
    · rw [if_neg h1]
      by_cases h2 : 18446744073709551615 < acc * 10 + (d.toNat - 48)
      · rw [if_pos h2]; exact .inr ⟨rfl, by omega⟩
      · rw [if_neg h2, hv, show acc * 10 + (d.toNat - 48) = 10 * acc + (d.toNat - 48) from by omega]
        exact ih h.2 _ (by omega)

theorem fits_iff (n : Int) : fits n = true ↔ -576460752303423488 ≤ n ∧ n ≤ 576460752303423487 := by simp [fits]
theorem fits_no (n : Int) (h : n < -576460752303423488 ∨ 576460752303423487 < n) : fits n = false := by
  rw [Bool.eq_false_iff]; intro e; have := (fits_iff n).1 e; omega

theorem parse_num (l : List UInt8) (h : isNum l = true) : (Lib.parseIntB 64 l = .ok (num l)) ∨ (Lib.parseIntB 64 l = .range ∧ fits (num l) = false) := by
  cases l with
  | nil => simp [isNum, unsign] at h
  | cons c r =>
    simp only [isNum, Bool.and_eq_true, Bool.not_eq_true', List.isEmpty_eq_false_iff] at h
    obtain ⟨ha, hne⟩ := h
    have harg : (if c.toNat = 43 ∨ c.toNat = 45 then r else c :: r) = unsign (c :: r) := by
      by_cases h45 : c.toNat = 45
      · simp [unsign, h45]
      · simp only [unsign, if_neg h45] at ha ⊢
        simp only [List.all_cons, Bool.and_eq_true] at ha
        have := (isD_iff c).1 ha.1
        rw [if_neg (by omega)]
    have hM : Lib.parseUintB 64 (unsign (c :: r)) = Lib.parseUintM 18446744073709551615 0 (unsign (c :: r)) := by
      unfold Lib.parseUintB; rw [if_neg hne]
    have hn : num (c :: r) = if c.toNat = 45 then -(val 0 (unsign (c :: r)) : Int) else (val 0 (unsign (c :: r)) : Int) := by
      simp [num, neg]
    rcases parseM (unsign (c :: r)) ha 0 (by omega) with ⟨hp, hv⟩ | ⟨hp, hv⟩
    · simp only [Lib.parseIntB, harg, hM, hp]
      generalize val 0 (unsign (c :: r)) = v at *
      by_cases h45 : c.toNat = 45
      · rw [if_neg (by simp [h45])]
        rw [if_pos h45] at hn
        by_cases h63 : 9223372036854775808 < v
        · rw [if_pos ⟨h45, h63⟩]
          exact .inr ⟨rfl, by rw [hn]; exact fits_no _ (by omega)⟩
        · rw [if_neg (by simp; omega), hn]; simp [h45]
      · rw [if_neg h45] at hn
        by_cases h63 : 9223372036854775808 ≤ v
        · rw [if_pos ⟨h45, h63⟩]
          exact .inr ⟨rfl, by rw [hn]; exact fits_no _ (by omega)⟩
        · rw [if_neg (by simp; omega), if_neg (by simp [h45]), hn]; simp [h45]
    · simp only [Lib.parseIntB, harg, hM, hp]
      refine .inr ⟨trivial, ?_⟩
      rw [hn]
      generalize val 0 (unsign (c :: r)) = v at *
      split <;> exact fits_no _ (by omega)

/-- A string's value. -/
abbrev S (l : List UInt8) : Value := .string ⟨l.toArray⟩
theorem S_of (s : ByteArray) : S s.data.toList = .string s := rfl
/-- A token's value, its cells. -/
def encT (t : Tok) : Value := .agg #[.int .u8 t.kind, S t.text, .int .i64 t.n, .int .i64 t.pos]
/-- The variable ErrRange holds an interface value. -/
def EV (w : World) : Prop := ∃ te pe, w.cell? ⟨5, 0, none⟩ = some (.iface te pe)

def numT (l : List UInt8) : Tok := if fits (num l) then ⟨5, [], num l, 0⟩ else tk 0
def numE (l : List UInt8) : Int := if fits (num l) then 0 else 52

theorem EV.lt {w : World} (h : EV w) : 5 < w.heap.size := by
  obtain ⟨te, pe, h⟩ := h
  rcases Nat.lt_or_ge 5 w.heap.size with h' | h'
  · exact h'
  · simp [World.cell?, Array.getElem?_eq_none h'] at h
theorem EV.below {w w' : World} {B : Nat} (h : EV w) (hb : Below B w w') (hB : 5 < B) : EV w' := by
  obtain ⟨te, pe, h⟩ := h
  exact ⟨te, pe, (hb.cell (p := ⟨5, 0, none⟩) hB).trans h⟩
theorem EV.alloc {w : World} (h : EV w) (o : Obj) : EV (w.alloc o) := h.below ((Below.refl w.heap.size w).alloc (Nat.le_refl _) o) h.lt

theorem bcell {W w1 : World} (hb : Below W.heap.size W w1) : (∀ b o, b < W.heap.size → w1.cell? ⟨b, o, none⟩ = W.cell? ⟨b, o, none⟩) ∧ (∀ b o, b < W.heap.size → w1.frozen? ⟨b, o, none⟩ = W.frozen? ⟨b, o, none⟩) :=
  ⟨fun b o h => hb.cell (p := ⟨b, o, none⟩) h, fun b o h => hb.frozen (p := ⟨b, o, none⟩) h⟩

theorem below1 {w w1 : World} {X : Obj} (hb : Below (w.alloc X).heap.size (w.alloc X) w1) : Below w.heap.size w w1 :=
  ((Below.refl _ w).alloc (Nat.le_refl _) X).trans (hb.mono (by simp))
theorem ret_te {t t' : Tok} {a b : Int} (h : t = t') (h' : a = b) : Ending.returned (.tuple #[encT t, .int .i64 a]) = .returned (.tuple #[encT t', .int .i64 b]) := by rw [h, h']
theorem fits_out (n : Int) (h : fits n = false) : n < -576460752303423488 ∨ 576460752303423487 < n := by
  rcases Decidable.em (n < -576460752303423488 ∨ 576460752303423487 < n) with h' | h'
  · exact h'
  · rw [(fits_iff _).2 (by omega)] at h; cases h

theorem below4 {w w1 : World} {b : Nat} (h : Below w.heap.size w w1) (hb : w.heap.size ≤ b) (v0 v1 v2 v3 : Value) :
    Below w.heap.size w ((((w1.setCell ⟨b, 0, none⟩ v0).setCell ⟨b, 1, none⟩ v1).setCell ⟨b, 2, none⟩ v2).setCell ⟨b, 3, none⟩ v3) :=
  (((h.setCell (p := ⟨b, 0, none⟩) hb v0).setCell (p := ⟨b, 1, none⟩) hb v1).setCell (p := ⟨b, 2, none⟩) hb v2).setCell (p := ⟨b, 3, none⟩) hb v3
/-- A token's block of zeros. -/
abbrev Z56 : Obj := .cells #[.int .u8 0, .string ⟨#[]⟩, .int .i64 0, .int .i64 0] 110

set_option maxHeartbeats 400000 in
theorem number_any (s : ByteArray) (w : World) (hs : s.size ≤ 281474976710656) (hn : isNum s.data.toList = true) (hE : EV w) :
    Calls Tryd.prog 67 #[.string s] w fun e w' => e = .returned (.tuple #[encT (numT s.data.toList), .int .i64 (numE s.data.toList)]) ∧ Below w.heap.size w w' := by
  have HE : Hid (EV w) := hE
  have hp := parse_num s.data.toList hn
  clear hn hE
  rcases hp with hp | ⟨hp, hf⟩
  · have Hp : Hid _ := hp
    clear hp
    cases hf : fits (num s.data.toList)
    · have Hf : Hid _ := hf
      have hout := fits_out _ hf
      have HT : Hid (numT s.data.toList = tk 0) := by show _ = _; simp [numT, hf]
      have HN : Hid (numE s.data.toList = 52) := by show _ = _; simp [numE, hf]
      clear hf
      generalize num s.data.toList = v at *
      rcases hout with ho | ho
      all_goals
        go_enter Tryd.func67, Tryd.ntmps67
        go_wp2_with fail
        refine (Tryd.strconv_ParseInt_10_at64_ok s (by omega) v Hp.out _).mono ?_
        rintro e w1 ⟨rfl, hw1⟩
        have hb : Below (w.alloc Z56).heap.size (w.alloc Z56) w1 := by
          rcases hw1 with rfl | ⟨t, rfl⟩
          · exact Below.refl _ _
          · exact Lib.bytesWorld_below _ 5 t
        clear hw1
        obtain ⟨hc, hfz⟩ := bcell hb
        have hz : w.heap.size < w1.heap.size := by have := hb.size; simp at this; omega
        go_wp2
        refine bodyPost_ret (v := .tuple #[.agg #[.int .u8 0, .string ⟨#[]⟩, .int .i64 0, .int .i64 0], .int .i64 52]) (by simp [results, Tryd.results67, go_sem, hc]) rfl ⟨?_, ?_⟩
        · rw [HT.out, HN.out]; rfl
        · exact below4 (below1 hb) (Nat.le_refl _) _ _ _ _
    · obtain ⟨h1, h2⟩ := (fits_iff _).1 hf
      have HT : Hid (numT s.data.toList = ⟨5, [], num s.data.toList, 0⟩) := by show _ = _; simp [numT, hf]
      have HN : Hid (numE s.data.toList = 0) := by show _ = _; simp [numE, hf]
      clear hf
      generalize num s.data.toList = v at *
      go_enter Tryd.func67, Tryd.ntmps67
      go_wp2_with fail
      refine (Tryd.strconv_ParseInt_10_at64_ok s (by omega) v Hp.out _).mono ?_
      rintro e w1 ⟨rfl, hw1⟩
      have hb : Below (w.alloc Z56).heap.size (w.alloc Z56) w1 := by
        rcases hw1 with rfl | ⟨t, rfl⟩
        · exact Below.refl _ _
        · exact Lib.bytesWorld_below _ 5 t
      clear hw1
      obtain ⟨hc, hfz⟩ := bcell hb
      go_wp2
      refine bodyPost_ret (v := .tuple #[.agg #[.int .u8 5, .string ⟨#[]⟩, .int .i64 v, .int .i64 0], .int .i64 0]) (by simp [results, Tryd.results67, go_sem, hc]) rfl ⟨?_, ?_⟩
      · rw [HT.out, HN.out]; rfl
      · exact below4 (below1 hb) (Nat.le_refl _) _ _ _ _
  · have Hp : Hid _ := hp
    have HT : Hid (numT s.data.toList = tk 0) := by show _ = _; simp [numT, hf]
    have HN : Hid (numE s.data.toList = 52) := by show _ = _; simp [numE, hf]
    clear hp hf
    obtain ⟨te, pe, hev⟩ := HE.out.alloc Z56
    have HEV : Hid _ := hev
    clear hev
    go_enter Tryd.func67, Tryd.ntmps67
    go_wp2_with fail
    refine (Tryd.strconv_ParseInt_10_at64_range s hs Hp.out _ _ HEV.out (.inr ⟨_, _, rfl⟩)).mono ?_
    rintro e w1 ⟨N, rfl, _, _, hb⟩
    obtain ⟨hc, hfz⟩ := bcell hb
    go_wp2
    refine bodyPost_ret (v := .tuple #[.agg #[.int .u8 0, .string ⟨#[]⟩, .int .i64 0, .int .i64 0], .int .i64 52]) (by simp [results, Tryd.results67, go_sem, hc]) rfl ⟨?_, ?_⟩
    · rw [HT.out, HN.out]; rfl
    · exact below4 (below1 hb) (Nat.le_refl _) _ _ _ _

set_option maxHeartbeats 400000 in
theorem cloneS_any (s : ByteArray) (w : World) (hs : s.size ≤ 281474976710656) :
    Calls Tryd.prog 69 #[.string s] w fun e w' => e = .returned (.string s) ∧ Below w.heap.size w w' := by
  go_enter Tryd.func69, Tryd.ntmps69
  go_wp2_with fail
  refine (Tryd.stringslite_Clone s _ hs).mono ?_
  rintro e w1 ⟨rfl, hb⟩
  go_wp2
  go_ret
  exact ⟨rfl, hb⟩

theorem ne_beq {s : ByteArray} {l : List UInt8} (h : ¬ s.data.toList = l) : (s.toList == l) = false := by
  rw [Lib.toList_data]; exact beq_eq_false_iff_ne.2 h
theorem eq_beq {s : ByteArray} {l : List UInt8} (h : s.data.toList = l) : (s.toList == l) = true := by
  rw [Lib.toList_data]; exact beq_iff_eq.2 h

set_option maxHeartbeats 1000000 in
theorem word_any (s : ByteArray) (w : World) (hs : s.size ≤ 281474976710656) (h0 : 0 < s.size) (hE : EV w) :
    Calls Tryd.prog 62 #[.string s] w fun e w' => e = .returned (.tuple #[encT (word s.data.toList), .int .i64 (wordE s.data.toList)]) ∧ Below w.heap.size w w' := by
  have HE : Hid (EV w) := hE
  have hm : s.size ≤ maxLen := by unfold maxLen; omega
  have Hm : Hid _ := hm
  clear hE hm
  by_cases h1 : s.data.toList = [46]
  · have e1 := eq_beq h1
    have HT : Hid (word s.data.toList = tk 4) := by show _ = _; simp [word, h1]
    have HN : Hid (wordE s.data.toList = 0) := by show _ = _; simp [wordE, h1]
    clear h1
    go_enter Tryd.func62, Tryd.ntmps62
    go_wp2_with fail
    refine bodyPost_ret (v := .tuple #[.agg #[.int .u8 4, .string ⟨#[]⟩, .int .i64 0, .int .i64 0], .int .i64 0]) (by simp [results, Tryd.results62, go_sem]) rfl ⟨?_, ?_⟩
    · rw [HT.out, HN.out]; rfl
    · exact (Below.refl _ w).alloc (Nat.le_refl _) _
  have e1 := ne_beq h1
  by_cases h2 : s.data.toList = [35, 116]
  · have e2 := eq_beq h2
    have HT : Hid (word s.data.toList = tk 8) := by show _ = _; simp [word, h2]
    have HN : Hid (wordE s.data.toList = 0) := by show _ = _; simp [wordE, h2]
    clear h1 h2
    go_enter Tryd.func62, Tryd.ntmps62
    go_wp2_with fail
    refine bodyPost_ret (v := .tuple #[.agg #[.int .u8 8, .string ⟨#[]⟩, .int .i64 0, .int .i64 0], .int .i64 0]) (by simp [results, Tryd.results62, go_sem]) rfl ⟨?_, ?_⟩
    · rw [HT.out, HN.out]; rfl
    · exact (Below.refl _ w).alloc (Nat.le_refl _) _
  have e2 := ne_beq h2
  by_cases h3 : s.data.toList = [35, 102]
  · have e3 := eq_beq h3
    have HT : Hid (word s.data.toList = tk 7) := by show _ = _; simp [word, h3]
    have HN : Hid (wordE s.data.toList = 0) := by show _ = _; simp [wordE, h3]
    clear h1 h2 h3
    go_enter Tryd.func62, Tryd.ntmps62
    go_wp2_with fail
    refine bodyPost_ret (v := .tuple #[.agg #[.int .u8 7, .string ⟨#[]⟩, .int .i64 0, .int .i64 0], .int .i64 0]) (by simp [results, Tryd.results62, go_sem]) rfl ⟨?_, ?_⟩
    · rw [HT.out, HN.out]; rfl
    · exact (Below.refl _ w).alloc (Nat.le_refl _) _
  have e3 := ne_beq h3
  have H1 : Hid _ := h1
  have H2 : Hid _ := h2
  have H3 : Hid _ := h3
  clear h1 h2 h3
  cases h4 : isNum s.data.toList
  · have hn : Hid _ := h4
    have hb0 := byte_le s 0 h0
    have hd0 := drop_step s 0 h0
    rw [List.drop_zero] at hd0
    have HD0 : Hid _ := hd0
    clear hd0
    cases h5 : ((s[0].toNat : Int) == 35)
    · cases h6 : begNum s.data.toList
      · by_cases h7 : 32 < s.size
        · have hbad : bad s.data.toList = true := by
            unfold bad; rw [← size_len]; simp [h7]
          have HT : Hid (word s.data.toList = tk 0) := by show _ = _; unfold word; rw [if_neg H1.out, if_neg H2.out, if_neg H3.out, hn.out, hbad]; rfl
          have HN : Hid (wordE s.data.toList = 51) := by show _ = _; unfold wordE; rw [if_neg H1.out, if_neg H2.out, if_neg H3.out, hn.out, hbad]; rfl
          clear hbad
          go_enter Tryd.func62, Tryd.ntmps62
          go_wp2_with (first | (go_at_call 66; refine (isNumber_any s _ Hm.out).mono ?_; rintro e w' ⟨rfl, rfl⟩) | (go_at_call 68; refine (begNum_any s _).mono ?_; rintro e w' ⟨rfl, rfl⟩))
          refine bodyPost_ret (v := .tuple #[.agg #[.int .u8 0, .string ⟨#[]⟩, .int .i64 0, .int .i64 0], .int .i64 51]) (by simp [results, Tryd.results62, go_sem]) rfl ⟨?_, ?_⟩
          · rw [HT.out, HN.out]; rfl
          · exact (Below.refl _ w).alloc (Nat.le_refl _) _
        · have hbad : bad s.data.toList = false := by
            have hh : hash s.data.toList = false := by
              rw [HD0.out]; simp only [hash]; rw [beq_eq_false_iff_ne] at h5 ⊢; omega
            unfold bad; rw [← size_len, hh, h6]; simp [h7]
          have HT : Hid (word s.data.toList = ⟨6, s.data.toList, 0, 0⟩) := by show _ = _; unfold word; rw [if_neg H1.out, if_neg H2.out, if_neg H3.out, hn.out, hbad]; rfl
          have HN : Hid (wordE s.data.toList = 0) := by show _ = _; unfold wordE; rw [if_neg H1.out, if_neg H2.out, if_neg H3.out, hn.out, hbad]; rfl
          clear hbad
          go_enter Tryd.func62, Tryd.ntmps62
          go_wp2_with (first | (go_at_call 66; refine (isNumber_any s _ Hm.out).mono ?_; rintro e w' ⟨rfl, rfl⟩) | (go_at_call 68; refine (begNum_any s _).mono ?_; rintro e w' ⟨rfl, rfl⟩))
          refine (cloneS_any s _ hs).mono ?_
          rintro e w1 ⟨rfl, hb⟩
          obtain ⟨hc, hfz⟩ := bcell hb
          go_wp2
          refine bodyPost_ret (v := .tuple #[.agg #[.int .u8 6, .string s, .int .i64 0, .int .i64 0], .int .i64 0]) (by simp [results, Tryd.results62, go_sem, hc]) rfl ⟨?_, ?_⟩
          · rw [HT.out, HN.out]; rfl
          · exact below4 (below1 hb) (Nat.le_refl _) _ _ _ _
      · have hbad : bad s.data.toList = true := by unfold bad; rw [h6]; simp
        have HT : Hid (word s.data.toList = tk 0) := by show _ = _; unfold word; rw [if_neg H1.out, if_neg H2.out, if_neg H3.out, hn.out, hbad]; rfl
        have HN : Hid (wordE s.data.toList = 51) := by show _ = _; unfold wordE; rw [if_neg H1.out, if_neg H2.out, if_neg H3.out, hn.out, hbad]; rfl
        clear hbad
        go_enter Tryd.func62, Tryd.ntmps62
        go_wp2_with (first | (go_at_call 66; refine (isNumber_any s _ Hm.out).mono ?_; rintro e w' ⟨rfl, rfl⟩) | (go_at_call 68; refine (begNum_any s _).mono ?_; rintro e w' ⟨rfl, rfl⟩))
        refine bodyPost_ret (v := .tuple #[.agg #[.int .u8 0, .string ⟨#[]⟩, .int .i64 0, .int .i64 0], .int .i64 51]) (by simp [results, Tryd.results62, go_sem]) rfl ⟨?_, ?_⟩
        · rw [HT.out, HN.out]; rfl
        · exact (Below.refl _ w).alloc (Nat.le_refl _) _
    · have hbad : bad s.data.toList = true := by
        have hh : hash s.data.toList = true := by
          rw [HD0.out]; simp only [hash]; rw [beq_iff_eq] at h5 ⊢; omega
        unfold bad; rw [hh]; simp
      have HT : Hid (word s.data.toList = tk 0) := by show _ = _; unfold word; rw [if_neg H1.out, if_neg H2.out, if_neg H3.out, hn.out, hbad]; rfl
      have HN : Hid (wordE s.data.toList = 51) := by show _ = _; unfold wordE; rw [if_neg H1.out, if_neg H2.out, if_neg H3.out, hn.out, hbad]; rfl
      clear hbad
      go_enter Tryd.func62, Tryd.ntmps62
      go_wp2_with (first | (go_at_call 66; refine (isNumber_any s _ Hm.out).mono ?_; rintro e w' ⟨rfl, rfl⟩) | (go_at_call 68; refine (begNum_any s _).mono ?_; rintro e w' ⟨rfl, rfl⟩))
      refine bodyPost_ret (v := .tuple #[.agg #[.int .u8 0, .string ⟨#[]⟩, .int .i64 0, .int .i64 0], .int .i64 51]) (by simp [results, Tryd.results62, go_sem]) rfl ⟨?_, ?_⟩
      · rw [HT.out, HN.out]; rfl
      · exact (Below.refl _ w).alloc (Nat.le_refl _) _
  · have Hn : Hid _ := h4
    have HT : Hid (word s.data.toList = numT s.data.toList) := by show _ = _; unfold word; rw [if_neg H1.out, if_neg H2.out, if_neg H3.out, h4]; rfl
    have HN : Hid (wordE s.data.toList = numE s.data.toList) := by show _ = _; unfold wordE; rw [if_neg H1.out, if_neg H2.out, if_neg H3.out, h4]; rfl
    go_enter Tryd.func62, Tryd.ntmps62
    go_wp2_with (go_at_call 66; refine (isNumber_any s _ Hm.out).mono ?_; rintro e w' ⟨rfl, rfl⟩)
    refine (number_any s _ hs Hn.out (HE.out.alloc _)).mono ?_
    rintro e w1 ⟨rfl, hb⟩
    obtain ⟨hc, hfz⟩ := bcell hb
    rw [encT]
    go_wp2
    refine bodyPost_ret (v := .tuple #[.agg #[.int .u8 (numT s.data.toList).kind, S (numT s.data.toList).text, .int .i64 (numT s.data.toList).n, .int .i64 (numT s.data.toList).pos], .int .i64 (numE s.data.toList)]) (by simp [results, Tryd.results62, go_sem, hc]) rfl ⟨?_, ?_⟩
    · rw [HT.out, HN.out]; rfl
    · exact below4 (below1 hb) (Nat.le_refl _) _ _ _ _

end Go.Proofs.YtejmoopgfnjaaaaDoor

/- The contracts of begin and IsSymbol. -/
namespace Go.Proofs.YtejmoopgfnjaaaaDoor
open Go.RowKit

theorem ret_tse {t t' : Tok} {a b c d : Int} (h : t = t') (h' : a = b) (h'' : c = d) : Ending.returned (.tuple #[encT t, .int .i64 a, .int .i64 c]) = .returned (.tuple #[encT t', .int .i64 b, .int .i64 d]) := by rw [h, h', h'']
theorem extract_take (s : ByteArray) (k : Nat) : (s.extract 0 k).data.toList = s.data.toList.take k := by rw [Lib.extract_data]; simp
theorem take_while_len (l : List UInt8) : l.take (l.takeWhile isW).length = l.takeWhile isW := by
  conv => lhs; arg 2; rw [← List.takeWhile_append_dropWhile (p := isW) (l := l)]
  rw [List.take_left']; rfl

set_option maxHeartbeats 1000000 in
theorem begin_any (s : ByteArray) (w : World) (hs : s.size ≤ 281474976710656) (hE : EV w) :
    Calls Tryd.prog 48 #[.string s] w fun e w' => e = .returned (.tuple #[encT (begT s.data.toList), .int .i64 (begS s.data.toList : Nat), .int .i64 (begE s.data.toList)]) ∧ Below w.heap.size w w' := by
  have HE : Hid (EV w) := hE
  have hm : s.size ≤ maxLen := by unfold maxLen; omega
  have Hm : Hid _ := hm
  clear hE hm
  by_cases h0 : s.size = 0
  · have he : s.toList.isEmpty = true := by rw [Lib.toList_data, List.isEmpty_iff_length_eq_zero, ← size_len]; exact h0
    have hl : s.data.toList = [] := by rw [← List.length_eq_zero_iff, ← size_len]; exact h0
    have HT : Hid (begT s.data.toList = tk 9) := by show _ = _; rw [hl]; rfl
    have HS : Hid (begS s.data.toList = 0) := by show _ = _; rw [hl]; rfl
    have HN : Hid (begE s.data.toList = 0) := by show _ = _; rw [hl]; rfl
    clear h0 hl
    go_enter Tryd.func48, Tryd.ntmps48
    go_wp2_with fail
    refine bodyPost_ret (v := .tuple #[.agg #[.int .u8 9, .string ⟨#[]⟩, .int .i64 0, .int .i64 0], .int .i64 0, .int .i64 0]) (by simp [results, Tryd.results48, go_sem]) rfl ⟨?_, ?_⟩
    · rw [HT.out, HS.out, HN.out]; rfl
    · exact (Below.refl _ w).alloc (Nat.le_refl _) _
  have hlt : 0 < s.size := by omega
  have he : s.toList.isEmpty = false := by
    rw [Lib.toList_data, Bool.eq_false_iff]; intro h; rw [List.isEmpty_iff_length_eq_zero, ← size_len] at h; exact h0 h
  have hb0 := byte_le s 0 hlt
  have hd0 := drop_step s 0 hlt
  rw [List.drop_zero] at hd0
  have HD0 : Hid _ := hd0
  clear hd0 h0
  by_cases c1 : (s[0].toNat : Int) = 40
  · have c1n : s[0].toNat = 40 := by omega
    have e1 : ((s[0].toNat : Int) == 40) = true := beq_iff_eq.2 c1
    have HT : Hid (begT s.data.toList = tk 1) := by show _ = _; rw [HD0.out]; simp only [begT]; rw [if_pos c1n]
    have HS : Hid (begS s.data.toList = 1) := by show _ = _; rw [HD0.out]; simp only [begS]; rw [if_pos c1n]
    have HN : Hid (begE s.data.toList = 0) := by show _ = _; rw [HD0.out]; simp only [begE]; rw [if_pos c1n]
    clear c1 c1n
    go_enter Tryd.func48, Tryd.ntmps48
    go_wp2_with fail
    refine bodyPost_ret (v := .tuple #[.agg #[.int .u8 1, .string ⟨#[]⟩, .int .i64 0, .int .i64 0], .int .i64 1, .int .i64 0]) (by simp [results, Tryd.results48, go_sem]) rfl ⟨?_, ?_⟩
    · rw [HT.out, HS.out, HN.out]; rfl
    · exact (Below.refl _ w).alloc (Nat.le_refl _) _
  have n1 : ¬ s[0].toNat = 40 := by omega
  have e1 : ((s[0].toNat : Int) == 40) = false := beq_eq_false_iff_ne.2 c1
  by_cases c2 : (s[0].toNat : Int) = 41
  · have c2n : s[0].toNat = 41 := by omega
    have e2 : ((s[0].toNat : Int) == 41) = true := beq_iff_eq.2 c2
    have HT : Hid (begT s.data.toList = tk 2) := by show _ = _; rw [HD0.out]; simp only [begT]; rw [if_neg n1, if_pos c2n]
    have HS : Hid (begS s.data.toList = 1) := by show _ = _; rw [HD0.out]; simp only [begS]; rw [if_neg n1, if_pos c2n]
    have HN : Hid (begE s.data.toList = 0) := by show _ = _; rw [HD0.out]; simp only [begE]; rw [if_neg n1, if_pos c2n]
    clear c1 n1 c2 c2n
    go_enter Tryd.func48, Tryd.ntmps48
    go_wp2_with fail
    refine bodyPost_ret (v := .tuple #[.agg #[.int .u8 2, .string ⟨#[]⟩, .int .i64 0, .int .i64 0], .int .i64 1, .int .i64 0]) (by simp [results, Tryd.results48, go_sem]) rfl ⟨?_, ?_⟩
    · rw [HT.out, HS.out, HN.out]; rfl
    · exact (Below.refl _ w).alloc (Nat.le_refl _) _
  have n2 : ¬ s[0].toNat = 41 := by omega
  have e2 : ((s[0].toNat : Int) == 41) = false := beq_eq_false_iff_ne.2 c2
  by_cases c3 : (s[0].toNat : Int) = 39
  · have c3n : s[0].toNat = 39 := by omega
    have e3 : ((s[0].toNat : Int) == 39) = true := beq_iff_eq.2 c3
    have HT : Hid (begT s.data.toList = tk 3) := by show _ = _; rw [HD0.out]; simp only [begT]; rw [if_neg n1, if_neg n2, if_pos c3n]
    have HS : Hid (begS s.data.toList = 1) := by show _ = _; rw [HD0.out]; simp only [begS]; rw [if_neg n1, if_neg n2, if_pos c3n]
    have HN : Hid (begE s.data.toList = 0) := by show _ = _; rw [HD0.out]; simp only [begE]; rw [if_neg n1, if_neg n2, if_pos c3n]
    clear c1 n1 c2 n2 c3 c3n
    go_enter Tryd.func48, Tryd.ntmps48
    go_wp2_with fail
    refine bodyPost_ret (v := .tuple #[.agg #[.int .u8 3, .string ⟨#[]⟩, .int .i64 0, .int .i64 0], .int .i64 1, .int .i64 0]) (by simp [results, Tryd.results48, go_sem]) rfl ⟨?_, ?_⟩
    · rw [HT.out, HS.out, HN.out]; rfl
    · exact (Below.refl _ w).alloc (Nat.le_refl _) _
  have n3 : ¬ s[0].toNat = 39 := by omega
  have e3 : ((s[0].toNat : Int) == 39) = false := beq_eq_false_iff_ne.2 c3
  clear c1 c2 c3
  cases hw : isWI s[0].toNat
  · have hw' : isW s[0] = false := hw
    have HT : Hid (begT s.data.toList = tk 0) := by show _ = _; rw [HD0.out]; simp only [begT]; rw [if_neg n1, if_neg n2, if_neg n3, hw']; rfl
    have HS : Hid (begS s.data.toList = 0) := by show _ = _; rw [HD0.out]; simp only [begS]; rw [if_neg n1, if_neg n2, if_neg n3, hw']; rfl
    have HN : Hid (begE s.data.toList = 50) := by show _ = _; rw [HD0.out]; simp only [begE]; rw [if_neg n1, if_neg n2, if_neg n3, hw']; rfl
    clear n1 n2 n3 hw'
    go_enter Tryd.func48, Tryd.ntmps48
    go_wp2_with (go_at_call 60; refine (isOfWord_any _ _ (by omega) (by omega)).mono ?_; rintro e w' ⟨rfl, rfl⟩)
    refine bodyPost_ret (v := .tuple #[.agg #[.int .u8 0, .string ⟨#[]⟩, .int .i64 0, .int .i64 0], .int .i64 0, .int .i64 50]) (by simp [results, Tryd.results48, go_sem]) rfl ⟨?_, ?_⟩
    · rw [HT.out, HS.out, HN.out]; rfl
    · exact (Below.refl _ w).alloc (Nat.le_refl _) _
  · have hw' : isW s[0] = true := hw
    have HT : Hid (begT s.data.toList = word (s.data.toList.takeWhile isW)) := by show _ = _; rw [HD0.out]; simp only [begT]; rw [if_neg n1, if_neg n2, if_neg n3, hw']; rfl
    have HS : Hid (begS s.data.toList = (s.data.toList.takeWhile isW).length) := by show _ = _; rw [HD0.out]; simp only [begS]; rw [if_neg n1, if_neg n2, if_neg n3, hw']; rfl
    have HN : Hid (begE s.data.toList = wordE (s.data.toList.takeWhile isW)) := by show _ = _; rw [HD0.out]; simp only [begE]; rw [if_neg n1, if_neg n2, if_neg n3, hw']; rfl
    clear n1 n2 n3
    have hk : (s.data.toList.takeWhile isW).length ≤ s.size := by rw [size_len]; exact (List.takeWhile_sublist _).length_le
    have hk1 : 0 < (s.data.toList.takeWhile isW).length := by rw [HD0.out]; simp [hw']
    have ht := extract_take s (s.data.toList.takeWhile isW).length
    rw [take_while_len] at ht
    have Ht : Hid _ := ht
    clear hw' ht
    go_enter Tryd.func48, Tryd.ntmps48
    go_wp2_with (first | (go_at_call 60; refine (isOfWord_any _ _ (by omega) (by omega)).mono ?_; rintro e w' ⟨rfl, rfl⟩) | (go_at_call 61; refine (wordSize_any s _ Hm.out).mono ?_; rintro e w' ⟨rfl, rfl⟩))
    have hx : (s.extract 0 (s.data.toList.takeWhile isW).length).size = (s.data.toList.takeWhile isW).length := by rw [size_len, Ht.out]
    refine (word_any (s.extract 0 (s.data.toList.takeWhile isW).length) _ (by rw [hx]; omega) (by rw [hx]; omega) (HE.out.alloc _)).mono ?_
    rintro e w1 ⟨rfl, hb⟩
    rw [Ht.out]
    clear hx
    generalize hl : s.data.toList.takeWhile isW = l at *
    clear hl
    obtain ⟨hc, hfz⟩ := bcell hb
    have hz : w.heap.size < w1.heap.size := by have := hb.size; simp at this; omega
    rw [encT]
    go_wp2
    refine bodyPost_ret (v := .tuple #[.agg #[.int .u8 (word l).kind, S (word l).text, .int .i64 (word l).n, .int .i64 (word l).pos], .int .i64 (l.length : Nat), .int .i64 (wordE l)]) (by simp [results, Tryd.results48, go_sem, hc, hz]) rfl ⟨?_, ?_⟩
    · rw [HT.out, HS.out, HN.out]; rfl
    · exact (below4 (below1 hb) (Nat.le_refl _) _ _ _ _).alloc (Nat.le_trans (Nat.le_of_lt hz) (by simp [World.setCell])) _

set_option maxHeartbeats 1000000 in
theorem isSymbol_any (s : ByteArray) (w : World) (hs : s.size ≤ 281474976710656) (hE : EV w) :
    Calls Tryd.prog 32 #[.string s] w fun e w' => e = .returned (.bool (begE s.data.toList == 0 && ((begT s.data.toList).kind == 6 && ((begS s.data.toList : Nat) : Int) == (s.size : Int)))) ∧ Below w.heap.size w w' := by
  go_enter Tryd.func32, Tryd.ntmps32
  go_wp2_with fail
  refine (begin_any s _ hs hE).mono ?_
  rintro e w1 ⟨rfl, hb⟩
  rw [encT]
  cases h1 : (begE s.data.toList == 0)
  all_goals cases h2 : ((begT s.data.toList).kind == 6)
  all_goals cases h3 : (((begS s.data.toList : Nat) : Int) == (s.size : Int))
  all_goals
    go_wp2
    go_ret
    refine ⟨ret_bool (by simp [h1, h2, h3]), ?_⟩
    exact hb.alloc hb.size _

end Go.Proofs.YtejmoopgfnjaaaaDoor
