/- number, count, wordOf.; strings.Cut at a blank, strings.CutPrefix, strings.CutSuffix. -/
import Derived.Test.YtpkohocjgnodnaaGreatDoorGAJ
import Derived.Shelf.RegionOpenPlain
/- number, count, wordOf. -/
namespace Go.Proofs.YtpkohocjgnodnaaGreatDoor
open Go.RowKit

/-- The variable ErrSyntax holds an interface value. -/
def ES (w : World) : Prop := ∃ te pe, w.cell? ⟨8, 0, none⟩ = some (.iface te pe)
theorem ES.lt {w : World} (h : ES w) : 8 < w.heap.size := by
  obtain ⟨te, pe, h⟩ := h
  rcases Nat.lt_or_ge 8 w.heap.size with h' | h'
  · exact h'
  · simp [World.cell?, Array.getElem?_eq_none h'] at h
theorem ES.below {w w' : World} (h : ES w) (hb : Below w.heap.size w w') : ES w' := by
  have hl := h.lt
  obtain ⟨te, pe, h⟩ := h
  exact ⟨te, pe, (hb.cell (p := ⟨8, 0, none⟩) hl).trans h⟩
/-- What the tables and variables hold that are read. -/
structure Env (w : World) : Prop where
  T : Tab w
  E : EV w
  Y : ES w
  N : TN w
  O : ON w
  B : TB w
  P : PT w
theorem Env.below {w w' : World} (h : Env w) (hb : Below w.heap.size w w') : Env w' := ⟨h.T.below hb h.T.lt, h.E.below hb h.E.lt, h.Y.below hb, h.N.below hb, h.O.below hb, h.B.below hb, h.P.below hb⟩
/-- What is told, and whether. -/
def Tells (o : Option Int) (n : Int) (b : Bool) : Prop := (o = some n ∧ b = true) ∨ (o = none ∧ b = false)

theorem parse_bd {l : List UInt8} {v : Int} (h : Lib.parseIntB 64 l = .ok v) : -9223372036854775808 ≤ v ∧ v ≤ 9223372036854775807 := by
  cases l with
  | nil => cases h
  | cons c r =>
    unfold Lib.parseIntB at h
    simp only at h
    split at h
    · cases h
    · cases h
    · split at h
      · cases h
      · split at h
        · cases h
        · rename_i u _ h1 h2
          cases h
          split <;> omega
set_option maxRecDepth 100000 in
set_option maxHeartbeats 2000000 in
theorem numberC_any (d : List UInt8) (w : World) (hl : d.length ≤ 140737488355328) (hE : Env w) :
    Calls Tryz.prog 157 #[S d] w fun e w' => (∃ n b, e = .returned (.tuple #[.int .i64 n, .bool b]) ∧ Tells (numV d) n b ∧ (-9223372036854775808 ≤ n ∧ n ≤ 9223372036854775807)) ∧ Below w.heap.size w w' := by
  have HE : Hid (Env w) := hE
  have hsz : (ByteArray.mk d.toArray).size ≤ 140737488355328 := hl
  have hbad : ∀ (n : Int) (N : Nat), (-9223372036854775808 ≤ n ∧ n ≤ 9223372036854775807) → numV d = none → (∀ w5, w5 = w → Calls Tryz.prog 160 #[S d, .int .i64 10, .int .i64 64] w5 fun e w' => ∃ N, e = .returned (.tuple #[.int .i64 n, .iface 247 (.pointer (some ⟨N, 0, none⟩))]) ∧ Below w.heap.size w w') →
    Calls Tryz.prog 157 #[S d] w fun e w' => (∃ n b, e = .returned (.tuple #[.int .i64 n, .bool b]) ∧ Tells (numV d) n b ∧ (-9223372036854775808 ≤ n ∧ n ≤ 9223372036854775807)) ∧ Below w.heap.size w w' := by
    intro n N hn hv hc
    have HV : Hid (numV d = none) := hv
    have HC : Hid (Calls Tryz.prog 160 #[S d, .int .i64 10, .int .i64 64] w fun e w' => ∃ N, e = .returned (.tuple #[.int .i64 n, .iface 247 (.pointer (some ⟨N, 0, none⟩))]) ∧ Below w.heap.size w w') := hc w rfl
    clear hc hv hE
    go_enter Tryz.func157, Tryz.ntmps157
    go_wp2_with fail
    refine Calls.mono HC.out ?_
    rintro e w1 ⟨N, rfl, hb⟩
    go_wp2
    go_ret2
    exact ⟨⟨n, false, rfl, .inr ⟨HV.out, rfl⟩, hn⟩, hb⟩
  cases hp : Lib.parseIntB 64 d with
  | «syntax» =>
    obtain ⟨te, pe, hev⟩ := hE.Y
    refine hbad 0 0 (by omega) (by unfold numV; rw [hp]) (fun w5 h5 => ?_)
    subst h5
    refine (Tryz.strconv_ParseInt_10_at64_syntax ⟨d.toArray⟩ (by omega) hp _ w5 hev (.inr ⟨_, _, rfl⟩)).mono ?_
    rintro e w1 ⟨N, rfl, _, _, hb⟩
    exact ⟨N, rfl, hb⟩
  | range =>
    obtain ⟨te, pe, hev⟩ := hE.E
    have hsat : -9223372036854775808 ≤ Lib.intSat 64 d ∧ Lib.intSat 64 d ≤ 9223372036854775807 := by
      unfold Lib.intSat; split <;> decide
    refine hbad (Lib.intSat 64 d) 0 hsat (by unfold numV; rw [hp]) (fun w5 h5 => ?_)
    subst h5
    refine (Tryz.strconv_ParseInt_10_at64_range ⟨d.toArray⟩ (by omega) hp _ w5 hev (.inr ⟨_, _, rfl⟩)).mono ?_
    rintro e w1 ⟨N, rfl, _, _, hb⟩
    exact ⟨N, rfl, hb⟩
  | ok v =>
    have hv := parse_bd hp
    have HC : Hid (Calls Tryz.prog 160 #[S d, .int .i64 10, .int .i64 64] w fun e w' => e = .returned (.tuple #[.int .i64 v, .nilIface]) ∧ Below w.heap.size w w') := by
      refine (Tryz.strconv_ParseInt_10_at64_ok ⟨d.toArray⟩ (by omega) v hp w).mono ?_
      rintro e w1 ⟨rfl, hw1⟩
      refine ⟨rfl, ?_⟩
      rcases hw1 with rfl | ⟨t, rfl⟩
      · exact Below.refl _ _
      · exact Lib.bytesWorld_below _ 5 t
    have HF : Hid (∀ w5 : World, Below w.heap.size w w5 → Calls Tryz.prog 116 #[.int .i64 v, .int .i64 10] w5 fun e w' => e = .returned (S (Lib.itoa v)) ∧ Below w5.heap.size w5 w') := fun w5 h5 => fmt_any _ hv.1 hv.2 w5 (HE.out.B.below h5)
    have HV : Hid (numV d = if Lib.itoa v = d then some v else none) := by show _ = _; unfold numV; rw [hp]
    have HR : Hid (-9223372036854775808 ≤ v ∧ v ≤ 9223372036854775807) := hv
    clear hbad hE hp hv
    have hmx : Tryz.prog.follows .mixedOrders = true := by kernel_rfl
    go_enter Tryz.func157, Tryz.ntmps157
    go_wp2_with fail
    refine Calls.mono HC.out ?_
    rintro e w1 ⟨rfl, hb⟩
    generalize Lib.itoa v = t at HF HV
    by_cases hd : t = d
    · have HT : Hid (numV d = some v) := by show _ = _; rw [HV.out, if_pos hd]
      subst hd
      go_wp2_with (first | (go_at_call 116; refine (HF.out _ hb).mono ?_; rintro e w3 ⟨rfl, hb3⟩))
      go_ret2
      exact ⟨⟨v, true, rfl, .inl ⟨HT.out, rfl⟩, HR.out⟩, hb.trans (hb3.mono hb.size)⟩
    · have HT : Hid (numV d = none) := by show _ = _; rw [HV.out, if_neg hd]
      have hne : (t == d) = false := by simpa using hd
      clear hd
      go_wp2_with (first | (go_at_call 116; refine (HF.out _ hb).mono ?_; rintro e w3 ⟨rfl, hb3⟩))
      go_ret2
      exact ⟨⟨v, false, rfl, .inr ⟨HT.out, rfl⟩, HR.out⟩, hb.trans (hb3.mono hb.size)⟩
end Go.Proofs.YtpkohocjgnodnaaGreatDoor

/- strings.Cut at a blank, strings.CutPrefix, strings.CutSuffix. -/
namespace Go.Proofs.YtpkohocjgnodnaaGreatDoor
open Go.RowKit

theorem idx_in (c : UInt8) : ∀ l : List UInt8, c ∈ l → Lib.indexByte l c = (l.takeWhile (· != c)).length
  | [], h => by cases h
  | b :: l, h => by
    unfold Lib.indexByte
    by_cases hb : b = c
    · subst hb; simp
    · have hm : c ∈ l := by rcases List.mem_cons.1 h with e | e; exact absurd e.symm hb; exact e
      have ih := idx_in c l hm
      rw [if_neg (by simpa using hb), ih, if_neg (by simp), List.takeWhile_cons, if_pos (by simpa using hb)]
      simp
theorem idx_out (c : UInt8) : ∀ l : List UInt8, c ∉ l → Lib.indexByte l c = -1
  | [], _ => rfl
  | b :: l, h => by
    unfold Lib.indexByte
    have hb : ¬ b = c := fun e => h (by rw [e]; exact List.mem_cons_self ..)
    have ih := idx_out c l (fun e => h (List.mem_cons_of_mem _ e))
    rw [if_neg (by simpa using hb), ih]; rfl
theorem tw_split (l : List UInt8) : l.take (l.takeWhile (· != 32)).length = l.takeWhile (· != 32) ∧ l.drop ((l.takeWhile (· != 32)).length + 1) = (l.dropWhile (· != 32)).drop 1 := by
  have h := List.takeWhile_append_dropWhile (p := (· != 32)) (l := l)
  generalize l.takeWhile (· != 32) = a at *
  generalize l.dropWhile (· != 32) = b at *
  subst h
  refine ⟨by simp, ?_⟩
  rw [List.drop_append]; simp [show a.length + 1 - a.length = 1 by omega]
theorem S_extract0 (l : List UInt8) (k : Nat) (_ : k ≤ l.length) : Value.string ((ByteArray.mk l.toArray).extract 0 k) = S (l.take k) := by
  have := extract_take ⟨l.toArray⟩ k
  rw [← S_of, this]
theorem S_extractE (l : List UInt8) (k : Nat) : Value.string ((ByteArray.mk l.toArray).extract k (ByteArray.mk l.toArray).size) = S (l.drop k) := by
  have := Lib.extract_to_end ⟨l.toArray⟩ k
  rw [← S_of, this]
set_option maxHeartbeats 2000000 in
set_option maxRecDepth 100000 in
theorem cutL_any (t : List UInt8) (w : World) (hl : t.length ≤ 140737488355328) :
    Calls Tryz.prog 166 #[S t, S [32]] w fun e w' => e = .returned (.tuple #[S (cut1 t), S (cut2 t), .bool (cutH t)]) ∧ Below w.heap.size w w' := by
  have hsz : (ByteArray.mk t.toArray).size = t.length := rfl
  have HI : Hid (∀ w5 : World, Calls Tryz.prog 172 #[S t, S [32]] w5 fun e w' => e = .returned (.int .i64 (Lib.indexByte t 32)) ∧ w' = w5) := fun w5 => Any.stringslite_Index_one { Tryz.lays145 with } ⟨t.toArray⟩ 32 w5
  by_cases h : (32 : UInt8) ∈ t
  · have HC : Hid (cutH t = true) := by show _ = _; unfold cutH; simpa using h
    have hx := idx_in 32 t h
    obtain ⟨s1, s2⟩ := tw_split t
    have hle : (t.takeWhile (· != 32)).length + 1 ≤ t.length := by
      have h3 := cut_put t
      rw [if_pos HC.out] at h3
      have := congrArg List.length h3
      unfold cut1 at this
      simp at this; omega
    have e1 : Value.string ((ByteArray.mk t.toArray).extract 0 (t.takeWhile (· != 32)).length) = S (cut1 t) := by rw [S_extract0 _ _ (by omega), s1]; rfl
    have e2 : Value.string ((ByteArray.mk t.toArray).extract ((t.takeWhile (· != 32)).length + 1) (ByteArray.mk t.toArray).size) = S (cut2 t) := by rw [S_extractE, s2]; rfl
    have E1 : Hid _ := e1
    have E2 : Hid _ := e2
    rw [hx] at HI
    generalize (t.takeWhile (· != 32)).length = i at *
    clear h hx s1 s2 e1 e2
    have c1 : (0 : Int) ≤ ↑i := by omega
    have c2 : (↑i : Int) ≤ ↑(ByteArray.mk t.toArray).size := by rw [hsz]; omega
    have c3 : (0 : Int) ≤ ↑i + 1 := by omega
    have c4 : (↑i + 1 : Int) ≤ ↑(ByteArray.mk t.toArray).size := by rw [hsz]; omega
    have c5 : (↑i + 1 : Int) ≤ 9223372036854775807 := by omega
    go_enter Tryz.func166, Tryz.ntmps166
    go_wp2_with fail
    refine (HI.out _).mono ?_
    rintro e w' ⟨rfl, rfl⟩
    go_wp2_with fail
    go_quiet (fail)
    go_wp2
    go_ret3
    exact ⟨by rw [HC.out, ← E1.out, ← E2.out]; rfl, below_drewM (Below.refl _ _) _⟩
  · obtain ⟨h1, h2, h3⟩ := cut_none h
    have hx := idx_out 32 t h
    rw [hx] at HI
    have HC : Hid (cutH t = false ∧ cut1 t = t ∧ cut2 t = []) := ⟨h1, h2, h3⟩
    clear h1 h2 h3 h hx
    go_enter Tryz.func166, Tryz.ntmps166
    go_wp2_with fail
    refine (HI.out _).mono ?_
    rintro e w' ⟨rfl, rfl⟩
    go_wp2
    go_ret3
    exact ⟨by rw [HC.out.1, HC.out.2.1, HC.out.2.2]; rfl, Below.refl _ _⟩
set_option maxHeartbeats 2000000 in
theorem cutS_any (t : List UInt8) (w : World) (hl : t.length ≤ 140737488355328) :
    Calls Tryz.prog 154 #[S t, S [32]] w fun e w' => e = .returned (.tuple #[S (cut1 t), S (cut2 t), .bool (cutH t)]) ∧ Below w.heap.size w w' := by
  have HC := cutL_any t w hl
  have HC : Hid (Calls Tryz.prog 166 #[S t, S [32]] w fun e w' => e = .returned (.tuple #[S (cut1 t), S (cut2 t), .bool (cutH t)]) ∧ Below w.heap.size w w') := HC
  go_enter Tryz.func154, Tryz.ntmps154
  go_wp2_with fail
  refine Calls.mono HC.out ?_
  rintro e w' ⟨rfl, hb⟩
  go_wp2
  go_ret3
  exact ⟨rfl, hb⟩
set_option maxHeartbeats 2000000 in
theorem preL_any (t p : List UInt8) (w : World) (_ : t.length ≤ 140737488355328) :
    Calls Tryz.prog 139 #[S t, S p] w fun e w' => e = .returned (.tuple #[S (if Lib.hasPrefix t p = true then t.drop p.length else t), .bool (Lib.hasPrefix t p)]) ∧ w' = w := by
  have hsz : (ByteArray.mk t.toArray).size = t.length := rfl
  have hpz : (ByteArray.mk p.toArray).size = p.length := rfl
  have HH : Hid (∀ w5 : World, Calls Tryz.prog 153 #[S t, S p] w5 fun e w' => e = .returned (.bool (Lib.hasPrefix t p)) ∧ w' = w5) := fun w5 => Tryz.stringslite_HasPrefix ⟨t.toArray⟩ ⟨p.toArray⟩ w5
  cases h : Lib.hasPrefix t p
  · rw [h] at HH
    go_enter Tryz.func139, Tryz.ntmps139
    go_wp2_with fail
    refine (HH.out _).mono ?_
    rintro e w' ⟨rfl, rfl⟩
    go_wp2
    go_ret2
    exact ⟨rfl, rfl⟩
  · rw [h] at HH
    have hp := prefix_split h
    have hle : p.length ≤ t.length := by have := congrArg List.length hp; simp at this; omega
    have E2 : Hid (Value.string ((ByteArray.mk t.toArray).extract p.length (ByteArray.mk t.toArray).size) = S (t.drop p.length)) := S_extractE t p.length
    clear h hp
    have c2 : ((ByteArray.mk p.toArray).size : Int) ≤ ↑(ByteArray.mk t.toArray).size := by rw [hsz, hpz]; omega
    have c3 : (0 : Int) ≤ ((ByteArray.mk p.toArray).size : Int) := by omega
    go_enter Tryz.func139, Tryz.ntmps139
    go_wp2_with fail
    refine (HH.out _).mono ?_
    rintro e w' ⟨rfl, rfl⟩
    go_wp2
    go_ret2
    exact ⟨by rw [← E2.out]; rfl, rfl⟩
set_option maxHeartbeats 2000000 in
theorem pre_any (t p : List UInt8) (w : World) (hl : t.length ≤ 140737488355328) :
    Calls Tryz.prog 124 #[S t, S p] w fun e w' => e = .returned (.tuple #[S (if Lib.hasPrefix t p = true then t.drop p.length else t), .bool (Lib.hasPrefix t p)]) ∧ w' = w := by
  have HC : Hid (Calls Tryz.prog 139 #[S t, S p] w fun e w' => e = .returned (.tuple #[S (if Lib.hasPrefix t p = true then t.drop p.length else t), .bool (Lib.hasPrefix t p)]) ∧ w' = w) := preL_any t p w hl
  generalize S (if Lib.hasPrefix t p = true then t.drop p.length else t) = v at *
  generalize Lib.hasPrefix t p = b at *
  go_enter Tryz.func124, Tryz.ntmps124
  go_wp2_with fail
  refine Calls.mono HC.out ?_
  rintro e w' ⟨rfl, rfl⟩
  go_wp2
  go_ret2
  exact ⟨rfl, rfl⟩
theorem suffix_yes (l : List UInt8) : Lib.hasSuffix (l ++ [10]) [10] = true := by
  unfold Lib.hasSuffix; exact List.isSuffixOf_iff_suffix.2 ⟨l, rfl⟩
theorem suffix_no {l : List UInt8} (h : (10 : UInt8) ∉ l) : Lib.hasSuffix l [10] = false := by
  rw [Bool.eq_false_iff]
  intro e
  unfold Lib.hasSuffix at e
  obtain ⟨r, rfl⟩ := List.isSuffixOf_iff_suffix.1 e
  exact h (by simp)
set_option maxHeartbeats 2000000 in
theorem sufL_any (t : List UInt8) (w : World) (hl : t.length ≤ 140737488355328) :
    Calls Tryz.prog 123 #[S t, S [10]] w fun e w' => e = .returned (.tuple #[S (if Lib.hasSuffix t [10] = true then t.take (t.length - 1) else t), .bool (Lib.hasSuffix t [10])]) ∧ w' = w := by
  have hsz : (ByteArray.mk t.toArray).size = t.length := rfl
  have HH : Hid (∀ w5 : World, Calls Tryz.prog 138 #[S t, S [10]] w5 fun e w' => e = .returned (.bool (Lib.hasSuffix t [10])) ∧ w' = w5) := fun w5 => Tryz.stringslite_HasSuffix ⟨t.toArray⟩ ⟨#[10]⟩ w5 (by omega)
  cases h : Lib.hasSuffix t [10]
  · rw [h] at HH
    go_enter Tryz.func123, Tryz.ntmps123
    go_wp2_with fail
    refine (HH.out _).mono ?_
    rintro e w' ⟨rfl, rfl⟩
    go_wp2
    go_ret2
    exact ⟨rfl, rfl⟩
  · rw [h] at HH
    have hle : 1 ≤ t.length := by
      unfold Lib.hasSuffix at h
      obtain ⟨r, rfl⟩ := List.isSuffixOf_iff_suffix.1 h
      simp
    obtain ⟨k, hk⟩ : ∃ k, t.length = k + 1 := ⟨t.length - 1, by omega⟩
    have E1 : Hid (Value.string ((ByteArray.mk t.toArray).extract 0 k) = S (t.take k)) := S_extract0 t k (by omega)
    clear h
    have c2 : ((ByteArray.mk t.toArray).size : Int) = k + 1 := by rw [hsz, hk]; rfl
    have c3 : (((ByteArray.mk t.toArray).size : Int) - 1) = k := by rw [c2]; omega
    have c4 : (k : Int) ≤ ((ByteArray.mk t.toArray).size : Int) := by omega
    have c5 : (k : Int) ≤ 9223372036854775807 := by omega
    go_enter Tryz.func123, Tryz.ntmps123
    go_wp2_with fail
    refine (HH.out _).mono ?_
    rintro e w' ⟨rfl, rfl⟩
    go_wp2
    go_ret2
    exact ⟨by rw [← E1.out]; rfl, rfl⟩
set_option maxHeartbeats 2000000 in
theorem suf_any (t : List UInt8) (w : World) (hl : t.length ≤ 140737488355328) :
    Calls Tryz.prog 95 #[S t, S [10]] w fun e w' => e = .returned (.tuple #[S (if Lib.hasSuffix t [10] = true then t.take (t.length - 1) else t), .bool (Lib.hasSuffix t [10])]) ∧ w' = w := by
  have HC : Hid (Calls Tryz.prog 123 #[S t, S [10]] w fun e w' => e = .returned (.tuple #[S (if Lib.hasSuffix t [10] = true then t.take (t.length - 1) else t), .bool (Lib.hasSuffix t [10])]) ∧ w' = w) := sufL_any t w hl
  generalize S (if Lib.hasSuffix t [10] = true then t.take (t.length - 1) else t) = v at *
  generalize Lib.hasSuffix t [10] = b at *
  go_enter Tryz.func95, Tryz.ntmps95
  go_wp2_with fail
  refine Calls.mono HC.out ?_
  rintro e w' ⟨rfl, rfl⟩
  go_wp2
  go_ret2
  exact ⟨rfl, rfl⟩
end Go.Proofs.YtpkohocjgnodnaaGreatDoor
