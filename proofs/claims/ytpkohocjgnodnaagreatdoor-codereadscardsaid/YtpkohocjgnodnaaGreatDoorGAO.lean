/- What a line brings.; take.; The closure that cuts lines. -/
import Derived.Test.YtpkohocjgnodnaaGreatDoorGAK
import Derived.Test.YtpkohocjgnodnaaGreatDoorGAN
/- What a line brings. -/
namespace Go.Proofs.YtpkohocjgnodnaaGreatDoor
open Go.RowKit

def Lim (c : Cd) (N : Nat) : Prop := c.consts.length ≤ N ∧ c.globals.length ≤ N ∧ c.procs.length ≤ N ∧ ∀ p ∈ c.procs, p.code.length ≤ N
theorem addLast_mem {i : Ins} : ∀ {l : List Prc} {q : Prc}, q ∈ addLast i l → q ∈ l ∨ ∃ p ∈ l, q = ⟨p.params, p.code ++ [i]⟩
  | [], q, h => by cases h
  | [p], q, h => by
    have := List.mem_singleton.1 (show q ∈ [(⟨p.params, p.code ++ [i]⟩ : Prc)] from h)
    exact .inr ⟨p, by simp, this⟩
  | p :: p' :: r, q, h => by
    rcases List.mem_cons.1 (show q ∈ p :: addLast i (p' :: r) from h) with e | e
    · exact .inl (by rw [e]; simp)
    · rcases addLast_mem e with k | ⟨x, k1, k2⟩
      · exact .inl (List.mem_cons_of_mem _ k)
      · exact .inr ⟨x, List.mem_cons_of_mem _ k1, k2⟩
theorem addLast_len (i : Ins) : ∀ l : List Prc, (addLast i l).length = l.length
  | [] => rfl
  | [_] => rfl
  | p :: q :: r => by rw [addLast, List.length_cons, addLast_len i (q :: r)]; rfl
/-- What numbers and texts of what is read are. -/
structure GoodC (L : Nat) (c : Cd) : Prop where
  cs : ∀ x ∈ c.consts, Rng x
  gs : ∀ t ∈ c.globals, t.length ≤ L
  ps : ∀ p ∈ c.procs, (0 ≤ p.params ∧ p.params ≤ 2147483647) ∧ ∀ x ∈ p.code, (0 ≤ x.op ∧ x.op ≤ 255) ∧ (-9223372036854775808 ≤ x.a ∧ x.a ≤ 9223372036854775807)
/-- What a line that is taken brings. -/
theorem takeV_cases {c c' : Cd} {l : List UInt8} (h : takeV c l = some c') : (∃ x, Rng x ∧ c' = ⟨c.consts ++ [x], c.procs, c.globals⟩) ∨ (∃ t : List UInt8, t.length ≤ l.length ∧ c' = ⟨c.consts, c.procs, c.globals ++ [t]⟩) ∨ (∃ n : Int, (0 ≤ n ∧ n ≤ 2147483647) ∧ c' = ⟨c.consts, c.procs ++ [⟨n, []⟩], c.globals⟩) ∨ (∃ i : Ins, ((0 ≤ i.op ∧ i.op ≤ 255) ∧ (-9223372036854775808 ≤ i.a ∧ i.a ≤ 9223372036854775807)) ∧ c' = ⟨c.consts, addLast i c.procs, c.globals⟩) := by
  unfold takeV at h
  split at h
  · unfold takeC at h
    split at h
    · rename_i x hx
      split at h
      · cases h; exact .inl ⟨x, (constV_is hx).2, rfl⟩
      · cases h
    · cases h
  · split at h
    · unfold takeG at h
      split at h
      · cases h; exact .inr (.inl ⟨_, by rw [List.length_drop]; omega, rfl⟩)
      · cases h
    · split at h
      · unfold takeP at h
        split at h
        · rename_i n hn; cases h; exact .inr (.inr (.inl ⟨n, (countV_is hn).2, rfl⟩))
        · cases h
      · split at h
        · unfold takeI at h
          split at h
          · rename_i i hi
            split at h
            · cases h
            · cases h
              have := (instrV_is hi).2
              exact .inr (.inr (.inr ⟨i, ⟨by omega, by omega⟩, rfl⟩))
          · cases h
        · cases h
theorem Lim.take {c c' : Cd} {l : List UInt8} {N : Nat} (hl : Lim c N) (h : takeV c l = some c') : Lim c' (N + 1) := by
  obtain ⟨h1, h2, h3, h4⟩ := hl
  rcases takeV_cases h with ⟨x, _, rfl⟩ | ⟨t, _, rfl⟩ | ⟨n, _, rfl⟩ | ⟨i, _, rfl⟩
  · exact ⟨by simp; omega, by show c.globals.length ≤ _; omega, by show c.procs.length ≤ _; omega, fun p hp => Nat.le_succ_of_le (h4 p hp)⟩
  · exact ⟨by show c.consts.length ≤ _; omega, by simp; omega, by show c.procs.length ≤ _; omega, fun p hp => Nat.le_succ_of_le (h4 p hp)⟩
  · refine ⟨by show c.consts.length ≤ _; omega, by show c.globals.length ≤ _; omega, by simp; omega, fun p hp => ?_⟩
    rcases List.mem_append.1 hp with e | e
    · exact Nat.le_succ_of_le (h4 p e)
    · have := List.mem_singleton.1 e; subst this; exact Nat.zero_le _
  · refine ⟨by show c.consts.length ≤ _; omega, by show c.globals.length ≤ _; omega, by show (addLast i c.procs).length ≤ _; rw [addLast_len]; omega, fun p hp => ?_⟩
    rcases addLast_mem hp with e | ⟨q, e, rfl⟩
    · exact Nat.le_succ_of_le (h4 p e)
    · have := h4 q e; simp; omega
theorem GoodC.take {c c' : Cd} {l : List UInt8} {L : Nat} (hg : GoodC L c) (h : takeV c l = some c') (hl : l.length ≤ L) : GoodC L c' := by
  rcases takeV_cases h with ⟨x, hx, rfl⟩ | ⟨t, ht, rfl⟩ | ⟨n, hn, rfl⟩ | ⟨i, hi, rfl⟩
  · refine ⟨fun y hy => ?_, hg.gs, hg.ps⟩
    rcases List.mem_append.1 hy with e | e
    · exact hg.cs y e
    · have := List.mem_singleton.1 e; subst this; exact hx
  · refine ⟨hg.cs, fun y hy => ?_, hg.ps⟩
    rcases List.mem_append.1 hy with e | e
    · exact hg.gs y e
    · have := List.mem_singleton.1 e; subst this; omega
  · refine ⟨hg.cs, hg.gs, fun p hp => ?_⟩
    rcases List.mem_append.1 hp with e | e
    · exact hg.ps p e
    · have := List.mem_singleton.1 e; subst this; exact ⟨hn, fun x hx => by cases hx⟩
  · refine ⟨hg.cs, hg.gs, fun p hp => ?_⟩
    rcases addLast_mem hp with e | ⟨q, e, rfl⟩
    · exact hg.ps p e
    · refine ⟨(hg.ps q e).1, fun x hx => ?_⟩
      rcases List.mem_append.1 hx with k | k
      · exact (hg.ps q e).2 x k
      · have := List.mem_singleton.1 k; subst this; exact hi
end Go.Proofs.YtpkohocjgnodnaaGreatDoor

/- take. -/
namespace Go.Proofs.YtpkohocjgnodnaaGreatDoor
open Go.RowKit

theorem pre_no {l p : List UInt8} (h : Lib.hasPrefix l p = false) (hl : l.length ≤ 140737488355328) (w : World) : Calls Tryz.prog 124 #[S l, S p] w fun e w' => e = .returned (.tuple #[S l, .bool false]) ∧ w' = w := by
  have := pre_any l p w hl
  rw [h] at this
  exact this
theorem pre_yes {l p : List UInt8} (h : Lib.hasPrefix l p = true) {k : Nat} (hk : p.length = k) (hl : l.length ≤ 140737488355328) (w : World) : Calls Tryz.prog 124 #[S l, S p] w fun e w' => e = .returned (.tuple #[S (l.drop k), .bool true]) ∧ w' = w := by
  have := pre_any l p w hl
  rw [h] at this
  rw [← hk]
  exact this
theorem tookRet {o : Option Cd} {e e' : Ending} {w w' : World} {pb base : Nat} (h : Took o e w' pb base ∧ FrP pb base w w') (he : e' = e) : Took o e' w' pb base ∧ FrP pb base w w' := by subst he; exact h
set_option maxRecDepth 100000 in
set_option maxHeartbeats 4000000 in
theorem take_any (c : Cd) (l : List UInt8) (pb base : Nat) (w : World) (hl : l.length ≤ 140737488355328) (hE : Env w) (hP : Ps w pb base c) (hn : Lim c 1099511627776) :
    Calls Tryz.prog 96 #[.pointer (some ⟨pb, 0, none⟩), S l] w fun e w' => Took (takeV c l) e w' pb base ∧ FrP pb base w w' := by
  obtain ⟨n1, n2, n3, n4⟩ := hn
  have hpb : pb < base ∧ base ≤ w.heap.size := by obtain ⟨_, _, _, _, _, _, h3, h4⟩ := hP; exact ⟨h3, h4⟩
  have hd : ∀ k, (l.drop k).length ≤ 140737488355328 := fun k => by rw [List.length_drop]; omega
  have HC1 : Hid (Calls Tryz.prog 125 #[.pointer (some ⟨pb, 0, none⟩), S (l.drop 6)] w fun e w' => Took (takeC c (l.drop 6)) e w' pb base ∧ FrP pb base w w') := takeConst_any c _ pb base w (hd 6) hE hP ⟨n1, n2, n3⟩
  have HC2 : Hid (Calls Tryz.prog 126 #[.pointer (some ⟨pb, 0, none⟩), S (l.drop 7)] w fun e w' => Took (takeG c (l.drop 7)) e w' pb base ∧ FrP pb base w w') := takeGlobal_any c _ pb base w (hd 7) hP ⟨n1, n2, n3⟩
  have HC3 : Hid (Calls Tryz.prog 127 #[.pointer (some ⟨pb, 0, none⟩), S (l.drop 5)] w fun e w' => Took (takeP c (l.drop 5)) e w' pb base ∧ FrP pb base w w') := takeProc_any c _ pb base w (hd 5) hE hP ⟨n1, n2, n3⟩
  have HC4 : Hid (Calls Tryz.prog 128 #[.pointer (some ⟨pb, 0, none⟩), S (l.drop 1)] w fun e w' => Took (takeI c (l.drop 1)) e w' pb base ∧ FrP pb base w w') := takeInstr_any c _ pb base w (hd 1) hE hP ⟨n3, n4⟩
  have HV : Hid (takeV c l = if Lib.hasPrefix l constA = true then takeC c (l.drop 6) else if Lib.hasPrefix l globA = true then takeG c (l.drop 7) else if Lib.hasPrefix l procA = true then takeP c (l.drop 5) else if Lib.hasPrefix l [32] = true then takeI c (l.drop 1) else none) := rfl
  have fin : ∀ (o : Option Cd) (e : Ending) (w' : World), takeV c l = o → Took o e w' pb base ∧ FrP pb base w w' → (∃ b, e = .returned (.bool b)) ∧ (Took (takeV c l) e w' pb base ∧ FrP pb base w w') := fun o e w' ho h => by
    refine ⟨?_, by rw [ho]; exact h⟩
    rcases h.1 with ⟨_, _, k, _⟩ | ⟨_, k⟩
    · exact ⟨_, k⟩
    · exact ⟨_, k⟩
  have HFin : Hid (∀ (o : Option Cd) (e : Ending) (w' : World), takeV c l = o → Took o e w' pb base ∧ FrP pb base w w' → (∃ b, e = .returned (.bool b)) ∧ (Took (takeV c l) e w' pb base ∧ FrP pb base w w')) := fin
  have HL : Hid (l.length ≤ 140737488355328) := hl
  clear fin hE hP hd n1 n2 n3 n4 hl
  cases h1 : Lib.hasPrefix l constA
  · cases h2 : Lib.hasPrefix l globA
    · cases h3 : Lib.hasPrefix l procA
      · cases h4 : Lib.hasPrefix l [32]
        · have HV2 : Hid (takeV c l = none) := by show _ = _; rw [HV.out, h1, h2, h3, h4]; rfl
          have H1 : Hid (∀ w5 : World, Calls Tryz.prog 124 #[S l, S constA] w5 fun e w' => e = .returned (.tuple #[S l, .bool false]) ∧ w' = w5) := fun w5 => pre_no h1 HL.out w5
          have H2 : Hid (∀ w5 : World, Calls Tryz.prog 124 #[S l, S globA] w5 fun e w' => e = .returned (.tuple #[S l, .bool false]) ∧ w' = w5) := fun w5 => pre_no h2 HL.out w5
          have H3 : Hid (∀ w5 : World, Calls Tryz.prog 124 #[S l, S procA] w5 fun e w' => e = .returned (.tuple #[S l, .bool false]) ∧ w' = w5) := fun w5 => pre_no h3 HL.out w5
          have H4 : Hid (∀ w5 : World, Calls Tryz.prog 124 #[S l, S [32]] w5 fun e w' => e = .returned (.tuple #[S l, .bool false]) ∧ w' = w5) := fun w5 => pre_no h4 HL.out w5
          clear h1 h2 h3 h4 HV HC1 HC2 HC3 HC4
          go_enter Tryz.func96, Tryz.ntmps96
          go_wp2_with fail
          refine (H1.out _).mono ?_
          rintro e w' ⟨rfl, rfl⟩
          go_wp2_with fail
          refine (H2.out _).mono ?_
          rintro e w' ⟨rfl, rfl⟩
          go_wp2_with fail
          refine (H3.out _).mono ?_
          rintro e w' ⟨rfl, rfl⟩
          go_wp2_with fail
          refine (H4.out _).mono ?_
          rintro e w' ⟨rfl, rfl⟩
          go_wp2
          go_ret
          exact ⟨.inr ⟨HV2.out, rfl⟩, FrP.below (Below.refl _ _) hpb.1 hpb.2⟩
        · have HV2 : Hid (takeV c l = takeI c (l.drop 1)) := by show _ = _; rw [HV.out, h1, h2, h3, h4]; rfl
          have H1 : Hid (∀ w5 : World, Calls Tryz.prog 124 #[S l, S constA] w5 fun e w' => e = .returned (.tuple #[S l, .bool false]) ∧ w' = w5) := fun w5 => pre_no h1 HL.out w5
          have H2 : Hid (∀ w5 : World, Calls Tryz.prog 124 #[S l, S globA] w5 fun e w' => e = .returned (.tuple #[S l, .bool false]) ∧ w' = w5) := fun w5 => pre_no h2 HL.out w5
          have H3 : Hid (∀ w5 : World, Calls Tryz.prog 124 #[S l, S procA] w5 fun e w' => e = .returned (.tuple #[S l, .bool false]) ∧ w' = w5) := fun w5 => pre_no h3 HL.out w5
          have H4 : Hid (∀ w5 : World, Calls Tryz.prog 124 #[S l, S [32]] w5 fun e w' => e = .returned (.tuple #[S (l.drop 1), .bool true]) ∧ w' = w5) := fun w5 => pre_yes h4 rfl HL.out w5
          clear h1 h2 h3 h4 HV HC1 HC2 HC3
          generalize l.drop 1 = l1 at *
          go_enter Tryz.func96, Tryz.ntmps96
          go_wp2_with fail
          refine (H1.out _).mono ?_
          rintro e w' ⟨rfl, rfl⟩
          go_wp2_with fail
          refine (H2.out _).mono ?_
          rintro e w' ⟨rfl, rfl⟩
          go_wp2_with fail
          refine (H3.out _).mono ?_
          rintro e w' ⟨rfl, rfl⟩
          go_wp2_with fail
          refine (H4.out _).mono ?_
          rintro e w' ⟨rfl, rfl⟩
          go_wp2_with fail
          refine Calls.mono HC4.out ?_
          intro e w2 h
          have HH : Hid ((∃ b, e = .returned (.bool b)) ∧ (Took (takeV c l) e w2 pb base ∧ FrP pb base w' w2)) := HFin.out _ e w2 HV2.out h
          obtain ⟨b, he⟩ := HH.out.1
          subst he
          clear h
          clear HFin HV2
          go_wp2
          go_ret
          refine tookRet (e := .returned (.bool b)) ?_ rfl
          exact HH.out.2
      · have HV2 : Hid (takeV c l = takeP c (l.drop 5)) := by show _ = _; rw [HV.out, h1, h2, h3]; rfl
        have H1 : Hid (∀ w5 : World, Calls Tryz.prog 124 #[S l, S constA] w5 fun e w' => e = .returned (.tuple #[S l, .bool false]) ∧ w' = w5) := fun w5 => pre_no h1 HL.out w5
        have H2 : Hid (∀ w5 : World, Calls Tryz.prog 124 #[S l, S globA] w5 fun e w' => e = .returned (.tuple #[S l, .bool false]) ∧ w' = w5) := fun w5 => pre_no h2 HL.out w5
        have H3 : Hid (∀ w5 : World, Calls Tryz.prog 124 #[S l, S procA] w5 fun e w' => e = .returned (.tuple #[S (l.drop 5), .bool true]) ∧ w' = w5) := fun w5 => pre_yes h3 rfl HL.out w5
        clear h1 h2 h3 HV HC1 HC2 HC4
        go_enter Tryz.func96, Tryz.ntmps96
        go_wp2_with fail
        refine (H1.out _).mono ?_
        rintro e w' ⟨rfl, rfl⟩
        go_wp2_with fail
        refine (H2.out _).mono ?_
        rintro e w' ⟨rfl, rfl⟩
        go_wp2_with fail
        refine (H3.out _).mono ?_
        rintro e w' ⟨rfl, rfl⟩
        go_wp2_with fail
        refine Calls.mono HC3.out ?_
        intro e w2 h
        have HH : Hid ((∃ b, e = .returned (.bool b)) ∧ (Took (takeV c l) e w2 pb base ∧ FrP pb base w' w2)) := HFin.out _ e w2 HV2.out h
        obtain ⟨b, he⟩ := HH.out.1
        subst he
        clear h
        clear HFin HV2
        go_wp2
        go_ret
        refine tookRet (e := .returned (.bool b)) ?_ rfl
        exact HH.out.2
    · have HV2 : Hid (takeV c l = takeG c (l.drop 7)) := by show _ = _; rw [HV.out, h1, h2]; rfl
      have H1 : Hid (∀ w5 : World, Calls Tryz.prog 124 #[S l, S constA] w5 fun e w' => e = .returned (.tuple #[S l, .bool false]) ∧ w' = w5) := fun w5 => pre_no h1 HL.out w5
      have H2 : Hid (∀ w5 : World, Calls Tryz.prog 124 #[S l, S globA] w5 fun e w' => e = .returned (.tuple #[S (l.drop 7), .bool true]) ∧ w' = w5) := fun w5 => pre_yes h2 rfl HL.out w5
      clear h1 h2 HV HC1 HC3 HC4
      go_enter Tryz.func96, Tryz.ntmps96
      go_wp2_with fail
      refine (H1.out _).mono ?_
      rintro e w' ⟨rfl, rfl⟩
      go_wp2_with fail
      refine (H2.out _).mono ?_
      rintro e w' ⟨rfl, rfl⟩
      go_wp2_with fail
      refine Calls.mono HC2.out ?_
      intro e w2 h
      have HH : Hid ((∃ b, e = .returned (.bool b)) ∧ (Took (takeV c l) e w2 pb base ∧ FrP pb base w' w2)) := HFin.out _ e w2 HV2.out h
      obtain ⟨b, he⟩ := HH.out.1
      subst he
      clear h
      clear HFin HV2
      go_wp2
      go_ret
      refine tookRet (e := .returned (.bool b)) ?_ rfl
      exact HH.out.2
  · have HV2 : Hid (takeV c l = takeC c (l.drop 6)) := by show _ = _; rw [HV.out, h1]; rfl
    have H1 : Hid (∀ w5 : World, Calls Tryz.prog 124 #[S l, S constA] w5 fun e w' => e = .returned (.tuple #[S (l.drop 6), .bool true]) ∧ w' = w5) := fun w5 => pre_yes h1 rfl HL.out w5
    clear h1 HV HC2 HC3 HC4
    go_enter Tryz.func96, Tryz.ntmps96
    go_wp2_with fail
    refine (H1.out _).mono ?_
    rintro e w' ⟨rfl, rfl⟩
    go_wp2_with fail
    refine Calls.mono HC1.out ?_
    intro e w2 h
    have HH : Hid ((∃ b, e = .returned (.bool b)) ∧ (Took (takeV c l) e w2 pb base ∧ FrP pb base w' w2)) := HFin.out _ e w2 HV2.out h
    obtain ⟨b, he⟩ := HH.out.1
    subst he
    clear h
    clear HFin HV2
    go_wp2
    go_ret
    refine tookRet (e := .returned (.bool b)) ?_ rfl
    exact HH.out.2
end Go.Proofs.YtpkohocjgnodnaaGreatDoor

/- The closure that cuts lines. -/
namespace Go.Proofs.YtpkohocjgnodnaaGreatDoor
open Go.RowKit

def lineN (s : List UInt8) : Nat := if s.contains 10 = true then (line1 s).length + 1 else s.length
set_option maxRecDepth 100000 in
set_option maxHeartbeats 4000000 in
theorem cutter_any (s : List UInt8) (sb : Nat) (w : World) (hl : s.length ≤ 140737488355328) (hc : w.cell? ⟨sb, 0, none⟩ = some (S s)) (hf : w.frozen? ⟨sb, 0, none⟩ = false) :
    Calls Tryz.prog 121 #[.pointer (some ⟨sb, 0, none⟩)] w fun e w' => e = .returned (S (s.take (lineN s))) ∧ w' = w.setCell ⟨sb, 0, none⟩ (S (s.drop (lineN s))) := by
  have hsz : (ByteArray.mk s.toArray).size = s.length := rfl
  have HI : Hid (∀ w5 : World, Calls Tryz.prog 122 #[S s, .int .u8 10] w5 fun e w' => e = .returned (.int .i64 (Lib.indexByte s 10)) ∧ w' = w5) := fun w5 => Tryz.strings_IndexByte ⟨s.toArray⟩ 10 w5
  have E1 : Hid (∀ k, k ≤ s.length → Value.string ((ByteArray.mk s.toArray).extract 0 k) = S (s.take k)) := fun k hk => S_extract0 s k hk
  have E2 : Hid (∀ k, Value.string ((ByteArray.mk s.toArray).extract k (ByteArray.mk s.toArray).size) = S (s.drop k)) := fun k => S_extractE s k
  by_cases h : (10 : UInt8) ∈ s
  · have hN : lineN s = (line1 s).length + 1 := by unfold lineN; rw [if_pos (by simpa using h)]
    have hx : Lib.indexByte s 10 = (line1 s).length := idx_in 10 s h
    have hle : (line1 s).length + 1 ≤ s.length := by
      have := congrArg List.length (line_split h).1
      simp at this; omega
    rw [hx] at HI
    rw [hN]
    generalize (line1 s).length = i at *
    clear h hx hN
    have c2 : ((i : Int) + 1) ≤ ↑(ByteArray.mk s.toArray).size := by rw [hsz]; omega
    have c3 : (0 : Int) ≤ (i : Int) + 1 := by omega
    have c4 : ((i : Int) + 1 == 0) = false := by simp; omega
    have c5 : (i : Int) + 1 ≤ 9223372036854775807 := by omega
    go_enter Tryz.func121, Tryz.ntmps121
    go_wp2_with fail
    refine (HI.out _).mono ?_
    rintro e w' ⟨rfl, rfl⟩
    go_wp2
    go_ret
    exact ⟨by rw [← E1.out _ hle]; rfl, by rw [← E2.out]; rfl⟩
  · have hN : lineN s = s.length := by unfold lineN; rw [if_neg (by simpa using h)]
    have hx := idx_out 10 s h
    rw [hx] at HI
    rw [hN]
    clear h hx hN
    have c2 : ((s.length : Nat) : Int) ≤ ↑(ByteArray.mk s.toArray).size := by rw [hsz]; omega
    go_enter Tryz.func121, Tryz.ntmps121
    go_wp2_with fail
    refine (HI.out _).mono ?_
    rintro e w' ⟨rfl, rfl⟩
    go_wp2
    go_ret
    exact ⟨by rw [← E1.out _ (Nat.le_refl _)]; rfl, by rw [List.drop_length]; rfl⟩
end Go.Proofs.YtpkohocjgnodnaaGreatDoor
