/- There and back: plain mathematics besides. -/
import Derived.Test.YtnblieohdngmiabGreatDoorHZOf
namespace Go.Proofs.YtnblieohdngmiabGreatDoor

theorem parsedF_pos : ∀ (k : Nat) (s : List UInt8) (c : Cd) (n : Int), 1 ≤ n → (parsedF k s c n).2 = 0 ∨ 1 ≤ (parsedF k s c n).2
  | 0, _, _, _, _ => .inl rfl
  | k + 1, s, c, n, hn => by
    unfold parsedF
    split
    · exact .inl rfl
    · split
      · split
        · exact parsedF_pos k _ _ (n + 1) (by omega)
        · exact .inr hn
      · exact .inr hn
theorem parsedV_pos (s : List UInt8) : (parsedV s noCd 1).2 = 0 ∨ 1 ≤ (parsedV s noCd 1).2 := parsedF_pos _ s noCd 1 (by omega)
theorem chkP_err (nc ng np : Nat) (p : Prc) : (chkP nc ng np p).1 = 0 ∨ (chkP nc ng np p).1 = 2 ∨ (chkP nc ng np p).1 = 80 := by
  unfold chkP
  split
  · exact .inr (.inl rfl)
  · split
    · exact .inr (.inr rfl)
    · split
      · exact .inr (.inr rfl)
      · unfold chkEnd
        split
        · exact .inr (.inr rfl)
        · split
          · unfold endP
            split
            · exact .inr (.inr rfl)
            · exact .inl rfl
          · exact .inr (.inr rfl)
theorem chkPs_err (nc ng np : Nat) : ∀ (l : List Prc) (j : Nat), (chkPs nc ng np l j).1 = 0 ∨ (chkPs nc ng np l j).1 = 2 ∨ (chkPs nc ng np l j).1 = 80
  | [], _ => .inl rfl
  | p :: l, j => by
    unfold chkPs
    split
    · exact chkPs_err nc ng np l (j + 1)
    · exact chkP_err nc ng np p
theorem chkC_err (c : Cd) : (chkC c).1 = 0 ∨ (chkC c).1 = 2 ∨ (chkC c).1 = 80 := by
  unfold chkC
  split
  · exact chkPs_err _ _ _ _ _
  · unfold listsE
    split
    · exact .inr (.inl rfl)
    · split
      · exact .inr (.inr rfl)
      · split
        · split
          · exact .inl rfl
          · exact .inr (.inr rfl)
        · exact .inr (.inr rfl)
/-- Numbers that an int64 holds. -/
def Fit64 (n : Int) : Prop := -9223372036854775808 ≤ n ∧ n ≤ 9223372036854775807
theorem itoa_len {n : Int} (h : Fit64 n) : (Lib.itoa n).length ≤ 100 := Nat.le_trans (Lib.itoa_length_le _ h.1 h.2) (by decide)
theorem getD_len {l : List (List UInt8)} (h : ∀ t ∈ l, t.length ≤ 50) (k : Nat) : (l.getD k []).length ≤ 50 := by
  rw [List.getD_eq_getElem?_getD]
  cases e : l[k]? with
  | none => simp
  | some t => exact h t (List.mem_of_getElem? e)
theorem tagL (k : Nat) : (tagNames.getD k []).length ≤ 50 := getD_len (by decide) k
theorem opL (k : Nat) : (opNames.getD k []).length ≤ 50 := getD_len (by decide) k
theorem ofN_fit (x : Int) : Fit64 (ofN x) := by
  unfold ofN Fit64
  split
  · have := nm_bd x; omega
  · omega
theorem constT_len (x : Int) : (constT x).length ≤ 151 := by
  unfold constT
  have h1 := tagL (ofT x).toNat
  have h2 := itoa_len (ofN_fit x)
  split
  · rw [List.length_append, List.length_append]; simp only [List.length_cons, List.length_nil]; omega
  · omega
theorem instrT_len {x : Ins} (h : Fit64 x.a) : (instrT x).length ≤ 151 := by
  unfold instrT
  have h1 := opL x.op.toNat
  have h2 := itoa_len h
  split
  · rw [List.length_append, List.length_append]; simp only [List.length_cons, List.length_nil]; omega
  · omega
theorem constsT_len : ∀ l : List Int, (constsT l).length ≤ 200 * l.length
  | [] => by simp [constsT]
  | x :: l => by
    have := constsT_len l
    have := constT_len x
    simp only [constsT, List.length_append, List.length_cons, List.length_nil]; omega
theorem globsT_len : ∀ l : List (List UInt8), (globsT l).length ≤ 200 * wtT l
  | [] => by simp [globsT]
  | x :: l => by
    have := globsT_len l
    simp only [globsT, wtT, List.length_append, List.length_cons, List.length_nil]; omega
theorem codeT_len : ∀ l : List Ins, (∀ x ∈ l, Fit64 x.a) → (codeT l).length ≤ 200 * l.length
  | [], _ => by simp [codeT]
  | x :: l, h => by
    have := codeT_len l (fun y hy => h y (List.mem_cons_of_mem _ hy))
    have := instrT_len (h x (List.mem_cons_self ..))
    simp only [codeT, List.length_append, List.length_cons, List.length_nil]; omega
theorem procsT_len : ∀ l : List Prc, (∀ p ∈ l, Fit64 p.params ∧ ∀ x ∈ p.code, Fit64 x.a) → (procsT l).length ≤ 200 * wtP l
  | [], _ => by simp [procsT]
  | p :: l, h => by
    have := procsT_len l (fun y hy => h y (List.mem_cons_of_mem _ hy))
    have hp := h p (List.mem_cons_self ..)
    have := itoa_len hp.1
    have := codeT_len p.code hp.2
    simp only [procsT, wtP, List.length_append, List.length_cons, List.length_nil]; omega
theorem written_len {c : Cd} (h : ∀ p ∈ c.procs, Fit64 p.params ∧ ∀ x ∈ p.code, Fit64 x.a) : (writtenT c).length ≤ 200 * wtC c := by
  have h1 := constsT_len c.consts
  have h2 := globsT_len c.globals
  have h3 := procsT_len c.procs h
  unfold writtenT wtC
  simp only [List.length_append]; omega
end Go.Proofs.YtnblieohdngmiabGreatDoor
