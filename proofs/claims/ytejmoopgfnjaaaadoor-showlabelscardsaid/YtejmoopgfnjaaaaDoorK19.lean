/- What a teller tells, as a relation: every cell is entered once, so the telling has an end. Plain mathematics.; Decimal numerals: what they are made of, and that no two numbers have one. -/
import Derived.Test.YtejmoopgfnjaaaaDoorK11
import Derived.Test.YtejmoopgfnjaaaaDoorK12
import Derived.Test.YtejmoopgfnjaaaaDoorK18
import Derived.Lib.ItoaNum
/- What a teller tells, as a relation: every cell is entered once, so the telling has an end. Plain mathematics. -/
namespace Go.Proofs.YtejmoopgfnjaaaaDoor
open Go.RowKit Go.Maps Go.ChangeMaps

def zCl : Cl := ⟨0, 0, 0, 0⟩
/-- A sum over the cells that have not been entered. -/
def rsum (g : Nat → Nat) (V : List Nat) : Nat → Nat
  | 0 => 0
  | n + 1 => rsum g V n + if n ∈ V then 0 else g n
theorem rsum_cons {g : Nat → Nat} {V : List Nat} {c : Nat} (hc : c ∉ V) : ∀ n, rsum g V n = rsum g (c :: V) n + if c < n then g c else 0
  | 0 => by simp [rsum]
  | n + 1 => by
    have ih := rsum_cons (g := g) hc n
    unfold rsum
    rw [ih]
    by_cases h : n = c
    · subst h; simp [hc]
    · have h1 : (n ∈ c :: V) = (n ∈ V) := by simp [h]
      have h2 : (c < n + 1) = (c < n) := by rw [eq_iff_iff]; omega
      simp only [h1, h2]; omega
/-- References to d out of a cell; out of all that have not been entered; how many these are. -/
def gC (X : List Cl) (d i : Nat) : Nat := cntM (fieldsM (X.getD i zCl)) d
def rest (X : List Cl) (V : List Nat) (d : Nat) : Nat := rsum (gC X d) V X.length
def un (X : List Cl) (V : List Nat) : Nat := rsum (fun _ => 1) V X.length
theorem cnt_cons (x : Int) (P : List Int) (d : Nat) : cntM (x :: P) d = (if refN x = some d then 1 else 0) + cntM P d := by
  unfold cntM
  by_cases h : refN x = some d
  · simp [h]; omega
  · simp [h]
theorem cnt_app (l m : List Int) (d : Nat) : cntM (l ++ m) d = cntM l d + cntM m d := by unfold cntM; rw [List.filter_append, List.length_append]
theorem rest_enter {X : List Cl} {V : List Nat} {c : Nat} {y : Cl} (hc : c ∉ V) (hy : X[c]? = some y) (d : Nat) : rest X V d = rest X (c :: V) d + cntM (fieldsM y) d := by
  have hl := (List.getElem?_eq_some_iff.1 hy).1
  unfold rest
  rw [rsum_cons hc, if_pos hl]
  unfold gC
  rw [List.getD_eq_getElem?_getD, hy]; rfl
theorem un_enter {X : List Cl} {V : List Nat} {c : Nat} {y : Cl} (hc : c ∉ V) (hy : X[c]? = some y) : un X V = un X (c :: V) + 1 := by
  have hl := (List.getElem?_eq_some_iff.1 hy).1
  unfold un
  rw [rsum_cons hc, if_pos hl]
/-- What is pending and what has not been entered names no cell oftener than it is met. -/
structure Inv (X : List Cl) (met : Nat → Nat) (V : List Nat) (P : List Int) : Prop where
  le : ∀ d, cntM P d + rest X V d ≤ met d
  lt : ∀ d ∈ V, cntM P d + rest X V d < met d
theorem Inv.skip {X : List Cl} {met : Nat → Nat} {V : List Nat} {x : Int} {P : List Int} (h : Inv X met V (x :: P)) : Inv X met V P :=
  ⟨fun d => by have := h.le d; rw [cnt_cons] at this; omega, fun d hd => by have := h.lt d hd; rw [cnt_cons] at this; omega⟩
theorem Inv.enter {X : List Cl} {met : Nat → Nat} {V : List Nat} {x : Int} {P : List Int} (h : Inv X met V (x :: P)) {c : Nat} {y : Cl} (hx : refN x = some c) (hc : c ∉ V) (hy : X[c]? = some y) : Inv X met (c :: V) (fieldsM y ++ P) := by
  refine ⟨fun d => ?_, fun d hd => ?_⟩
  · have := h.le d
    rw [cnt_cons, rest_enter hc hy] at this
    rw [cnt_app]; omega
  · have h1 := h.le d
    rw [cnt_cons, rest_enter hc hy] at h1
    rw [cnt_app]
    rcases List.mem_cons.1 hd with rfl | hd
    · rw [if_pos hx] at h1; omega
    · have h2 := h.lt d hd
      rw [cnt_cons, rest_enter hc hy] at h2
      omega
theorem Inv.pos {X : List Cl} {met : Nat → Nat} {V : List Nat} {x : Int} {P : List Int} (h : Inv X met V (x :: P)) {c : Nat} (hx : refN x = some c) : 1 ≤ met c := by
  have := h.le c
  rw [cnt_cons, if_pos hx] at this; omega
theorem Inv.once {X : List Cl} {met : Nat → Nat} {V : List Nat} {x : Int} {P : List Int} (h : Inv X met V (x :: P)) {c : Nat} (hx : refN x = some c) (h1 : met c = 1) : c ∉ V := fun hm => by
  have := h.lt c hm
  rw [cnt_cons, if_pos hx] at this; omega
/-- Labels have come just of what was entered and is met more than once. -/
structure Fl (met : Nat → Nat) (f : Nat → Lab) (k : Nat) (V : List Nat) : Prop where
  mt : ∀ c, (f c).met = met c
  came : ∀ c, (f c).came = true ↔ (c ∈ V ∧ met c ≠ 1)
  num : ∀ c, (f c).came = true → ∃ j : Nat, (f c).num = j ∧ j < k
  inj : ∀ c d, (f c).came = true → (f d).came = true → (f c).num = (f d).num → c = d
theorem Fl.enter {met : Nat → Nat} {f : Nat → Lab} {k : Nat} {V : List Nat} (h : Fl met f k V) {c : Nat} (hc : c ∉ V) : Fl met (preF f k c) (preK f k c) (c :: V) := by
  have h0 : ¬ (f c).came = true := fun e => hc ((h.came c).1 e).1
  by_cases h1 : (f c).met = 1
  · have hm : met c = 1 := by have := h.mt c; omega
    unfold preF preK
    rw [if_pos h1, if_pos h1]
    refine ⟨h.mt, fun d => ?_, h.num, h.inj⟩
    rw [h.came d]
    constructor
    · exact fun ⟨a, b⟩ => ⟨List.mem_cons_of_mem _ a, b⟩
    · rintro ⟨a, b⟩
      rcases List.mem_cons.1 a with rfl | a
      · exact absurd hm b
      · exact ⟨a, b⟩
  · have hm : met c ≠ 1 := fun e => h1 (by rw [h.mt c, e]; rfl)
    unfold preF preK
    rw [if_neg h1, if_neg h1]
    refine ⟨fun d => ?_, fun d => ?_, fun d hd => ?_, fun d e hd he hq => ?_⟩
    · unfold getL
      split
      · rename_i e; subst e; exact h.mt d
      · exact h.mt d
    · unfold getL
      split
      · rename_i e; subst e; simp [hm]
      · rename_i e
        rw [h.came d]
        constructor
        · exact fun ⟨a, b⟩ => ⟨List.mem_cons_of_mem _ a, b⟩
        · rintro ⟨a, b⟩
          rcases List.mem_cons.1 a with a | a
          · exact absurd a e
          · exact ⟨a, b⟩
    · unfold getL at hd ⊢
      split
      · exact ⟨k, rfl, by omega⟩
      · rename_i e
        rw [if_neg e] at hd
        obtain ⟨j, h2, h3⟩ := h.num d hd
        exact ⟨j, h2, by omega⟩
    · unfold getL at hd he hq
      by_cases e1 : d = c
      · by_cases e2 : e = c
        · rw [e1, e2]
        · rw [if_neg e2] at he
          rw [if_pos e1, if_neg e2] at hq
          obtain ⟨j, h2, h3⟩ := h.num e he
          rw [h2] at hq
          have : (k : Int) = j := hq
          omega
      · by_cases e2 : e = c
        · rw [if_neg e1] at hd
          rw [if_neg e1, if_pos e2] at hq
          obtain ⟨j, h2, h3⟩ := h.num d hd
          rw [h2] at hq
          have : (j : Int) = k := hq
          omega
        · rw [if_neg e1] at hd
          rw [if_neg e2] at he
          rw [if_neg e1, if_neg e2] at hq
          exact h.inj d e hd he hq
/-- What is told: of a word (true), of a tail (false); V what was entered ahead, V' behind. -/
inductive Td (X : List Cl) (N : List (List UInt8)) : Bool → (Nat → Lab) → Nat → Int → List Nat → Res → List Nat → Prop
  | plain {f : Nat → Lab} {k : Nat} {x : Int} {V : List Nat} : refN x = none → Td X N true f k x V (plainT N x, f, k) V
  | back {f : Nat → Lab} {k : Nat} {x : Int} {V : List Nat} {c : Nat} : refN x = some c → c ∈ V → (f c).met ≠ 1 → (f c).came = true → Td X N true f k x V (betw [35] (f c).num [35], f, k) V
  | pair {f : Nat → Lab} {k : Nat} {x : Int} {V : List Nat} {c : Nat} {y : Cl} {r : Res} {V1 : List Nat} {q : Res} {V2 : List Nat} : refN x = some c → c ∉ V → X[c]? = some y → y.k = 1 → Td X N true (preF f k c) (preK f k c) y.a (c :: V) r V1 → Td X N false r.2.1 r.2.2 y.b V1 q V2 → Td X N true f k x V (preT f k c ++ ([40] ++ (r.1 ++ (q.1 ++ [41]))), q.2) V2
  | box {f : Nat → Lab} {k : Nat} {x : Int} {V : List Nat} {c : Nat} {y : Cl} {r : Res} {V1 : List Nat} : refN x = some c → c ∉ V → X[c]? = some y → y.k = 2 → Td X N true (preF f k c) (preK f k c) y.a (c :: V) r V1 → Td X N true f k x V (preT f k c ++ ([35, 98, 111, 120, 40] ++ (r.1 ++ [41])), r.2) V1
  | proc {f : Nat → Lab} {k : Nat} {x : Int} {V : List Nat} {c : Nat} {y : Cl} {r : Res} {V1 : List Nat} : refN x = some c → c ∉ V → X[c]? = some y → y.k = 3 → Td X N true (preF f k c) (preK f k c) y.b (c :: V) r V1 → Td X N true f k x V (preT f k c ++ (betw [35, 112, 114, 111, 99] (ofN y.a) [40] ++ (r.1 ++ [41])), r.2) V1
  | goes {f : Nat → Lab} {k : Nat} {x : Int} {V : List Nat} {c : Nat} {y : Cl} {r : Res} {V1 : List Nat} {q : Res} {V2 : List Nat} : refN x = some c → c ∉ V → X[c]? = some y → y.k = 1 → (f c).met = 1 → Td X N true f k y.a (c :: V) r V1 → Td X N false r.2.1 r.2.2 y.b V1 q V2 → Td X N false f k x V ([32] ++ (r.1 ++ q.1), q.2) V2
  | nil {f : Nat → Lab} {k : Nat} {x : Int} {V : List Nat} : ofT x = 1 → Td X N false f k x V ([], f, k) V
  | dot {f : Nat → Lab} {k : Nat} {x : Int} {V : List Nat} {r : Res} {V1 : List Nat} : ¬ ofT x = 1 → (∀ (c : Nat) (y : Cl), refN x = some c → X[c]? = some y → y.k = 1 → (f c).met ≠ 1) → Td X N true f k x V r V1 → Td X N false f k x V ([32, 46, 32] ++ r.1, r.2) V1
/-- There is always something told. -/
theorem tell_td {X : List Cl} {N : List (List UInt8)} {met : Nat → Nat} {W : Int → Prop} (hK : ∀ (c : Nat) (y : Cl), X[c]? = some y → Kd y) (hW : ∀ (c : Nat) (y : Cl), X[c]? = some y → ∀ z ∈ fieldsM y, W z) (hC : ∀ (x : Int) (c : Nat), W x → refN x = some c → c < X.length) :
    ∀ (fu : Nat) (m : Bool) (f : Nat → Lab) (k : Nat) (x : Int) (V : List Nat) (P : List Int), 2 * un X V + (if m then 0 else 1) < fu → Inv X met V (x :: P) → Fl met f k V → W x →
      ∃ r V', tell X N fu m f k x = some r ∧ Td X N m f k x V r V' ∧ Inv X met V' P ∧ Fl met r.2.1 r.2.2 V' ∧ un X V' ≤ un X V
  | 0, _, _, _, _, _, _, hu, _, _, _ => by omega
  | fu + 1, true, f, k, x, V, P, hu, hi, hf, hw => by
    simp only [if_true, Nat.add_zero] at hu
    unfold tell
    cases hr : refN x with
    | none => exact ⟨_, V, rfl, .plain hr, hi.skip, hf, Nat.le_refl _⟩
    | some c =>
      simp only
      have hlt := hC x c hw hr
      have hmt := hf.mt c
      by_cases hcm : (f c).met ≠ 1 ∧ (f c).came = true
      · rw [if_pos hcm]
        exact ⟨_, V, rfl, .back hr ((hf.came c).1 hcm.2).1 hcm.1 hcm.2, hi.skip, hf, Nat.le_refl _⟩
      · rw [if_neg hcm]
        have hcV : c ∉ V := fun hv => by
          by_cases h1 : met c = 1
          · exact hi.once hr h1 hv
          · exact hcm ⟨by omega, (hf.came c).2 ⟨hv, h1⟩⟩
        obtain ⟨y, hy⟩ : ∃ y, X[c]? = some y := ⟨_, List.getElem?_eq_getElem hlt⟩
        rw [hy]
        simp only
        have hI := hi.enter hr hcV hy
        have hF := hf.enter hcV
        have hU := un_enter hcV hy
        have hWy := hW c y hy
        rcases hK c y hy with h1 | h2 | h3
        · rw [if_pos h1]
          have hfl : fieldsM y = [y.a, y.b] := by unfold fieldsM; rw [if_pos h1]
          rw [hfl] at hI hWy
          obtain ⟨r, V1, e1, t1, i1, f1, u1⟩ := tell_td hK hW hC fu true _ _ y.a (c :: V) (y.b :: P) (by simp; omega) hI hF (hWy _ (by simp))
          obtain ⟨q, V2, e2, t2, i2, f2, u2⟩ := tell_td hK hW hC fu false _ _ y.b V1 P (by simp; omega) i1 f1 (hWy _ (by simp))
          refine ⟨_, V2, ?_, .pair hr hcV hy h1 t1 t2, i2, f2, by omega⟩
          rw [e1, Option.bind_some, e2, Option.bind_some]
        · rw [if_neg (by omega), if_pos h2]
          have hfl : fieldsM y = [y.a] := by unfold fieldsM; rw [if_neg (by omega), if_pos h2]
          rw [hfl] at hI hWy
          obtain ⟨r, V1, e1, t1, i1, f1, u1⟩ := tell_td hK hW hC fu true _ _ y.a (c :: V) P (by simp; omega) hI hF (hWy _ (by simp))
          refine ⟨_, V1, ?_, .box hr hcV hy h2 t1, i1, f1, by omega⟩
          rw [e1, Option.bind_some]
        · rw [if_neg (by omega), if_neg (by omega)]
          have hfl : fieldsM y = [y.b] := by unfold fieldsM; rw [if_neg (by omega), if_neg (by omega)]
          rw [hfl] at hI hWy
          obtain ⟨r, V1, e1, t1, i1, f1, u1⟩ := tell_td hK hW hC fu true _ _ y.b (c :: V) P (by simp; omega) hI hF (hWy _ (by simp))
          refine ⟨_, V1, ?_, .proc hr hcV hy h3 t1, i1, f1, by omega⟩
          rw [e1, Option.bind_some]
  | fu + 1, false, f, k, x, V, P, hu, hi, hf, hw => by
    have hu2 : 2 * un X V < fu := by simp at hu; omega
    unfold tell
    cases hg : goesM X f x with
    | some y =>
      simp only
      obtain ⟨c, hr, hy, h1, hm⟩ : ∃ c, refN x = some c ∧ X[c]? = some y ∧ y.k = 1 ∧ ¬ 1 < (f c).met := by
        unfold goesM at hg
        cases hr : refN x with
        | none => rw [hr] at hg; cases hg
        | some c =>
          rw [hr] at hg
          simp only at hg
          cases hy : X[c]? with
          | none => rw [hy] at hg; cases hg
          | some z =>
            rw [hy] at hg
            simp only at hg
            split at hg
            · split at hg
              · cases hg
              · cases hg; exact ⟨c, rfl, hy, by assumption, by assumption⟩
            · cases hg
      have hm1 : met c = 1 := by have := hi.pos hr; have := hf.mt c; omega
      have hf1 : (f c).met = 1 := by have := hf.mt c; omega
      have hcV := hi.once hr hm1
      have hI := hi.enter hr hcV hy
      have hF := hf.enter hcV
      have e1 : preF f k c = f := by unfold preF; rw [if_pos hf1]
      have e2 : preK f k c = k := by unfold preK; rw [if_pos hf1]
      rw [e1, e2] at hF
      have hU := un_enter hcV hy
      have hWy := hW c y hy
      have hfl : fieldsM y = [y.a, y.b] := by unfold fieldsM; rw [if_pos h1]
      rw [hfl] at hI hWy
      obtain ⟨r, V1, e1, t1, i1, f1, u1⟩ := tell_td hK hW hC fu true _ _ y.a (c :: V) (y.b :: P) (by simp; omega) hI hF (hWy _ (by simp))
      obtain ⟨q, V2, e2, t2, i2, f2, u2⟩ := tell_td hK hW hC fu false _ _ y.b V1 P (by simp; omega) i1 f1 (hWy _ (by simp))
      refine ⟨_, V2, ?_, .goes hr hcV hy h1 hf1 t1 t2, i2, f2, by omega⟩
      rw [e1, Option.bind_some, e2, Option.bind_some]
    | none =>
      simp only
      by_cases ht : ofT x = 1
      · rw [if_pos ht]
        exact ⟨_, V, rfl, .nil ht, hi.skip, hf, Nat.le_refl _⟩
      · rw [if_neg ht]
        obtain ⟨r, V1, e1, t1, i1, f1, u1⟩ := tell_td hK hW hC fu true f k x V P (by simp; omega) hi hf hw
        refine ⟨_, V1, ?_, .dot ht (fun c y hr hy h1 hm => ?_) t1, i1, f1, u1⟩
        · rw [e1, Option.bind_some]
        · unfold goesM at hg
          rw [hr] at hg
          simp only [hy] at hg
          rw [if_pos h1, if_neg (by omega)] at hg
          cases hg
end Go.Proofs.YtejmoopgfnjaaaaDoor

/- Decimal numerals: what they are made of, and that no two numbers have one. -/
namespace Go.Proofs.YtejmoopgfnjaaaaDoor

theorem dig_isD (u : Nat) (h : u < 10) : isD (UInt8.ofNat (48 + u)) = true ∧ (UInt8.ofNat (48 + u)).toNat - 48 = u := by
  have e : (UInt8.ofNat (48 + u)).toNat = 48 + u := by rw [UInt8.toNat_ofNat']; exact Nat.mod_eq_of_lt (by omega)
  refine ⟨?_, by rw [e]; omega⟩
  simp only [isD, isDI, e, Bool.and_eq_true, decide_eq_true_eq]; omega
theorem dec_spec (u : Nat) : (Lib.decDigits u).all isD = true ∧ Lib.decDigits u ≠ [] ∧ val 0 (Lib.decDigits u) = u := by
  induction u using Nat.strongRecOn with
  | _ u ih =>
    by_cases h : u < 10
    · rw [Lib.decDigits, dif_pos h]
      have := dig_isD u h
      refine ⟨by rw [List.all_cons, this.1]; rfl, by simp, ?_⟩
      rw [val_cons, val_nil, this.2]; omega
    · rw [Lib.decDigits, dif_neg h]
      obtain ⟨h1, h2, h3⟩ := ih (u / 10) (by omega)
      have := dig_isD (u % 10) (by omega)
      refine ⟨by rw [List.all_append, h1, List.all_cons, this.1]; rfl, by simp, ?_⟩
      rw [val_snoc, h3, this.2]; omega
theorem isD_isW {b : UInt8} (h : isD b = true) : isW b = true ∧ ¬ b.toNat = 45 := by
  simp only [isD, isDI, Bool.and_eq_true, decide_eq_true_eq] at h
  simp only [isW, isWI, Bool.and_eq_true, decide_eq_true_eq, bne_iff_ne, ne_eq]
  omega
theorem all_isD_isW {l : List UInt8} (h : l.all isD = true) : l.all isW = true := by
  rw [List.all_eq_true] at h ⊢
  exact fun b hb => (isD_isW (h b hb)).1
theorem unsign_dec {l : List UInt8} (h : l.all isD = true) : unsign l = l ∧ neg l = false := by
  cases l with
  | nil => exact ⟨rfl, rfl⟩
  | cons b r =>
    have hb : isD b = true := by simp at h; exact h.1
    have := (isD_isW hb).2
    exact ⟨by simp only [unsign, if_neg this], by simp only [neg, beq_eq_false_iff_ne]; exact this⟩
theorem itoa_spec (n : Int) : (Lib.itoa n).all isW = true ∧ Lib.itoa n ≠ [] ∧ isNum (Lib.itoa n) = true ∧ num (Lib.itoa n) = n ∧ (∀ b r, Lib.itoa n ≠ 46 :: b :: r) ∧ (∀ r, Lib.itoa n ≠ 35 :: r) ∧ (∀ r, Lib.itoa n ≠ 46 :: r) := by
  unfold Lib.itoa
  by_cases h : n < 0
  · rw [if_pos h]
    obtain ⟨h1, h2, h3⟩ := dec_spec n.natAbs
    have hu : unsign (45 :: Lib.decDigits n.natAbs) = Lib.decDigits n.natAbs := by simp [unsign]
    have hne : (Lib.decDigits n.natAbs).isEmpty = false := by simpa using h2
    refine ⟨by rw [List.all_cons, all_isD_isW h1]; decide, by simp, by simp only [isNum, hu, h1, hne]; rfl, ?_, by simp, by simp, by simp⟩
    unfold num
    rw [if_pos (by rfl), hu, h3]; omega
  · rw [if_neg h]
    obtain ⟨h1, h2, h3⟩ := dec_spec n.toNat
    obtain ⟨hu, hg⟩ := unsign_dec h1
    have hne : (Lib.decDigits n.toNat).isEmpty = false := by simpa using h2
    have hno : ∀ (b : UInt8) (r : List UInt8), isD b = false → Lib.decDigits n.toNat ≠ b :: r := by
      intro b r hb e
      rw [e] at h1
      simp [hb] at h1
    refine ⟨all_isD_isW h1, h2, by simp only [isNum, hu, h1, hne]; rfl, ?_, fun b r => hno _ _ (by decide), fun r => hno _ _ (by decide), fun r => hno _ _ (by decide)⟩
    unfold num
    rw [hg, hu, h3]; simp; omega
theorem itoa_inj {m n : Int} (h : Lib.itoa m = Lib.itoa n) : m = n := by
  rw [← (itoa_spec m).2.2.2.1, ← (itoa_spec n).2.2.2.1, h]
end Go.Proofs.YtejmoopgfnjaaaaDoor
