/- Blanks and comments between tokens tell nothing. -/
import Derived.Test.YtfdpbmbafpieoaaDoorPartMath
namespace Go.Proofs.YtfdpbmbafpieoaaDoor

/-- The six that stand between. -/
def blankAt (k : Nat) : List UInt8 := match k with
  | 0 => [32]
  | 1 => [10]
  | 2 => [9, 32, 13]
  | 3 => [32, 59, 32, 97, 32, 99, 111, 109, 109, 101, 110, 116, 32, 40, 32, 39, 10]
  | 4 => [10, 59, 10]
  | _ => [32]

theorem blank_leave (k : Nat) (x : List UInt8) : leave false (blankAt k ++ x) = leave false x := by
  unfold blankAt
  split <;> simp [leave, isB, isBI]
theorem blank_head (k : Nat) : ∃ c r, blankAt k = c :: r ∧ isW c = false := by
  unfold blankAt
  split <;> exact ⟨_, _, rfl, rfl⟩
theorem blank_len (k : Nat) : (blankAt k).length ≤ 17 := by
  unfold blankAt
  split <;> simp

/-- A source with others' blanks between its tokens. -/
def spaced (bl : Nat → Nat) : Nat → List (List UInt8) → List UInt8
  | _, [] => []
  | i, a :: r => blankAt (bl i) ++ ((match r with | [] => [] | _ :: _ => part a) ++ spaced bl (i + 1) r)

theorem spaced_head (bl : Nat → Nat) (i : Nat) (a : List UInt8) (r : List (List UInt8)) : ∀ c, (spaced bl i (a :: r)).head? = some c → isW c = false := by
  intro c hc
  obtain ⟨d, t, hd, hw⟩ := blank_head (bl i)
  simp only [spaced, hd, List.cons_append, List.head?_cons, Option.some.injEq] at hc
  rw [← hc]; exact hw

theorem spaced_sc (M : Nat) (bl : Nat → Nat) : ∀ (q : List (List UInt8)) (i : Nat), (∀ a ∈ q, a ≠ [] ∧ leave false a = a ∧ begE a = 0) →
    (sc M (spaced bl i (q ++ [[]]))).length = q.length + 1 ∧ fineB (sc M (spaced bl i (q ++ [[]]))) = true ∧
      ∀ (j : Nat) (a : List UInt8), (q ++ [[]])[j]? = some a → ∃ p : Int, (sc M (spaced bl i (q ++ [[]])))[j]? = some (put (begT a) p, 0)
  | [], i, _ => by
    have hl : leave false (spaced bl i ([] ++ [[]])) = [] := by
      simp only [List.nil_append, spaced, List.append_nil]
      have := blank_leave (bl i) []
      rw [List.append_nil] at this
      rw [this]; rfl
    have hs : sc M (spaced bl i ([] ++ [[]])) = [(put (begT []) M, 0)] := by
      have h1 : last (spaced bl i ([] ++ [[]])) = true := by unfold last er0; rw [hl]; rfl
      have h2 : er0 (spaced bl i ([] ++ [[]])) = 0 := by unfold er0; rw [hl]; rfl
      have h3 : at0 M (spaced bl i ([] ++ [[]])) = put (begT []) M := by unfold at0; rw [hl]; apply put_pos; simp
      rw [sc_eq, h1, h2, h3]; rfl
    rw [hs]
    refine ⟨rfl, rfl, fun j a ha => ?_⟩
    cases j with
    | zero => obtain rfl : [] = a := by simpa using ha
              exact ⟨M, rfl⟩
    | succ j => simp at ha
  | a :: q, i, h => by
    obtain ⟨hne, hf, he⟩ := h a (List.mem_cons_self ..)
    obtain ⟨b, r, hbr⟩ : ∃ b r, q ++ [[]] = b :: r := by
      cases q with
      | nil => exact ⟨[], [], rfl⟩
      | cons x q => exact ⟨x, q ++ [[]], rfl⟩
    obtain ⟨h1, h2, h3, h4, h5, h6⟩ := part_beg a hne hf he (spaced bl (i + 1) (q ++ [[]])) (by rw [hbr]; exact spaced_head bl _ b r)
    have hsp : spaced bl i ((a :: q) ++ [[]]) = blankAt (bl i) ++ (part a ++ spaced bl (i + 1) (q ++ [[]])) := by
      rw [List.cons_append, hbr]; rfl
    have hl : leave false (spaced bl i ((a :: q) ++ [[]])) = part a ++ spaced bl (i + 1) (q ++ [[]]) := by
      rw [hsp, blank_leave, h2]
    have hlast : last (spaced bl i ((a :: q) ++ [[]])) = false := by unfold last er0; rw [hl, h4]; simp [h1]
    have hnx : nx0 (spaced bl i ((a :: q) ++ [[]])) = spaced bl (i + 1) (q ++ [[]]) := by
      unfold nx0; rw [hl, h5, List.drop_left]
    obtain ⟨g1, g2, g3⟩ := spaced_sc M bl q (i + 1) (fun x hx => h x (List.mem_cons_of_mem _ hx))
    have her : er0 (spaced bl i ((a :: q) ++ [[]])) = 0 := by unfold er0; rw [hl, h4]
    have hs : sc M (spaced bl i ((a :: q) ++ [[]])) = (at0 M (spaced bl i ((a :: q) ++ [[]])), 0) :: sc M (spaced bl (i + 1) (q ++ [[]])) := by
      rw [sc_eq, hlast, hnx, her]; rfl
    rw [hs]
    refine ⟨by simp [g1], by simp only [fineB, List.all_cons, Bool.and_eq_true]; exact ⟨rfl, g2⟩, fun j x hx => ?_⟩
    cases j with
    | zero =>
      obtain rfl : a = x := by simpa using hx
      exact ⟨_, by rw [List.getElem?_cons_zero]; unfold at0; rw [hl, h3]⟩
    | succ j => rw [List.getElem?_cons_succ]; exact g3 j x (by simpa using hx)
/-- The text that is built, one token behind the other. -/
def txt (bl : Nat → Nat) (q : List (List UInt8)) : Nat → List UInt8
  | 0 => []
  | k + 1 => txt bl q k ++ (blankAt (bl k) ++ ((q[k]?).map part).getD [])

theorem txt_upto (bl : Nat → Nat) (q : List (List UInt8)) : ∀ j, j ≤ q.length → txt bl q j ++ spaced bl j (q.drop j ++ [[]]) = spaced bl 0 (q ++ [[]]) := by
  intro j
  induction j with
  | zero => intro _; simp [txt]
  | succ j ih =>
    intro hj
    rw [← ih (by omega)]
    have hd : q.drop j = q[j] :: q.drop (j + 1) := List.drop_eq_getElem_cons (by omega)
    obtain ⟨b, r, hbr⟩ : ∃ b r, q.drop (j + 1) ++ [[]] = b :: r := by
      cases q.drop (j + 1) with
      | nil => exact ⟨[], [], rfl⟩
      | cons x y => exact ⟨x, y ++ [[]], rfl⟩
    rw [hd, List.cons_append, hbr, txt, List.getElem?_eq_getElem (by omega)]
    simp [spaced]
theorem txt_spaced (bl : Nat → Nat) (q : List (List UInt8)) : txt bl q (q.length + 1) = spaced bl 0 (q ++ [[]]) := by
  rw [← txt_upto bl q q.length (Nat.le_refl _), txt]
  simp [spaced]

/-- Which blank: what the second argument's number says. -/
def blOf (zs : List Int) (i : Nat) : Nat := match zs[i]? with
  | some z => if 0 ≤ z then (z % 6).toNat else 0
  | none => 0
end Go.Proofs.YtfdpbmbafpieoaaDoor
