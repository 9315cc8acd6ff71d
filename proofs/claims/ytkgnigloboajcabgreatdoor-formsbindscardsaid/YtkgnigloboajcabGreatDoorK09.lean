/- The deferred function that recovers.; The deferred function that recovers: a fault.; Read. -/
import Derived.Test.YtkgnigloboajcabGreatDoorK08
import Derived.Laws.EntriesVeiled
/- The deferred function that recovers. -/
namespace Go.Proofs.YtkgnigloboajcabGreatDoor
open Go.RowKit

section
variable {P : Program} {ops : Array Oper} {Q : Exit → Act → List Frame → World → Prop} {a : Act} {cs cs' : List Frame} {w : World} {i : Nat} {rest : List Nat} {o : Oper} {v : Value}
theorem wpOpsS_cons (ho : ops[i]? = some o) (hw : Region.wanted o (yielded ops a.tmps) = true) (hr : o.wp P a w (fun a' w' => wpOpsS P ops Q rest a' cs w') (fun e a' w' => Q e a' cs w')) : wpOpsS P ops Q (i :: rest) a cs w := by
  unfold wpOpsS
  rw [ho]
  simp only [hw, if_true]
  unfold Oper.wp at hr
  cases h : (execOp a.eval o).run P w with
  | halt x w' => rw [h] at hr; exact hr
  | ok x w' =>
    rw [h] at hr
    cases x <;> first | exact hr | exact hr.elim
theorem wpOpsS_none (ho : ops[i]? = some o) (hw : Region.wanted o (yielded ops a.tmps) = true) (hx : (execOp a.eval o).run P w = .ok .recover w) (hd : recoverD cs = none) (h : wpOpsS P ops Q rest (a.put o.dst .nilIface) cs w) : wpOpsS P ops Q (i :: rest) a cs w := by
  unfold wpOpsS
  rw [ho]
  simp only [hw, if_true, hx, hd]
  exact h
theorem wpOpsS_some (ho : ops[i]? = some o) (hw : Region.wanted o (yielded ops a.tmps) = true) (hx : (execOp a.eval o).run P w = .ok .recover w) (hd : recoverD cs = some (v, cs')) (h : wpOpsS P ops Q rest (a.put o.dst v) cs' w) : wpOpsS P ops Q (i :: rest) a cs w := by
  unfold wpOpsS
  rw [ho]
  simp only [hw, if_true, hx, hd]
  exact h
end

end Go.Proofs.YtkgnigloboajcabGreatDoor

/- The deferred function that recovers: a fault. -/
namespace Go.Proofs.YtkgnigloboajcabGreatDoor
open Go.RowKit

/-- Nothing but these three blocks has turned. -/
structure But3 (b0 b1 b2 : Nat) (w w' : World) : Prop where
  os : w'.os = w.os
  tape : w'.tape = w.tape
  output : w'.output = w.output
  size : w.heap.size ≤ w'.heap.size
  block : ∀ g, g < w.heap.size → g ≠ b0 → g ≠ b1 → g ≠ b2 → w'.heap[g]? = w.heap[g]?

theorem But3.trans {b0 b1 b2 : Nat} {a b c : World} (h : But3 b0 b1 b2 a b) (k : But3 b0 b1 b2 b c) : But3 b0 b1 b2 a c :=
  ⟨k.os.trans h.os, k.tape.trans h.tape, k.output.trans h.output, Nat.le_trans h.size k.size, fun g hg n0 n1 n2 => (k.block g (Nat.lt_of_lt_of_le hg h.size) n0 n1 n2).trans (h.block g hg n0 n1 n2)⟩
theorem But3.of_below {b0 b1 b2 : Nat} {w w' : World} (h : Below w.heap.size w w') : But3 b0 b1 b2 w w' := ⟨h.os, h.tape, h.output, h.size, fun g hg _ _ _ => h.block g hg⟩
theorem But3.set {b0 b1 b2 b o : Nat} {w w' : World} (h : But3 b0 b1 b2 w w') (hb : b = b0 ∨ b = b1 ∨ b = b2) (v : Value) : But3 b0 b1 b2 w (w'.setCell ⟨b, o, none⟩ v) :=
  h.trans ⟨rfl, rfl, rfl, by simp [World.setCell], fun g _ n0 n1 n2 => Below.heap_setCell _ _ _ _ (by show g ≠ b; rcases hb with rfl | rfl | rfl <;> assumption)⟩
theorem But3.alloc {b0 b1 b2 : Nat} {w w' : World} (h : But3 b0 b1 b2 w w') (o : Obj) : But3 b0 b1 b2 w (w'.alloc o) := h.trans (But3.of_below ((Below.refl _ _).alloc (Nat.le_refl _) _))
theorem But3.drew {b0 b1 b2 : Nat} {w w' : World} (h : But3 b0 b1 b2 w w') : But3 b0 b1 b2 w w'.drew := h.trans ⟨rfl, rfl, rfl, Nat.le_refl _, fun _ _ _ _ _ => rfl⟩

end Go.Proofs.YtkgnigloboajcabGreatDoor

/- Read. -/
namespace Go.Proofs.YtkgnigloboajcabGreatDoor
open Go.RowKit

def lexErr (xs : List (Tok × Int)) : Int := match xs.dropWhile (fun x => x.2 == 0) with | [] => 0 | x :: _ => x.2
def lexPos (xs : List (Tok × Int)) : Int := match xs.dropWhile (fun x => x.2 == 0) with | [] => 0 | x :: _ => x.1.pos
theorem fine_drop {p : List (Tok × Int)} (h : fine p) (r : List (Tok × Int)) : (p ++ r).dropWhile (fun x => x.2 == 0) = r.dropWhile (fun x => x.2 == 0) :=
  List.dropWhile_append_of_pos (fun a ha => by simpa using h a ha)
theorem lexErr_fine {xs : List (Tok × Int)} (h : fine xs) : lexErr xs = 0 ∧ lexPos xs = 0 := by
  have := fine_drop h []
  simp only [List.append_nil, List.dropWhile_nil] at this
  exact ⟨by unfold lexErr; rw [this], by unfold lexPos; rw [this]⟩
theorem lexErr_bad {xs q : List (Tok × Int)} {x : Tok × Int} (hp : q ++ [x] <+: xs) (h : fine q) (hx : ¬ x.2 = 0) : lexErr xs = x.2 ∧ lexPos xs = x.1.pos := by
  obtain ⟨r, rfl⟩ := hp
  rw [List.append_assoc]
  have := fine_drop h ([x] ++ r)
  have e2 : ([x] ++ r).dropWhile (fun x : Tok × Int => x.2 == 0) = x :: r := by simp [hx]
  rw [e2] at this
  exact ⟨by unfold lexErr; rw [this], by unfold lexPos; rw [this]⟩

/-- What Read tells: the data, the error, its place. -/
def readOf (l : List UInt8) : Fo × Int × Int :=
  if lexErr (items l) = 0 then (match rdf 3 ((items l).map Prod.fst) 0 0 with | .ok f _ _ _ => (f, 0, 0) | .bad e p => (.nil, e, p))
  else (.nil, lexErr (items l), lexPos (items l))

theorem scan_ended (N : Nat) : ∀ (k : Nat) (l : List UInt8), l.length < k → fine (scan N k l) → Ended ((scan N k l).map Prod.fst)
  | 0, l, h, _ => by omega
  | k + 1, l, h, hf => by
    rw [scan_ne] at hf ⊢
    have he : er0 l = 0 := hf _ (List.mem_cons_self ..)
    have hk : (at0 N l).kind = (begT (leave false l)).kind := rfl
    have h9 := begT_kind9 (leave false l)
    by_cases hl : last l = true
    · rw [if_pos hl]
      have hemp : (leave false l).isEmpty = true := by
        unfold last at hl
        rw [he] at hl
        simpa using hl
      rw [hemp] at h9
      exact ⟨[], _, rfl, by rw [hk]; simpa using h9, fun x hx => by cases hx⟩
    · have hl' : last l = false := by simpa using hl
      rw [if_neg hl] at hf ⊢
      have hne : (leave false l).isEmpty = false := by
        unfold last at hl'
        rw [he] at hl'
        simpa using hl'
      rw [hne] at h9
      have hlt := nx0_lt l hl'
      obtain ⟨q, e, h1, h2, h3⟩ := scan_ended N k (nx0 l) (by omega) (fun x hx => hf x (List.mem_cons_of_mem _ hx))
      refine ⟨at0 N l :: q, e, by rw [List.map_cons, h1]; rfl, h2, fun x hx => ?_⟩
      rcases List.mem_cons.1 hx with rfl | hx
      · rw [hk]; simpa using h9
      · exact h3 x hx
theorem items_ended (l : List UInt8) (hf : fine (items l)) : Ended ((items l).map Prod.fst) := by
  unfold items at hf ⊢
  by_cases h : 65536 < l.length
  · rw [if_pos h] at hf
    exact absurd (hf _ (List.mem_cons_self ..)) (by decide)
  · rw [if_neg h] at hf ⊢
    exact scan_ended _ _ _ (by omega) hf

theorem readOf_bad {l : List UInt8} {q : List (Tok × Int)} {x : Tok × Int} (hp : q ++ [x] <+: items l) (h : fine q) (hx : ¬ x.2 = 0) : readOf l = (.nil, x.2, x.1.pos) := by
  obtain ⟨h1, h2⟩ := lexErr_bad hp h hx
  unfold readOf; rw [if_neg (by rw [h1]; exact hx), h1, h2]
theorem readOf_fine {l : List UInt8} (h : fine (items l)) : readOf l = (match rdf 3 ((items l).map Prod.fst) 0 0 with | .ok f _ _ _ => (f, 0, 0) | .bad e p => (.nil, e, p)) := by
  unfold readOf; rw [if_pos (lexErr_fine h).1]
end Go.Proofs.YtkgnigloboajcabGreatDoor
