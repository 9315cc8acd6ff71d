/- What the barrier is asked about: plain mathematics. -/
import Derived.Test.YtigcpbndmiefhaaDoorHGMath
namespace Go.Proofs.YtigcpbndmiefhaaDoor

structure Ln where
  roots : List Int
  sc : Bool
  en : Bool
structure Vw where
  h : List Cl
  ph : Int
  sw : Int
  grey : List Int
  gl : List Int
  laid : Int
  lanes : List Ln
/-- Something that names cells: its sort (0 a cell, 1 a global, 2 a lane), its place, its words. -/
structure Hd where
  s : Nat
  i : Nat
  ws : List Int
def usedB (x : Cl) : Bool := !decide (x.k = 0)
def whiteB (x : Cl) : Bool := usedB x && decide (x.c = 0)
def greyB (x : Cl) : Bool := usedB x && decide (x.c = 1)
def cellsH : List Cl → Nat → List Hd
  | [], _ => []
  | x :: r, i => if x.k = 0 then cellsH r (i + 1) else ⟨0, i, [x.a, x.b]⟩ :: cellsH r (i + 1)
def globsH : List Int → Nat → List Hd
  | [], _ => []
  | x :: r, i => ⟨1, i, [x]⟩ :: globsH r (i + 1)
def lanesH : List Ln → Nat → List Hd
  | [], _ => []
  | x :: r, i => ⟨2, i, x.roots⟩ :: lanesH r (i + 1)
def holdersM (v : Vw) : List Hd := cellsH v.h 0 ++ (globsH v.gl 0 ++ lanesH v.lanes 0)
/-- What the collector makes of it. -/
def colM (v : Vw) (x : Hd) : Int := if x.s = 0 then (match v.h[x.i]? with | some c => c.c | none => 0) else if x.s = 1 ∧ v.laid ≤ (x.i : Int) then 1 else if x.s = 2 ∧ (match v.lanes[x.i]? with | some l => l.sc | none => true) = false then 1 else 2
/-- The cells that some holders name. -/
def namedM (v : Vw) (counts : Hd → Bool) (c : Nat) : Bool := (holdersM v).any (fun x => counts x && x.ws.any (fun w => refN w == some c))
def wordsOk (v : Vw) : Bool := (holdersM v).all (fun x => x.ws.all (fitsW v.h.length))
theorem cellsH_take : ∀ (h : List Cl) (i j : Nat) (x : Cl), h[j]? = some x → cellsH (h.take (j + 1)) i = cellsH (h.take j) i ++ if x.k = 0 then [] else [⟨0, i + j, [x.a, x.b]⟩]
  | [], i, j, x, hx => by simp at hx
  | y :: r, i, 0, x, hx => by
    have e : y = x := by simpa using hx
    subst e
    simp only [List.take_succ_cons, List.take_zero, cellsH, List.nil_append, Nat.add_zero]
  | y :: r, i, j + 1, x, hx => by
    have hx' : r[j]? = some x := by simpa using hx
    have := cellsH_take r (i + 1) j x hx'
    rw [List.take_succ_cons, List.take_succ_cons]
    unfold cellsH
    rw [this, show i + 1 + j = i + (j + 1) by omega]
    split
    · rfl
    · rfl
theorem globsH_take : ∀ (h : List Int) (i j : Nat) (x : Int), h[j]? = some x → globsH (h.take (j + 1)) i = globsH (h.take j) i ++ [⟨1, i + j, [x]⟩]
  | [], i, j, x, hx => by simp at hx
  | y :: r, i, 0, x, hx => by
    have e : y = x := by simpa using hx
    subst e
    simp only [List.take_succ_cons, List.take_zero, globsH, List.nil_append, Nat.add_zero]
  | y :: r, i, j + 1, x, hx => by
    have hx' : r[j]? = some x := by simpa using hx
    have := globsH_take r (i + 1) j x hx'
    rw [List.take_succ_cons, List.take_succ_cons]
    unfold globsH
    rw [this, show i + 1 + j = i + (j + 1) by omega]
    rfl
theorem lanesH_take : ∀ (h : List Ln) (i j : Nat) (x : Ln), h[j]? = some x → lanesH (h.take (j + 1)) i = lanesH (h.take j) i ++ [⟨2, i + j, x.roots⟩]
  | [], i, j, x, hx => by simp at hx
  | y :: r, i, 0, x, hx => by
    have e : y = x := by simpa using hx
    subst e
    simp only [List.take_succ_cons, List.take_zero, lanesH, List.nil_append, Nat.add_zero]
  | y :: r, i, j + 1, x, hx => by
    have hx' : r[j]? = some x := by simpa using hx
    have := lanesH_take r (i + 1) j x hx'
    rw [List.take_succ_cons, List.take_succ_cons]
    unfold lanesH
    rw [this, show i + 1 + j = i + (j + 1) by omega]
    rfl
end Go.Proofs.YtigcpbndmiefhaaDoor
