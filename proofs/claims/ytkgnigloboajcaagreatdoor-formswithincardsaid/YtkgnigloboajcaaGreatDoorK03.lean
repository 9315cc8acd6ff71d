/- Data, and how a source's tokens are read: plain mathematics, no program in it.; The reader's small functions.; An append that tells where its answer lies, and that the elder value still reads its row. -/
import Derived.Test.YtkgnigloboajcaaGreatDoorK00
import Derived.Test.YtkgnigloboajcaaGreatDoorK02
import Derived.Defers
import Derived.Recover
import Derived.WalkLawsBesides
import Derived.BigQuiet
import Derived.Deep.RegionHeld3
import Derived.Laws.AppendOwn
import Derived.Laws.OwnMore
/- Data, and how a source's tokens are read: plain mathematics, no program in it. -/
namespace Go.Proofs.YtkgnigloboajcaaGreatDoor

/-- Data, one behind the other: a datum's kind, number, text, kids, dot; then the others. -/
inductive Fo where
  | nil
  | cons (kind : Int) (n : Int) (text : List UInt8) (kids : Fo) (dot : Bool) (rest : Fo)

def Fo.len : Fo → Nat
  | .nil => 0
  | .cons _ _ _ _ _ r => r.len + 1
def Fo.app : Fo → Fo → Fo
  | .nil, g => g
  | .cons k n t s d r, g => .cons k n t s d (r.app g)
theorem Fo.app_nil (f : Fo) : f.app .nil = f := by induction f with | nil => rfl | cons k n t s d r _ ih => simp [Fo.app, ih]
theorem Fo.app_assoc (f g h : Fo) : (f.app g).app h = f.app (g.app h) := by induction f with | nil => rfl | cons k n t s d r _ ih => simp [Fo.app, ih]
theorem Fo.len_app (f g : Fo) : (f.app g).len = f.len + g.len := by
  induction f with
  | nil => simp [Fo.app, Fo.len]
  | cons k n t s d r _ ih => simp [Fo.app, Fo.len, ih]; omega

/-- Are they the same? -/
def Fo.same : Fo → Fo → Bool
  | .nil, .nil => true
  | .cons k n t s d r, .cons k' n' t' s' d' r' => (k == k' && n == n' && t == t' && d == d' && s.same s') && r.same r'
  | _, _ => false
theorem Fo.same_iff (f : Fo) : ∀ g, f.same g = true ↔ f = g := by
  induction f with
  | nil => intro g; cases g <;> simp [Fo.same]
  | cons k n t s d r ihs ihr =>
    intro g
    cases g with
    | nil => simp [Fo.same]
    | cons k' n' t' s' d' r' =>
      simp only [Fo.same, Bool.and_eq_true, beq_iff_eq, ihs, ihr, Fo.cons.injEq]
      constructor
      · rintro ⟨⟨⟨⟨⟨h1, h2⟩, h3⟩, h4⟩, h5⟩, h6⟩; exact ⟨h1, h2, h3, h5, h4, h6⟩
      · rintro ⟨h1, h2, h3, h5, h4, h6⟩; exact ⟨⟨⟨⟨⟨h1, h2⟩, h3⟩, h4⟩, h5⟩, h6⟩

/-- What comes of reading: data, whether the last one is a tail, what is left, how many there were; or an error and its place. -/
inductive Res where
  | ok (f : Fo) (dot : Bool) (rest : List Tok) (c : Nat)
  | bad (e p : Int)

def quoteT : List UInt8 := [113, 117, 111, 116, 101]
def Res.list : Res → Res
  | .ok f d r c => .ok (.cons 5 0 [] f d .nil) false r c
  | .bad e p => .bad e p
def Res.quote : Res → Res
  | .ok f _ r c => .ok (.cons 5 0 [] (.cons 2 0 quoteT .nil false f) false .nil) false r c
  | .bad e p => .bad e p
/-- A tail's kids, if it is a list. -/
def tailOf : Fo → Fo × Bool
  | .cons k n t s d r => if k = 5 then (s, d) else (.cons k n t s d r, true)
  | .nil => (.nil, true)
def Res.tail : Res → Res
  | .ok f _ (t :: r) c => if t.kind = 2 then .ok (tailOf f).1 (tailOf f).2 r c else .bad 60 t.pos
  | .ok _ _ [] _ => .bad 0 0
  | .bad e p => .bad e p
def Res.behind (f : Fo) : Res → Res
  | .ok g d r c => .ok (f.app g) d r c
  | .bad e p => .bad e p
def Res.then (x : Res) (K : Fo → List Tok → Nat → Res) : Res :=
  match x with
  | .ok f _ r c => K f r c
  | .bad e p => .bad e p

def isLeaf (k : Int) : Bool := k == 5 || k == 6 || k == 7 || k == 8
def leafOf (t : Tok) : Fo := .cons (t.kind - 4) (if t.kind = 5 then t.n else 0) (if t.kind = 6 then t.text else []) .nil false .nil

def one (R : Nat → List Tok → Nat → Nat → Res) (t : Tok) (ts : List Tok) (o c : Nat) : Res :=
  if t.kind = 1 then (if o = 100 then .bad 61 t.pos else if 10000 < c + 1 then .bad 62 t.pos else (R 1 ts (o + 1) (c + 1)).list)
  else if t.kind = 3 then (if o = 100 then .bad 61 t.pos else if 10000 < c + 2 then .bad 62 t.pos else (R 0 ts (o + 1) (c + 2)).quote)
  else if isLeaf t.kind then (if 10000 < c + 1 then .bad 62 t.pos else .ok (leafOf t) false ts (c + 1))
  else .bad 60 t.pos
def more (R : Nat → List Tok → Nat → Nat → Res) (m : Nat) (ts : List Tok) (o c : Nat) : Res :=
  (R 0 ts o c).then fun f r c' => (R m r o c').behind f
def lst (R : Nat → List Tok → Nat → Nat → Res) (m : Nat) (t : Tok) (ts : List Tok) (o c : Nat) : Res :=
  if m = 3 then (if t.kind = 9 then .ok .nil false ts c else more R 3 (t :: ts) o c)
  else if t.kind = 2 then .ok .nil false ts c
  else if t.kind = 4 then (if m = 1 then .bad 60 t.pos else (R 0 ts o c).tail)
  else more R 2 (t :: ts) o c

/-- Modes: 0 one datum, 1 a list from its bracket on, 2 a list that has kids already, 3 all to the end. -/
def rd : Nat → Nat → List Tok → Nat → Nat → Res
  | 0, _, _, _, _ => .bad 0 0
  | _ + 1, _, [], _, _ => .bad 0 0
  | k + 1, m, t :: ts, o, c => if m = 0 then one (rd k) t ts o c else lst (rd k) m t ts o c

def mz (m : Nat) : Nat := if m = 0 then 0 else 1
/-- Reading, without fuel. -/
def rdf (m : Nat) (ts : List Tok) (o c : Nat) : Res := rd (2 * ts.length + mz m + 1) m ts o c
end Go.Proofs.YtkgnigloboajcaaGreatDoor

/- The reader's small functions. -/
namespace Go.Proofs.YtkgnigloboajcaaGreatDoor
open Go.RowKit

/-- Nothing but block rb has turned. -/
structure But (rb : Nat) (w w' : World) : Prop where
  os : w'.os = w.os
  tape : w'.tape = w.tape
  output : w'.output = w.output
  size : w.heap.size ≤ w'.heap.size
  block : ∀ g, g < w.heap.size → g ≠ rb → w'.heap[g]? = w.heap[g]?
theorem But.refl (rb : Nat) (w : World) : But rb w w := ⟨rfl, rfl, rfl, Nat.le_refl _, fun _ _ _ => rfl⟩
theorem But.trans {rb : Nat} {a b c : World} (h : But rb a b) (k : But rb b c) : But rb a c :=
  ⟨k.os.trans h.os, k.tape.trans h.tape, k.output.trans h.output, Nat.le_trans h.size k.size, fun g hg hne => (k.block g (Nat.lt_of_lt_of_le hg h.size) hne).trans (h.block g hg hne)⟩
theorem But.of_below {rb : Nat} {w w' : World} (h : Below w.heap.size w w') : But rb w w' := ⟨h.os, h.tape, h.output, h.size, fun g hg _ => h.block g hg⟩
theorem But.below {rb B : Nat} {w w' : World} (h : But rb w w') (hB : B ≤ rb) (hs : B ≤ w.heap.size) : Below B w w' := ⟨h.os, h.tape, h.output, h.size, fun g hg => h.block g (by omega) (by omega)⟩
theorem But.set {rb o : Nat} {w w' : World} (h : But rb w w') (v : Value) : But rb w (w'.setCell ⟨rb, o, none⟩ v) :=
  h.trans ⟨rfl, rfl, rfl, by simp [World.setCell], fun _ _ hne => Below.heap_setCell _ _ _ _ hne⟩
theorem But.drew {rb : Nat} {w w' : World} (h : But rb w w') : But rb w w'.drew := h.trans ⟨rfl, rfl, rfl, Nat.le_refl _, fun _ _ _ => rfl⟩
theorem set_at {W : World} {b j : Nat} {cs : Array Value} {t : TypeId} (h : W.heap[b]? = some (.cells cs t (0, 0))) (v : Value) : (W.setCell ⟨b, j, none⟩ v).heap[b]? = some (.cells (cs.setIfInBounds j v) t (0, 0)) := by
  have hlt := (Array.getElem?_eq_some_iff.1 h).1
  rw [Array.getElem?_eq_getElem hlt] at h
  have h2 := Option.some.inj h
  show (W.heap.modify b _)[b]? = _
  rw [Array.getElem?_eq_getElem (by simpa using hlt), Array.getElem_modify_self, h2]
  rfl
/-- The panic's value: an error and its place. -/
def fault (e p : Int) : List PanicEntry := [{ v := .iface 141 (.agg #[.int .i64 e, .int .i64 p]), recovered := false }]

end Go.Proofs.YtkgnigloboajcaaGreatDoor

/- An append that tells where its answer lies, and that the elder value still reads its row. -/
namespace Go.Proofs.YtkgnigloboajcaaGreatDoor
open Go.RowKit

end Go.Proofs.YtkgnigloboajcaaGreatDoor
