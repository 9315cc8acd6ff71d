/- Data, and how a source's tokens are read: plain mathematics, no program in it.; The reader's small functions.; An append that tells where its answer lies, and that the elder value still reads its row. -/
import Derived.Test.YtkgnigloboajcabGreatDoorK00
import Derived.Test.YtkgnigloboajcabGreatDoorK02
import Derived.Defers
import Derived.Recover
import Derived.WalkLawsBesides
import Derived.BigQuiet
import Derived.Deep.RegionHeld3
import Derived.Laws.AppendOwn
import Derived.Laws.OwnMore
/- Data, and how a source's tokens are read: plain mathematics, no program in it. -/
namespace Go.Proofs.YtkgnigloboajcabGreatDoor

/-- Data, one behind the other: a datum's kind, number, text, kids, dot; then the others. -/
inductive Fo where
  | nil
  | cons (kind : Int) (n : Int) (text : List UInt8) (kids : Fo) (dot : Bool) (rest : Fo)

def Fo.len : Fo → Nat
  | .nil => 0
  | .cons _ _ _ _ _ r => r.len + 1
def Fo.app : Fo → Fo → Fo
  | .nil, g => g
  | .cons k n t s d r, g => .cons k n t s d (r.app g)
theorem Fo.app_nil (f : Fo) : f.app .nil = f := by induction f with | nil => rfl | cons k n t s d r _ ih => simp [Fo.app, ih]
theorem Fo.app_assoc (f g h : Fo) : (f.app g).app h = f.app (g.app h) := by induction f with | nil => rfl | cons k n t s d r _ ih => simp [Fo.app, ih]
theorem Fo.len_app (f g : Fo) : (f.app g).len = f.len + g.len := by
  induction f with
  | nil => simp [Fo.app, Fo.len]
  | cons k n t s d r _ ih => simp [Fo.app, Fo.len, ih]; omega

/-- Are they the same? -/
def Fo.same : Fo → Fo → Bool
  | .nil, .nil => true
  | .cons k n t s d r, .cons k' n' t' s' d' r' => (k == k' && n == n' && t == t' && d == d' && s.same s') && r.same r'
  | _, _ => false
theorem Fo.same_iff (f : Fo) : ∀ g, f.same g = true ↔ f = g := by
  induction f with
  | nil => intro g; cases g <;> simp [Fo.same]
  | cons k n t s d r ihs ihr =>
    intro g
    cases g with
    | nil => simp [Fo.same]
    | cons k' n' t' s' d' r' =>
      simp only [Fo.same, Bool.and_eq_true, beq_iff_eq, ihs, ihr, Fo.cons.injEq]
      constructor
      · rintro ⟨⟨⟨⟨⟨h1, h2⟩, h3⟩, h4⟩, h5⟩, h6⟩; exact ⟨h1, h2, h3, h5, h4, h6⟩
      · rintro ⟨h1, h2, h3, h5, h4, h6⟩; exact ⟨⟨⟨⟨⟨h1, h2⟩, h3⟩, h4⟩, h5⟩, h6⟩

/-- What comes of reading: data, whether the last one is a tail, what is left, how many there were; or an error and its place. -/
inductive Res where
  | ok (f : Fo) (dot : Bool) (rest : List Tok) (c : Nat)
  | bad (e p : Int)

def quoteT : List UInt8 := [113, 117, 111, 116, 101]
def Res.list : Res → Res
  | .ok f d r c => .ok (.cons 5 0 [] f d .nil) false r c
  | .bad e p => .bad e p
def Res.quote : Res → Res
  | .ok f _ r c => .ok (.cons 5 0 [] (.cons 2 0 quoteT .nil false f) false .nil) false r c
  | .bad e p => .bad e p
/-- A tail's kids, if it is a list. -/
def tailOf : Fo → Fo × Bool
  | .cons k n t s d r => if k = 5 then (s, d) else (.cons k n t s d r, true)
  | .nil => (.nil, true)
def Res.tail : Res → Res
  | .ok f _ (t :: r) c => if t.kind = 2 then .ok (tailOf f).1 (tailOf f).2 r c else .bad 60 t.pos
  | .ok _ _ [] _ => .bad 0 0
  | .bad e p => .bad e p
def Res.behind (f : Fo) : Res → Res
  | .ok g d r c => .ok (f.app g) d r c
  | .bad e p => .bad e p
def Res.then (x : Res) (K : Fo → List Tok → Nat → Res) : Res :=
  match x with
  | .ok f _ r c => K f r c
  | .bad e p => .bad e p

def isLeaf (k : Int) : Bool := k == 5 || k == 6 || k == 7 || k == 8
def leafOf (t : Tok) : Fo := .cons (t.kind - 4) (if t.kind = 5 then t.n else 0) (if t.kind = 6 then t.text else []) .nil false .nil

def one (R : Nat → List Tok → Nat → Nat → Res) (t : Tok) (ts : List Tok) (o c : Nat) : Res :=
  if t.kind = 1 then (if o = 100 then .bad 61 t.pos else if 10000 < c + 1 then .bad 62 t.pos else (R 1 ts (o + 1) (c + 1)).list)
  else if t.kind = 3 then (if o = 100 then .bad 61 t.pos else if 10000 < c + 2 then .bad 62 t.pos else (R 0 ts (o + 1) (c + 2)).quote)
  else if isLeaf t.kind then (if 10000 < c + 1 then .bad 62 t.pos else .ok (leafOf t) false ts (c + 1))
  else .bad 60 t.pos
def more (R : Nat → List Tok → Nat → Nat → Res) (m : Nat) (ts : List Tok) (o c : Nat) : Res :=
  (R 0 ts o c).then fun f r c' => (R m r o c').behind f
def lst (R : Nat → List Tok → Nat → Nat → Res) (m : Nat) (t : Tok) (ts : List Tok) (o c : Nat) : Res :=
  if m = 3 then (if t.kind = 9 then .ok .nil false ts c else more R 3 (t :: ts) o c)
  else if t.kind = 2 then .ok .nil false ts c
  else if t.kind = 4 then (if m = 1 then .bad 60 t.pos else (R 0 ts o c).tail)
  else more R 2 (t :: ts) o c

/-- Modes: 0 one datum, 1 a list from its bracket on, 2 a list that has kids already, 3 all to the end. -/
def rd : Nat → Nat → List Tok → Nat → Nat → Res
  | 0, _, _, _, _ => .bad 0 0
  | _ + 1, _, [], _, _ => .bad 0 0
  | k + 1, m, t :: ts, o, c => if m = 0 then one (rd k) t ts o c else lst (rd k) m t ts o c

/-- Tokens up to the end, which stands last and nowhere else. -/
def Ended (l : List Tok) : Prop := ∃ q e, l = q ++ [e] ∧ e.kind = 9 ∧ ∀ x ∈ q, x.kind ≠ 9
theorem Ended.tail {t : Tok} {ts : List Tok} (h : Ended (t :: ts)) (ht : t.kind ≠ 9) : Ended ts := by
  obtain ⟨q, e, h, he, hq⟩ := h
  cases q with
  | nil => simp at h; exact absurd (h.1 ▸ he) ht
  | cons a q => simp at h; exact ⟨q, e, h.2, he, fun x hx => hq x (List.mem_cons_of_mem _ hx)⟩
theorem Ended.ne {l : List Tok} (h : Ended l) : l ≠ [] := by obtain ⟨q, e, rfl, _⟩ := h; simp

/-- What a reading leaves. -/
structure Good (m : Nat) (ts : List Tok) (f : Fo) (r : List Tok) (c c' : Nat) : Prop where
  suf : ∃ q, ts = q ++ r ∧ 0 < q.length ∧ (m = 0 → ∃ k n t s d, f = .cons k n t s d .nil ∧ s.len ≤ q.length) ∧ (m ≠ 0 → f.len + 1 ≤ q.length)
  ended : m ≠ 3 → Ended ts → Ended r
  much : c ≤ 10000 → c' ≤ 10000

theorem rd_good (k : Nat) : ∀ (m : Nat) (ts : List Tok) (o c : Nat) (f : Fo) (d : Bool) (r : List Tok) (c' : Nat), rd k m ts o c = .ok f d r c' → Good m ts f r c c' := by
  induction k with
  | zero => intro m ts o c f d r c' h; simp [rd] at h
  | succ k ih =>
    intro m ts o c f d r c' h
    have moreG : ∀ (m' : Nat) (ts : List Tok), m' ≠ 0 → more (rd k) m' ts o c = .ok f d r c' → Good m' ts f r c c' := by
      intro m' ts hm' h
      unfold more Res.then at h
      cases h1 : rd k 0 ts o c with
      | bad e p => rw [h1] at h; cases h
      | ok f1 d1 r1 c1 =>
        rw [h1] at h
        dsimp only at h
        have g1 := ih 0 ts o c f1 d1 r1 c1 h1
        cases h2 : rd k m' r1 o c1 with
        | bad e p => rw [h2] at h; cases h
        | ok f2 d2 r2 c2 =>
          rw [h2] at h
          unfold Res.behind at h
          have g2 := ih m' r1 o c1 f2 d2 r2 c2 h2
          cases h
          obtain ⟨q1, e1, p1, o1, _⟩ := g1.suf
          obtain ⟨q2, e2, p2, _, l2⟩ := g2.suf
          obtain ⟨k1, n1, x1, s1, y1, rfl, _⟩ := o1 rfl
          refine ⟨⟨q1 ++ q2, by rw [e1, e2]; simp, by rw [List.length_append]; omega, fun h0 => absurd h0 hm', fun _ => ?_⟩, fun h3 he => g2.ended h3 (g1.ended (by decide) he), fun hc => g2.much (g1.much hc)⟩
          have := l2 hm'
          rw [Fo.len_app, List.length_append]; simp [Fo.len]; omega
    cases ts with
    | nil => simp [rd] at h
    | cons t ts =>
      simp only [rd] at h
      by_cases hm : m = 0
      · subst hm
        rw [if_pos rfl] at h
        unfold one at h
        by_cases hk : t.kind = 1
        · have ht : t.kind ≠ 9 := by rw [hk]; decide
          rw [if_pos hk] at h
          by_cases ho : o = 100
          · rw [if_pos ho] at h; cases h
          rw [if_neg ho] at h
          by_cases hc : 10000 < c + 1
          · rw [if_pos hc] at h; cases h
          rw [if_neg hc] at h
          cases h1 : rd k 1 ts (o + 1) (c + 1) with
          | bad e p => rw [h1] at h; cases h
          | ok f1 d1 r1 c1 =>
            rw [h1] at h
            have g1 := ih 1 ts (o + 1) (c + 1) f1 d1 r1 c1 h1
            cases h
            obtain ⟨q1, e1, p1, _, l1⟩ := g1.suf
            have := l1 (by decide)
            exact ⟨⟨t :: q1, by rw [e1]; rfl, by simp, fun _ => ⟨_, _, _, _, _, rfl, by simp; omega⟩, fun h0 => absurd rfl h0⟩, fun _ he => g1.ended (by decide) (he.tail ht), fun _ => g1.much (by omega)⟩
        rw [if_neg hk] at h
        by_cases hk3 : t.kind = 3
        · have ht : t.kind ≠ 9 := by rw [hk3]; decide
          rw [if_pos hk3] at h
          by_cases ho : o = 100
          · rw [if_pos ho] at h; cases h
          rw [if_neg ho] at h
          by_cases hc : 10000 < c + 2
          · rw [if_pos hc] at h; cases h
          rw [if_neg hc] at h
          cases h1 : rd k 0 ts (o + 1) (c + 2) with
          | bad e p => rw [h1] at h; cases h
          | ok f1 d1 r1 c1 =>
            rw [h1] at h
            have g1 := ih 0 ts (o + 1) (c + 2) f1 d1 r1 c1 h1
            cases h
            obtain ⟨q1, e1, p1, o1, _⟩ := g1.suf
            obtain ⟨k1, n1, x1, s1, y1, rfl, _⟩ := o1 rfl
            exact ⟨⟨t :: q1, by rw [e1]; rfl, by simp, fun _ => ⟨_, _, _, _, _, rfl, by simp [Fo.len]; omega⟩, fun h0 => absurd rfl h0⟩, fun _ he => g1.ended (by decide) (he.tail ht), fun _ => g1.much (by omega)⟩
        rw [if_neg hk3] at h
        by_cases hl : isLeaf t.kind = true
        · have ht : t.kind ≠ 9 := by rintro e; rw [e] at hl; simp [isLeaf] at hl
          rw [if_pos hl] at h
          by_cases hc : 10000 < c + 1
          · rw [if_pos hc] at h; cases h
          rw [if_neg hc] at h
          cases h
          exact ⟨⟨[t], rfl, by simp, fun _ => ⟨_, _, _, _, _, rfl, by simp [Fo.len]⟩, fun h0 => absurd rfl h0⟩, fun _ he => he.tail ht, fun _ => by omega⟩
        · rw [if_neg hl] at h; cases h
      · rw [if_neg hm] at h
        unfold lst at h
        by_cases h3 : m = 3
        · subst h3
          rw [if_pos rfl] at h
          by_cases h9 : t.kind = 9
          · rw [if_pos h9] at h
            cases h
            exact ⟨⟨[t], rfl, by simp, fun h => absurd h (by decide), fun _ => by simp [Fo.len]⟩, fun h => absurd rfl h, id⟩
          · rw [if_neg h9] at h; exact moreG 3 _ (by decide) h
        rw [if_neg h3] at h
        by_cases hk : t.kind = 2
        · rw [if_pos hk] at h
          cases h
          exact ⟨⟨[t], rfl, by simp, fun h => absurd h hm, fun _ => by simp [Fo.len]⟩, fun _ he => he.tail (by rw [hk]; decide), id⟩
        rw [if_neg hk] at h
        by_cases hk4 : t.kind = 4
        · have ht : t.kind ≠ 9 := by rw [hk4]; decide
          rw [if_pos hk4] at h
          by_cases h1 : m = 1
          · rw [if_pos h1] at h; cases h
          rw [if_neg h1] at h
          cases hr : rd k 0 ts o c with
          | bad e p => rw [hr] at h; cases h
          | ok f1 d1 r1 c1 =>
            rw [hr] at h
            have g1 := ih 0 ts o c f1 d1 r1 c1 hr
            cases r1 with
            | nil => cases h
            | cons t1 r1 =>
              simp only [Res.tail] at h
              by_cases h2 : t1.kind = 2
              · rw [if_pos h2] at h
                cases h
                obtain ⟨q1, e1, p1, o1, _⟩ := g1.suf
                obtain ⟨k1, n1, x1, s1, y1, rfl, l1⟩ := o1 rfl
                refine ⟨⟨t :: (q1 ++ [t1]), by rw [e1]; simp, by simp, fun h => absurd h hm, fun _ => ?_⟩, fun _ he => (g1.ended (by decide) (he.tail ht)).tail (by rw [h2]; decide), g1.much⟩
                by_cases h5 : k1 = 5
                · simp [tailOf, h5]; omega
                · simp [tailOf, h5, Fo.len]
              · rw [if_neg h2] at h; cases h
        · rw [if_neg hk4] at h
          have g := moreG 2 _ (by decide) h
          obtain ⟨q, e, p, _, l⟩ := g.suf
          exact ⟨⟨q, e, p, fun h0 => absurd h0 hm, fun _ => l (by decide)⟩, fun _ => g.ended (by decide), g.much⟩

def mz (m : Nat) : Nat := if m = 0 then 0 else 1
theorem mz0 : mz 0 = 0 := rfl
theorem mz1 : mz 1 = 1 := rfl
/-- Fuel enough is as good as more. -/
theorem rd_fuel (k : Nat) : ∀ (k' m : Nat) (ts : List Tok) (o c : Nat), 2 * ts.length + mz m < k → 2 * ts.length + mz m < k' → rd k m ts o c = rd k' m ts o c := by
  induction k with
  | zero => intro k' m ts o c h; omega
  | succ k ih =>
    intro k' m ts o c h h'
    cases k' with
    | zero => omega
    | succ k' =>
      cases ts with
      | nil => simp [rd]
      | cons t ts =>
        simp only [List.length_cons] at h h'
        have moreE : ∀ m', m' ≠ 0 → m ≠ 0 → more (rd k) m' (t :: ts) o c = more (rd k') m' (t :: ts) o c := by
          intro m' hm' hm
          have e1 : mz m = 1 := if_neg hm
          unfold more
          rw [ih k' 0 (t :: ts) o c (by simp only [mz0, List.length_cons]; omega) (by simp only [mz0, List.length_cons]; omega)]
          cases hr : rd k' 0 (t :: ts) o c with
          | bad e p => rfl
          | ok f d r c' =>
            obtain ⟨q, e, p, _⟩ := (rd_good k' 0 _ o c f d r c' hr).suf
            have hl : r.length ≤ ts.length := by
              have := congrArg List.length e
              simp at this; omega
            simp only [Res.then]
            rw [ih k' m' r o c' (by have : mz m' = 1 := if_neg hm'; omega) (by have : mz m' = 1 := if_neg hm'; omega)]
        simp only [rd]
        by_cases hm : m = 0
        · subst hm
          simp only [if_true]
          have e1 : mz 0 = 0 := rfl
          unfold one
          rw [ih k' 1 ts (o + 1) (c + 1) (by simp only [mz1]; omega) (by simp only [mz1]; omega), ih k' 0 ts (o + 1) (c + 2) (by simp only [mz0]; omega) (by simp only [mz0]; omega)]
        · simp only [if_neg hm]
          have e1 : mz m = 1 := if_neg hm
          unfold lst
          rw [moreE 3 (by decide) hm, moreE 2 (by decide) hm, ih k' 0 ts o c (by simp only [mz0]; omega) (by simp only [mz0]; omega)]

/-- Reading, without fuel. -/
def rdf (m : Nat) (ts : List Tok) (o c : Nat) : Res := rd (2 * ts.length + mz m + 1) m ts o c
theorem rdf_eq {k m : Nat} {ts : List Tok} {o c : Nat} (h : 2 * ts.length + mz m < k) : rd k m ts o c = rdf m ts o c := rd_fuel _ _ _ _ _ _ h (Nat.lt_succ_self _)
theorem rdf_one (t : Tok) (ts : List Tok) (o c : Nat) : rdf 0 (t :: ts) o c = one rdf t ts o c := by
  show rd (2 * (t :: ts).length + mz 0 + 1) 0 (t :: ts) o c = _
  simp only [rd, if_true]
  unfold one
  rw [rdf_eq (by simp only [mz0, mz1, List.length_cons]; omega), rdf_eq (by simp only [mz0, List.length_cons]; omega)]
theorem rdf_more {m : Nat} (hm : m ≠ 0) {k : Nat} (t : Tok) (ts : List Tok) (o c : Nat) (hk : 2 * (ts.length + 1) < k) : more (rd k) m (t :: ts) o c = more rdf m (t :: ts) o c := by
  unfold more
  rw [rdf_eq (by simp only [mz0, List.length_cons]; omega)]
  cases hr : rdf 0 (t :: ts) o c with
  | bad e p => rfl
  | ok f d r c' =>
    obtain ⟨q, e, p, _⟩ := (rd_good _ 0 _ o c f d r c' hr).suf
    have hl : r.length ≤ ts.length := by
      have := congrArg List.length e
      simp at this; omega
    simp only [Res.then]
    rw [rdf_eq (by have : mz m = 1 := if_neg hm; omega)]
theorem rdf_lst {m : Nat} (hm : m ≠ 0) (t : Tok) (ts : List Tok) (o c : Nat) : rdf m (t :: ts) o c = lst rdf m t ts o c := by
  have e1 : mz m = 1 := if_neg hm
  show rd (2 * (t :: ts).length + mz m + 1) m (t :: ts) o c = _
  simp only [rd, if_neg hm]
  unfold lst
  rw [rdf_more (by decide) _ _ _ _ (by simp only [e1, List.length_cons]; omega), rdf_more (by decide) _ _ _ _ (by simp only [e1, List.length_cons]; omega), rdf_eq (by simp only [mz0, List.length_cons]; omega)]
theorem rdf_good {m : Nat} {ts : List Tok} {o c : Nat} {f : Fo} {d : Bool} {r : List Tok} {c' : Nat} (h : rdf m ts o c = .ok f d r c') : Good m ts f r c c' := rd_good _ m ts o c f d r c' h
end Go.Proofs.YtkgnigloboajcabGreatDoor

/- The reader's small functions. -/
namespace Go.Proofs.YtkgnigloboajcabGreatDoor
open Go.RowKit

/-- Nothing but block rb has turned. -/
structure But (rb : Nat) (w w' : World) : Prop where
  os : w'.os = w.os
  tape : w'.tape = w.tape
  output : w'.output = w.output
  size : w.heap.size ≤ w'.heap.size
  block : ∀ g, g < w.heap.size → g ≠ rb → w'.heap[g]? = w.heap[g]?
theorem But.refl (rb : Nat) (w : World) : But rb w w := ⟨rfl, rfl, rfl, Nat.le_refl _, fun _ _ _ => rfl⟩
theorem But.trans {rb : Nat} {a b c : World} (h : But rb a b) (k : But rb b c) : But rb a c :=
  ⟨k.os.trans h.os, k.tape.trans h.tape, k.output.trans h.output, Nat.le_trans h.size k.size, fun g hg hne => (k.block g (Nat.lt_of_lt_of_le hg h.size) hne).trans (h.block g hg hne)⟩
theorem But.of_below {rb : Nat} {w w' : World} (h : Below w.heap.size w w') : But rb w w' := ⟨h.os, h.tape, h.output, h.size, fun g hg _ => h.block g hg⟩
theorem But.below {rb B : Nat} {w w' : World} (h : But rb w w') (hB : B ≤ rb) (hs : B ≤ w.heap.size) : Below B w w' := ⟨h.os, h.tape, h.output, h.size, fun g hg => h.block g (by omega) (by omega)⟩
theorem But.set {rb o : Nat} {w w' : World} (h : But rb w w') (v : Value) : But rb w (w'.setCell ⟨rb, o, none⟩ v) :=
  h.trans ⟨rfl, rfl, rfl, by simp [World.setCell], fun _ _ hne => Below.heap_setCell _ _ _ _ hne⟩
theorem But.alloc {rb : Nat} {w w' : World} (h : But rb w w') (o : Obj) : But rb w (w'.alloc o) := h.trans (But.of_below ((Below.refl _ _).alloc (Nat.le_refl _) _))
theorem But.drew {rb : Nat} {w w' : World} (h : But rb w w') : But rb w w'.drew := h.trans ⟨rfl, rfl, rfl, Nat.le_refl _, fun _ _ _ => rfl⟩
theorem But.new {rb : Nat} {w w' : World} {g o : Nat} (h : But rb w w') (hg : w.heap.size ≤ g) (v : Value) : But rb w (w'.setCell ⟨g, o, none⟩ v) :=
  ⟨h.os, h.tape, h.output, by have := h.size; simpa [World.setCell] using this, fun k hk hne => (Below.heap_setCell _ _ _ _ (by show k ≠ g; omega)).trans (h.block k hk hne)⟩
theorem But.grown {rb : Nat} {w w' w'' : World} {row : Option Nat} (h : But rb w w') (hg : w'.grownBy w'' row) (hr : ∀ k, row = some k → w.heap.size ≤ k) : But rb w w'' :=
  ⟨hg.os.trans h.os, hg.tape.trans h.tape, hg.output.trans h.output, Nat.le_trans h.size hg.size, fun k hk hne => (hg.block k (Nat.lt_of_lt_of_le hk h.size) (fun e => by have := hr k e.symm; omega)).trans (h.block k hk hne)⟩

theorem set_at {W : World} {b j : Nat} {cs : Array Value} {t : TypeId} (h : W.heap[b]? = some (.cells cs t (0, 0))) (v : Value) : (W.setCell ⟨b, j, none⟩ v).heap[b]? = some (.cells (cs.setIfInBounds j v) t (0, 0)) := by
  have hlt := (Array.getElem?_eq_some_iff.1 h).1
  rw [Array.getElem?_eq_getElem hlt] at h
  have h2 := Option.some.inj h
  show (W.heap.modify b _)[b]? = _
  rw [Array.getElem?_eq_getElem (by simpa using hlt), Array.getElem_modify_self, h2]
  rfl
/-- The panic's value: an error and its place. -/
def fault (e p : Int) : List PanicEntry := [{ v := .iface 94 (.agg #[.int .i64 e, .int .i64 p]), recovered := false }]

end Go.Proofs.YtkgnigloboajcabGreatDoor

/- An append that tells where its answer lies, and that the elder value still reads its row. -/
namespace Go.Proofs.YtkgnigloboajcabGreatDoor
open Go.RowKit

theorem own_prefix {w w' : World} {base e size g n n' cap cap' : Nat} {xs r : List Value} (h : w.ownsRow base e size (.slice (some ⟨g, 0, none⟩) n cap) n xs) (h1 : w.ownsRow base e size (.slice (some ⟨g, 0, none⟩) n' cap') n' (xs ++ r))
    (h2 : w'.ownsRow base e size (.slice (some ⟨g, 0, none⟩) n' cap') n' (xs ++ r)) : w'.ownsRow base e size (.slice (some ⟨g, 0, none⟩) n cap) n xs := by
  obtain ⟨hl, hc⟩ := h
  rcases hc with ⟨h', _⟩ | ⟨a, b, cur, hv, hb, hh, hn, hm, hz, ht⟩
  · simp at h'
  rcases h1.2 with ⟨h', _⟩ | ⟨a1, b1, cur1, hv1, _, hh1, _, _, hz1, _⟩
  · simp at h'
  obtain ⟨hl2, hc2⟩ := h2
  rcases hc2 with ⟨h', _⟩ | ⟨a2, b2, cur2, hv2, _, hh2, _, _, hz2, ht2⟩
  · simp at h'
  simp only [Value.slice.injEq, Option.some.injEq, Addr.mk.injEq, and_true, true_and] at hv hv1 hv2
  obtain ⟨rfl, rfl⟩ := hv
  obtain ⟨rfl, rfl⟩ := hv1
  obtain ⟨rfl, rfl⟩ := hv2
  rw [hh] at hh1
  cases hh1
  refine ⟨hl, .inr ⟨g, cap, cur2, rfl, hb, hh2, hn, hm, by rw [hz2, ← hz1, hz], ?_⟩⟩
  have : n * size ≤ n' * size := by rw [← hl, ← hl2, List.length_append]; omega
  have h3 : (cur2.toList.take (n' * size)).take (n * size) = cur2.toList.take (n * size) := by rw [List.take_take, Nat.min_eq_left this]
  rw [← h3, ht2, ← hl, List.take_left]

theorem own_told {w w' : World} {base e size n n' : Nat} {v u : Value} {xs r : List Value} (h : w.ownsRow base e size v n xs) (h1 : w.ownsRow base e size u n' (xs ++ r))
    (h2 : w'.ownsRow base e size u n' (xs ++ r)) (hg : w.grownBy w' u.ownBlock) : w'.ownsRow base e size v n xs := by
  by_cases e : v.ownBlock = none ∨ v.ownBlock ≠ u.ownBlock
  · exact h.kept hg e
  · rcases h.2 with ⟨rfl, _⟩ | ⟨g, cap, cur, rfl, _⟩
    · exact absurd (.inl rfl) e
    · rcases h1.2 with ⟨rfl, _⟩ | ⟨g1, cap1, cur1, rfl, _⟩
      · exact absurd (.inr (by simp [Value.ownBlock])) e
      · have : g = g1 := by
          by_cases e' : g = g1
          · exact e'
          · exact absurd (.inr (by simp [Value.ownBlock, e'])) e
        subst this
        exact own_prefix h h1 h2

theorem append_told {P : Program} {w w' : World} {base : Nat} {t ty e : TypeId} {i : TypeInfo} {z : Value} {size bytes : Nat} (ht : P.underlying t = some (.slice e)) (hi : P.info? e = some i) (hz : i.zero = some z)
    (hsize : i.size = size) (hby : i.bytes = bytes) (hsz : 0 < size) {v v' : Value} {n : Nat} {xs : List Value} (hown : w.ownsRow base e size v n xs)
    {a : Addr} {m c : Nat} {news : List Value} (hl : news.length = m * size) (hnews : ∀ j u, news[j]? = some u → w.cell? (a.add j) = some u) (h1 : ∀ u ∈ news, u.oneCell' = true)
    (h63 : n + m ≤ maxLen) (hbytes : (n + m) * bytes ≤ 140737488355328) (hm : 0 < m)
    (hrun : (Builtin.append_ #[t, t] ty #[v, .slice (some a) m c]).run P w = .ok v' w') (hown' : w'.ownsRow base e size v' (n + m) (xs ++ news)) (hg : w.grownBy w' v.ownBlock) :
    w'.ownsRow base e size v n xs ∧ (v'.ownBlock = v.ownBlock ∨ v'.ownBlock = some w.heap.size) := by
  subst hsize
  subst hby
  have hsmall : n + m ≤ 9223372036854775807 := by simp only [maxLen] at h63; omega
  rcases hown.2 with ⟨rfl, rfl⟩ | ⟨g, cap, cur, rfl, hbg, hgg, hnc, hcm, hcs, htake⟩
  · have hx : xs = [] := List.eq_nil_of_length_eq_zero (by simpa using hown.1)
    subst hx
    have hr := run_append_nil (P := P) w t ty e i z ht hi hz a m c news hl hnews hm (by omega) (by have hb := hbytes; simp only [Nat.zero_add] at hb; omega)
    rw [hrun] at hr
    cases hr
    exact ⟨World.ownsRow_nil _ _ _ _, .inr rfl⟩
  · by_cases hroom : n + m ≤ cap
    · have hfit : n * i.size + news.length ≤ cur.size := by rw [hl, hcs, ← Nat.add_mul]; exact Nat.mul_le_mul_right _ hroom
      have hr := run_append_room (P := P) w t ty e i ht hi g n cap cur hgg a m c news hl hnews h1 hroom hfit
      rw [hrun] at hr
      cases hr
      refine ⟨?_, .inl rfl⟩
      obtain ⟨hl2, hc2⟩ := hown'
      rcases hc2 with ⟨h', _⟩ | ⟨a2, b2, cur2, hv2, _, hh2, _, _, hz2, ht2⟩
      · simp at h'
      simp only [Value.slice.injEq, Option.some.injEq, Addr.mk.injEq, and_true, true_and] at hv2
      obtain ⟨rfl, rfl⟩ := hv2
      refine ⟨hown.1, .inr ⟨g, cap, cur2, rfl, hbg, hh2, hnc, hcm, hz2, ?_⟩⟩
      have : n * i.size ≤ (n + m) * i.size := Nat.mul_le_mul_right _ (by omega)
      have h3 : (cur2.toList.take ((n + m) * i.size)).take (n * i.size) = cur2.toList.take (n * i.size) := by rw [List.take_take, Nat.min_eq_left this]
      rw [← h3, ht2, ← hown.1, List.take_left]
    · have hb := append_full w t ty e i z ht hi hz base g n cap xs hown a m c news hl hnews h63 hbytes (by omega) hrun
      have holds : ∀ j u, xs[j]? = some u → w.cell? ((⟨g, 0, none⟩ : Addr).add j) = some u := hown.cells (g := g) rfl
      have hr := run_append_grow (P := P) w t ty e i z ht hi hz ⟨g, 0, none⟩ n cap xs hown.1 holds a m c news hl hnews (by omega) (by omega) (growslice_fits (by omega) hbytes)
      rw [hrun] at hr
      cases hr
      refine ⟨⟨hown.1, .inr ⟨g, cap, cur, rfl, hbg, ?_, hnc, hcm, hcs, htake⟩⟩, .inr rfl⟩
      rw [hb.block g (Array.getElem?_eq_some_iff.1 hgg).1]; exact hgg

theorem wpList_append_told {P : Program} (w : World) {ops : Array Oper} {rest : List Oper} {o : Oper} {a : Act} {Q : Exit → Act → World → Prop} (hgd : o.guard = none) (s x : Operand) (t : TypeId)
    (ho : o.op = .call { callee := .builtin .append, args := #[s, x], argTypes := #[t, t] })
    (base : Nat) (e : TypeId) (i : TypeInfo) (z : Value) (size bytes : Nat) (ht : P.underlying t = some (.slice e)) (hi : P.info? e = some i) (hz : i.zero = some z)
    (hsize : i.size = size) (hby : i.bytes = bytes) (hzs : z.cells.size = size) (hsz : 0 < size)
    (v : Value) (n : Nat) (xs : List Value) (hs : a.eval s = v) (hown : w.ownsRow base e size v n xs)
    (ad : Addr) (m c : Nat) (news : List Value) (hx : a.eval x = .slice (some ad) m c) (hl : news.length = m * size) (hnews : ∀ j u, news[j]? = some u → w.cell? (ad.add j) = some u) (h1 : ∀ u ∈ news, u.oneCell' = true)
    (h63 : n + m ≤ maxLen) (hbytes : (n + m) * bytes ≤ 140737488355328) (hbase : base ≤ w.heap.size) (hm : 0 < m)
    (h : ∀ v' w', w'.ownsRow base e size v' (n + m) (xs ++ news) → w.grownBy w' v.ownBlock → w'.ownsRow base e size v n xs → (v'.ownBlock = v.ownBlock ∨ v'.ownBlock = some w.heap.size) → wpList P ops Q rest (a.put o.dst v') w') : wpList P ops Q (o :: rest) a w :=
  wpList_plain hgd fun _ hK => by
    obtain ⟨v', w', hr, h2, h3, _⟩ := run_append_own (P := P) w base t o.type e i z size bytes ht hi hz hsize hby hzs hsz v n xs hown ad m c news hl hnews h1 h63 hbytes hbase
    obtain ⟨h4, h5⟩ := append_told ht hi hz hsize hby hsz hown hl hnews h1 h63 hbytes hm hr h2 h3
    unfold Oper.wp execOp
    simp only [ho, resolve, invoke, builtin, Sem.run_bind, Sem.run_pure, Result.andThen_ok, List.map_toArray, List.map_cons, List.map_nil, hs, hx, hr]
    exact hK _ _ (h v' w' h2 h3 h4 h5)
end Go.Proofs.YtkgnigloboajcabGreatDoor
