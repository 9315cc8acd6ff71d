/- What the lexer's functions say, as plain functions on lists of bytes: no program in it.; The going through, step by step, as a plain function: what its steps are.; Data, and how a source's tokens are read: plain mathematics, no program in it.; The tokens of a source, without fuel; two sources with a new line between. -/
import Derived.Lib.ParseIntB
/- What the lexer's functions say, as plain functions on lists of bytes: no program in it. -/
namespace Go.Proofs.YtlpdfifjdlfpdaaGreatDoor

/-- A token, or what stands beside an error: kind, text, number, place. -/
structure Tok where
  kind : Int
  text : List UInt8
  n : Int
  pos : Int

def isWI (c : Int) : Bool := decide (33 ≤ c) && decide (c ≤ 126) && c != 40 && c != 41 && c != 39 && c != 59 && c != 34
def isBI (c : Int) : Bool := c == 32 || c == 9 || c == 10 || c == 13
def isDI (c : Int) : Bool := decide (48 ≤ c) && decide (c ≤ 57)
def isW (b : UInt8) : Bool := isWI b.toNat
def isB (b : UInt8) : Bool := isBI b.toNat
def isD (b : UInt8) : Bool := isDI b.toNat

/-- What is left behind blanks and comments; c: within a comment. -/
def leave : Bool → List UInt8 → List UInt8
  | _, [] => []
  | true, b :: r => if b.toNat = 10 then leave false r else leave true r
  | false, b :: r => if isB b then leave false r else if b.toNat = 59 then leave true r else b :: r

def unsign : List UInt8 → List UInt8
  | [] => []
  | b :: r => if b.toNat = 45 then r else b :: r
def isNum (l : List UInt8) : Bool := (unsign l).all isD && !(unsign l).isEmpty
def begNum (l : List UInt8) : Bool := match unsign l with | [] => false | d :: _ => isD d
/-- The number that digits spell, behind acc. -/
def val (acc : Nat) (l : List UInt8) : Nat := l.foldl (fun a d => 10 * a + (d.toNat - 48)) acc
theorem val_nil (acc : Nat) : val acc [] = acc := by unfold val; rw [List.foldl_nil]
theorem val_cons (acc : Nat) (d : UInt8) (r : List UInt8) : val acc (d :: r) = val (10 * acc + (d.toNat - 48)) r := by unfold val; rw [List.foldl_cons]
theorem val_snoc (acc : Nat) (d : UInt8) (r : List UInt8) : val acc (r ++ [d]) = 10 * val acc r + (d.toNat - 48) := by unfold val; rw [List.foldl_append, List.foldl_cons, List.foldl_nil]
def neg (l : List UInt8) : Bool := match l with | [] => false | b :: _ => b.toNat == 45
def num (l : List UInt8) : Int := if neg l then -(val 0 (unsign l) : Int) else (val 0 (unsign l) : Int)
def fits (n : Int) : Bool := decide (-576460752303423488 ≤ n) && decide (n ≤ 576460752303423487)
def hash (l : List UInt8) : Bool := match l with | [] => false | b :: _ => b.toNat == 35
def bad (l : List UInt8) : Bool := hash l || begNum l || decide (32 < l.length)

def tk (k : Int) : Tok := ⟨k, [], 0, 0⟩
def word (l : List UInt8) : Tok :=
  if l = [46] then tk 4 else if l = [35, 116] then tk 8 else if l = [35, 102] then tk 7
  else if isNum l then (if fits (num l) then ⟨5, [], num l, 0⟩ else tk 0)
  else if bad l then tk 0 else ⟨6, l, 0, 0⟩
def wordE (l : List UInt8) : Int :=
  if l = [46] then 0 else if l = [35, 116] then 0 else if l = [35, 102] then 0
  else if isNum l then (if fits (num l) then 0 else 52)
  else if bad l then 51 else 0

def begT (l : List UInt8) : Tok := match l with
  | [] => tk 9
  | b :: _ => if b.toNat = 40 then tk 1 else if b.toNat = 41 then tk 2 else if b.toNat = 39 then tk 3
    else if isW b then word (l.takeWhile isW) else tk 0
def begS (l : List UInt8) : Nat := match l with
  | [] => 0
  | b :: _ => if b.toNat = 40 then 1 else if b.toNat = 41 then 1 else if b.toNat = 39 then 1
    else if isW b then (l.takeWhile isW).length else 0
def begE (l : List UInt8) : Int := match l with
  | [] => 0
  | b :: _ => if b.toNat = 40 then 0 else if b.toNat = 41 then 0 else if b.toNat = 39 then 0
    else if isW b then wordE (l.takeWhile isW) else 50

def put (t : Tok) (p : Int) : Tok := { t with pos := p }

/-- One step of the going through: the token at which it stands, with its place. -/
def at0 (N : Nat) (l : List UInt8) : Tok := put (begT (leave false l)) ((N : Int) - (leave false l).length)
def er0 (l : List UInt8) : Int := begE (leave false l)
def nx0 (l : List UInt8) : List UInt8 := (leave false l).drop (begS (leave false l))
/-- It ends here: an error, or the end. -/
def last (l : List UInt8) : Bool := er0 l != 0 || (leave false l).isEmpty

/-- All that the going through gives, the error beside its place as the last: N: the source's length. -/
def scan (N : Nat) : Nat → List UInt8 → List (Tok × Int)
  | 0, _ => []
  | f + 1, l => (at0 N l, er0 l) :: (if last l then [] else scan N f (nx0 l))

theorem leave_le (c : Bool) (l : List UInt8) : (leave c l).length ≤ l.length := by
  induction l generalizing c with
  | nil => cases c <;> simp [leave]
  | cons b r ih =>
    cases c
    · have h1 := ih false; have h2 := ih true
      simp only [leave]; split
      · simp; omega
      · split
        · simp; omega
        · simp
    · have h1 := ih false; have h2 := ih true
      simp only [leave]; split <;> simp <;> omega

/-- What is left is the end of what there was. -/
theorem leave_drop (c : Bool) (l : List UInt8) : leave c l = l.drop (l.length - (leave c l).length) := by
  induction l generalizing c with
  | nil => cases c <;> simp [leave]
  | cons b r ih =>
    have key : ∀ c', leave c' r = (b :: r).drop ((b :: r).length - (leave c' r).length) := fun c' => by
      have h := ih c'
      have hl := leave_le c' r
      rw [show (b :: r).length - (leave c' r).length = (r.length - (leave c' r).length) + 1 from by simp; omega, List.drop_succ_cons]
      exact h
    cases c
    · simp only [leave]; split
      · exact key false
      · split
        · exact key true
        · simp
    · simp only [leave]; split
      · exact key false
      · exact key true

theorem begS_le (l : List UInt8) : begS l ≤ l.length := by
  cases l with
  | nil => simp [begS]
  | cons b r =>
    simp only [begS]
    split; · simp
    split; · simp
    split; · simp
    split
    · exact (List.takeWhile_sublist _).length_le
    · simp

theorem begS_pos (l : List UInt8) (h : l ≠ []) (he : begE l = 0) : 1 ≤ begS l := by
  cases l with
  | nil => exact absurd rfl h
  | cons b r =>
    simp only [begS, begE] at *
    split; · simp
    split; · simp
    split; · simp
    split
    · rename_i hw; simp [hw]
    · rename_i h1 h2 h3 h4; simp [h1, h2, h3, h4] at he

theorem leave_false_idem (c : Bool) (l : List UInt8) : leave false (leave c l) = leave c l := by
  induction l generalizing c with
  | nil => cases c <;> simp [leave]
  | cons b r ih =>
    cases c
    · by_cases h1 : isB b = true
      · simp [leave, h1, ih]
      · by_cases h2 : b.toNat = 59
        · simp [leave, h1, h2, ih]
        · simp [leave, h1, h2]
    · by_cases h1 : b.toNat = 10
      · simp [leave, h1, ih]
      · simp [leave, h1, ih]

end Go.Proofs.YtlpdfifjdlfpdaaGreatDoor

/- The going through, step by step, as a plain function: what its steps are. -/
namespace Go.Proofs.YtlpdfifjdlfpdaaGreatDoor

theorem word_kind9 (l : List UInt8) : ¬ (word l).kind = 9 := by
  unfold word
  split; · decide
  split; · decide
  split; · decide
  split
  · split <;> simp [tk]
  · split <;> simp [tk]
theorem begT_nil : begT [] = tk 9 := rfl
theorem begT_kind9 (l : List UInt8) : ((begT l).kind == 9) = l.isEmpty := by
  cases l with
  | nil => rfl
  | cons b r =>
    simp only [begT]
    split; · rfl
    split; · rfl
    split; · rfl
    split
    · rw [show ((b :: r).isEmpty) = false from rfl]; exact beq_eq_false_iff_ne.2 (word_kind9 _)
    · rfl
theorem begE_nil : begE [] = 0 := rfl

/-- All that is given; a source that is too long: one error. -/
def items (l : List UInt8) : List (Tok × Int) := if 65536 < l.length then [(tk 0, 2)] else scan l.length (l.length + 1) l

theorem scan_ne (N f : Nat) (l : List UInt8) : scan N (f + 1) l = (at0 N l, er0 l) :: (if last l then [] else scan N f (nx0 l)) := rfl
theorem nx0_lt (l : List UInt8) (h : last l = false) : (nx0 l).length < l.length := by
  simp only [last, Bool.or_eq_false_iff, bne_eq_false_iff_eq, List.isEmpty_eq_false_iff] at h
  obtain ⟨he, hne⟩ := h
  have h1 := begS_pos _ hne he
  have h2 := begS_le (leave false l)
  have h3 := leave_le false l
  simp only [nx0, List.length_drop]
  omega
theorem scan_len (N : Nat) : ∀ (f : Nat) (l : List UInt8), (scan N f l).length ≤ l.length + 1 := by
  intro f
  induction f with
  | zero => intro l; simp [scan]
  | succ f ih =>
    intro l
    rw [scan_ne]
    cases h : last l
    · have := ih (nx0 l); have := nx0_lt l h; simp; omega
    · simp
theorem items_ne (l : List UInt8) : items l ≠ [] := by
  unfold items
  split
  · simp
  · rw [scan_ne]; simp
theorem items_len (l : List UInt8) : (items l).length ≤ l.length + 1 ∧ (items l).length ≤ 65537 := by
  unfold items
  split
  · simp
  · have := scan_len l.length (l.length + 1) l; omega
end Go.Proofs.YtlpdfifjdlfpdaaGreatDoor

/- Data, and how a source's tokens are read: plain mathematics, no program in it. -/
namespace Go.Proofs.YtlpdfifjdlfpdaaGreatDoor

/-- Data, one behind the other: a datum's kind, number, text, kids, dot; then the others. -/
inductive Fo where
  | nil
  | cons (kind : Int) (n : Int) (text : List UInt8) (kids : Fo) (dot : Bool) (rest : Fo)

def Fo.len : Fo → Nat
  | .nil => 0
  | .cons _ _ _ _ _ r => r.len + 1
def Fo.app : Fo → Fo → Fo
  | .nil, g => g
  | .cons k n t s d r, g => .cons k n t s d (r.app g)
theorem Fo.app_nil (f : Fo) : f.app .nil = f := by induction f with | nil => rfl | cons k n t s d r _ ih => simp [Fo.app, ih]
theorem Fo.app_assoc (f g h : Fo) : (f.app g).app h = f.app (g.app h) := by induction f with | nil => rfl | cons k n t s d r _ ih => simp [Fo.app, ih]
theorem Fo.len_app (f g : Fo) : (f.app g).len = f.len + g.len := by
  induction f with
  | nil => simp [Fo.app, Fo.len]
  | cons k n t s d r _ ih => simp [Fo.app, Fo.len, ih]; omega

/-- Are they the same? -/
def Fo.same : Fo → Fo → Bool
  | .nil, .nil => true
  | .cons k n t s d r, .cons k' n' t' s' d' r' => (k == k' && n == n' && t == t' && d == d' && s.same s') && r.same r'
  | _, _ => false
theorem Fo.same_iff (f : Fo) : ∀ g, f.same g = true ↔ f = g := by
  induction f with
  | nil => intro g; cases g <;> simp [Fo.same]
  | cons k n t s d r ihs ihr =>
    intro g
    cases g with
    | nil => simp [Fo.same]
    | cons k' n' t' s' d' r' =>
      simp only [Fo.same, Bool.and_eq_true, beq_iff_eq, ihs, ihr, Fo.cons.injEq]
      constructor
      · rintro ⟨⟨⟨⟨⟨h1, h2⟩, h3⟩, h4⟩, h5⟩, h6⟩; exact ⟨h1, h2, h3, h5, h4, h6⟩
      · rintro ⟨h1, h2, h3, h5, h4, h6⟩; exact ⟨⟨⟨⟨⟨h1, h2⟩, h3⟩, h4⟩, h5⟩, h6⟩

/-- What comes of reading: data, whether the last one is a tail, what is left, how many there were; or an error and its place. -/
inductive Res where
  | ok (f : Fo) (dot : Bool) (rest : List Tok) (c : Nat)
  | bad (e p : Int)

def quoteT : List UInt8 := [113, 117, 111, 116, 101]
def Res.list : Res → Res
  | .ok f d r c => .ok (.cons 5 0 [] f d .nil) false r c
  | .bad e p => .bad e p
def Res.quote : Res → Res
  | .ok f _ r c => .ok (.cons 5 0 [] (.cons 2 0 quoteT .nil false f) false .nil) false r c
  | .bad e p => .bad e p
/-- A tail's kids, if it is a list. -/
def tailOf : Fo → Fo × Bool
  | .cons k n t s d r => if k = 5 then (s, d) else (.cons k n t s d r, true)
  | .nil => (.nil, true)
def Res.tail : Res → Res
  | .ok f _ (t :: r) c => if t.kind = 2 then .ok (tailOf f).1 (tailOf f).2 r c else .bad 60 t.pos
  | .ok _ _ [] _ => .bad 0 0
  | .bad e p => .bad e p
def Res.behind (f : Fo) : Res → Res
  | .ok g d r c => .ok (f.app g) d r c
  | .bad e p => .bad e p
def Res.then (x : Res) (K : Fo → List Tok → Nat → Res) : Res :=
  match x with
  | .ok f _ r c => K f r c
  | .bad e p => .bad e p

def isLeaf (k : Int) : Bool := k == 5 || k == 6 || k == 7 || k == 8
def leafOf (t : Tok) : Fo := .cons (t.kind - 4) (if t.kind = 5 then t.n else 0) (if t.kind = 6 then t.text else []) .nil false .nil

def one (R : Nat → List Tok → Nat → Nat → Res) (t : Tok) (ts : List Tok) (o c : Nat) : Res :=
  if t.kind = 1 then (if o = 100 then .bad 61 t.pos else if 10000 < c + 1 then .bad 62 t.pos else (R 1 ts (o + 1) (c + 1)).list)
  else if t.kind = 3 then (if o = 100 then .bad 61 t.pos else if 10000 < c + 2 then .bad 62 t.pos else (R 0 ts (o + 1) (c + 2)).quote)
  else if isLeaf t.kind then (if 10000 < c + 1 then .bad 62 t.pos else .ok (leafOf t) false ts (c + 1))
  else .bad 60 t.pos
def more (R : Nat → List Tok → Nat → Nat → Res) (m : Nat) (ts : List Tok) (o c : Nat) : Res :=
  (R 0 ts o c).then fun f r c' => (R m r o c').behind f
def lst (R : Nat → List Tok → Nat → Nat → Res) (m : Nat) (t : Tok) (ts : List Tok) (o c : Nat) : Res :=
  if m = 3 then (if t.kind = 9 then .ok .nil false ts c else more R 3 (t :: ts) o c)
  else if t.kind = 2 then .ok .nil false ts c
  else if t.kind = 4 then (if m = 1 then .bad 60 t.pos else (R 0 ts o c).tail)
  else more R 2 (t :: ts) o c

/-- Modes: 0 one datum, 1 a list from its bracket on, 2 a list that has kids already, 3 all to the end. -/
def rd : Nat → Nat → List Tok → Nat → Nat → Res
  | 0, _, _, _, _ => .bad 0 0
  | _ + 1, _, [], _, _ => .bad 0 0
  | k + 1, m, t :: ts, o, c => if m = 0 then one (rd k) t ts o c else lst (rd k) m t ts o c

/-- Tokens up to the end, which stands last and nowhere else. -/
def Ended (l : List Tok) : Prop := ∃ q e, l = q ++ [e] ∧ e.kind = 9 ∧ ∀ x ∈ q, x.kind ≠ 9
theorem Ended.tail {t : Tok} {ts : List Tok} (h : Ended (t :: ts)) (ht : t.kind ≠ 9) : Ended ts := by
  obtain ⟨q, e, h, he, hq⟩ := h
  cases q with
  | nil => simp at h; exact absurd (h.1 ▸ he) ht
  | cons a q => simp at h; exact ⟨q, e, h.2, he, fun x hx => hq x (List.mem_cons_of_mem _ hx)⟩
theorem Ended.ne {l : List Tok} (h : Ended l) : l ≠ [] := by obtain ⟨q, e, rfl, _⟩ := h; simp

/-- What a reading leaves. -/
structure Good (m : Nat) (ts : List Tok) (f : Fo) (r : List Tok) (c c' : Nat) : Prop where
  suf : ∃ q, ts = q ++ r ∧ 0 < q.length ∧ (m = 0 → ∃ k n t s d, f = .cons k n t s d .nil ∧ s.len ≤ q.length) ∧ (m ≠ 0 → f.len + 1 ≤ q.length)
  ended : m ≠ 3 → Ended ts → Ended r
  much : c ≤ 10000 → c' ≤ 10000

theorem rd_good (k : Nat) : ∀ (m : Nat) (ts : List Tok) (o c : Nat) (f : Fo) (d : Bool) (r : List Tok) (c' : Nat), rd k m ts o c = .ok f d r c' → Good m ts f r c c' := by
  induction k with
  | zero => intro m ts o c f d r c' h; simp [rd] at h
  | succ k ih =>
    intro m ts o c f d r c' h
    have moreG : ∀ (m' : Nat) (ts : List Tok), m' ≠ 0 → more (rd k) m' ts o c = .ok f d r c' → Good m' ts f r c c' := by
      intro m' ts hm' h
      unfold more Res.then at h
      cases h1 : rd k 0 ts o c with
      | bad e p => rw [h1] at h; cases h
      | ok f1 d1 r1 c1 =>
        rw [h1] at h
        dsimp only at h
        have g1 := ih 0 ts o c f1 d1 r1 c1 h1
        cases h2 : rd k m' r1 o c1 with
        | bad e p => rw [h2] at h; cases h
        | ok f2 d2 r2 c2 =>
          rw [h2] at h
          unfold Res.behind at h
          have g2 := ih m' r1 o c1 f2 d2 r2 c2 h2
          cases h
          obtain ⟨q1, e1, p1, o1, _⟩ := g1.suf
          obtain ⟨q2, e2, p2, _, l2⟩ := g2.suf
          obtain ⟨k1, n1, x1, s1, y1, rfl, _⟩ := o1 rfl
          refine ⟨⟨q1 ++ q2, by rw [e1, e2]; simp, by rw [List.length_append]; omega, fun h0 => absurd h0 hm', fun _ => ?_⟩, fun h3 he => g2.ended h3 (g1.ended (by decide) he), fun hc => g2.much (g1.much hc)⟩
          have := l2 hm'
          rw [Fo.len_app, List.length_append]; simp [Fo.len]; omega
    cases ts with
    | nil => simp [rd] at h
    | cons t ts =>
      simp only [rd] at h
      by_cases hm : m = 0
      · subst hm
        rw [if_pos rfl] at h
        unfold one at h
        by_cases hk : t.kind = 1
        · have ht : t.kind ≠ 9 := by rw [hk]; decide
          rw [if_pos hk] at h
          by_cases ho : o = 100
          · rw [if_pos ho] at h; cases h
          rw [if_neg ho] at h
          by_cases hc : 10000 < c + 1
          · rw [if_pos hc] at h; cases h
          rw [if_neg hc] at h
          cases h1 : rd k 1 ts (o + 1) (c + 1) with
          | bad e p => rw [h1] at h; cases h
          | ok f1 d1 r1 c1 =>
            rw [h1] at h
            have g1 := ih 1 ts (o + 1) (c + 1) f1 d1 r1 c1 h1
            cases h
            obtain ⟨q1, e1, p1, _, l1⟩ := g1.suf
            have := l1 (by decide)
            exact ⟨⟨t :: q1, by rw [e1]; rfl, by simp, fun _ => ⟨_, _, _, _, _, rfl, by simp; omega⟩, fun h0 => absurd rfl h0⟩, fun _ he => g1.ended (by decide) (he.tail ht), fun _ => g1.much (by omega)⟩
        rw [if_neg hk] at h
        by_cases hk3 : t.kind = 3
        · have ht : t.kind ≠ 9 := by rw [hk3]; decide
          rw [if_pos hk3] at h
          by_cases ho : o = 100
          · rw [if_pos ho] at h; cases h
          rw [if_neg ho] at h
          by_cases hc : 10000 < c + 2
          · rw [if_pos hc] at h; cases h
          rw [if_neg hc] at h
          cases h1 : rd k 0 ts (o + 1) (c + 2) with
          | bad e p => rw [h1] at h; cases h
          | ok f1 d1 r1 c1 =>
            rw [h1] at h
            have g1 := ih 0 ts (o + 1) (c + 2) f1 d1 r1 c1 h1
            cases h
            obtain ⟨q1, e1, p1, o1, _⟩ := g1.suf
            obtain ⟨k1, n1, x1, s1, y1, rfl, _⟩ := o1 rfl
            exact ⟨⟨t :: q1, by rw [e1]; rfl, by simp, fun _ => ⟨_, _, _, _, _, rfl, by simp [Fo.len]; omega⟩, fun h0 => absurd rfl h0⟩, fun _ he => g1.ended (by decide) (he.tail ht), fun _ => g1.much (by omega)⟩
        rw [if_neg hk3] at h
        by_cases hl : isLeaf t.kind = true
        · have ht : t.kind ≠ 9 := by rintro e; rw [e] at hl; simp [isLeaf] at hl
          rw [if_pos hl] at h
          by_cases hc : 10000 < c + 1
          · rw [if_pos hc] at h; cases h
          rw [if_neg hc] at h
          cases h
          exact ⟨⟨[t], rfl, by simp, fun _ => ⟨_, _, _, _, _, rfl, by simp [Fo.len]⟩, fun h0 => absurd rfl h0⟩, fun _ he => he.tail ht, fun _ => by omega⟩
        · rw [if_neg hl] at h; cases h
      · rw [if_neg hm] at h
        unfold lst at h
        by_cases h3 : m = 3
        · subst h3
          rw [if_pos rfl] at h
          by_cases h9 : t.kind = 9
          · rw [if_pos h9] at h
            cases h
            exact ⟨⟨[t], rfl, by simp, fun h => absurd h (by decide), fun _ => by simp [Fo.len]⟩, fun h => absurd rfl h, id⟩
          · rw [if_neg h9] at h; exact moreG 3 _ (by decide) h
        rw [if_neg h3] at h
        by_cases hk : t.kind = 2
        · rw [if_pos hk] at h
          cases h
          exact ⟨⟨[t], rfl, by simp, fun h => absurd h hm, fun _ => by simp [Fo.len]⟩, fun _ he => he.tail (by rw [hk]; decide), id⟩
        rw [if_neg hk] at h
        by_cases hk4 : t.kind = 4
        · have ht : t.kind ≠ 9 := by rw [hk4]; decide
          rw [if_pos hk4] at h
          by_cases h1 : m = 1
          · rw [if_pos h1] at h; cases h
          rw [if_neg h1] at h
          cases hr : rd k 0 ts o c with
          | bad e p => rw [hr] at h; cases h
          | ok f1 d1 r1 c1 =>
            rw [hr] at h
            have g1 := ih 0 ts o c f1 d1 r1 c1 hr
            cases r1 with
            | nil => cases h
            | cons t1 r1 =>
              simp only [Res.tail] at h
              by_cases h2 : t1.kind = 2
              · rw [if_pos h2] at h
                cases h
                obtain ⟨q1, e1, p1, o1, _⟩ := g1.suf
                obtain ⟨k1, n1, x1, s1, y1, rfl, l1⟩ := o1 rfl
                refine ⟨⟨t :: (q1 ++ [t1]), by rw [e1]; simp, by simp, fun h => absurd h hm, fun _ => ?_⟩, fun _ he => (g1.ended (by decide) (he.tail ht)).tail (by rw [h2]; decide), g1.much⟩
                by_cases h5 : k1 = 5
                · simp [tailOf, h5]; omega
                · simp [tailOf, h5, Fo.len]
              · rw [if_neg h2] at h; cases h
        · rw [if_neg hk4] at h
          have g := moreG 2 _ (by decide) h
          obtain ⟨q, e, p, _, l⟩ := g.suf
          exact ⟨⟨q, e, p, fun h0 => absurd h0 hm, fun _ => l (by decide)⟩, fun _ => g.ended (by decide), g.much⟩

def mz (m : Nat) : Nat := if m = 0 then 0 else 1
theorem mz0 : mz 0 = 0 := rfl
theorem mz1 : mz 1 = 1 := rfl
/-- Fuel enough is as good as more. -/
theorem rd_fuel (k : Nat) : ∀ (k' m : Nat) (ts : List Tok) (o c : Nat), 2 * ts.length + mz m < k → 2 * ts.length + mz m < k' → rd k m ts o c = rd k' m ts o c := by
  induction k with
  | zero => intro k' m ts o c h; omega
  | succ k ih =>
    intro k' m ts o c h h'
    cases k' with
    | zero => omega
    | succ k' =>
      cases ts with
      | nil => simp [rd]
      | cons t ts =>
        simp only [List.length_cons] at h h'
        have moreE : ∀ m', m' ≠ 0 → m ≠ 0 → more (rd k) m' (t :: ts) o c = more (rd k') m' (t :: ts) o c := by
          intro m' hm' hm
          have e1 : mz m = 1 := if_neg hm
          unfold more
          rw [ih k' 0 (t :: ts) o c (by simp only [mz0, List.length_cons]; omega) (by simp only [mz0, List.length_cons]; omega)]
          cases hr : rd k' 0 (t :: ts) o c with
          | bad e p => rfl
          | ok f d r c' =>
            obtain ⟨q, e, p, _⟩ := (rd_good k' 0 _ o c f d r c' hr).suf
            have hl : r.length ≤ ts.length := by
              have := congrArg List.length e
              simp at this; omega
            simp only [Res.then]
            rw [ih k' m' r o c' (by have : mz m' = 1 := if_neg hm'; omega) (by have : mz m' = 1 := if_neg hm'; omega)]
        simp only [rd]
        by_cases hm : m = 0
        · subst hm
          simp only [if_true]
          have e1 : mz 0 = 0 := rfl
          unfold one
          rw [ih k' 1 ts (o + 1) (c + 1) (by simp only [mz1]; omega) (by simp only [mz1]; omega), ih k' 0 ts (o + 1) (c + 2) (by simp only [mz0]; omega) (by simp only [mz0]; omega)]
        · simp only [if_neg hm]
          have e1 : mz m = 1 := if_neg hm
          unfold lst
          rw [moreE 3 (by decide) hm, moreE 2 (by decide) hm, ih k' 0 ts o c (by simp only [mz0]; omega) (by simp only [mz0]; omega)]

/-- Reading, without fuel. -/
def rdf (m : Nat) (ts : List Tok) (o c : Nat) : Res := rd (2 * ts.length + mz m + 1) m ts o c
theorem rdf_eq {k m : Nat} {ts : List Tok} {o c : Nat} (h : 2 * ts.length + mz m < k) : rd k m ts o c = rdf m ts o c := rd_fuel _ _ _ _ _ _ h (Nat.lt_succ_self _)
theorem rdf_one (t : Tok) (ts : List Tok) (o c : Nat) : rdf 0 (t :: ts) o c = one rdf t ts o c := by
  show rd (2 * (t :: ts).length + mz 0 + 1) 0 (t :: ts) o c = _
  simp only [rd, if_true]
  unfold one
  rw [rdf_eq (by simp only [mz0, mz1, List.length_cons]; omega), rdf_eq (by simp only [mz0, List.length_cons]; omega)]
theorem rdf_more {m : Nat} (hm : m ≠ 0) {k : Nat} (t : Tok) (ts : List Tok) (o c : Nat) (hk : 2 * (ts.length + 1) < k) : more (rd k) m (t :: ts) o c = more rdf m (t :: ts) o c := by
  unfold more
  rw [rdf_eq (by simp only [mz0, List.length_cons]; omega)]
  cases hr : rdf 0 (t :: ts) o c with
  | bad e p => rfl
  | ok f d r c' =>
    obtain ⟨q, e, p, _⟩ := (rd_good _ 0 _ o c f d r c' hr).suf
    have hl : r.length ≤ ts.length := by
      have := congrArg List.length e
      simp at this; omega
    simp only [Res.then]
    rw [rdf_eq (by have : mz m = 1 := if_neg hm; omega)]
theorem rdf_lst {m : Nat} (hm : m ≠ 0) (t : Tok) (ts : List Tok) (o c : Nat) : rdf m (t :: ts) o c = lst rdf m t ts o c := by
  have e1 : mz m = 1 := if_neg hm
  show rd (2 * (t :: ts).length + mz m + 1) m (t :: ts) o c = _
  simp only [rd, if_neg hm]
  unfold lst
  rw [rdf_more (by decide) _ _ _ _ (by simp only [e1, List.length_cons]; omega), rdf_more (by decide) _ _ _ _ (by simp only [e1, List.length_cons]; omega), rdf_eq (by simp only [mz0, List.length_cons]; omega)]
theorem rdf_good {m : Nat} {ts : List Tok} {o c : Nat} {f : Fo} {d : Bool} {r : List Tok} {c' : Nat} (h : rdf m ts o c = .ok f d r c') : Good m ts f r c c' := rd_good _ m ts o c f d r c' h
end Go.Proofs.YtlpdfifjdlfpdaaGreatDoor

/- The tokens of a source, without fuel; two sources with a new line between. -/
namespace Go.Proofs.YtlpdfifjdlfpdaaGreatDoor

def sc (N : Nat) (l : List UInt8) : List (Tok × Int) := scan N (l.length + 1) l

theorem scan_fuel (N : Nat) : ∀ (f g : Nat) (l : List UInt8), l.length < f → l.length < g → scan N f l = scan N g l := by
  intro f
  induction f with
  | zero => intro g l h; omega
  | succ f ih =>
    intro g l h h'
    cases g with
    | zero => omega
    | succ g =>
      rw [scan_ne, scan_ne]
      cases hl : last l
      · have := nx0_lt l hl
        rw [ih g (nx0 l) (by omega) (by omega)]
      · rfl

theorem sc_eq (N : Nat) (l : List UInt8) : sc N l = (at0 N l, er0 l) :: (if last l then [] else sc N (nx0 l)) := by
  unfold sc
  rw [scan_ne]
  cases hl : last l
  · have := nx0_lt l hl
    rw [scan_fuel N l.length ((nx0 l).length + 1) (nx0 l) (by omega) (by omega)]
  · rfl

theorem items_sc (l : List UInt8) (h : l.length ≤ 65536) : items l = sc l.length l := by
  unfold items sc; rw [if_neg (by omega)]

theorem leave_join (t : List UInt8) (l : List UInt8) : ∀ c, leave c (l ++ 10 :: t) = if leave c l = [] then leave false t else leave c l ++ 10 :: t := by
  induction l with
  | nil => intro c; cases c <;> simp [leave, isB, isBI]
  | cons b r ih =>
    intro c
    cases c
    · simp only [List.cons_append, leave]
      split
      · exact ih false
      · split
        · exact ih true
        · simp
    · simp only [List.cons_append, leave]
      split
      · exact ih false
      · exact ih true

theorem take_join (t l : List UInt8) : (l ++ 10 :: t).takeWhile isW = l.takeWhile isW := by
  induction l with
  | nil => simp [isW, isWI]
  | cons b r ih => simp only [List.cons_append, List.takeWhile_cons]; split <;> simp [ih]

theorem begT_join (t l : List UInt8) (h : l ≠ []) : begT (l ++ 10 :: t) = begT l := by
  cases l with
  | nil => exact absurd rfl h
  | cons b r =>
    have := take_join t (b :: r)
    rw [List.cons_append] at this
    simp only [List.cons_append, begT, this]
theorem begS_join (t l : List UInt8) (h : l ≠ []) : begS (l ++ 10 :: t) = begS l := by
  cases l with
  | nil => exact absurd rfl h
  | cons b r =>
    have := take_join t (b :: r)
    rw [List.cons_append] at this
    simp only [List.cons_append, begS, this]
theorem begE_join (t l : List UInt8) (h : l ≠ []) : begE (l ++ 10 :: t) = begE l := by
  cases l with
  | nil => exact absurd rfl h
  | cons b r =>
    have := take_join t (b :: r)
    rw [List.cons_append] at this
    simp only [List.cons_append, begE, this]

/-- Where the first source has nothing left, the second one goes on. -/
theorem sc_over (N : Nat) (l t : List UInt8) (h : leave false l = []) : sc N (l ++ 10 :: t) = sc N t := by
  have hl : leave false (l ++ 10 :: t) = leave false t := by rw [leave_join, if_pos h]
  rw [sc_eq, sc_eq N t]
  have h1 : at0 N (l ++ 10 :: t) = at0 N t := by unfold at0; rw [hl]
  have h2 : er0 (l ++ 10 :: t) = er0 t := by unfold er0; rw [hl]
  have h3 : last (l ++ 10 :: t) = last t := by unfold last er0; rw [hl]
  have h4 : nx0 (l ++ 10 :: t) = nx0 t := by unfold nx0; rw [hl]
  rw [h1, h2, h3, h4]

theorem put_pos (t : Tok) (a b : Int) (h : a = b) : put t a = put t b := by rw [h]

/-- One step within the first source. -/
theorem sc_within (S : Nat) (l t : List UInt8) (h : leave false l ≠ []) :
    at0 (S + 1 + t.length) (l ++ 10 :: t) = at0 S l ∧ er0 (l ++ 10 :: t) = er0 l ∧ last (l ++ 10 :: t) = last l ∧ (er0 l = 0 → nx0 (l ++ 10 :: t) = nx0 l ++ 10 :: t) := by
  have hl : leave false (l ++ 10 :: t) = leave false l ++ 10 :: t := by rw [leave_join, if_neg h]
  refine ⟨?_, ?_, ?_, ?_⟩
  · unfold at0; rw [hl, begT_join _ _ h]; apply put_pos; simp; omega
  · unfold er0; rw [hl, begE_join _ _ h]
  · unfold last er0; rw [hl, begE_join _ _ h]
    congr 1
    rw [List.isEmpty_eq_false_iff.2 h, List.isEmpty_eq_false_iff.2 (by simp)]
  · intro _
    unfold nx0; rw [hl, begS_join _ _ h, List.drop_append_of_le_length (begS_le _)]

/-- No error. -/
def fineB (xs : List (Tok × Int)) : Bool := xs.all fun x => x.2 == 0

theorem sc_join (S : Nat) (t : List UInt8) : ∀ (n : Nat) (l : List UInt8), l.length ≤ n →
    sc (S + 1 + t.length) (l ++ 10 :: t) = if fineB (sc S l) then (sc S l).dropLast ++ sc (S + 1 + t.length) t else sc S l := by
  intro n
  induction n with
  | zero =>
    intro l hn
    have : l = [] := List.length_eq_zero_iff.1 (by omega)
    subst this
    rw [sc_over _ _ _ (by simp [leave])]
    have : sc S [] = [(at0 S [], 0)] := by rw [sc_eq]; simp [last, er0, leave, begE]
    rw [this]; simp [fineB]
  | succ n ih =>
    intro l hn
    by_cases h : leave false l = []
    · rw [sc_over _ _ _ h]
      have : sc S l = [(at0 S l, 0)] := by rw [sc_eq]; simp [last, er0, h, begE]
      rw [this]; simp [fineB]
    · obtain ⟨h1, h2, h3, h4⟩ := sc_within S l t h
      rw [sc_eq, sc_eq S l, h1, h2, h3]
      cases hl : last l
      · have he : er0 l = 0 := by simp [last] at hl; exact hl.1
        rw [h4 he, ih (nx0 l) (by have := nx0_lt l hl; omega)]
        have hne : sc S (nx0 l) ≠ [] := by rw [sc_eq]; simp
        simp only [Bool.false_eq_true, if_false]
        have hf : fineB ((at0 S l, er0 l) :: sc S (nx0 l)) = fineB (sc S (nx0 l)) := by simp [fineB, he]
        rw [hf]
        cases fineB (sc S (nx0 l))
        · simp
        · simp [List.dropLast_cons_of_ne_nil hne]
      · have he : ¬ er0 l = 0 := by
          intro e; simp [last, e, h] at hl
        simp [fineB, he]

/-- Places lie within the source. -/
theorem sc_pos (N : Nat) : ∀ (n : Nat) (l : List UInt8), l.length ≤ n → l.length ≤ N → ∀ x ∈ sc N l, 0 ≤ x.1.pos ∧ x.1.pos ≤ N := by
  intro n
  induction n with
  | zero =>
    intro l hn _ x hx
    have : l = [] := List.length_eq_zero_iff.1 (by omega)
    subst this
    rw [sc_eq] at hx
    simp [last, er0, leave, begE, at0, put] at hx
    rw [hx]; simp
  | succ n ih =>
    intro l hn hN x hx
    rw [sc_eq] at hx
    have hle := leave_le false l
    rcases List.mem_cons.1 hx with rfl | hx
    · simp only [at0, put]; omega
    · cases hl : last l
      · rw [hl] at hx
        have := nx0_lt l hl
        exact ih (nx0 l) (by omega) (by omega) x (by simpa using hx)
      · rw [hl] at hx; simp at hx
theorem items_pos (l : List UInt8) (x : Tok × Int) (hx : x ∈ items l) : 0 ≤ x.1.pos ∧ x.1.pos ≤ 65536 := by
  by_cases h : 65536 < l.length
  · unfold items at hx; rw [if_pos h] at hx
    simp at hx; rw [hx]; simp [tk]
  · rw [items_sc l (by omega)] at hx
    have := sc_pos l.length l.length l (Nat.le_refl _) (Nat.le_refl _) x hx
    omega

/-- Places moved on. -/
def shift (k : Int) (x : Tok × Int) : Tok × Int := (put x.1 (x.1.pos + k), x.2)
theorem sc_shift (S k : Nat) : ∀ (n : Nat) (l : List UInt8), l.length ≤ n → sc (S + k) l = (sc S l).map (shift k) := by
  intro n
  induction n with
  | zero =>
    intro l hn
    have : l = [] := List.length_eq_zero_iff.1 (by omega)
    subst this
    rw [sc_eq, sc_eq S]
    simp [last, er0, leave, begE, at0, shift, put]
  | succ n ih =>
    intro l hn
    rw [sc_eq, sc_eq S]
    have ha : (at0 (S + k) l, er0 l) = shift k (at0 S l, er0 l) := by
      simp only [shift, at0, put, Prod.mk.injEq, and_true, Tok.mk.injEq, true_and]; omega
    cases hl : last l
    · simp only [Bool.false_eq_true, if_false, List.map_cons]
      rw [ha, ih (nx0 l) (by have := nx0_lt l hl; omega)]
    · simp [ha]
theorem fineB_shift (k : Int) (xs : List (Tok × Int)) : fineB (xs.map (shift k)) = fineB xs := by simp [fineB, List.all_map]; rfl
end Go.Proofs.YtlpdfifjdlfpdaaGreatDoor
