/- Depths: plain mathematics.; Depths: the small functions.; Depths: a way comes to a place.; Depths: a way goes on behind an instruction. -/
import Derived.Test.YtpkohocjgnodnaaGreatDoorGAB
import Derived.Test.YtpkohocjgnodnaaGreatDoorGAC
import Derived.Test.YtpkohocjgnodnaaGreatDoorGAD
import Derived.Maps.AppendAt
import Derived.Deep.AppendLies
import Derived.Deep.RegionHeld3
import Derived.OwnWalk
/- Depths: plain mathematics. -/
namespace Go.Proofs.YtpkohocjgnodnaaGreatDoor

/-- The depths that came to a place, and how many. -/
structure Ar where
  d0 : Int
  d1 : Int
  c : Int
def isNewB (a : Ar) (d : Int) : Bool := a.c == 0 || (a.c == 1 && (a.d0 != d))
def isWrongB (a : Ar) (t : Int) : Bool := a.c != 1 || (decide (a.d0 < t) || decide (256 ≤ a.d0))
def putAr (a : Ar) (d : Int) : Ar := if a.c = 0 then ⟨d, a.d1, 1⟩ else ⟨a.d0, d, a.c + 1⟩
structure Sm where
  met : List Ar
  left : List (Nat × Int)
def comeM (m : Sm) (p : Nat) (d : Int) : Sm := match m.met[p]? with
  | none => m
  | some a => if isNewB a d then ⟨m.met.set p (putAr a d), m.left ++ [(p, d)]⟩ else m
def passM (m : Sm) (p : Nat) (d : Int) (x : Ins) : Sm :=
  if endsB x.op then (if x.op = 8 ∨ x.op = 9 then comeM m x.a.toNat (d - takesN x + putsN x) else m)
  else comeM (if x.op = 8 ∨ x.op = 9 then comeM m x.a.toNat (d - takesN x + putsN x) else m) (p + 1) (d - takesN x + putsN x)
def runM (code : List Ins) : Nat → Sm → Sm
  | 0, m => m
  | k + 1, m => match m.left.getLast? with
    | none => m
    | some q => match code[q.1]? with
      | none => m
      | some x => runM code k (passM ⟨m.met, m.left.dropLast⟩ q.1 q.2 x)
/-- The first place that is wrong by its depths. -/
def wrongAt : List Ar → List Ins → Nat → Option Nat
  | a :: l, x :: r, j => if isWrongB a (takesN x) then some j else wrongAt l r (j + 1)
  | _, _, _ => none

/-- How many arrivals there are. -/
def cnt : List Ar → Int
  | [] => 0
  | a :: l => a.c + cnt l
theorem cnt_set : ∀ (l : List Ar) (p : Nat) (a b : Ar), l[p]? = some a → cnt (l.set p b) = cnt l - a.c + b.c
  | [], p, a, b, h => by simp at h
  | x :: l, 0, a, b, h => by
    obtain rfl : x = a := by simpa using h
    simp only [List.set_cons_zero, cnt]; omega
  | x :: l, p + 1, a, b, h => by
    have := cnt_set l p a b (by simpa using h)
    simp only [List.set_cons_succ, cnt]; omega
/-- As a walk's arrivals are. -/
structure Okm (n : Nat) (m : Sm) : Prop where
  len : m.met.length = n
  c : ∀ a ∈ m.met, 0 ≤ a.c ∧ a.c ≤ 2
  left : ∀ q ∈ m.left, q.1 < n ∧ -300 * cnt m.met ≤ q.2 ∧ q.2 ≤ 300 * cnt m.met
theorem cnt_le : ∀ (l : List Ar), (∀ a ∈ l, 0 ≤ a.c ∧ a.c ≤ 2) → 0 ≤ cnt l ∧ cnt l ≤ 2 * l.length
  | [], _ => by simp [cnt]
  | a :: l, h => by
    have h1 := cnt_le l (fun x hx => h x (List.mem_cons_of_mem _ hx))
    have h2 := h a (List.mem_cons_self ..)
    simp only [cnt, List.length_cons]; omega
theorem isNew_c {a : Ar} {d : Int} (h : isNewB a d = true) : a.c = 0 ∨ a.c = 1 := by
  unfold isNewB at h
  simp at h
  omega
theorem putAr_c {a : Ar} {d : Int} (_ : isNewB a d = true) : (putAr a d).c = a.c + 1 := by
  unfold putAr
  split
  · simp; omega
  · rfl
theorem Okm.come {n : Nat} {m : Sm} (h : Okm n m) {p : Nat} {d : Int} (hp : p < n) (hd : -300 * (cnt m.met + 1) ≤ d ∧ d ≤ 300 * (cnt m.met + 1)) : Okm n (comeM m p d) := by
  have hlt : p < m.met.length := by rw [h.len]; exact hp
  unfold comeM
  rw [List.getElem?_eq_getElem hlt]
  dsimp only
  split
  · rename_i hn
    have hc := cnt_set m.met p _ (putAr m.met[p] d) (List.getElem?_eq_getElem hlt)
    have hpc := putAr_c hn
    have h01 := isNew_c hn
    refine ⟨by simpa using h.len, fun a ha => ?_, fun q hq => ?_⟩
    · rcases List.mem_or_eq_of_mem_set ha with ha | rfl
      · exact h.c a ha
      · rw [hpc]; omega
    · simp only at hq ⊢
      rw [hc, hpc]
      rcases List.mem_append.1 hq with hq | hq
      · have := h.left q hq; omega
      · obtain rfl : q = (p, d) := by simpa using hq
        exact ⟨hp, by simp only; omega, by simp only; omega⟩
  · exact h
/-- How far a walk is from its end. -/
def far (n : Nat) (m : Sm) : Int := 2 * (2 * (n : Int) - cnt m.met) + m.left.length
theorem far_come {n : Nat} {m : Sm} (h : Okm n m) {p : Nat} (d : Int) (hp : p < n) : far n (comeM m p d) ≤ far n m := by
  have hlt : p < m.met.length := by rw [h.len]; exact hp
  unfold comeM
  rw [List.getElem?_eq_getElem hlt]
  dsimp only
  split
  · rename_i hn
    have hc := cnt_set m.met p _ (putAr m.met[p] d) (List.getElem?_eq_getElem hlt)
    have hpc := putAr_c hn
    unfold far
    simp only [List.length_append, List.length_singleton]
    rw [hc, hpc]
    omega
  · exact Int.le_refl _
end Go.Proofs.YtpkohocjgnodnaaGreatDoor

/- Depths: the small functions. -/
namespace Go.Proofs.YtpkohocjgnodnaaGreatDoor
open Go.RowKit

set_option maxRecDepth 100000 in
set_option maxHeartbeats 4000000 in
theorem isNew_any (a : Ar) (d : Int) (w : World) :
    Calls Tryz.prog 133 #[.agg #[.int .i64 a.d0, .int .i64 a.d1, .int .i64 a.c], .int .i64 d] w fun e w' => e = .returned (.bool (isNewB a d)) ∧ Below w.heap.size w w' := by
  have HB : Hid (∀ o, Below w.heap.size w (w.alloc o)) := fun o => (Below.refl _ w).alloc (Nat.le_refl _) o
  obtain ⟨d0, d1, c⟩ := a
  cases h0 : (c == 0)
  · cases h1 : (c == 1)
    · rw [show isNewB ⟨d0, d1, c⟩ d = false by simp [isNewB, h0, h1]]
      go_enter Tryz.func133, Tryz.ntmps133
      go_wp2
      go_ret
      exact ⟨rfl, HB.out _⟩
    · have HV : Hid (isNewB ⟨d0, d1, c⟩ d = (d0 != d)) := by show _ = _; simp [isNewB, h0, h1]
      go_enter Tryz.func133, Tryz.ntmps133
      go_wp2
      go_ret
      exact ⟨ret_bool (by rw [HV.out]), HB.out _⟩
  · rw [show isNewB ⟨d0, d1, c⟩ d = true by simp [isNewB, h0]]
    go_enter Tryz.func133, Tryz.ntmps133
    go_wp2
    go_ret
    exact ⟨rfl, HB.out _⟩

set_option maxRecDepth 100000 in
set_option maxHeartbeats 4000000 in
theorem isWrong_any (a : Ar) (t : Int) (w : World) :
    Calls Tryz.prog 111 #[.agg #[.int .i64 a.d0, .int .i64 a.d1, .int .i64 a.c], .int .i64 t] w fun e w' => e = .returned (.bool (isWrongB a t)) ∧ Below w.heap.size w w' := by
  have HB : Hid (∀ o, Below w.heap.size w (w.alloc o)) := fun o => (Below.refl _ w).alloc (Nat.le_refl _) o
  obtain ⟨d0, d1, c⟩ := a
  cases h1 : (c == 1)
  · have h1' : (c != 1) = true := by simp [bne, h1]
    rw [show isWrongB ⟨d0, d1, c⟩ t = true by simp only [isWrongB, h1', Bool.true_or]]
    go_enter Tryz.func111, Tryz.ntmps111
    go_wp2
    go_ret
    exact ⟨rfl, HB.out _⟩
  · have h1' : (c != 1) = false := by simp [bne, h1]
    have HV : Hid (isWrongB ⟨d0, d1, c⟩ t = (decide (d0 < t) || decide (256 ≤ d0))) := by show _ = _; simp only [isWrongB, h1', Bool.false_or]
    by_cases hlt : d0 < t
    · go_enter Tryz.func111, Tryz.ntmps111
      go_wp2
      go_ret
      exact ⟨ret_bool (by rw [HV.out]; simp [hlt]), HB.out _⟩
    · go_enter Tryz.func111, Tryz.ntmps111
      go_wp2
      go_ret
      exact ⟨ret_bool (by rw [HV.out, decide_eq_false (show ¬ d0 < t by omega), Bool.false_or]), HB.out _⟩
end Go.Proofs.YtpkohocjgnodnaaGreatDoor

/- Depths: a way comes to a place. -/
namespace Go.Proofs.YtpkohocjgnodnaaGreatDoor
open Go.RowKit

def arC (a : Ar) : List Value := [.int .i64 a.d0, .int .i64 a.d1, .int .i64 a.c]
def arCells : List Ar → List Value
  | [] => []
  | a :: l => arC a ++ arCells l
def lfCells : List (Nat × Int) → List Value
  | [] => []
  | q :: l => [.int .i64 q.1, .int .i64 q.2] ++ lfCells l
theorem arCells_len : ∀ (l : List Ar), (arCells l).length = l.length * 3
  | [] => rfl
  | a :: l => by rw [arCells, List.length_append, arCells_len l]; simp [arC]; omega
theorem lfCells_len : ∀ (l : List (Nat × Int)), (lfCells l).length = l.length * 2
  | [] => rfl
  | a :: l => by rw [lfCells, List.length_append, lfCells_len l]; simp; omega
theorem lfCells_snoc : ∀ (l : List (Nat × Int)) (q : Nat × Int), lfCells (l ++ [q]) = lfCells l ++ [.int .i64 q.1, .int .i64 q.2]
  | [], q => rfl
  | a :: l, q => by rw [List.cons_append, lfCells, lfCells_snoc l q, lfCells, List.append_assoc]
theorem arCells_split : ∀ (l : List Ar) (p : Nat) (a : Ar), l[p]? = some a → ∃ A B, arCells l = A ++ (arC a ++ B) ∧ A.length = p * 3 ∧ ∀ b, arCells (l.set p b) = A ++ (arC b ++ B)
  | [], p, a, h => by simp at h
  | x :: l, 0, a, h => by
    obtain rfl : x = a := by simpa using h
    exact ⟨[], arCells l, rfl, rfl, fun b => rfl⟩
  | x :: l, p + 1, a, h => by
    obtain ⟨A, B, h1, h2, h3⟩ := arCells_split l p a (by simpa using h)
    refine ⟨arC x ++ A, B, by rw [arCells, h1, List.append_assoc], by rw [List.length_append, h2]; simp [arC]; omega, fun b => ?_⟩
    rw [List.set_cons_succ, arCells, h3, List.append_assoc]
theorem arCells_get (l : List Ar) (p : Nat) (a : Ar) (h : l[p]? = some a) (j : Nat) (hj : j < 3) : (arCells l)[p * 3 + j]? = (arC a)[j]? := by
  obtain ⟨A, B, h1, h2, _⟩ := arCells_split l p a h
  rw [h1, List.getElem?_append_right (by omega), h2, show p * 3 + j - p * 3 = j by omega, List.getElem?_append_left (by simp [arC]; omega)]

theorem set_atC {W : World} {b j : Nat} {cs : Array Value} {t : TypeId} (h : W.heap[b]? = some (.cells cs t (0, 0))) (v : Value) : (W.setCell ⟨b, j, none⟩ v).heap[b]? = some (.cells (cs.setIfInBounds j v) t (0, 0)) := by
  have hlt := (Array.getElem?_eq_some_iff.1 h).1
  rw [Array.getElem?_eq_getElem hlt] at h
  have h2 := Option.some.inj h
  show (W.heap.modify b _)[b]? = _
  rw [Array.getElem?_eq_getElem (by simpa using hlt), Array.getElem_modify_self, h2]
  rfl
/-- A place's depths laid down anew. -/
theorem set_two {l : List Ar} {p : Nat} {a : Ar} {d : Int} (h : l[p]? = some a) (hn : a.c = 0 ∨ a.c = 1) :
    (((arCells l).toArray.setIfInBounds (p * 3 + a.c.toNat) (.int .i64 d)).setIfInBounds (p * 3 + 2) (.int .i64 (a.c + 1))) = (arCells (l.set p (putAr a d))).toArray := by
  obtain ⟨A, B, h1, h2, h3⟩ := arCells_split l p a h
  rw [h1, h3, ← h2]
  rcases hn with e | e
  · rw [e]
    simp [arC, putAr, e]
  · rw [e]
    simp [arC, putAr, e]

theorem stop_of {P : Prop} (h : Hid P) : P := h
/-- A walk in memory. -/
structure Wk (w : World) (wb mb base n : Nat) (lv : Value) (m : Sm) : Prop where
  hw : w.heap[wb]? = some (.cells #[.slice (some ⟨mb, 0, none⟩) n n, lv] 190 (0, 0))
  hm : w.heap[mb]? = some (.cells (arCells m.met).toArray 197 (0, 0))
  hl : w.ownsRow base 193 2 lv m.left.length (lfCells m.left)
  ok : Okm n m
  lt : mb < wb ∧ wb < base ∧ base ≤ w.heap.size
theorem Wk.kept {w w' : World} {wb mb base n : Nat} {lv : Value} {m : Sm} (h : Wk w wb mb base n lv m) (hb : Below w.heap.size w w') : Wk w' wb mb base n lv m := by
  obtain ⟨h1, h2, h3⟩ := h.lt
  refine ⟨(hb.block wb (by omega)).trans h.hw, (hb.block mb (by omega)).trans h.hm, ⟨h.hl.1, ?_⟩, h.ok, h1, h2, Nat.le_trans h3 hb.size⟩
  rcases h.hl.2 with h' | ⟨g, cap, cur, hv, hg, hh, r⟩
  · exact .inl h'
  · exact .inr ⟨g, cap, cur, hv, hg, (hb.block g (Array.getElem?_eq_some_iff.1 hh).1).trans hh, r⟩
theorem infoArr : (Tryz.prog.info? 193).map (fun i => (i.zero, i.size, i.bytes)) = some (some (.agg #[.int .i64 0, .int .i64 0]), 2, 16) := by kernel_rfl
theorem cell_two_new (W : World) (a0 a1 : Value) (t : TypeId) (b : Nat) (hb : W.heap.size = b) (j : Nat) (u : Value) (h : [a0, a1][j]? = some u) : (W.alloc (.cells #[a0, a1] t)).cell? ((⟨b, 0, none⟩ : Addr).add j) = some u := by
  subst hb
  have hn := heap_alloc_new W (.cells #[a0, a1] t)
  have e : ((⟨W.heap.size, 0, none⟩ : Addr).add j) = ⟨W.heap.size, j, none⟩ := by simp [Addr.add]; exact fun h => h.symm
  rw [e]
  simp only [World.cell?, hn]
  simpa using h
theorem two_one (a b : Int) : ∀ u ∈ [Value.int .i64 a, .int .i64 b], u.oneCell' = true := by
  intro u hu
  simp only [List.mem_cons, List.not_mem_nil, or_false] at hu
  rcases hu with rfl | rfl <;> rfl

set_option maxRecDepth 100000 in
set_option maxHeartbeats 8000000 in
theorem come_any (wb mb base n : Nat) (lv : Value) (m : Sm) (p : Nat) (d : Int) (w : World) (h : Wk w wb mb base n lv m) (hp : p < n) (_ : n ≤ 5000) (hlf : m.left.length ≤ 20000) (hd : -300 * (cnt m.met + 1) ≤ d ∧ d ≤ 300 * (cnt m.met + 1)) :
    Calls Tryz.prog 109 #[.pointer (some ⟨wb, 0, none⟩), .int .i64 p, .int .i64 d] w fun e w' => (∃ r, e = .returned r) ∧ ∃ lv', Wk w' wb mb base n lv' (comeM m p d) ∧ Below mb w w' ∧ (∀ g, g < w.heap.size → g ≠ wb → g ≠ mb → lv.ownBlock ≠ some g → w'.heap[g]? = w.heap[g]?) ∧ (lv'.ownBlock = lv.ownBlock ∨ ∃ g, lv'.ownBlock = some g ∧ w.heap.size ≤ g) := by
  obtain ⟨l1, l2, l3⟩ := h.lt
  obtain ⟨i0, hi0, hz0, hz1, hz2⟩ := info_parts infoArr
  have hlt : p < m.met.length := by rw [h.ok.len]; exact hp
  have ha : m.met[p]? = some m.met[p] := List.getElem?_eq_getElem hlt
  obtain ⟨a, hae⟩ : ∃ a, m.met[p] = a := ⟨_, rfl⟩
  rw [hae] at ha
  have hac := h.ok.c a (List.mem_of_getElem? ha)
  have H : Hid (Wk w wb mb base n lv m) := h
  have HA : Hid (m.met[p]? = some a) := ha
  have w0 : w.cell? ⟨wb, 0, none⟩ = some (.slice (some ⟨mb, 0, none⟩) n n) := by simp [World.cell?, h.hw]
  have m0 : w.cell? ⟨mb, p * 3, none⟩ = some (.int .i64 a.d0) := by
    have := arCells_get m.met p a ha 0 (by decide)
    simp [World.cell?, h.hm]; simpa [arC] using this
  have m1 : w.cell? ⟨mb, p * 3 + 1, none⟩ = some (.int .i64 a.d1) := by
    have := arCells_get m.met p a ha 1 (by decide)
    simp [World.cell?, h.hm]; simpa [arC] using this
  have m2 : w.cell? ⟨mb, p * 3 + 1 + 1, none⟩ = some (.int .i64 a.c) := by
    have := arCells_get m.met p a ha 2 (by decide)
    simp [World.cell?, h.hm]; simpa [arC] using this
  have i1 : (p : Int) < (n : Int) := by omega
  clear h ha hae
  go_enter Tryz.func109, Tryz.ntmps109
  go_wp2_with fail
  refine (isNew_any a d w).mono ?_
  rintro e w1 ⟨rfl, hb1⟩
  have HW1 : Hid (Wk w1 wb mb base n lv m) := H.out.kept hb1
  have HB1 : Hid (Below w.heap.size w w1) := hb1
  have s1 := hb1.size
  clear hb1 w0 m0 m1 m2
  cases hnew : isNewB a d
  · have HV : Hid (comeM m p d = m) := by show _ = _; unfold comeM; rw [HA.out]; simp [hnew]
    clear hnew
    go_wp2
    refine bodyPost_ret (results_none rfl _ _ _) rfl ?_
    exact ⟨⟨_, rfl⟩, lv, by rw [HV.out]; exact HW1.out, HB1.out.mono (by omega), fun g hg _ _ _ => HB1.out.block g hg, .inl rfl⟩
  · have hc01 := isNew_c hnew
    have HV : Hid (comeM m p d = ⟨m.met.set p (putAr a d), m.left ++ [(p, d)]⟩) := by show _ = _; unfold comeM; rw [HA.out]; simp [hnew]
    have Hok : Hid (Okm n (comeM m p d)) := H.out.ok.come hp hd
    clear hnew
    obtain ⟨k, hk⟩ : ∃ k : Nat, a.c = (k : Int) := ⟨a.c.toNat, by omega⟩
    have hk2 : k < 2 := by omega
    have hk2' : (k : Int) < 2 := by omega
    have Hk : Hid (a.c = (k : Int)) := hk
    have q0 := HW1.out.hm
    have m2 : w1.cell? ⟨mb, p * 3 + 2, none⟩ = some (.int .i64 k) := by
      have := arCells_get m.met p a HA.out 2 (by decide)
      rw [← hk]
      simp [World.cell?, q0]; simpa [arC] using this
    have mk : ∃ u, w1.cell? ⟨mb, p * 3 + k, none⟩ = some u := by
      have := arCells_get m.met p a HA.out k (by omega)
      simp only [World.cell?, q0]
      rw [show (arC a)[k]? = some ((arC a)[k]'(by simp [arC]; omega)) from List.getElem?_eq_getElem _] at this
      exact ⟨_, by simpa using this⟩
    obtain ⟨u0, mk⟩ := mk
    have fm : ∀ j, w1.frozen? ⟨mb, j, none⟩ = false := fun j => by simp [World.frozen?, q0]
    have fk := fm (p * 3 + k)
    have f2 := fm (p * 3 + 2)
    have w1c : w1.cell? ⟨wb, 1, none⟩ = some lv := by simp [World.cell?, HW1.out.hw]
    have fw : w1.frozen? ⟨wb, 1, none⟩ = false := by simp [World.frozen?, HW1.out.hw]
    have nk : ¬ p * 3 + 2 = p * 3 + k := by omega
    have nwm : ¬ wb = mb := by omega
    have nmw : ¬ mb = wb := by omega
    clear fm q0 hk hc01
    go_wp2_with fail
    go_region
    go_wp2_with (at_builtin; refine stop_of ?_)
    unfold Hid
    have K1 : ∀ g, g ≠ mb → ((w1.setCell ⟨mb, p * 3 + k, none⟩ (.int .i64 d)).setCell ⟨mb, p * 3 + 2, none⟩ (.int .i64 ((k : Int) + 1))).heap[g]? = w1.heap[g]? := fun g hg => (Below.heap_setCell _ _ _ _ hg).trans (Below.heap_setCell _ _ _ _ hg)
    have S1 : ((w1.setCell ⟨mb, p * 3 + k, none⟩ (.int .i64 d)).setCell ⟨mb, p * 3 + 2, none⟩ (.int .i64 ((k : Int) + 1))).heap.size = w1.heap.size := by rw [World.size_setCell, World.size_setCell]
    have hM : ((w1.setCell ⟨mb, p * 3 + k, none⟩ (.int .i64 d)).setCell ⟨mb, p * 3 + 2, none⟩ (.int .i64 ((k : Int) + 1))).heap[mb]? = some (.cells (arCells (m.met.set p (putAr a d))).toArray 197 (0, 0)) := by
      have h1 := set_atC (j := p * 3 + 2) (set_atC (j := p * 3 + k) HW1.out.hm (.int .i64 d)) (.int .i64 ((k : Int) + 1))
      have h2 := set_two (d := d) HA.out (by have := Hk.out; omega)
      rw [Hk.out] at h2
      rw [h1]
      simpa using h2
    have hB1 : Below mb w1 ((w1.setCell ⟨mb, p * 3 + k, none⟩ (.int .i64 d)).setCell ⟨mb, p * 3 + 2, none⟩ (.int .i64 ((k : Int) + 1))) := ((Below.refl mb w1).setCell (p := ⟨mb, p * 3 + k, none⟩) (Nat.le_refl _) _).setCell (p := ⟨mb, p * 3 + 2, none⟩) (Nat.le_refl _) _
    generalize (w1.setCell ⟨mb, p * 3 + k, none⟩ (.int .i64 d)).setCell ⟨mb, p * 3 + 2, none⟩ (.int .i64 ((k : Int) + 1)) = wS at *
    have hol : wS.ownsRow base 193 2 lv m.left.length (lfCells m.left) := by
      refine ⟨HW1.out.hl.1, ?_⟩
      rcases HW1.out.hl.2 with h' | ⟨g, cap, cur, hv, hg, hh, r⟩
      · exact .inl h'
      · exact .inr ⟨g, cap, cur, hv, hg, (K1 g (by omega)).trans hh, r⟩
    have vb : ∀ g, lv.ownBlock = some g → base ≤ g ∧ g < wS.heap.size := fun g hg => hol.lt g hg
    refine wpList_append_lies _ rfl _ _ 188 rfl base 193 i0 (.agg #[.int .i64 0, .int .i64 0]) 2 16 Tryz.underlying188 hi0 hz0 hz1 hz2 rfl (by decide) lv m.left.length (lfCells m.left) rfl (hol.alloc _) ⟨_, 0, none⟩ 1 1 [.int .i64 p, .int .i64 d] rfl rfl (cell_two_new wS _ _ _ _ S1) (two_one _ _) (by omega) (by unfold maxLen; omega) (by omega) (by show base ≤ (wS.alloc _).heap.size; rw [World.size_alloc]; omega) _ rfl ?_
    intro gg cap6 w6 hown hgr hat hlt6
    have hk6 : ∀ g, g < wS.heap.size → lv.ownBlock ≠ some g → w6.heap[g]? = wS.heap[g]? := fun g hg hv => (hgr.block g (show g < (wS.alloc _).heap.size by rw [World.size_alloc]; omega) (fun e => hv e.symm)).trans (Below.heap_alloc _ _ _ hg)
    have s6 : wS.heap.size ≤ w6.heap.size := Nat.le_trans (by show _ ≤ (wS.alloc _).heap.size; rw [World.size_alloc]; exact Nat.le_succ _) hgr.size
    have hw6 : w6.heap[wb]? = some (.cells #[.slice (some ⟨mb, 0, none⟩) n n, lv] 190 (0, 0)) := (hk6 wb (by omega) (fun e => by have := (vb wb e).1; omega)).trans ((K1 wb nwm).trans HW1.out.hw)
    have c6 : w6.cell? ⟨wb, 1, none⟩ = some lv := by simp [World.cell?, hw6]
    have f6 : w6.frozen? ⟨wb, 1, none⟩ = false := by simp [World.frozen?, hw6]
    have hm6 := (hk6 mb (by omega) (fun e => by have := (vb mb e).1; omega)).trans hM
    have HWf : Hid (Wk (w6.setCell ⟨wb, 1, none⟩ (.slice (some ⟨gg, 0, none⟩) (m.left.length + 1) cap6)) wb mb base n (.slice (some ⟨gg, 0, none⟩) (m.left.length + 1) cap6) (comeM m p d)) := by
      have hok := Hok.out
      show Wk _ _ _ _ _ _ _
      rw [HV.out] at hok ⊢
      refine ⟨set_atC hw6 _, (Below.heap_setCell _ _ _ _ nmw).trans hm6, ?_, hok, l1, l2, by rw [World.size_setCell]; omega⟩
      rw [lfCells_snoc, List.length_append]
      refine ⟨hown.1, ?_⟩
      rcases hown.2 with ⟨h', _⟩ | ⟨g, cap, cur, hv, hg, hh, r⟩
      · cases h'
      · exact .inr ⟨g, cap, cur, hv, hg, (Below.heap_setCell _ _ _ _ (by show g ≠ wb; omega)).trans hh, r⟩
    have HBf : Hid (Below mb w (w6.setCell ⟨wb, 1, none⟩ (.slice (some ⟨gg, 0, none⟩) (m.left.length + 1) cap6))) := by
      have h1 : Below mb w1 wS := hB1
      have h2 : Below mb wS w6 := ⟨hgr.os, hgr.tape, hgr.output, s6, fun g hg => hk6 g (by omega) (fun e => by have := (vb g e).1; omega)⟩
      exact (((HB1.out.mono (by omega)).trans h1).trans h2).setCell (p := ⟨wb, 1, none⟩) (by show mb ≤ wb; omega) _
    have HFf : Hid (∀ g, g < w.heap.size → g ≠ wb → g ≠ mb → lv.ownBlock ≠ some g → (w6.setCell ⟨wb, 1, none⟩ (.slice (some ⟨gg, 0, none⟩) (m.left.length + 1) cap6)).heap[g]? = w.heap[g]?) := fun g hg h1 h2 h3 => (Below.heap_setCell _ _ _ _ h1).trans ((hk6 g (by omega) h3).trans ((K1 g h2).trans (HB1.out.block g hg)))
    have HOf : Hid (Value.ownBlock (.slice (some ⟨gg, 0, none⟩) (m.left.length + 1) cap6) = lv.ownBlock ∨ ∃ g, Value.ownBlock (.slice (some ⟨gg, 0, none⟩) (m.left.length + 1) cap6) = some g ∧ w.heap.size ≤ g) := by
      rcases hat with e | e
      · exact .inl (by rw [e]; rfl)
      · exact .inr ⟨gg, rfl, by rw [e]; show w.heap.size ≤ (wS.alloc _).heap.size; rw [World.size_alloc]; omega⟩
    clear hown hgr hat hk6 hw6 hm6 hol vb K1 hM hB1 m2 mk fk f2 w1c fw
    go_wp2_with fail
    go_end0
    exact ⟨⟨_, rfl⟩, _, HWf.out, HBf.out, HFf.out, HOf.out⟩
end Go.Proofs.YtpkohocjgnodnaaGreatDoor

/- Depths: a way goes on behind an instruction. -/
namespace Go.Proofs.YtpkohocjgnodnaaGreatDoor
open Go.RowKit

theorem takes_bd (x : Ins) (hp : x.op = 13 → 1 ≤ x.a ∧ x.a ≤ 22) (hc : x.op = 10 ∨ x.op = 11 → 0 ≤ x.a ∧ x.a ≤ 256) : 0 ≤ takesN x ∧ takesN x ≤ 257 := by
  unfold takesN
  split
  · omega
  split
  · rename_i h; have := hc h; omega
  split
  · rename_i h
    obtain ⟨h1, h2⟩ := hp h
    obtain ⟨j, hj⟩ := Int.eq_ofNat_of_zero_le (show 0 ≤ x.a by omega)
    have hj23 : j < 23 := by omega
    have : ∀ j : Nat, j < 23 → 0 ≤ primT.getD j 0 ∧ primT.getD j 0 ≤ 257 := by decide
    unfold primN
    rw [hj]
    exact this j hj23
  · omega
theorem puts_bd (x : Ins) : 0 ≤ putsN x ∧ putsN x ≤ 1 := by unfold putsN; split <;> omega
theorem cnt_come {n : Nat} {m : Sm} (h : Okm n m) {p : Nat} (d : Int) (hp : p < n) : cnt m.met ≤ cnt (comeM m p d).met ∧ (comeM m p d).left.length ≤ m.left.length + 1 := by
  have hlt : p < m.met.length := by rw [h.len]; exact hp
  unfold comeM
  rw [List.getElem?_eq_getElem hlt]
  dsimp only
  split
  · rename_i hn
    have hc := cnt_set m.met p _ (putAr m.met[p] d) (List.getElem?_eq_getElem hlt)
    have hpc := putAr_c hn
    rw [hc, hpc]
    refine ⟨by omega, by simp⟩
  · exact ⟨Int.le_refl _, Nat.le_succ _⟩
theorem PT.belowM {w w' : World} {B : Nat} (h : PT w) (hb : Below B w w') (hB : 3 < B) : PT w' := fun j hj => (hb.cell (p := ⟨3, j, none⟩) hB).trans (h j hj)
theorem keepP {W W' : World} {g : Nat} {v0 v1 v2 v3 : Value} (hb : Below W.heap.size W W')
    (h : (W.cell? ⟨g, 0, none⟩ = some v0 ∧ W.cell? ⟨g, 1, none⟩ = some v1 ∧ W.cell? ⟨g + 1, 0, none⟩ = some v2 ∧ W.cell? ⟨g + 1, 1, none⟩ = some v3) ∧ g + 1 < W.heap.size) :
    (W'.cell? ⟨g, 0, none⟩ = some v0 ∧ W'.cell? ⟨g, 1, none⟩ = some v1 ∧ W'.cell? ⟨g + 1, 0, none⟩ = some v2 ∧ W'.cell? ⟨g + 1, 1, none⟩ = some v3) ∧ g + 1 < W'.heap.size := by
  obtain ⟨⟨a0, a1, a2, a3⟩, hl⟩ := h
  exact ⟨⟨(hb.cell (p := ⟨g, 0, none⟩) (Nat.lt_of_succ_lt hl)).trans a0, (hb.cell (p := ⟨g, 1, none⟩) (Nat.lt_of_succ_lt hl)).trans a1, (hb.cell (p := ⟨g + 1, 0, none⟩) hl).trans a2, (hb.cell (p := ⟨g + 1, 1, none⟩) hl).trans a3⟩, Nat.lt_of_lt_of_le hl hb.size⟩
/-- What a step of the walk's may turn. -/
structure Fr (wb mb : Nat) (lv lv' : Value) (w w' : World) : Prop where
  below : Below mb w w'
  block : ∀ g, g < w.heap.size → g ≠ wb → g ≠ mb → lv.ownBlock ≠ some g → w'.heap[g]? = w.heap[g]?
  own : lv'.ownBlock = lv.ownBlock ∨ ∃ g, lv'.ownBlock = some g ∧ w.heap.size ≤ g
theorem Fr.of_below {wb mb : Nat} {lv : Value} {w w' : World} (h : Below w.heap.size w w') (hm : mb ≤ w.heap.size) : Fr wb mb lv lv w w' := ⟨h.mono hm, fun g hg _ _ _ => h.block g hg, .inl rfl⟩
theorem Fr.trans {wb mb : Nat} {lv lv1 lv2 : Value} {a b c : World} (h : Fr wb mb lv lv1 a b) (k : Fr wb mb lv1 lv2 b c) : Fr wb mb lv lv2 a c := by
  refine ⟨h.below.trans k.below, fun g hg h1 h2 h3 => (k.block g (Nat.lt_of_lt_of_le hg h.below.size) h1 h2 ?_).trans (h.block g hg h1 h2 h3), ?_⟩
  · rcases h.own with e | ⟨g', e, hg'⟩
    · rw [e]; exact h3
    · rw [e]; intro e2; cases e2; omega
  · rcases k.own with e | ⟨g', e, hg'⟩
    · rcases h.own with e2 | ⟨g2, e2, hg2⟩
      · exact .inl (e.trans e2)
      · exact .inr ⟨g2, e.trans e2, hg2⟩
    · exact .inr ⟨g', e, Nat.le_trans h.below.size hg'⟩

set_option maxRecDepth 100000 in
set_option maxHeartbeats 8000000 in
theorem pass_any (wb mb base n : Nat) (lv : Value) (m : Sm) (p : Nat) (d : Int) (x : Ins) (w : World) (h : Wk w wb mb base n lv m) (hn : n ≤ 4096) (hlf : m.left.length ≤ 10000) (hd : -300 * cnt m.met ≤ d ∧ d ≤ 300 * cnt m.met)
    (_ : p < n) (hj : x.op = 8 ∨ x.op = 9 → 0 ≤ x.a ∧ x.a < n) (he : endsB x.op = false → p + 1 < n) (hpr : x.op = 13 → 1 ≤ x.a ∧ x.a ≤ 22) (hcl : x.op = 10 ∨ x.op = 11 → 0 ≤ x.a ∧ x.a ≤ 256) (hP : PT w) (_ : 3 < mb) :
    Calls Tryz.prog 110 #[.pointer (some ⟨wb, 0, none⟩), .agg #[.int .i64 p, .int .i64 d], .agg #[.int .u8 x.op, .int .i64 x.a]] w fun e w' => (∃ r, e = .returned r) ∧ ∃ lv', Wk w' wb mb base n lv' (passM m p d x) ∧ Fr wb mb lv lv' w w' := by
  obtain ⟨l1, l2, l3⟩ := h.lt
  have hcb := cnt_le m.met h.ok.c
  rw [h.ok.len] at hcb
  have htb := takes_bd x hpr hcl
  have hpb := puts_bd x
  obtain ⟨op, a⟩ := x
  dsimp only at *
  have hal : Below w.heap.size w ((w.alloc (.cells #[.int .i64 p, .int .i64 d] 193)).alloc (.cells #[.int .u8 op, .int .i64 a] 79)) := ((Below.refl _ w).alloc (Nat.le_refl _) _).alloc (by simp) _
  have q0 : ((w.alloc (.cells #[.int .i64 p, .int .i64 d] 193)).alloc (.cells #[.int .u8 op, .int .i64 a] 79)).heap[w.heap.size]? = some (.cells #[.int .i64 p, .int .i64 d] 193 (0, 0)) := (Below.heap_alloc _ _ _ (by simp)).trans (heap_alloc_new w _)
  have q1 : ((w.alloc (.cells #[.int .i64 p, .int .i64 d] 193)).alloc (.cells #[.int .u8 op, .int .i64 a] 79)).heap[w.heap.size + 1]? = some (.cells #[.int .u8 op, .int .i64 a] 79 (0, 0)) := by
    have := heap_alloc_new (w.alloc (.cells #[.int .i64 p, .int .i64 d] 193)) (.cells #[.int .u8 op, .int .i64 a] 79)
    rwa [World.size_alloc] at this
  have HAl : Hid _ := hal
  have H : Hid (Wk w wb mb base n lv m) := h
  have HPt : Hid (PT w) := hP
  have HQ0 : Hid _ := q0
  have HQ1 : Hid _ := q1
  have sz : w.heap.size + 1 < ((w.alloc (.cells #[.int .i64 p, .int .i64 d] 193)).alloc (.cells #[.int .u8 op, .int .i64 a] 79)).heap.size := by simp
  have z0 : ((w.alloc (.cells #[.int .i64 p, .int .i64 d] 193)).alloc (.cells #[.int .u8 op, .int .i64 a] 79)).cell? ⟨w.heap.size, 0, none⟩ = some (.int .i64 p) := by simp only [World.cell?, q0]; rfl
  have z1 : ((w.alloc (.cells #[.int .i64 p, .int .i64 d] 193)).alloc (.cells #[.int .u8 op, .int .i64 a] 79)).cell? ⟨w.heap.size, 1, none⟩ = some (.int .i64 d) := by simp only [World.cell?, q0]; rfl
  have z2 : ((w.alloc (.cells #[.int .i64 p, .int .i64 d] 193)).alloc (.cells #[.int .u8 op, .int .i64 a] 79)).cell? ⟨w.heap.size + 1, 0, none⟩ = some (.int .u8 op) := by simp only [World.cell?, q1]; rfl
  have z3 : ((w.alloc (.cells #[.int .i64 p, .int .i64 d] 193)).alloc (.cells #[.int .u8 op, .int .i64 a] 79)).cell? ⟨w.heap.size + 1, 1, none⟩ = some (.int .i64 a) := by simp only [World.cell?, q1]; rfl
  have Htk : Hid (∀ w0 : World, PT w0 → Calls Tryz.prog 112 #[.agg #[.int .u8 op, .int .i64 a]] w0 fun e w' => e = .returned (.int .i64 (takesN ⟨op, a⟩)) ∧ Below w0.heap.size w0 w') := fun w0 h0 => takes_any op a w0 hpr hcl h0
  obtain ⟨tk, htk⟩ : ∃ tk, takesN ⟨op, a⟩ = tk := ⟨_, rfl⟩
  obtain ⟨pt, hpt⟩ : ∃ pt, putsN ⟨op, a⟩ = pt := ⟨_, rfl⟩
  rw [htk] at htb Htk
  rw [hpt] at hpb
  have HTk : Hid (takesN ⟨op, a⟩ = tk) := htk
  have HPu : Hid (putsN ⟨op, a⟩ = pt) := hpt
  have Hj : Hid (op = 8 ∨ op = 9 → 0 ≤ a ∧ a < n) := hj
  have He : Hid (endsB op = false → p + 1 < n) := he
  clear h hP hal q0 q1 htk hpt hj he hpr hcl
  go_enter Tryz.func110, Tryz.ntmps110
  go_wp2_with fail
  generalize (w.alloc (.cells #[.int .i64 p, .int .i64 d] 193)).alloc (.cells #[.int .u8 op, .int .i64 a] 79) = W at *
  have hmx : Tryz.prog.follows .mixedOrders = true := by kernel_rfl
  have HPW : Hid (PT W) := HPt.out.below HAl.out
  go_region_held3 (fun wx => (wx.cell? ⟨w.heap.size, 0, none⟩ = some (.int .i64 p) ∧ wx.cell? ⟨w.heap.size, 1, none⟩ = some (.int .i64 d) ∧ wx.cell? ⟨w.heap.size + 1, 0, none⟩ = some (.int .u8 op) ∧ wx.cell? ⟨w.heap.size + 1, 1, none⟩ = some (.int .i64 a)) ∧ w.heap.size + 1 < wx.heap.size) (first | go_keep | exact keepP hb1 (by go_keep) | exact keepP hb2 (by go_keep))
      (first
        | (go_at_call 112; refine (Htk.out _ (HPW.out.below (Below.refl _ _).drew)).mono ?_; rintro e w1 ⟨rfl, hb1⟩)
        | (go_at_call 134; refine (puts_any op a _).mono ?_; rw [HPu.out]; rintro e w2 ⟨rfl, hb2⟩))
  have hwr : IntKind.i64.wrap (IntKind.i64.wrap (d - tk) + pt) = d - tk + pt := by rw [IntKind.wrap_i64, IntKind.wrap_i64]; omega
  rw [hwr]
  obtain ⟨dd, hdd⟩ : ∃ dd, d - tk + pt = dd := ⟨_, rfl⟩
  rw [hdd]
  have hdb : -300 * (cnt m.met + 1) ≤ dd ∧ dd ≤ 300 * (cnt m.met + 1) := by omega
  have Hdd : Hid (d - takesN ⟨op, a⟩ + putsN ⟨op, a⟩ = dd) := by show _ = _; rw [HTk.out, HPu.out]; exact hdd
  have B2 : Below w.heap.size w w2 := HAl.out.trans ((((Below.refl _ W).drew.trans hb1).trans (hb2.mono ((Below.refl _ W).drew.trans hb1).size)).mono HAl.out.size)
  have hBW : Below W.heap.size W w2 := ((Below.refl _ W).drew.trans hb1).trans (hb2.mono ((Below.refl _ W).drew.trans hb1).size)
  have HB2 : Hid (Below w.heap.size w w2) := B2
  have HW2 : Hid (Wk w2 wb mb base n lv m) := H.out.kept B2
  have HQ02 : Hid _ := (hBW.block w.heap.size (by omega)).trans HQ0.out
  have HQ12 : Hid _ := (hBW.block (w.heap.size + 1) sz).trans HQ1.out
  have s2 : w.heap.size + 1 < w2.heap.size := Nat.lt_of_lt_of_le sz hBW.size
  have vown : Hid (∀ g, lv.ownBlock = some g → g < w.heap.size) := fun g hg => (H.out.hl.lt g hg).2
  clear hb1 hb2 B2 hBW z0 z1 z2 z3 hwr hdd HQ0 HQ1 HPW Htk
  have z0 : w2.cell? ⟨w.heap.size, 0, none⟩ = some (.int .i64 p) := by simp only [World.cell?, HQ02.out]; rfl
  have z2 : w2.cell? ⟨w.heap.size + 1, 0, none⟩ = some (.int .u8 op) := by simp only [World.cell?, HQ12.out]; rfl
  have z3 : w2.cell? ⟨w.heap.size + 1, 1, none⟩ = some (.int .i64 a) := by simp only [World.cell?, HQ12.out]; rfl
  by_cases h8 : op = 8
  · obtain ⟨ha0, ha1⟩ := Hj.out (.inl h8)
    subst h8
    obtain ⟨ja, rfl⟩ := Int.eq_ofNat_of_zero_le ha0
    have HV : Hid (passM m p d ⟨8, (ja : Int)⟩ = comeM m ja dd) := by show _ = _; unfold passM; simp only [Hdd.out]; simp [endsB]
    have ha1' : ja < n := by omega
    clear ha0 ha1
    go_wp2_with fail
    refine (come_any wb mb base n lv m ja dd w2 HW2.out ha1' (by omega) (by omega) hdb).mono ?_
    rintro e w3 ⟨⟨r3, rfl⟩, lv3, hw3, hb3, hf3, ho3⟩
    have q3 := (hf3 (w.heap.size + 1) s2 (by omega) (by omega) (fun e => by have := vown.out _ e; omega)).trans HQ12.out
    have y2 : w3.cell? ⟨w.heap.size + 1, 0, none⟩ = some (.int .u8 8) := by simp only [World.cell?, q3]; rfl
    have HW3 : Hid (Wk w3 wb mb base n lv3 (comeM m ja dd)) := hw3
    have HF3 : Hid (Fr wb mb lv lv3 w w3) := (Fr.of_below HB2.out (by omega)).trans ⟨hb3, hf3, ho3⟩
    clear hw3 hb3 hf3 ho3 q3 z0 z2 z3
    go_wp2_with fail
    refine (ends_any 8 w3).mono ?_
    rintro e w4 ⟨rfl, rfl⟩
    rw [show endsB 8 = true from rfl]
    go_wp2
    go_end0
    exact ⟨⟨_, rfl⟩, lv3, by rw [HV.out]; exact HW3.out, HF3.out⟩
  have b8 : (op == 8) = false := beq_eq_false_iff_ne.2 h8
  by_cases h9 : op = 9
  · obtain ⟨ha0, ha1⟩ := Hj.out (.inr h9)
    subst h9
    obtain ⟨ja, rfl⟩ := Int.eq_ofNat_of_zero_le ha0
    have HV : Hid (passM m p d ⟨9, (ja : Int)⟩ = comeM (comeM m ja dd) (p + 1) dd) := by show _ = _; unfold passM; simp only [Hdd.out]; simp [endsB]
    have ha1' : ja < n := by omega
    have hpn : p + 1 < n := He.out rfl
    obtain ⟨hcc, hll⟩ := cnt_come H.out.ok dd ha1'
    clear ha0 ha1 h8
    go_wp2_with fail
    refine (come_any wb mb base n lv m ja dd w2 HW2.out ha1' (by omega) (by omega) hdb).mono ?_
    rintro e w3 ⟨⟨r3, rfl⟩, lv3, hw3, hb3, hf3, ho3⟩
    have q3 := (hf3 (w.heap.size + 1) s2 (by omega) (by omega) (fun e => by have := vown.out _ e; omega)).trans HQ12.out
    have q3' := (hf3 w.heap.size (by omega) (by omega) (by omega) (fun e => by have := vown.out _ e; omega)).trans HQ02.out
    have y0 : w3.cell? ⟨w.heap.size, 0, none⟩ = some (.int .i64 p) := by simp only [World.cell?, q3']; rfl
    have y2 : w3.cell? ⟨w.heap.size + 1, 0, none⟩ = some (.int .u8 9) := by simp only [World.cell?, q3]; rfl
    have HW3 : Hid (Wk w3 wb mb base n lv3 (comeM m ja dd)) := hw3
    have HF3 : Hid (Fr wb mb lv lv3 w w3) := (Fr.of_below HB2.out (by omega)).trans ⟨hb3, hf3, ho3⟩
    clear hw3 hb3 hf3 ho3 q3 q3' z0 z2 z3
    go_wp2_with fail
    refine (ends_any 9 w3).mono ?_
    rintro e w4 ⟨rfl, rfl⟩
    rw [show endsB 9 = false from rfl]
    have hco := come_any wb mb base n lv3 (comeM m ja dd) (p + 1) dd w4 HW3.out hpn (by omega) (by omega) (by omega)
    have HCo : Hid _ := hco
    clear hco
    go_wp2_with fail
    refine Calls.mono HCo.out ?_
    rintro e w5 ⟨⟨r5, rfl⟩, lv5, hw5, hb5, hf5, ho5⟩
    have HW5 : Hid (Wk w5 wb mb base n lv5 (comeM (comeM m ja dd) (p + 1) dd)) := hw5
    have HF5 : Hid (Fr wb mb lv lv5 w w5) := HF3.out.trans ⟨hb5, hf5, ho5⟩
    clear hw5 hb5 hf5 ho5
    go_wp2
    go_end0
    exact ⟨⟨_, rfl⟩, lv5, by rw [HV.out]; exact HW5.out, HF5.out⟩
  have b9 : (op == 9) = false := beq_eq_false_iff_ne.2 h9
  have hn89 : ¬ (op = 8 ∨ op = 9) := by omega
  cases hen : endsB op
  · have hpn : p + 1 < n := He.out hen
    have HV : Hid (passM m p d ⟨op, a⟩ = comeM m (p + 1) dd) := by show _ = _; unfold passM; simp only [Hdd.out, hen, if_neg hn89]; simp
    have Hen : Hid (endsB op = false) := hen
    clear hen h8 h9 hn89
    go_wp2_with fail
    refine (ends_any op w2).mono ?_
    rintro e w4 ⟨rfl, rfl⟩
    rw [Hen.out]
    have hco := come_any wb mb base n lv m (p + 1) dd w4 HW2.out hpn (by omega) (by omega) hdb
    have HCo : Hid _ := hco
    clear hco
    go_wp2_with fail
    refine Calls.mono HCo.out ?_
    rintro e w5 ⟨⟨r5, rfl⟩, lv5, hw5, hb5, hf5, ho5⟩
    have HW5 : Hid (Wk w5 wb mb base n lv5 (comeM m (p + 1) dd)) := hw5
    have HF5 : Hid (Fr wb mb lv lv5 w w5) := (Fr.of_below HB2.out (by omega)).trans ⟨hb5, hf5, ho5⟩
    clear hw5 hb5 hf5 ho5
    go_wp2
    go_end0
    exact ⟨⟨_, rfl⟩, lv5, by rw [HV.out]; exact HW5.out, HF5.out⟩
  · have HV : Hid (passM m p d ⟨op, a⟩ = m) := by show _ = _; unfold passM; simp only [hen, if_neg hn89]; simp
    have Hen : Hid (endsB op = true) := hen
    clear hen h8 h9 hn89
    go_wp2_with fail
    refine (ends_any op w2).mono ?_
    rintro e w4 ⟨rfl, rfl⟩
    rw [Hen.out]
    go_wp2
    go_end0
    exact ⟨⟨_, rfl⟩, lv, by rw [HV.out]; exact HW2.out, Fr.of_below HB2.out (by omega)⟩
end Go.Proofs.YtpkohocjgnodnaaGreatDoor
