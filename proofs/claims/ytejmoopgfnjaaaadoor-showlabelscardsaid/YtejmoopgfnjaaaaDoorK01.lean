/- A heap that stands still, and how it is walked: plain mathematics.; Cells and heaps in memory; isWord, isCell, Check, isHeap. -/
import Derived.Test.YtejmoopgfnjaaaaDoorK00
import Derived.BigQuiet
/- A heap that stands still, and how it is walked: plain mathematics. -/
namespace Go.Proofs.YtejmoopgfnjaaaaDoor

structure Cl where
  k : Int
  c : Int
  a : Int
  b : Int
/-- The cell that a word names. -/
def refN (x : Int) : Option Nat := if ofT x = 8 then some (ofN x).toNat else none
/-- May a word stand in a heap of n cells? -/
def fitsW (n : Nat) (x : Int) : Bool := wd x && (match refN x with | some c => decide (c < n) | none => true)
def okCl (n : Nat) (x : Cl) : Bool := (decide (x.k ≤ 3) && decide (x.c ≤ 2)) && (decide (x.k = 0) || (fitsW n x.a && fitsW n x.b))
/-- The least cell that is not so. -/
def badC (n : Nat) : List Cl → Nat → Option Nat
  | [], _ => none
  | x :: r, j => if okCl n x then badC n r (j + 1) else some j
def heapB (h : List Cl) (roots : List Int) : Bool := (badC h.length h 0).isNone && roots.all (fitsW h.length)

/-- What is met: the cells, each with the one that named it first (-1: a root). -/
abbrev St := List (Nat × Int)
def metB (r : St) (c : Nat) : Bool := r.any (fun p => p.1 == c)
def lookM (r : St) (x : Int) (q : Int) : St := match refN x with
  | none => r
  | some c => if metB r c then r else r ++ [(c, q)]
/-- A cell's words in the order in which they are met. -/
def ownW (s : Bool) (x : Cl) : Int × Int := if s then (min x.a x.b, max x.a x.b) else (x.a, x.b)
def goM (h : List Cl) (s : Bool) : Nat → Nat → St → St
  | 0, _, r => r
  | f + 1, at', r => match r[at']? with
    | none => r
    | some p => match h[p.1]? with
      | none => r
      | some x => goM h s f (at' + 1) (if x.k = 0 then r else lookM (lookM r (ownW s x).1 p.1) (ownW s x).2 p.1)
def rootsM (roots : List Int) (r : St) : St := roots.foldl (fun r x => lookM r x (-1)) r
def walkM (h : List Cl) (s : Bool) (roots : List Int) : St := goM h s h.length 0 (rootsM roots [])

theorem metB_iff {r : St} {c : Nat} : metB r c = true ↔ ∃ q, (c, q) ∈ r := by
  unfold metB
  rw [List.any_eq_true]
  constructor
  · rintro ⟨⟨a, q⟩, h, e⟩
    have : a = c := by simpa using e
    exact ⟨q, by rw [← this]; exact h⟩
  · rintro ⟨q, h⟩
    exact ⟨(c, q), h, by simp⟩
/-- As a row of cells that are met is. -/
structure OkS (n : Nat) (r : St) : Prop where
  nd : (r.map (·.1)).Nodup
  lt : ∀ p ∈ r, p.1 < n
theorem OkS.nil (n : Nat) : OkS n [] := ⟨List.nodup_nil, fun p hp => by cases hp⟩
theorem ref_fits {n : Nat} {x : Int} {c : Nat} (h : fitsW n x = true) (hc : refN x = some c) : c < n := by
  unfold fitsW at h
  rw [hc] at h
  rw [Bool.and_eq_true] at h
  exact of_decide_eq_true h.2
theorem OkS.look {n : Nat} {r : St} (h : OkS n r) {x q : Int} (hx : fitsW n x = true) : OkS n (lookM r x q) := by
  unfold lookM
  split
  · exact h
  · rename_i c hc
    split
    · exact h
    · rename_i hm
      refine ⟨?_, fun p hp => ?_⟩
      · rw [List.map_append, List.nodup_append]
        refine ⟨h.nd, by simp, fun a ha b hb => ?_⟩
        have : b = c := by simpa using hb
        subst this
        intro e
        subst e
        obtain ⟨⟨a', q'⟩, hp, rfl⟩ := List.mem_map.1 ha
        exact hm (metB_iff.2 ⟨q', hp⟩)
      · rcases List.mem_append.1 hp with hp | hp
        · exact h.lt p hp
        · rw [List.mem_singleton.1 hp]; exact ref_fits hx hc
theorem OkS.len {n : Nat} {r : St} (h : OkS n r) : r.length ≤ n := by
  have h1 : (r.map (·.1)).length ≤ (List.range n).length := by
    refine List.Nodup.length_le_of_subset h.nd (fun c hc => ?_)
    obtain ⟨p, hp, rfl⟩ := List.mem_map.1 hc
    exact List.mem_range.2 (h.lt p hp)
  simpa using h1
theorem OkS.roots {n : Nat} : ∀ (l : List Int) {r : St}, OkS n r → (∀ x ∈ l, fitsW n x = true) → OkS n (rootsM l r)
  | [], _, h, _ => h
  | x :: l, r, h, hx => by
    show OkS n (rootsM l (lookM r x (-1)))
    exact OkS.roots l (h.look (hx x (List.mem_cons_self ..))) (fun y hy => hx y (List.mem_cons_of_mem _ hy))
theorem badC_none {n : Nat} : ∀ (l : List Cl) (j : Nat), badC n l j = none → ∀ x ∈ l, okCl n x = true
  | [], _, _ => fun x hx => by cases hx
  | y :: r, j, h => by
    unfold badC at h
    split at h
    · rename_i hy
      intro x hx
      rcases List.mem_cons.1 hx with h1 | h1
      · subst h1; exact hy
      · exact badC_none r (j + 1) h x h1
    · cases h
theorem heap_ok {h : List Cl} {roots : List Int} (hh : heapB h roots = true) : (∀ x ∈ h, okCl h.length x = true) ∧ ∀ x ∈ roots, fitsW h.length x = true := by
  unfold heapB at hh
  rw [Bool.and_eq_true] at hh
  refine ⟨badC_none h 0 (by simpa using hh.1), fun x hx => ?_⟩
  exact List.all_eq_true.1 hh.2 x hx
theorem own_fits {n : Nat} {x : Cl} (s : Bool) (h : okCl n x = true) (hk : x.k ≠ 0) : fitsW n (ownW s x).1 = true ∧ fitsW n (ownW s x).2 = true := by
  unfold okCl at h
  have h2 : fitsW n x.a = true ∧ fitsW n x.b = true := by
    simp only [Bool.and_eq_true, Bool.or_eq_true, decide_eq_true_eq] at h
    exact h.2.resolve_left hk
  unfold ownW
  split
  · simp only
    constructor
    · rcases Int.le_total x.a x.b with h | h
      · rw [Int.min_eq_left h]; exact h2.1
      · rw [Int.min_eq_right h]; exact h2.2
    · rcases Int.le_total x.a x.b with h | h
      · rw [Int.max_eq_right h]; exact h2.2
      · rw [Int.max_eq_left h]; exact h2.1
  · exact h2
/-- One round of the walk. -/
def roundM (h : List Cl) (s : Bool) (at' : Nat) (r : St) : St := match r[at']? with
  | none => r
  | some p => match h[p.1]? with
    | none => r
    | some x => if x.k = 0 then r else lookM (lookM r (ownW s x).1 p.1) (ownW s x).2 p.1
theorem OkS.round {h : List Cl} {s : Bool} {at' : Nat} {r : St} (hr : OkS h.length r) (hh : ∀ x ∈ h, okCl h.length x = true) : OkS h.length (roundM h s at' r) := by
  unfold roundM
  split
  · exact hr
  · split
    · exact hr
    · rename_i x hx
      split
      · exact hr
      · rename_i hk
        have := own_fits s (hh x (List.mem_of_getElem? hx)) hk
        exact (hr.look this.1).look this.2
theorem goM_step {h : List Cl} {s : Bool} {f at' : Nat} {r : St} (hr : OkS h.length r) (ha : at' < r.length) : goM h s (f + 1) at' r = goM h s f (at' + 1) (roundM h s at' r) := by
  have h1 := List.getElem?_eq_getElem ha
  have h2 : r[at'].1 < h.length := hr.lt _ (List.getElem_mem ha)
  have h3 := List.getElem?_eq_getElem h2
  rw [goM, h1]; dsimp only; rw [h3]
  unfold roundM; rw [h1]; dsimp only; rw [h3]
theorem goM_end {h : List Cl} {s : Bool} {f at' : Nat} {r : St} (ha : r.length ≤ at') : goM h s f at' r = r := by
  cases f with
  | zero => rfl
  | succ f => unfold goM; rw [List.getElem?_eq_none ha]
end Go.Proofs.YtejmoopgfnjaaaaDoor

/- Cells and heaps in memory; isWord, isCell, Check, isHeap. -/
namespace Go.Proofs.YtejmoopgfnjaaaaDoor
open Go.RowKit

/-- A row of words that is read. -/
def WR (w : World) (ra : Option Addr) (l : List Int) : Prop := ∃ b o, (l.length = 0 ∨ ra = some ⟨b, o, none⟩) ∧ ∀ (j : Nat) (x : Int), l[j]? = some x → b < w.heap.size ∧ w.cell? ⟨b, o + j, none⟩ = some (.int .u64 x) ∧ Rng x
structure OkK (x : Cl) : Prop where
  k : 0 ≤ x.k ∧ x.k ≤ 255
  c : 0 ≤ x.c ∧ x.c ≤ 255
  a : Rng x.a
  b : Rng x.b
/-- A row of cells that is read. -/
def HR (w : World) (ra : Option Addr) (l : List Cl) : Prop := ∃ b o, (l.length = 0 ∨ ra = some ⟨b, o, none⟩) ∧ ∀ (j : Nat) (x : Cl), l[j]? = some x → b < w.heap.size ∧ (w.cell? ⟨b, o + j * 4, none⟩ = some (.int .u8 x.k) ∧ w.cell? ⟨b, o + j * 4 + 1, none⟩ = some (.int .u8 x.c) ∧ w.cell? ⟨b, o + j * 4 + 1 + 1, none⟩ = some (.int .u64 x.a) ∧ w.cell? ⟨b, o + j * 4 + 1 + 1 + 1, none⟩ = some (.int .u64 x.b)) ∧ OkK x
theorem WR.below {w w' : World} {ra : Option Addr} {l : List Int} (h : WR w ra l) (hb : Below w.heap.size w w') : WR w' ra l := by
  obtain ⟨b, o, h1, h2⟩ := h
  exact ⟨b, o, h1, fun j x hx => ⟨Nat.lt_of_lt_of_le (h2 j x hx).1 hb.size, (hb.cell (p := ⟨b, o + j, none⟩) (h2 j x hx).1).trans (h2 j x hx).2.1, (h2 j x hx).2.2⟩⟩
theorem HR.below {w w' : World} {ra : Option Addr} {l : List Cl} (h : HR w ra l) (hb : Below w.heap.size w w') : HR w' ra l := by
  obtain ⟨b, o, h1, h2⟩ := h
  refine ⟨b, o, h1, fun j x hx => ?_⟩
  obtain ⟨g, ⟨a0, a1, a2, a3⟩, k⟩ := h2 j x hx
  have e := fun q => hb.cell (p := ⟨b, q, none⟩) g
  exact ⟨Nat.lt_of_lt_of_le g hb.size, ⟨(e _).trans a0, (e _).trans a1, (e _).trans a2, (e _).trans a3⟩, k⟩
theorem ofN_ref {x : Int} (h : refB x = true) : 0 ≤ ofN x ∧ ofN x ≤ 2147483647 := by
  have h8 : ofT x = 8 := by simpa [refB] using h
  have hw : wd x = true := by
    cases hw : wd x
    · unfold ofT at h8; rw [hw] at h8; simp at h8
    · rfl
  unfold ofT at h8
  rw [if_pos hw] at h8
  have := (may_iff.1 (wd_iff.1 hw).2)
  rw [h8] at this
  unfold ofN
  rw [if_pos hw]
  simp [lo, hi] at this
  exact this
/-- May a word stand there, by what the program reckons? -/
theorem fits_is (n : Nat) (x : Int) : fitsW n x = (wd x && (!refB x || decide (cellV x < (n : Int)))) := by
  unfold fitsW refN
  cases hr : refB x
  · have : ¬ ofT x = 8 := by simpa [refB] using hr
    rw [if_neg this]; rfl
  · have h8 : ofT x = 8 := by simpa [refB] using hr
    have hb := ofN_ref hr
    rw [if_pos h8]
    unfold cellV
    rw [if_pos h8]
    congr 1
    show decide ((ofN x).toNat < n) = decide (ofN x < (n : Int))
    exact decide_eq_decide.2 (by omega)
set_option maxRecDepth 100000 in
set_option maxHeartbeats 4000000 in
theorem isWord_any (x : Int) (n : Nat) (w : World) (hx : Rng x) (hT : Tab w) :
    Calls Tryd.prog 54 #[.int .u64 x, .int .i64 n] w fun e w' => e = .returned (.bool (fitsW n x)) ∧ w' = w := by
  have HV : Hid (fitsW n x = (wd x && (!refB x || decide (cellV x < (n : Int))))) := fits_is n x
  have HO : Hid (Calls Tryd.prog 24 #[.int .u64 x] w fun e w' => e = .returned (.tuple #[.int .u8 (ofT x), .int .i64 (ofN x), .bool (wd x)]) ∧ w' = w) := of_any x w hx hT
  have HC : Hid (Calls Tryd.prog 12 #[.int .u64 x] w fun e w' => e = .returned (.tuple #[.int .i64 (cellV x), .bool (refB x)]) ∧ w' = w) := cell_any x w hx hT
  clear hx hT
  generalize fitsW n x = fv at *
  generalize wd x = b1 at *
  generalize refB x = b2 at *
  generalize cellV x = cv at *
  cases b1
  · go_enter Tryd.func54, Tryd.ntmps54
    go_wp2_with (first | (go_at_call 24; refine HO.out.mono ?_; rintro e w' ⟨rfl, rfl⟩))
    go_ret
    exact ⟨by rw [HV.out]; rfl, rfl⟩
  · cases b2
    · go_enter Tryd.func54, Tryd.ntmps54
      go_wp2_with (first | (go_at_call 24; refine HO.out.mono ?_; rintro e w' ⟨rfl, rfl⟩) | (go_at_call 12; refine HC.out.mono ?_; rintro e w' ⟨rfl, rfl⟩))
      go_ret
      exact ⟨by rw [HV.out]; rfl, rfl⟩
    · go_enter Tryd.func54, Tryd.ntmps54
      go_wp2_with (first | (go_at_call 24; refine HO.out.mono ?_; rintro e w' ⟨rfl, rfl⟩) | (go_at_call 12; refine HC.out.mono ?_; rintro e w' ⟨rfl, rfl⟩))
      go_ret
      exact ⟨by rw [HV.out]; rfl, rfl⟩
abbrev KO (x : Cl) : Obj := .cells #[.int .u8 x.k, .int .u8 x.c, .int .u64 x.a, .int .u64 x.b] 39
set_option maxRecDepth 100000 in
set_option maxHeartbeats 4000000 in
theorem isCell_any (x : Cl) (n : Nat) (w : World) (hx : OkK x) (hT : Tab w) :
    Calls Tryd.prog 42 #[.agg #[.int .u8 x.k, .int .u8 x.c, .int .u64 x.a, .int .u64 x.b], .int .i64 n] w fun e w' => e = .returned (.bool (okCl n x)) ∧ Below w.heap.size w w' := by
  have hal : Below w.heap.size w (w.alloc (KO x)) := (Below.refl _ w).alloc (Nat.le_refl _) _
  have HA : Hid (Below w.heap.size w (w.alloc (KO x))) := hal
  have HFa : Hid (∀ w5 : World, Below w.heap.size w w5 → Calls Tryd.prog 54 #[.int .u64 x.a, .int .i64 n] w5 fun e w' => e = .returned (.bool (fitsW n x.a)) ∧ w' = w5) := fun w5 h5 => isWord_any x.a n w5 hx.a (hT.below h5)
  have HFb : Hid (∀ w5 : World, Below w.heap.size w w5 → Calls Tryd.prog 54 #[.int .u64 x.b, .int .i64 n] w5 fun e w' => e = .returned (.bool (fitsW n x.b)) ∧ w' = w5) := fun w5 h5 => isWord_any x.b n w5 hx.b (hT.below h5)
  have HV : Hid (okCl n x = ((decide (x.k ≤ 3) && decide (x.c ≤ 2)) && (decide (x.k = 0) || (fitsW n x.a && fitsW n x.b)))) := rfl
  generalize okCl n x = ov at *
  generalize fitsW n x.a = ba at *
  generalize fitsW n x.b = bb at *
  clear hx hT hal
  by_cases h1 : 3 < x.k
  · go_enter Tryd.func42, Tryd.ntmps42
    go_wp2
    go_ret
    exact ⟨by rw [HV.out, decide_eq_false (show ¬ x.k ≤ 3 by omega)]; rfl, HA.out⟩
  by_cases h2 : 2 < x.c
  · go_enter Tryd.func42, Tryd.ntmps42
    go_wp2
    go_ret
    exact ⟨by rw [HV.out, decide_eq_false (show ¬ x.c ≤ 2 by omega), Bool.and_false]; rfl, HA.out⟩
  have HV2 : Hid (ov = (decide (x.k = 0) || (ba && bb))) := by
    show _ = _
    rw [HV.out, decide_eq_true (show x.k ≤ 3 by omega), decide_eq_true (show x.c ≤ 2 by omega)]; rfl
  cases h0 : (x.k == 0)
  · have HV3 : Hid (ov = (ba && bb)) := by show _ = _; rw [HV2.out, decide_eq_false (show ¬ x.k = 0 by simpa using h0)]; rfl
    cases ba
    · go_enter Tryd.func42, Tryd.ntmps42
      go_wp2_with fail
      refine (HFa.out _ HA.out).mono ?_
      rintro e w1 ⟨rfl, rfl⟩
      go_wp2
      go_ret
      exact ⟨by rw [HV3.out]; rfl, HA.out⟩
    · go_enter Tryd.func42, Tryd.ntmps42
      go_wp2_with fail
      refine (HFa.out _ HA.out).mono ?_
      rintro e w1 ⟨rfl, rfl⟩
      go_wp2_with fail
      refine (HFb.out _ HA.out).mono ?_
      rintro e w1 ⟨rfl, rfl⟩
      go_wp2
      go_ret
      exact ⟨by rw [HV3.out]; rfl, HA.out⟩
  · have HV3 : Hid (ov = true) := by show _ = _; rw [HV2.out, decide_eq_true (show x.k = 0 by simpa using h0)]; rfl
    go_enter Tryd.func42, Tryd.ntmps42
    go_wp2
    go_ret
    exact ⟨by rw [HV3.out]; rfl, HA.out⟩
/-- Check's answer. -/
def chkV (n : Nat) (l : List Cl) (j : Nat) : Value := match badC n l j with
  | some i => .tuple #[.int .i64 100, .int .i64 i]
  | none => .tuple #[.int .i64 0, .int .i64 0]
set_option maxRecDepth 100000 in
set_option maxHeartbeats 4000000 in
theorem check_any (h : List Cl) (ra : Option Addr) (ca : Nat) (w : World) (hH : HR w ra h) (hl : h.length ≤ 281474976710656) (hT : Tab w) :
    Calls Tryd.prog 27 #[.slice ra h.length ca] w fun e w' => e = .returned (chkV h.length h 0) ∧ Below w.heap.size w w' := by
  have HT : Hid (Tab w) := hT
  obtain ⟨b, o, h1, h2⟩ := hH
  have H1 : Hid (h.length ≠ 0 → ra = some ⟨b, o, none⟩) := fun h => h1.resolve_left h
  have H2 : Hid (∀ (j : Nat) (x : Cl), h[j]? = some x → b < w.heap.size ∧ (w.cell? ⟨b, o + j * 4, none⟩ = some (.int .u8 x.k) ∧ w.cell? ⟨b, o + j * 4 + 1, none⟩ = some (.int .u8 x.c) ∧ w.cell? ⟨b, o + j * 4 + 1 + 1, none⟩ = some (.int .u64 x.a) ∧ w.cell? ⟨b, o + j * 4 + 1 + 1 + 1, none⟩ = some (.int .u64 x.b)) ∧ OkK x) := h2
  clear hT h1 h2
  go_enter Tryd.func27, Tryd.ntmps27
  go_wp2
  go_loopw [8, 4, 5] (fun i _ _ wr => ∃ j : Nat, i = .int .i64 j ∧ j ≤ h.length ∧ Hid (badC h.length h 0 = badC h.length (h.drop j) j) ∧ Hid (Below w.heap.size w wr)) (fun i _ _ _ => h.length - (intOf i).toNat)
  case atStart => exact ⟨0, rfl, Nat.zero_le _, by show _ = _; simp, Below.refl _ _⟩
  case round =>
    obtain ⟨j, rfl, hj, HN, HB⟩ := hrel
    by_cases hlt : j < h.length
    · have i1 : (j : Int) < (h.length : Int) := by omega
      have hra := H1.out (by omega)
      subst hra
      obtain ⟨x, hx⟩ : ∃ x, h[j]? = some x := ⟨_, List.getElem?_eq_getElem hlt⟩
      obtain ⟨g, ⟨a0, a1, a2, a3⟩, k⟩ := H2.out j x hx
      have e := fun q => HB.out.cell (p := ⟨b, q, none⟩) g
      have c0 := (e _).trans a0
      have c1 := (e _).trans a1
      have c2 := (e _).trans a2
      have c3 := (e _).trans a3
      have l0 : b < wr.heap.size := Nat.lt_of_lt_of_le g HB.out.size
      have hd : h.drop j = x :: h.drop (j + 1) := by rw [List.drop_eq_getElem_cons hlt, ← (List.getElem?_eq_some_iff.1 hx).2]
      have hal : Below w.heap.size w (wr.alloc (KO x)) := HB.out.trans (((Below.refl _ wr).alloc (Nat.le_refl _) _).mono HB.out.size)
      have HC : Hid (Calls Tryd.prog 42 #[.agg #[.int .u8 x.k, .int .u8 x.c, .int .u64 x.a, .int .u64 x.b], .int .i64 h.length] (wr.alloc (KO x)) fun e w' => e = .returned (.bool (okCl h.length x)) ∧ Below (wr.alloc (KO x)).heap.size (wr.alloc (KO x)) w') := isCell_any x h.length _ k (HT.out.below hal)
      have HA : Hid (Below w.heap.size w (wr.alloc (KO x))) := hal
      have HD : Hid (badC h.length h 0 = if okCl h.length x then badC h.length (h.drop (j + 1)) (j + 1) else some j) := by show _ = _; rw [HN.out, hd]; rfl
      clear hd hal k e a0 a1 a2 a3 hx g
      generalize okCl h.length x = ob at *
      go_wp2_with fail
      refine Calls.mono HC.out ?_
      rintro e w1 ⟨rfl, hb1⟩
      have HB1 : Hid (Below w.heap.size w w1) := HA.out.trans (hb1.mono HA.out.size)
      clear hb1 HC
      cases ob
      · go_wp2
        go_ret2
        exact ⟨by unfold chkV; rw [HD.out]; rfl, HB1.out⟩
      · go_wp2
        go_roundw
        case rel => exact ⟨j + 1, by go_num, by omega, by show _ = _; rw [HD.out]; rfl, HB1⟩
        case measure => simp [intOf]; omega
    · have i1 : ¬ (j : Int) < (h.length : Int) := by omega
      have HD : Hid (badC h.length h 0 = none) := by show _ = _; rw [HN.out, List.drop_of_length_le (by omega)]; rfl
      go_wp2
      go_ret2
      exact ⟨by unfold chkV; rw [HD.out]; rfl, HB.out⟩
set_option maxRecDepth 100000 in
set_option maxHeartbeats 4000000 in
theorem isHeap_any (h : List Cl) (l : List Int) (ra rb : Option Addr) (ca cb : Nat) (w : World) (hH : HR w ra h) (hR : WR w rb l) (hl : h.length ≤ 281474976710656) (hl2 : l.length ≤ 281474976710656) (hT : Tab w) :
    Calls Tryd.prog 55 #[.slice ra h.length ca, .slice rb l.length cb] w fun e w' => e = .returned (.bool (heapB h l)) ∧ Below w.heap.size w w' := by
  have HT : Hid (Tab w) := hT
  have HC : Hid (Calls Tryd.prog 27 #[.slice ra h.length ca] w fun e w' => e = .returned (chkV h.length h 0) ∧ Below w.heap.size w w') := check_any h ra ca w hH hl hT
  obtain ⟨b, o, h1, h2⟩ := hR
  have H1 : Hid (l.length ≠ 0 → rb = some ⟨b, o, none⟩) := fun h => h1.resolve_left h
  have H2 : Hid (∀ (j : Nat) (x : Int), l[j]? = some x → b < w.heap.size ∧ w.cell? ⟨b, o + j, none⟩ = some (.int .u64 x) ∧ Rng x) := h2
  have HV : Hid (heapB h l = ((badC h.length h 0).isNone && l.all (fitsW h.length))) := rfl
  clear hT h1 h2 hH
  go_enter Tryd.func55, Tryd.ntmps55
  go_wp2_with fail
  refine Calls.mono HC.out ?_
  rintro e w1 ⟨rfl, hb1⟩
  have HB1 : Hid (Below w.heap.size w w1) := hb1
  clear hb1 HC
  unfold chkV
  generalize badC h.length h 0 = bc at *
  cases bc with
  | some i =>
    go_wp2
    go_ret
    exact ⟨by rw [HV.out]; rfl, HB1.out⟩
  | none =>
    have HV2 : Hid (heapB h l = l.all (fitsW h.length)) := by show _ = _; rw [HV.out]; rfl
    go_wp2
    go_loopw [18, 8] (fun i _ wr => ∃ j : Nat, i = .int .i64 j ∧ j ≤ l.length ∧ Hid (heapB h l = (l.drop j).all (fitsW h.length)) ∧ wr = w1) (fun i _ _ => l.length - (intOf i).toNat)
    case atStart => exact ⟨0, rfl, Nat.zero_le _, by show _ = _; rw [HV2.out]; simp, rfl⟩
    case round =>
      obtain ⟨j, rfl, hj, HN, hwr⟩ := hrel
      subst hwr
      by_cases hlt : j < l.length
      · have i1 : (j : Int) < (l.length : Int) := by omega
        have hra := H1.out (by omega)
        subst hra
        obtain ⟨x, hx⟩ : ∃ x, l[j]? = some x := ⟨_, List.getElem?_eq_getElem hlt⟩
        obtain ⟨g, a0, k⟩ := H2.out j x hx
        have c0 := (HB1.out.cell (p := ⟨b, o + j, none⟩) g).trans a0
        have l0 : b < wr.heap.size := Nat.lt_of_lt_of_le g HB1.out.size
        have hd : l.drop j = x :: l.drop (j + 1) := by rw [List.drop_eq_getElem_cons hlt, ← (List.getElem?_eq_some_iff.1 hx).2]
        have HC : Hid (Calls Tryd.prog 54 #[.int .u64 x, .int .i64 h.length] wr fun e w' => e = .returned (.bool (fitsW h.length x)) ∧ w' = wr) := isWord_any x h.length _ k (HT.out.below HB1.out)
        have HD : Hid (heapB h l = (fitsW h.length x && (l.drop (j + 1)).all (fitsW h.length))) := by show _ = _; rw [HN.out, hd]; rfl
        clear hd k a0 hx g
        generalize fitsW h.length x = ob at *
        go_wp2_with fail
        refine Calls.mono HC.out ?_
        rintro e w3 ⟨rfl, hw3⟩
        rw [hw3]
        clear hw3 HC
        cases ob
        · go_wp2
          go_ret
          exact ⟨by rw [HD.out]; rfl, HB1.out⟩
        · go_wp2
          go_roundw
          case rel => exact ⟨j + 1, by go_num, by omega, by show _ = _; rw [HD.out]; rfl, by first | rfl | trivial⟩
          case measure => simp [intOf]; omega
      · have i1 : ¬ (j : Int) < (l.length : Int) := by omega
        have HD : Hid (heapB h l = true) := by show _ = _; rw [HN.out, List.drop_of_length_le (by omega)]; rfl
        go_wp2
        go_ret
        exact ⟨by rw [HD.out]; rfl, HB1.out⟩
end Go.Proofs.YtejmoopgfnjaaaaDoor
