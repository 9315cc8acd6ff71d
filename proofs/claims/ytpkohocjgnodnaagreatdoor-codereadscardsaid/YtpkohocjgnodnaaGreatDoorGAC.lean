/- Code in memory.; The small functions of Check.; Is a text among others?; What stands outside of single procedures. -/
import Derived.Test.YtpkohocjgnodnaaGreatDoorGAB
/- Code in memory. -/
namespace Go.Proofs.YtpkohocjgnodnaaGreatDoor
open Go.RowKit

/-- Words in a row. -/
def WR (w : World) (ra : Option Addr) (l : List Int) : Prop := ∃ b o, (l.length = 0 ∨ ra = some ⟨b, o, none⟩) ∧ ∀ j x, l[j]? = some x → b < w.heap.size ∧ w.cell? ⟨b, o + j, none⟩ = some (.int .u64 x) ∧ Rng x
/-- Texts in a row. -/
def XR (w : World) (ra : Option Addr) (l : List (List UInt8)) : Prop := ∃ b o, (l.length = 0 ∨ ra = some ⟨b, o, none⟩) ∧ ∀ j x, l[j]? = some x → b < w.heap.size ∧ w.cell? ⟨b, o + j, none⟩ = some (S x) ∧ x.length ≤ maxLen
/-- Instructions in a row. -/
def NR (w : World) (ra : Option Addr) (l : List Ins) : Prop := ∃ b o, (l.length = 0 ∨ ra = some ⟨b, o, none⟩) ∧ ∀ j x, l[j]? = some x → b < w.heap.size ∧ w.cell? ⟨b, o + j * 2, none⟩ = some (.int .u8 x.op) ∧ w.cell? ⟨b, o + j * 2 + 1, none⟩ = some (.int .i64 x.a) ∧ (0 ≤ x.op ∧ x.op ≤ 255) ∧ (-9223372036854775808 ≤ x.a ∧ x.a ≤ 9223372036854775807)
/-- Procedures in a row. -/
def PR (w : World) (ra : Option Addr) (l : List Prc) : Prop := ∃ b o, (l.length = 0 ∨ ra = some ⟨b, o, none⟩) ∧ ∀ j x, l[j]? = some x → b < w.heap.size ∧ w.cell? ⟨b, o + j * 2, none⟩ = some (.int .i64 x.params) ∧ (∃ rc cc, w.cell? ⟨b, o + j * 2 + 1, none⟩ = some (.slice rc x.code.length cc) ∧ NR w rc x.code) ∧ x.code.length ≤ maxLen
theorem WR.below {w w' : World} {ra : Option Addr} {l : List Int} (h : WR w ra l) (hb : Below w.heap.size w w') : WR w' ra l := by
  obtain ⟨b, o, h1, h2⟩ := h
  exact ⟨b, o, h1, fun j x hx => by obtain ⟨h3, h4, h5⟩ := h2 j x hx; exact ⟨Nat.lt_of_lt_of_le h3 hb.size, (hb.cell (p := ⟨b, o + j, none⟩) h3).trans h4, h5⟩⟩
theorem XR.below {w w' : World} {ra : Option Addr} {l : List (List UInt8)} (h : XR w ra l) (hb : Below w.heap.size w w') : XR w' ra l := by
  obtain ⟨b, o, h1, h2⟩ := h
  exact ⟨b, o, h1, fun j x hx => by obtain ⟨h3, h4, h5⟩ := h2 j x hx; exact ⟨Nat.lt_of_lt_of_le h3 hb.size, (hb.cell (p := ⟨b, o + j, none⟩) h3).trans h4, h5⟩⟩
theorem NR.below {w w' : World} {ra : Option Addr} {l : List Ins} (h : NR w ra l) (hb : Below w.heap.size w w') : NR w' ra l := by
  obtain ⟨b, o, h1, h2⟩ := h
  exact ⟨b, o, h1, fun j x hx => by obtain ⟨h3, h4, h5, h6⟩ := h2 j x hx; exact ⟨Nat.lt_of_lt_of_le h3 hb.size, (hb.cell (p := ⟨b, o + j * 2, none⟩) h3).trans h4, (hb.cell (p := ⟨b, o + j * 2 + 1, none⟩) h3).trans h5, h6⟩⟩
theorem PR.below {w w' : World} {ra : Option Addr} {l : List Prc} (h : PR w ra l) (hb : Below w.heap.size w w') : PR w' ra l := by
  obtain ⟨b, o, h1, h2⟩ := h
  exact ⟨b, o, h1, fun j x hx => by obtain ⟨h3, h4, ⟨rc, cc, h5, h6⟩, h7⟩ := h2 j x hx; exact ⟨Nat.lt_of_lt_of_le h3 hb.size, (hb.cell (p := ⟨b, o + j * 2, none⟩) h3).trans h4, ⟨rc, cc, (hb.cell (p := ⟨b, o + j * 2 + 1, none⟩) h3).trans h5, h6.below hb⟩, h7⟩⟩
/-- The value of code. -/
structure CV (w : World) (v : Value) (c : Cd) : Prop where
  ex : ∃ r1 c1 r2 c2 r3 c3, v = .agg #[.slice r1 c.consts.length c1, .slice r2 c.procs.length c2, .slice r3 c.globals.length c3] ∧ WR w r1 c.consts ∧ PR w r2 c.procs ∧ XR w r3 c.globals ∧ c.globals.length ≤ c3
  len : c.consts.length ≤ maxLen ∧ c.procs.length ≤ maxLen ∧ c.globals.length ≤ maxLen
/-- The table of the primitives' arguments. -/
def PT (w : World) : Prop := ∀ j : Nat, j < 23 → w.cell? ⟨3, j, none⟩ = some (.int .i64 (primT.getD j 0))
theorem Tab.below {w w' : World} (h : Tab w) (hb : Below w.heap.size w w') (hl : 2 < w.heap.size) : Tab w' := fun t ht => by
  obtain ⟨h1, h2⟩ := h t ht
  exact ⟨(hb.cell (p := ⟨2, t * 2, none⟩) hl).trans h1, (hb.cell (p := ⟨2, t * 2 + 1, none⟩) hl).trans h2⟩
theorem Tab.lt {w : World} (h : Tab w) : 2 < w.heap.size := by
  have := (h 0 (by decide)).1
  rcases Nat.lt_or_ge 2 w.heap.size with h' | h'
  · exact h'
  · simp [World.cell?, Array.getElem?_eq_none h'] at this
theorem PT.lt {w : World} (h : PT w) : 3 < w.heap.size := by
  have := h 0 (by decide)
  rcases Nat.lt_or_ge 3 w.heap.size with h' | h'
  · exact h'
  · simp [World.cell?, Array.getElem?_eq_none h'] at this
theorem PT.below {w w' : World} (h : PT w) (hb : Below w.heap.size w w') : PT w' := fun j hj => (hb.cell (p := ⟨3, j, none⟩) h.lt).trans (h j hj)
end Go.Proofs.YtpkohocjgnodnaaGreatDoor

/- The small functions of Check. -/
namespace Go.Proofs.YtpkohocjgnodnaaGreatDoor
open Go.RowKit

set_option maxRecDepth 100000 in
set_option maxHeartbeats 1000000 in
theorem isConst_any (x : Int) (w : World) (hx : Rng x) (hT : Tab w) :
    Calls Tryz.prog 77 #[.int .u64 x] w fun e w' => e = .returned (.bool (isConstB x)) ∧ w' = w := by
  have HT : Hid (Tab w) := hT
  have HX : Hid (Rng x) := hx
  clear hT hx
  go_enter Tryz.func77, Tryz.ntmps77
  go_wp2_with fail
  refine (of_any x w HX.out HT.out).mono ?_
  rintro e w' ⟨rfl, rfl⟩
  cases hw : wd x
  · have HW : Hid _ := hw
    clear hw
    go_wp2
    go_ret
    exact ⟨ret_bool (by simp [isConstB, HW.out]), rfl⟩
  · have HW : Hid _ := hw
    clear hw
    go_wp2
    go_ret
    exact ⟨ret_bool (by simp [isConstB, HW.out]), rfl⟩

set_option maxRecDepth 100000 in
set_option maxHeartbeats 1000000 in
theorem isOp_any (op : Int) (w : World) :
    Calls Tryz.prog 80 #[.int .u8 op] w fun e w' => e = .returned (.bool (isOpB op)) ∧ w' = w := by
  go_enter Tryz.func80, Tryz.ntmps80
  go_wp2
  all_goals go_ret
  all_goals exact ⟨ret_bool (by unfold isOpB; rw [Bool.eq_iff_iff]; simp; omega), rfl⟩

set_option maxRecDepth 100000 in
set_option maxHeartbeats 1000000 in
theorem ends_any (op : Int) (w : World) :
    Calls Tryz.prog 82 #[.int .u8 op] w fun e w' => e = .returned (.bool (endsB op)) ∧ w' = w := by
  unfold endsB
  cases h1 : (op == 12) <;> cases h2 : (op == 11) <;> cases h3 : (op == 8)
  all_goals
    go_enter Tryz.func82, Tryz.ntmps82
    go_wp2
    go_ret
    exact ⟨rfl, rfl⟩
end Go.Proofs.YtpkohocjgnodnaaGreatDoor

/- Is a text among others? -/
namespace Go.Proofs.YtpkohocjgnodnaaGreatDoor
open Go.RowKit

theorem XR.at {w : World} {ra : Option Addr} {l : List (List UInt8)} (h : XR w ra l) : ∃ b o, (l.length ≠ 0 → ra = some ⟨b, o, none⟩) ∧ ∀ j x, l[j]? = some x → b < w.heap.size ∧ w.cell? ⟨b, o + j, none⟩ = some (S x) ∧ x.length ≤ maxLen := by
  obtain ⟨b, o, h1, h2⟩ := h
  exact ⟨b, o, fun h0 => h1.resolve_left h0, h2⟩

set_option maxRecDepth 100000 in
set_option maxHeartbeats 2000000 in
theorem index_any (t : List UInt8) (ra : Option Addr) (cp : Nat) (l : List (List UInt8)) (w : World) (hm : l.length ≤ maxLen) (hR : XR w ra l) :
    Calls Tryz.prog 108 #[.slice ra l.length cp, S t] w fun e w' => (∃ r : Int, e = .returned (.int .i64 r) ∧ ((t ∈ l ∧ 0 ≤ r) ∨ (t ∉ l ∧ r = -1))) ∧ w' = w := by
  obtain ⟨b, o, h1, h2⟩ := hR.at
  have H1 : Hid _ := h1
  have H2 : Hid _ := h2
  unfold maxLen at hm
  clear h1 h2 hR
  go_enter Tryz.func108, Tryz.ntmps108
  go_wp2
  go_loopw [8, 5] (fun i _ wr => ∃ j : Nat, i = .int .i64 j ∧ j ≤ l.length ∧ Hid (t ∉ l.take j) ∧ wr = w) (fun i _ _ => l.length - (intOf i).toNat)
  case atStart => exact ⟨0, rfl, Nat.zero_le _, by show t ∉ _; simp, rfl⟩
  case round =>
    obtain ⟨j, rfl, hj, HN, rfl⟩ := hrel
    by_cases hlt : j < l.length
    · have i1 : (j : Int) < (l.length : Int) := by omega
      have hra := H1.out (by omega)
      subst hra
      have hx : l[j]? = some l[j] := List.getElem?_eq_getElem hlt
      obtain ⟨x, hx'⟩ : ∃ x, l[j] = x := ⟨_, rfl⟩
      rw [hx'] at hx
      obtain ⟨hb, hc, _⟩ := H2.out j x hx
      have HX : Hid (l[j]? = some x) := hx
      clear hx hx'
      by_cases he : t = x
      · have HE : Hid (t = x) := he
        have he' : (t == x) = true := beq_iff_eq.2 he
        clear he
        go_wp2
        go_ret
        exact ⟨⟨_, rfl, .inl ⟨by rw [HE.out]; exact List.mem_of_getElem? HX.out, by simp⟩⟩, rfl⟩
      · have HE : Hid (t ≠ x) := he
        have he' : (t == x) = false := beq_eq_false_iff_ne.2 he
        clear he
        go_wp2
        go_roundw
        case rel =>
          refine ⟨j + 1, by go_num, by omega, ?_, trivial⟩
          show t ∉ _
          rw [List.take_add_one, HX.out]
          simp only [Option.toList, List.mem_append, List.mem_singleton, not_or]
          exact ⟨HN.out, HE.out⟩
        case measure => simp [intOf]; omega
    · have i1 : ¬ (j : Int) < (l.length : Int) := by omega
      have Hj : Hid (j = l.length) := by show _ = _; omega
      go_wp2
      go_ret
      refine ⟨⟨_, rfl, .inr ⟨?_, rfl⟩⟩, rfl⟩
      have := HN.out
      rwa [Hj.out, List.take_length] at this

set_option maxRecDepth 100000 in
set_option maxHeartbeats 2000000 in
theorem contains_any (t : List UInt8) (ra : Option Addr) (cp : Nat) (l : List (List UInt8)) (w : World) (hm : l.length ≤ maxLen) (hR : XR w ra l) :
    Calls Tryz.prog 79 #[.slice ra l.length cp, S t] w fun e w' => e = .returned (.bool (decide (t ∈ l))) ∧ w' = w := by
  have HR : Hid (XR w ra l) := hR
  clear hR
  go_enter Tryz.func79, Tryz.ntmps79
  go_wp2_with fail
  refine (index_any t ra cp l w hm HR.out).mono ?_
  rintro e w' ⟨⟨r, rfl, hr⟩, rfl⟩
  have Hr : Hid _ := hr
  clear hr
  go_wp2
  go_ret
  refine ⟨ret_bool ?_, rfl⟩
  rw [Bool.eq_iff_iff]
  rcases Hr.out with ⟨h1, h2⟩ | ⟨h1, h2⟩
  · simp [h1]; omega
  · simp [h1, h2]
end Go.Proofs.YtpkohocjgnodnaaGreatDoor

/- What stands outside of single procedures. -/
namespace Go.Proofs.YtpkohocjgnodnaaGreatDoor
open Go.RowKit

/-- Is a text a symbol? -/
def symC (t : List UInt8) : Bool := begE t == 0 && ((begT t).kind == 6 && ((begS t : Nat) : Int) == (t.length : Int))
/-- Are all texts symbols, none twice? ahead: those that stand ahead. -/
def globOk : List (List UInt8) → List (List UInt8) → Bool
  | _, [] => true
  | ahead, t :: r => symC t && (!decide (t ∈ ahead) && globOk (ahead ++ [t]) r)
def listsE (c : Cd) : Int :=
  if 256 < c.procs.length ∨ 1024 < c.consts.length ∨ 64 < c.globals.length then 2
  else if c.procs.length = 0 then 80 else if c.consts.all isConstB then (if globOk [] c.globals then 0 else 80) else 80

theorem WR.at {w : World} {ra : Option Addr} {l : List Int} (h : WR w ra l) : ∃ b o, (l.length ≠ 0 → ra = some ⟨b, o, none⟩) ∧ ∀ j x, l[j]? = some x → b < w.heap.size ∧ w.cell? ⟨b, o + j, none⟩ = some (.int .u64 x) ∧ Rng x := by
  obtain ⟨b, o, h1, h2⟩ := h
  exact ⟨b, o, fun h0 => h1.resolve_left h0, h2⟩
theorem XR.take {w : World} {ra : Option Addr} {l : List (List UInt8)} (h : XR w ra l) (j : Nat) : XR w ra (l.take j) := by
  obtain ⟨b, o, h1, h2⟩ := h
  refine ⟨b, o, ?_, fun i x hx => h2 i x ?_⟩
  · rcases h1 with h1 | h1
    · left; rw [List.length_take, h1]; omega
    · exact .inr h1
  · rw [List.getElem?_take] at hx
    split at hx
    · exact hx
    · cases hx

set_option maxRecDepth 100000 in
set_option maxHeartbeats 8000000 in
theorem checkLists_any (c : Cd) (r1 r2 r3 : Option Addr) (c1 c2 c3 : Nat) (w : World) (hl : c.consts.length ≤ maxLen ∧ c.procs.length ≤ maxLen ∧ c.globals.length ≤ maxLen) (h1 : WR w r1 c.consts) (h3 : XR w r3 c.globals) (h3c : c.globals.length ≤ c3) (hx : ∀ t ∈ c.globals, t.length ≤ 281474976710656) (hT : Tab w) (hE : EV w) :
    Calls Tryz.prog 32 #[.agg #[.slice r1 c.consts.length c1, .slice r2 c.procs.length c2, .slice r3 c.globals.length c3]] w fun e w' => e = .returned (.int .i64 (listsE c)) ∧ Below w.heap.size w w' := by
  obtain ⟨n1, n2, n3⟩ := hl
  have hn3 := n3
  unfold maxLen at n1 n2 n3
  have hal : Below w.heap.size w (w.alloc (.cells #[.slice r1 c.consts.length c1, .slice r2 c.procs.length c2, .slice r3 c.globals.length c3] 26)) := (Below.refl _ w).alloc (Nat.le_refl _) _
  have HB : Hid _ := hal
  have H1 : Hid (WR (w.alloc (.cells #[.slice r1 c.consts.length c1, .slice r2 c.procs.length c2, .slice r3 c.globals.length c3] 26)) r1 c.consts) := h1.below hal
  have H3 : Hid (XR (w.alloc (.cells #[.slice r1 c.consts.length c1, .slice r2 c.procs.length c2, .slice r3 c.globals.length c3] 26)) r3 c.globals) := h3.below hal
  have HE : Hid (EV (w.alloc (.cells #[.slice r1 c.consts.length c1, .slice r2 c.procs.length c2, .slice r3 c.globals.length c3] 26))) := hE.below hal hE.lt
  have HXs : Hid (∀ t ∈ c.globals, t.length ≤ 281474976710656) := hx
  have HQ : Hid ((w.alloc (.cells #[.slice r1 c.consts.length c1, .slice r2 c.procs.length c2, .slice r3 c.globals.length c3] 26)).heap[w.heap.size]? = some (.cells #[.slice r1 c.consts.length c1, .slice r2 c.procs.length c2, .slice r3 c.globals.length c3] 26 (0, 0))) := heap_alloc_new _ _
  have HT : Hid (Tab (w.alloc (.cells #[.slice r1 c.consts.length c1, .slice r2 c.procs.length c2, .slice r3 c.globals.length c3] 26))) := hT.below hal hT.lt
  clear hal h1 h3 hT hE hx
  by_cases hmuch : 256 < c.procs.length ∨ 1024 < c.consts.length ∨ 64 < c.globals.length
  · have HV : Hid (listsE c = 2) := by show _ = _; unfold listsE; rw [if_pos hmuch]
    have hm' : (256 : Int) < (c.procs.length : Int) ∨ (¬ (256 : Int) < (c.procs.length : Int) ∧ (1024 : Int) < (c.consts.length : Int)) ∨ (¬ (256 : Int) < (c.procs.length : Int) ∧ ¬ (1024 : Int) < (c.consts.length : Int) ∧ (64 : Int) < (c.globals.length : Int)) := by omega
    rcases hm' with a1 | ⟨a1, a2⟩ | ⟨a1, a2, a3⟩
    all_goals
      go_enter Tryz.func32, Tryz.ntmps32
      go_wp2
      go_ret
      exact ⟨by rw [HV.out]; rfl, HB.out⟩
  have a1 : ¬ (256 : Int) < (c.procs.length : Int) := by omega
  have a2 : ¬ (1024 : Int) < (c.consts.length : Int) := by omega
  have a3 : ¬ (64 : Int) < (c.globals.length : Int) := by omega
  by_cases h0 : c.procs.length = 0
  · have HV : Hid (listsE c = 80) := by show _ = _; unfold listsE; rw [if_neg hmuch, if_pos h0]
    have b0 : ((c.procs.length : Int) == 0) = true := by simp [h0]
    clear h0 hmuch
    go_enter Tryz.func32, Tryz.ntmps32
    go_wp2
    go_ret
    exact ⟨by rw [HV.out]; rfl, HB.out⟩
  have b0 : ((c.procs.length : Int) == 0) = false := by simp; intro h; exact h0 (by rw [h]; rfl)
  have HV : Hid (listsE c = if c.consts.all isConstB then (if globOk [] c.globals then 0 else 80) else 80) := by show _ = _; unfold listsE; rw [if_neg hmuch, if_neg h0]
  clear h0 hmuch
  obtain ⟨b, o, q1, q2⟩ := WR.at H1.out
  have Q1 : Hid _ := q1
  have Q2 : Hid _ := q2
  obtain ⟨bg, og, g1, g2⟩ := XR.at H3.out
  have G1 : Hid _ := g1
  have G2 : Hid _ := g2
  clear q1 q2 g1 g2
  go_enter Tryz.func32, Tryz.ntmps32
  go_wp2
  go_loopw [30, 4] (fun i _ wr => ∃ j : Nat, i = .int .i64 j ∧ j ≤ c.consts.length ∧ Hid (c.consts.all isConstB = (c.consts.drop j).all isConstB) ∧ wr = w.alloc (.cells #[.slice r1 c.consts.length c1, .slice r2 c.procs.length c2, .slice r3 c.globals.length c3] 26)) (fun i _ _ => c.consts.length - (intOf i).toNat)
  case atStart => exact ⟨0, rfl, Nat.zero_le _, by show _ = _; simp, rfl⟩
  case round =>
    obtain ⟨j, rfl, hj, HN, rfl⟩ := hrel
    by_cases hlt : j < c.consts.length
    · have i1 : (j : Int) < (c.consts.length : Int) := by omega
      have hra := Q1.out (by omega)
      subst hra
      have hx : c.consts[j]? = some c.consts[j] := List.getElem?_eq_getElem hlt
      have hdr : c.consts.drop j = c.consts[j] :: c.consts.drop (j + 1) := List.drop_eq_getElem_cons hlt
      obtain ⟨x, hx'⟩ : ∃ x, c.consts[j] = x := ⟨_, rfl⟩
      rw [hx'] at hx hdr
      obtain ⟨hb, hc, hrg⟩ := Q2.out j x hx
      have HRg : Hid (Rng x) := hrg
      have HN2 : Hid (c.consts.all isConstB = (isConstB x && (c.consts.drop (j + 1)).all isConstB)) := by show _ = _; rw [HN.out, hdr]; rfl
      clear hx hx' hdr hrg
      go_wp2_with fail
      refine (isConst_any x _ HRg.out HT.out).mono ?_
      rintro e w' ⟨rfl, rfl⟩
      cases hcb : isConstB x
      · have HC : Hid (c.consts.all isConstB = false) := by show _ = _; rw [HN2.out, hcb]; rfl
        clear hcb
        go_wp2
        go_ret
        exact ⟨by rw [HV.out, HC.out]; rfl, HB.out⟩
      · have HC : Hid (c.consts.all isConstB = (c.consts.drop (j + 1)).all isConstB) := by show _ = _; rw [HN2.out, hcb]; rfl
        clear hcb
        go_wp2
        go_roundw
        case rel => exact ⟨j + 1, by go_num, by omega, HC, trivial⟩
        case measure => simp [intOf]; omega
    · have i1 : ¬ (j : Int) < (c.consts.length : Int) := by omega
      have HC : Hid (c.consts.all isConstB = true) := by show _ = _; rw [HN.out, List.drop_of_length_le (by omega)]; rfl
      have HV2 : Hid (listsE c = if globOk [] c.globals then 0 else 80) := by show _ = _; rw [HV.out, HC.out]; rfl
      go_wp2
      go_loopw [41, 5, 6] (fun i _ _ wr => ∃ j : Nat, i = .int .i64 j ∧ j ≤ c.globals.length ∧ Hid (globOk [] c.globals = globOk (c.globals.take j) (c.globals.drop j)) ∧ Hid (Below (w.alloc (.cells #[.slice r1 c.consts.length c1, .slice r2 c.procs.length c2, .slice r3 c.globals.length c3] 26)).heap.size (w.alloc (.cells #[.slice r1 c.consts.length c1, .slice r2 c.procs.length c2, .slice r3 c.globals.length c3] 26)) wr)) (fun i _ _ _ => c.globals.length - (intOf i).toNat)
      case atStart => exact ⟨0, rfl, Nat.zero_le _, by show _ = _; simp, Below.refl _ _⟩
      case round =>
        obtain ⟨k, rfl, hk, HG, HW⟩ := hrel
        have HBr : Hid (Below w.heap.size w wr) := HB.out.trans (HW.out.mono HB.out.size)
        by_cases hlt2 : k < c.globals.length
        · have i2 : (k : Int) < (c.globals.length : Int) := by omega
          have hra := G1.out (by omega)
          subst hra
          have hx : c.globals[k]? = some c.globals[k] := List.getElem?_eq_getElem hlt2
          have hdr : c.globals.drop k = c.globals[k] :: c.globals.drop (k + 1) := List.drop_eq_getElem_cons hlt2
          obtain ⟨x, hx'⟩ : ∃ x, c.globals[k] = x := ⟨_, rfl⟩
          rw [hx'] at hx hdr
          obtain ⟨hb0, hc0, _⟩ := G2.out k x hx
          have hc : wr.cell? ⟨bg, og + k, none⟩ = some (S x) := (HW.out.cell (p := ⟨bg, og + k, none⟩) hb0).trans hc0
          have hb : bg < wr.heap.size := Nat.lt_of_lt_of_le hb0 HW.out.size
          have HN2 : Hid (globOk [] c.globals = (symC x && (!decide (x ∈ c.globals.take k) && globOk (c.globals.take (k + 1)) (c.globals.drop (k + 1))))) := by
            show _ = _
            rw [HG.out, hdr, globOk, List.take_add_one, hx]; rfl
          have hxl : x.length ≤ 281474976710656 := HXs.out x (List.mem_of_getElem? hx)
          have htk : (c.globals.take k).length = k := by rw [List.length_take]; omega
          have Htk : Hid _ := htk
          clear hx hx' hdr hb0 hc0 htk
          go_wp2_with fail
          refine (isSymbol_any ⟨x.toArray⟩ wr (by show x.toArray.size ≤ _; simpa using hxl) (HE.out.below HW.out HE.out.lt)).mono ?_
          rintro e w3 ⟨rfl, hb3⟩
          have hsy : (begE (ByteArray.mk x.toArray).data.toList == 0 && ((begT (ByteArray.mk x.toArray).data.toList).kind == 6 && ((begS (ByteArray.mk x.toArray).data.toList : Nat) : Int) == ((ByteArray.mk x.toArray).size : Int))) = symC x := by
            unfold symC
            rw [show (ByteArray.mk x.toArray).data.toList = x by simp, show (ByteArray.mk x.toArray).size = x.length by show x.toArray.size = _; simp]
          rw [hsy]
          have HW3 : Hid (Below (w.alloc (.cells #[.slice r1 c.consts.length c1, .slice r2 c.procs.length c2, .slice (some ⟨bg, og, none⟩) c.globals.length c3] 26)).heap.size (w.alloc (.cells #[.slice r1 c.consts.length c1, .slice r2 c.procs.length c2, .slice (some ⟨bg, og, none⟩) c.globals.length c3] 26)) w3) := HW.out.trans (hb3.mono HW.out.size)
          have HB3 : Hid (Below w.heap.size w w3) := HB.out.trans (HW3.out.mono HB.out.size)
          clear hb3 hsy hb hc
          cases hs : symC x
          · have HF : Hid (globOk [] c.globals = false) := by show _ = _; rw [HN2.out, hs]; rfl
            clear hs
            go_wp2
            go_ret
            exact ⟨by rw [HV2.out, HF.out]; rfl, HB3.out⟩
          · have HS : Hid (symC x = true) := hs
            clear hs
            have q := (HW3.out.block w.heap.size (by simp)).trans HQ.out
            have z2 : w3.cell? ⟨w.heap.size, 2, none⟩ = some (.slice (some ⟨bg, og, none⟩) c.globals.length c3) := by simp [World.cell?, q]
            clear q
            have i3 : (k : Int) ≤ (c3 : Int) := by omega
            have hcon := contains_any x (some ⟨bg, og, none⟩) c3 (c.globals.take k) w3 (by rw [Htk.out]; unfold maxLen; omega) ((XR.below H3.out HW3.out).take k)
            rw [Htk.out] at hcon
            have HCon : Hid _ := hcon
            clear hcon
            go_wp2_with fail
            refine Calls.mono HCon.out ?_
            rintro e w4 ⟨rfl, rfl⟩
            cases hm : decide (x ∈ c.globals.take k)
            · have HF : Hid (globOk [] c.globals = globOk (c.globals.take (k + 1)) (c.globals.drop (k + 1))) := by show _ = _; rw [HN2.out, HS.out, hm]; rfl
              clear hm
              go_wp2
              go_roundw
              case rel => exact ⟨k + 1, by go_num, by omega, HF, HW3⟩
              case measure => simp [intOf]; omega
            · have HF : Hid (globOk [] c.globals = false) := by show _ = _; rw [HN2.out, HS.out, hm]; rfl
              clear hm
              go_wp2
              go_ret
              exact ⟨by rw [HV2.out, HF.out]; rfl, HB3.out⟩
        · have i2 : ¬ (k : Int) < (c.globals.length : Int) := by omega
          have HF : Hid (globOk [] c.globals = true) := by show _ = _; rw [HG.out, List.drop_of_length_le (by omega)]; rfl
          go_wp2
          go_ret
          exact ⟨by rw [HV2.out, HF.out]; rfl, HBr.out⟩
end Go.Proofs.YtpkohocjgnodnaaGreatDoor
