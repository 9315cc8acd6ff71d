/- isDatum.; isDatum of a symbol, lemmas.; isDatum of a symbol, that has more than its name.; isDatum of a symbol, that is one in its form.; isDatum: its walk. -/
import Derived.Test.YtlpdfifjdlfpdaaGreatDoorGH
import Derived.Shelf.RegionOpenPlain
import Derived.Deep.RegionWith
/- isDatum. -/
namespace Go.Proofs.YtlpdfifjdlfpdaaGreatDoor
open Go.RowKit

def lastK (z : Int) : Fo → Int
  | .nil => z
  | .cons k _ _ _ _ r => lastK k r
def hasT (f : Fo) : Bool := decide (2 ≤ f.len) && lastK 0 f != 5
def symB (l : List UInt8) : Bool := begE l == 0 && ((begT l).kind == 6 && ((begS l : Nat) : Int) == (l.length : Int))
/-- Is it a datum, but for what its kids are? -/
def isDat (k n : Int) (t : List UInt8) (s : Fo) (d : Bool) : Bool :=
  if k = 1 then sameB k n t s d k n [] .nil false && (decide (-576460752303423488 ≤ n) && decide (n ≤ 576460752303423487))
  else if k = 2 then sameB k n t s d 2 0 t .nil false && symB t
  else if k = 3 ∨ k = 4 then sameB k n t s d k 0 [] .nil false
  else if k = 5 then n == 0 && (decide (t = []) && (!d || hasT s))
  else false

theorem Rd.last {w : World} : ∀ {f : Fo} {b o m : Nat} (z : Int), Rd w b o f → f.len = m + 1 → w.cell? ⟨b, o + m * 5, none⟩ = some (.int .u8 (lastK z f))
  | .nil, b, o, m, z, _, h => by simp [Fo.len] at h
  | .cons k n t s d r, b, o, m, z, ⟨⟨_, h1, _⟩, _, hr⟩, h => by
    cases r with
    | nil =>
      have : m = 0 := by simpa [Fo.len] using h.symm
      subst this
      simpa [lastK] using h1
    | cons k' n' t' s' d' r' =>
      obtain ⟨m', rfl⟩ : ∃ m', m = m' + 1 := ⟨m - 1, by simp [Fo.len] at h; omega⟩
      have := Rd.last k hr (m := m') (by simp [Fo.len] at h ⊢; omega)
      rw [show o + 5 + m' * 5 = o + (m' + 1) * 5 by omega] at this
      exact this

set_option maxHeartbeats 1000000 in
theorem hasTail_any (ra : Option Addr) (c : Nat) (f : Fo) (w : World) (hm : f.len ≤ maxLen) (hR : RS w ra f) :
    Calls Tryz.prog 101 #[.slice ra f.len c] w fun e w' => e = .returned (.bool (hasT f)) ∧ w' = w := by
  unfold maxLen at hm
  obtain ⟨b, o, hz, hRd⟩ := hR
  unfold hasT
  by_cases h2 : 2 ≤ f.len
  · have d2 : decide (2 ≤ f.len) = true := decide_eq_true h2
    obtain ⟨m, hfm⟩ : ∃ m, f.len = m + 1 := ⟨f.len - 1, by omega⟩
    have hl := hRd.last 0 hfm
    have hra : ra = some ⟨b, o, none⟩ := hz.resolve_left (by omega)
    subst hra
    obtain ⟨z, hzk⟩ : ∃ z, lastK 0 f = z := ⟨_, rfl⟩
    rw [hzk] at hl ⊢
    rw [hfm] at h2 hm d2 ⊢
    rw [d2]
    clear hRd hfm hzk hz d2
    have i1 : (m : Int) < (m : Int) + 1 := by omega
    have i2 : (2 : Int) ≤ (m : Int) + 1 := by omega
    go_enter Tryz.func101, Tryz.ntmps101
    go_wp2
    go_ret
    exact ⟨by simp, rfl⟩
  · have d2 : decide (2 ≤ f.len) = false := decide_eq_false h2
    rw [d2]
    clear hRd hz d2
    go_enter Tryz.func101, Tryz.ntmps101
    go_wp2
    go_ret
    exact ⟨rfl, rfl⟩
end Go.Proofs.YtlpdfifjdlfpdaaGreatDoor

/- isDatum of a symbol, lemmas. -/
namespace Go.Proofs.YtlpdfifjdlfpdaaGreatDoor
open Go.RowKit

theorem rs_nil (w : World) (ra : Option Addr) : RS w ra .nil := ⟨0, 0, .inl rfl, trivial⟩

theorem keep5 {W w6 : World} {g : Nat} {v0 v1 v2 v3 v4 : Option Value} (hb : Below W.heap.size W w6)
    (h : (W.cell? ⟨g, 0, none⟩ = v0 ∧ W.cell? ⟨g, 1, none⟩ = v1 ∧ W.cell? ⟨g, 2, none⟩ = v2 ∧ W.cell? ⟨g, 3, none⟩ = v3 ∧ W.cell? ⟨g, 4, none⟩ = v4) ∧ g < W.heap.size) :
    (w6.cell? ⟨g, 0, none⟩ = v0 ∧ w6.cell? ⟨g, 1, none⟩ = v1 ∧ w6.cell? ⟨g, 2, none⟩ = v2 ∧ w6.cell? ⟨g, 3, none⟩ = v3 ∧ w6.cell? ⟨g, 4, none⟩ = v4) ∧ g < w6.heap.size := by
  obtain ⟨⟨a0, a1, a2, a3, a4⟩, hg⟩ := h
  have e : ∀ o, w6.cell? ⟨g, o, none⟩ = W.cell? ⟨g, o, none⟩ := fun o => hb.cell (p := ⟨g, o, none⟩) hg
  exact ⟨⟨(e _).trans a0, (e _).trans a1, (e _).trans a2, (e _).trans a3, (e _).trans a4⟩, Nat.lt_of_lt_of_le hg hb.size⟩

end Go.Proofs.YtlpdfifjdlfpdaaGreatDoor

/- isDatum of a symbol, that has more than its name. -/
namespace Go.Proofs.YtlpdfifjdlfpdaaGreatDoor
open Go.RowKit

set_option maxRecDepth 100000 in
set_option maxHeartbeats 4000000 in
theorem isDatum_sym_f (n : Int) (t : List UInt8) (s : Fo) (d : Bool) (rk : Option Addr) (ck : Nat) (w : World) (hm : s.len ≤ maxLen) (hR : RS w rk s) (ht : t.length ≤ 281474976710656) (hE : EV w) (hsb : sameB 2 n t s d 2 0 t .nil false = false) :
    Calls Tryz.prog 86 #[.agg #[.int .u8 2, .int .i64 n, S t, .slice rk s.len ck, .bool d]] w fun e w' => e = .returned (.bool false) ∧ Below w.heap.size w w' := by
  have HR : Hid (RS w rk s) := hR
  have HE : Hid (EV w) := hE
  have hal : Below w.heap.size w (w.alloc (.cells #[.int .u8 2, .int .i64 n, S t, .slice rk s.len ck, .bool d] 58)) := (Below.refl _ w).alloc (Nat.le_refl _) _
  have Hal : Hid _ := hal
  clear hR hE hal
  have hmx : Tryz.prog.follows .mixedOrders = true := by kernel_rfl
  have hes : ((⟨t.toArray⟩ : ByteArray).size) ≤ 281474976710656 := by show t.toArray.size ≤ _; simpa using ht
  have Hes : Hid _ := hes
  have HEa : Hid (EV (w.alloc (.cells #[.int .u8 2, .int .i64 n, S t, .slice rk s.len ck, .bool d] 58))) := HE.out.alloc _
  have hw0 : w.heap.size < w.heap.size + 1 := by omega
  have HS : Hid _ := hsb
  clear hsb hes
  go_enter Tryz.func86, Tryz.ntmps86
  go_wp2_with fail
  first
  | go_region_with (first
    | (go_at_call 85; refine (symbol_any _ _).mono ?_; rintro e w6 ⟨rfl, hb6⟩; obtain ⟨⟨c0, c1, c2, c3, c4⟩, cl⟩ := keep5 (g := w.heap.size) (v0 := some (.int .u8 2)) (v1 := some (.int .i64 n)) (v2 := some (S t)) (v3 := some (.slice rk s.len ck)) (v4 := some (.bool d)) hb6 (by go_keep))
    | (go_at_call 15; refine (same_any 2 n t s d rk ck 2 0 t .nil false none 0 _ hm (by simp [Fo.len]) (((HR.out.below Hal.out).below (Below.refl _ _).drew).below hb6) (rs_nil _ _)).mono ?_; rintro e w7 ⟨rfl, hb7⟩; rw [HS.out]))
  | fail
  all_goals go_wp2
  all_goals go_ret
  all_goals exact ⟨rfl, Hal.out.drew.trans ((hb6.mono (by simp)).trans (hb7.mono (Nat.le_trans (by simp) hb6.size)))⟩
end Go.Proofs.YtlpdfifjdlfpdaaGreatDoor

/- isDatum of a symbol, that is one in its form. -/
namespace Go.Proofs.YtlpdfifjdlfpdaaGreatDoor
open Go.RowKit

set_option maxRecDepth 100000 in
set_option maxHeartbeats 4000000 in
theorem isDatum_sym_t (n : Int) (t : List UInt8) (s : Fo) (d : Bool) (rk : Option Addr) (ck : Nat) (w : World) (hm : s.len ≤ maxLen) (hR : RS w rk s) (ht : t.length ≤ 281474976710656) (hE : EV w) (hsb : sameB 2 n t s d 2 0 t .nil false = true) :
    Calls Tryz.prog 86 #[.agg #[.int .u8 2, .int .i64 n, S t, .slice rk s.len ck, .bool d]] w fun e w' => e = .returned (.bool (symB t)) ∧ Below w.heap.size w w' := by
  have HR : Hid (RS w rk s) := hR
  have HE : Hid (EV w) := hE
  have hal : Below w.heap.size w (w.alloc (.cells #[.int .u8 2, .int .i64 n, S t, .slice rk s.len ck, .bool d] 58)) := (Below.refl _ w).alloc (Nat.le_refl _) _
  have Hal : Hid _ := hal
  clear hR hE hal
  have hmx : Tryz.prog.follows .mixedOrders = true := by kernel_rfl
  have hes : ((⟨t.toArray⟩ : ByteArray).size) ≤ 281474976710656 := by show t.toArray.size ≤ _; simpa using ht
  have Hes : Hid _ := hes
  have HEa : Hid (EV (w.alloc (.cells #[.int .u8 2, .int .i64 n, S t, .slice rk s.len ck, .bool d] 58))) := HE.out.alloc _
  have hw0 : w.heap.size < w.heap.size + 1 := by omega
  have HS : Hid _ := hsb
  clear hsb hes
  go_enter Tryz.func86, Tryz.ntmps86
  go_wp2_with fail
  go_region_held3 (fun wx => (wx.cell? ⟨w.heap.size, 0, none⟩ = some (.int .u8 2) ∧ wx.cell? ⟨w.heap.size, 1, none⟩ = some (.int .i64 n) ∧ wx.cell? ⟨w.heap.size, 2, none⟩ = some (S t) ∧ wx.cell? ⟨w.heap.size, 3, none⟩ = some (.slice rk s.len ck) ∧ wx.cell? ⟨w.heap.size, 4, none⟩ = some (.bool d)) ∧ w.heap.size < wx.heap.size) (first | go_keep | exact keep5 hb6 (by go_keep) | exact keep5 hb7 (by go_keep) | exact keep5 hb8 (by go_keep))
    (first | (go_at_call 85; refine (symbol_any _ _).mono ?_; rintro e w6 ⟨rfl, hb6⟩) | (go_at_call 15; refine (same_any 2 n t s d rk ck 2 0 t .nil false none 0 _ hm (by simp [Fo.len]) (((HR.out.below Hal.out).below (Below.refl _ _).drew).below hb6) (rs_nil _ _)).mono ?_; rintro e w7 ⟨rfl, hb7⟩; rw [HS.out]) | (go_at_call 100; refine (isSymbol_any ⟨t.toArray⟩ _ Hes.out ((((HEa.out.below (Below.refl _ _).drew HEa.out.lt).below hb6 HEa.out.lt).below hb7 (Nat.lt_of_lt_of_le HEa.out.lt hb6.size)))).mono ?_; rintro e w8 ⟨rfl, hb8⟩))
  go_wp2
  go_ret
  exact ⟨rfl, Hal.out.drew.trans ((hb6.mono (by simp)).trans ((hb7.mono (Nat.le_trans (by simp) hb6.size)).trans (hb8.mono (Nat.le_trans (by simp) (Nat.le_trans hb6.size hb7.size)))))⟩
end Go.Proofs.YtlpdfifjdlfpdaaGreatDoor

/- isDatum: its walk. -/
namespace Go.Proofs.YtlpdfifjdlfpdaaGreatDoor
open Go.RowKit

set_option maxRecDepth 100000 in
set_option maxHeartbeats 4000000 in
theorem isDatum_any (k n : Int) (t : List UInt8) (s : Fo) (d : Bool) (rk : Option Addr) (ck : Nat) (w : World) (hm : s.len ≤ maxLen) (hR : RS w rk s) (ht : t.length ≤ 281474976710656) (hE : EV w) :
    Calls Tryz.prog 86 #[.agg #[.int .u8 k, .int .i64 n, S t, .slice rk s.len ck, .bool d]] w fun e w' => e = .returned (.bool (isDat k n t s d)) ∧ Below w.heap.size w w' := by
  have HR : Hid (RS w rk s) := hR
  have HE : Hid (EV w) := hE
  have hal : Below w.heap.size w (w.alloc (.cells #[.int .u8 k, .int .i64 n, S t, .slice rk s.len ck, .bool d] 58)) := (Below.refl _ w).alloc (Nat.le_refl _) _
  have Hal : Hid _ := hal
  have q0 := World.alloc_heap_new w (.cells #[.int .u8 k, .int .i64 n, S t, .slice rk s.len ck, .bool d] 58)
  have HQ0 : Hid _ := q0
  clear hR hE hal q0
  unfold isDat
  by_cases h1 : k = 1
  · rw [if_pos h1]
    subst h1
    cases hsb : sameB 1 n t s d 1 n [] .nil false
    · have HS : Hid _ := hsb
      clear hsb
      go_enter Tryz.func86, Tryz.ntmps86
      go_wp2_with fail
      refine (same_any 1 n t s d rk ck 1 n [] .nil false none 0 _ hm (by simp [Fo.len]) (HR.out.below Hal.out) (rs_nil _ _)).mono ?_
      rintro e w1 ⟨rfl, hb1⟩
      rw [HS.out]
      go_wp2
      go_ret
      exact ⟨rfl, Hal.out.trans (hb1.mono (by simp))⟩
    · have HS : Hid _ := hsb
      clear hsb
      cases hlo : decide (-576460752303423488 ≤ n)
      · go_enter Tryz.func86, Tryz.ntmps86
        go_wp2_with fail
        refine (same_any 1 n t s d rk ck 1 n [] .nil false none 0 _ hm (by simp [Fo.len]) (HR.out.below Hal.out) (rs_nil _ _)).mono ?_
        rintro e w1 ⟨rfl, hb1⟩
        obtain ⟨z0, z1, z2, z3, z4, _⟩ := cells5 ((hb1.block _ (by simp)).trans HQ0.out)
        rw [HS.out]
        go_wp2
        go_ret
        exact ⟨rfl, Hal.out.trans (hb1.mono (by simp))⟩
      · go_enter Tryz.func86, Tryz.ntmps86
        go_wp2_with fail
        refine (same_any 1 n t s d rk ck 1 n [] .nil false none 0 _ hm (by simp [Fo.len]) (HR.out.below Hal.out) (rs_nil _ _)).mono ?_
        rintro e w1 ⟨rfl, hb1⟩
        obtain ⟨z0, z1, z2, z3, z4, _⟩ := cells5 ((hb1.block _ (by simp)).trans HQ0.out)
        rw [HS.out]
        go_wp2
        go_ret
        exact ⟨by simp, Hal.out.trans (hb1.mono (by simp))⟩
  rw [if_neg h1]
  have b1 : (k == 1) = false := beq_eq_false_iff_ne.2 h1
  by_cases h2 : k = 2
  · rw [if_pos h2]
    subst h2
    clear h1 b1
    cases hsb : sameB 2 n t s d 2 0 t .nil false
    · exact isDatum_sym_f n t s d rk ck w hm HR.out ht HE.out hsb
    · exact isDatum_sym_t n t s d rk ck w hm HR.out ht HE.out hsb
  rw [if_neg h2]
  have b2 : (k == 2) = false := beq_eq_false_iff_ne.2 h2
  by_cases h34 : k = 3 ∨ k = 4
  · rw [if_pos h34]
    rcases h34 with rfl | rfl
    · clear h1 h2 b1 b2
      go_enter Tryz.func86, Tryz.ntmps86
      go_wp2_with fail
      refine (same_any 3 n t s d rk ck 3 0 [] .nil false none 0 _ hm (by simp [Fo.len]) (HR.out.below Hal.out) (rs_nil _ _)).mono ?_
      rintro e w1 ⟨rfl, hb1⟩
      go_wp2
      go_ret
      exact ⟨rfl, Hal.out.trans (hb1.mono (by simp))⟩
    · clear h1 h2 b1 b2
      go_enter Tryz.func86, Tryz.ntmps86
      go_wp2_with fail
      refine (same_any 4 n t s d rk ck 4 0 [] .nil false none 0 _ hm (by simp [Fo.len]) (HR.out.below Hal.out) (rs_nil _ _)).mono ?_
      rintro e w1 ⟨rfl, hb1⟩
      go_wp2
      go_ret
      exact ⟨rfl, Hal.out.trans (hb1.mono (by simp))⟩
  rw [if_neg h34]
  have b3 : (k == 3) = false := beq_eq_false_iff_ne.2 (fun h => h34 (.inl h))
  have b4 : (k == 4) = false := beq_eq_false_iff_ne.2 (fun h => h34 (.inr h))
  by_cases h5 : k = 5
  · rw [if_pos h5]
    subst h5
    clear h1 h2 h34 b1 b2 b3 b4
    cases hn : (n == 0)
    · go_enter Tryz.func86, Tryz.ntmps86
      go_wp2
      go_ret
      exact ⟨rfl, Hal.out⟩
    · by_cases htn : t = []
      · subst htn
        cases d
        · go_enter Tryz.func86, Tryz.ntmps86
          go_wp2
          go_ret
          exact ⟨by simp, Hal.out⟩
        · go_enter Tryz.func86, Tryz.ntmps86
          go_wp2_with fail
          refine (hasTail_any rk ck s _ hm (HR.out.below Hal.out)).mono ?_
          rintro e w1 ⟨rfl, rfl⟩
          go_wp2
          go_ret
          exact ⟨by simp, Hal.out⟩
      · have d3 : decide (t = []) = false := decide_eq_false htn
        go_enter Tryz.func86, Tryz.ntmps86
        go_wp2
        go_ret
        exact ⟨by simp [htn], Hal.out⟩
  rw [if_neg h5]
  have b5 : (k == 5) = false := beq_eq_false_iff_ne.2 h5
  clear h1 h2 h34 h5
  go_enter Tryz.func86, Tryz.ntmps86
  go_wp2
  go_ret
  exact ⟨rfl, Hal.out⟩
end Go.Proofs.YtlpdfifjdlfpdaaGreatDoor
