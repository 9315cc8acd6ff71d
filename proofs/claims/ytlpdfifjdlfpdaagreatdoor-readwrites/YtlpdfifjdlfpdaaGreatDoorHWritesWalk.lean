/- The walk of ReadWrites. -/
import Derived.Test.YtlpdfifjdlfpdaaGreatDoorHRefWrite
import Derived.Test.YtlpdfifjdlfpdaaGreatDoorHRefSame
import Derived.Test.YtlpdfifjdlfpdaaGreatDoorHLentV
import Derived.Test.YtlpdfifjdlfpdaaGreatDoorHWholeW
import Derived.Test.YtlpdfifjdlfpdaaGreatDoorHNth
import Derived.Test.YtlpdfifjdlfpdaaGreatDoorGN
import Derived.Test.YtlpdfifjdlfpdaaGreatDoorHMuch
import Derived.Test.YtlpdfifjdlfpdaaGreatDoorHDataOf
namespace Go.Proofs.YtlpdfifjdlfpdaaGreatDoor
open Go.RowKit

theorem same_self (k n : Int) (t : List UInt8) (s : Fo) (d : Bool) : sameB k n t s d k n t s d = true := by
  unfold sameB; rw [(Fo.same_iff s s).2 rfl]; simp
/-- The cells of one datum. -/
structure C5 (w : World) (b o : Nat) (X : Dm) (rk : Option Addr) (ck : Nat) : Prop where
  lt : b < w.heap.size
  c0 : w.cell? ⟨b, o, none⟩ = some (.int .u8 X.k)
  c1 : w.cell? ⟨b, o + 1, none⟩ = some (.int .i64 X.n)
  c2 : w.cell? ⟨b, o + 1 + 1, none⟩ = some (S X.t)
  c3 : w.cell? ⟨b, o + 1 + 1 + 1, none⟩ = some (.slice rk X.s.len ck)
  c4 : w.cell? ⟨b, o + 1 + 1 + 1 + 1, none⟩ = some (.bool X.d)
  len : X.s.len ≤ maxLen
  rs : RS w rk X.s
theorem C5.below {w w' : World} {b o : Nat} {X : Dm} {rk : Option Addr} {ck : Nat} (h : C5 w b o X rk ck) (hb : Below w.heap.size w w') : C5 w' b o X rk ck := by
  have e : ∀ o, w'.cell? ⟨b, o, none⟩ = w.cell? ⟨b, o, none⟩ := fun o => hb.cell (p := ⟨b, o, none⟩) h.lt
  exact ⟨Nat.lt_of_lt_of_le h.lt hb.size, (e _).trans h.c0, (e _).trans h.c1, (e _).trans h.c2, (e _).trans h.c3, (e _).trans h.c4, h.len, h.rs.below hb⟩
theorem Rd.c5 {w : World} {f : Fo} {b o j : Nat} {X : Dm} (h : Rd w b o f) (hx : f.nth j = some X) : ∃ rk ck, C5 w b (o + j * 5) X rk ck := by
  obtain ⟨⟨h0, h1, h2, h3, h4, h5⟩, rk, ck, hk, hr⟩ := h.nth hx
  exact ⟨rk, ck, h0, h1, h2, h3, hk, h4, h5, hr⟩

set_option maxRecDepth 100000 in
set_option maxHeartbeats 8000000 in
theorem readWrites_walk (ra : Option Addr) (ca : Nat) (f : Fo) (w : World) (hm : f.len ≤ maxLen) (hst : f.st) (hR : RS w ra f) (hE : EV w) (hT : TB w) :
    Calls Tryz.prog 4 #[.slice ra f.len ca] w fun e w' => e = .returned (.bool true) ∧ Below w.heap.size w w' := by
  have HE : Hid (EV w) := hE
  have HT : Hid (TB w) := hT
  have HR : Hid (RS w ra f) := hR
  have HS : Hid (f.st) := hst
  clear hE hT hR hst
  go_enter Tryz.func4, Tryz.ntmps4
  go_wp2_with fail
  refine (works_any w HE.out HT.out).mono ?_
  rintro e w1 ⟨rfl, hb1⟩
  have H1 : Hid (Below w.heap.size w w1) := hb1
  clear hb1
  go_wp2_with fail
  refine (much_any ra ca f w1 hm HS.out (HR.out.below H1.out)).mono ?_
  rintro e w2 ⟨rfl, hb2⟩
  have H2 : Hid (Below w.heap.size w w2) := H1.out.trans (hb2.mono H1.out.size)
  clear hb2 H1
  cases hmu : muchB f
  · obtain ⟨hsz, htx⟩ := much_fits hmu
    have Htx : Hid (f.tx) := htx
    have hlen := Fo.len_size f
    clear hmu htx
    go_wp2_with fail
    refine (refWrite_any ra ca f w2 (by omega) hm Htx.out (HR.out.below H2.out)).mono ?_
    rintro e w3 ⟨rfl, hb3⟩
    have H3 : Hid (Below w.heap.size w w3) := H2.out.trans (hb3.mono H2.out.size)
    clear hb3 H2
    obtain ⟨u, hu⟩ : ∃ u, (writeOf f).1 = u := ⟨_, rfl⟩
    obtain ⟨q, hq⟩ : ∃ q, (writeOf f).2 = q := ⟨_, rfl⟩
    rw [hu, hq]
    have Hu : Hid _ := hu
    have Hq : Hid _ := hq
    clear hu hq
    go_wp2_with fail
    refine (lent_all f.size f ra ca w3 (Nat.le_refl _) (by omega) (by omega) (HR.out.below H3.out)).mono ?_
    rintro e w4 ⟨v, rfl, hL, hb4⟩
    have H4 : Hid (Below w.heap.size w w4) := H3.out.trans (hb4.mono H3.out.size)
    obtain ⟨g, rfl, hRg, _, hgb, hgl⟩ := hL.rs
    have HL4 : Hid (Lent w4 w3.heap.size (.slice (some ⟨g, 0, none⟩) f.len (f.len + 1)) f) := hL
    have HG4 : Hid (RS w4 (some ⟨g, 0, none⟩) f) := hRg
    clear hb4 hL hRg
    go_wp2_with fail
    refine (write_fn (some ⟨g, 0, none⟩) (f.len + 1) f w4 hm (by omega) Htx.out HG4.out (HE.out.below H4.out HE.out.lt) (HT.out.below H4.out)).mono ?_
    rw [Hu.out, Hq.out]
    rintro e w5 ⟨rfl, hb5⟩
    have H5 : Hid (Below w.heap.size w w5) := H4.out.trans (hb5.mono H4.out.size)
    have K5 : Hid (Below w4.heap.size w4 w5) := hb5
    clear hb5
    go_wp2_with fail
    refine (write_fn (some ⟨g, 0, none⟩) (f.len + 1) f w5 hm (by omega) Htx.out (HG4.out.below K5.out) (HE.out.below H5.out HE.out.lt) (HT.out.below H5.out)).mono ?_
    rw [Hu.out, Hq.out]
    rintro e w6 ⟨rfl, hb6⟩
    have H6 : Hid (Below w.heap.size w w6) := H5.out.trans (hb6.mono H5.out.size)
    have K6 : Hid (Below w4.heap.size w4 w6) := K5.out.trans (hb6.mono K5.out.size)
    clear hb6 H5 K5
    have HR6 : Hid (RS w6 ra f) := HR.out.below H6.out
    have HG6 : Hid (RS w6 (some ⟨g, 0, none⟩) f) := HG4.out.below K6.out
    have HL6 : Hid (Lent w6 w3.heap.size (.slice (some ⟨g, 0, none⟩) f.len (f.len + 1)) f) := HL4.out.below K6.out
    have hls : (u == u) = true := beq_self_eq_true u
    have hlq : (q == q) = true := beq_self_eq_true q
    obtain ⟨b, o, hab, hRd⟩ := HR6.out
    obtain ⟨bg, og, hag, hGd⟩ := HG6.out
    have HRd : Hid (Rd w6 b o f) := hRd
    have Hra : Hid (f.len ≠ 0 → ra = some ⟨b, o, none⟩) := fun h => hab.resolve_left h
    have HGd : Hid (f.len ≠ 0 → Rd w6 g 0 f) := fun h => by have := hag.resolve_left h; cases this; exact hGd
    unfold maxLen at hm
    clear hab hag hRd hGd HG6 HR6
    go_wp2
    go_loopw [12, 13, 14, 15, 16] (fun i _ _ _ _ wr => ∃ (j : Nat), i = .int .i64 j ∧ j ≤ f.len ∧ Hid (Below w6.heap.size w6 wr)) (fun i _ _ _ _ _ => f.len - (intOf i).toNat)
    case atStart => exact ⟨0, rfl, Nat.zero_le _, Below.refl _ _⟩
    case round =>
      obtain ⟨j, rfl, hj, HB⟩ := hrel
      by_cases hlt : j < f.len
      · have i1 : (j : Int) < (f.len : Int) := by omega
        have i0 : (0 : Int) ≤ (j : Int) := by omega
        obtain ⟨m, hmod, hml⟩ : ∃ m : Nat, ((j : Int) + 1).tmod (f.len : Int) = (m : Int) ∧ m < f.len := ⟨(j + 1) % f.len, by rw [Int.tmod_eq_emod_of_nonneg (by omega)]; push_cast; rfl, Nat.mod_lt _ (by omega)⟩
        have m1 : (m : Int) < (f.len : Int) := by omega
        have m0 : (0 : Int) ≤ (m : Int) := by omega
        have hne : ¬ ((f.len : Int) = 0) := by omega
        have hneb : ((f.len : Int) == 0) = false := by simp; omega
        obtain ⟨X, hX⟩ := Fo.nth_some f j hlt
        obtain ⟨Y, hY⟩ := Fo.nth_some f m hml
        have hra := Hra.out (by omega)
        subst hra
        obtain ⟨rx, cx, hlx⟩ := HRd.out.c5 hX
        obtain ⟨ry, cy, hly⟩ := HRd.out.c5 hY
        obtain ⟨ox, dx, hox⟩ := (HGd.out (by omega)).c5 hX
        obtain ⟨oy, dy, hoy⟩ := (HGd.out (by omega)).c5 hY
        rw [Nat.zero_add] at hox hoy
        have HLX : Hid _ := hlx.below HB.out
        have HLY : Hid _ := hly.below HB.out
        have HOX : Hid _ := hox.below HB.out
        have HOY : Hid _ := hoy.below HB.out
        have hmx : Tryz.prog.follows .mixedOrders = true := by kernel_rfl
        obtain ⟨p0, p1, p2, p3, p4, p5, _, _⟩ := HOX.out
        obtain ⟨q0, q1, q2, q3, q4, q5, _, _⟩ := HLX.out
        clear hX hY hlx hly hox hoy
        go_wp2_with fail
        first
        | go_region_held3 (fun wx => ((wx.cell? ⟨g, j * 5, none⟩ = some (.int .u8 X.k) ∧ wx.cell? ⟨g, j * 5 + 1, none⟩ = some (.int .i64 X.n) ∧ wx.cell? ⟨g, j * 5 + 1 + 1, none⟩ = some (S X.t) ∧ wx.cell? ⟨g, j * 5 + 1 + 1 + 1, none⟩ = some (.slice ox X.s.len dx) ∧ wx.cell? ⟨g, j * 5 + 1 + 1 + 1 + 1, none⟩ = some (.bool X.d)) ∧ g < wx.heap.size) ∧ (wx.cell? ⟨b, o + j * 5, none⟩ = some (.int .u8 X.k) ∧ wx.cell? ⟨b, o + j * 5 + 1, none⟩ = some (.int .i64 X.n) ∧ wx.cell? ⟨b, o + j * 5 + 1 + 1, none⟩ = some (S X.t) ∧ wx.cell? ⟨b, o + j * 5 + 1 + 1 + 1, none⟩ = some (.slice rx X.s.len cx) ∧ wx.cell? ⟨b, o + j * 5 + 1 + 1 + 1 + 1, none⟩ = some (.bool X.d)) ∧ b < wx.heap.size) (first | go_keep | exact keepT hb7 (by go_keep))
            (first | (go_at_call 15; refine (same_any X.k X.n X.t X.s X.d ox dx X.k X.n X.t X.s X.d rx cx _ HOX.out.len HLX.out.len (HOX.out.rs.below (Below.refl _ _).drew) (HLX.out.rs.below (Below.refl _ _).drew)).mono ?_; rintro e w7 ⟨rfl, hb7⟩))
        | fail
        rw [same_self]
        have B7 : Hid (Below wr.heap.size wr w7) := (Below.refl _ wr).drew.trans hb7
        clear hb7 p0 p1 p2 p3 p4 p5 q0 q1 q2 q3 q4 q5
        have HOX7 : Hid _ := HOX.out.below B7.out
        have HOY7 : Hid _ := HOY.out.below B7.out
        obtain ⟨p0, p1, p2, p3, p4, p5, _, _⟩ := HOX7.out
        obtain ⟨q0, q1, q2, q3, q4, q5, _, _⟩ := HOY7.out
        go_wp2_with fail
        first
        | go_region_held3 (fun wx => ((wx.cell? ⟨g, j * 5, none⟩ = some (.int .u8 X.k) ∧ wx.cell? ⟨g, j * 5 + 1, none⟩ = some (.int .i64 X.n) ∧ wx.cell? ⟨g, j * 5 + 1 + 1, none⟩ = some (S X.t) ∧ wx.cell? ⟨g, j * 5 + 1 + 1 + 1, none⟩ = some (.slice ox X.s.len dx) ∧ wx.cell? ⟨g, j * 5 + 1 + 1 + 1 + 1, none⟩ = some (.bool X.d)) ∧ g < wx.heap.size) ∧ (wx.cell? ⟨g, m * 5, none⟩ = some (.int .u8 Y.k) ∧ wx.cell? ⟨g, m * 5 + 1, none⟩ = some (.int .i64 Y.n) ∧ wx.cell? ⟨g, m * 5 + 1 + 1, none⟩ = some (S Y.t) ∧ wx.cell? ⟨g, m * 5 + 1 + 1 + 1, none⟩ = some (.slice oy Y.s.len dy) ∧ wx.cell? ⟨g, m * 5 + 1 + 1 + 1 + 1, none⟩ = some (.bool Y.d)) ∧ g < wx.heap.size) (first | go_keep | exact keepT hb8 (by go_keep))
            (first | (go_at_call 15; refine (same_any X.k X.n X.t X.s X.d ox dx Y.k Y.n Y.t Y.s Y.d oy dy _ HOX.out.len HOY.out.len (HOX7.out.rs.below (Below.refl _ _).drew) (HOY7.out.rs.below (Below.refl _ _).drew)).mono ?_; rintro e w8 ⟨rfl, hb8⟩))
        | fail
        have B8 : Hid (Below wr.heap.size wr w8) := B7.out.trans (((Below.refl _ w7).drew.trans hb8).mono B7.out.size)
        clear hb8 p0 p1 p2 p3 p4 p5 q0 q1 q2 q3 q4 q5
        have HLX8 : Hid _ := HLX.out.below B8.out
        have HLY8 : Hid _ := HLY.out.below B8.out
        obtain ⟨p0, p1, p2, p3, p4, p5, _, _⟩ := HLX8.out
        obtain ⟨q0, q1, q2, q3, q4, q5, _, _⟩ := HLY8.out
        obtain ⟨sb, hsb⟩ : ∃ sb, sameB X.k X.n X.t X.s X.d Y.k Y.n Y.t Y.s Y.d = sb := ⟨_, rfl⟩
        have HSB : Hid _ := hsb
        rw [hsb]
        clear hsb
        go_wp2_with fail
        first
        | go_region_held3 (fun wx => ((wx.cell? ⟨b, o + j * 5, none⟩ = some (.int .u8 X.k) ∧ wx.cell? ⟨b, o + j * 5 + 1, none⟩ = some (.int .i64 X.n) ∧ wx.cell? ⟨b, o + j * 5 + 1 + 1, none⟩ = some (S X.t) ∧ wx.cell? ⟨b, o + j * 5 + 1 + 1 + 1, none⟩ = some (.slice rx X.s.len cx) ∧ wx.cell? ⟨b, o + j * 5 + 1 + 1 + 1 + 1, none⟩ = some (.bool X.d)) ∧ b < wx.heap.size) ∧ (wx.cell? ⟨b, o + m * 5, none⟩ = some (.int .u8 Y.k) ∧ wx.cell? ⟨b, o + m * 5 + 1, none⟩ = some (.int .i64 Y.n) ∧ wx.cell? ⟨b, o + m * 5 + 1 + 1, none⟩ = some (S Y.t) ∧ wx.cell? ⟨b, o + m * 5 + 1 + 1 + 1, none⟩ = some (.slice ry Y.s.len cy) ∧ wx.cell? ⟨b, o + m * 5 + 1 + 1 + 1 + 1, none⟩ = some (.bool Y.d)) ∧ b < wx.heap.size) (first | go_keep | exact keepT hb9 (by go_keep))
            (first | (go_at_call 16; refine (sameR_all X.s.size X.k X.n X.t X.s X.d rx cx Y.k Y.n Y.t Y.s Y.d ry cy _ (Nat.le_refl _) HLX.out.len HLY.out.len (HLX8.out.rs.below (Below.refl _ _).drew) (HLY8.out.rs.below (Below.refl _ _).drew)).mono ?_; rintro e w9 ⟨rfl, hb9⟩))
        | fail
        rw [HSB.out]
        have B9 : Hid (Below w6.heap.size w6 w9) := HB.out.trans ((B8.out.trans (((Below.refl _ w8).drew.trans hb9).mono B8.out.size)).mono HB.out.size)
        clear hb9 p0 p1 p2 p3 p4 p5 q0 q1 q2 q3 q4 q5
        have hss : (sb == sb) = true := beq_self_eq_true sb
        go_wp2
        go_roundw
        case rel => exact ⟨j + 1, by go_num, by omega, B9⟩
        case measure => simp [intOf]; omega
      · have hjl : ¬ ((j : Int) < (f.len : Int)) := by omega
        go_wp2_with fail
        refine (whole_all f.size f g w3.heap.size ra ca wr (Nat.le_refl _) (by omega) (HL6.out.below HB.out) (HR.out.below (H6.out.trans (HB.out.mono H6.out.size)))).mono ?_
        rintro e w7 ⟨rfl, hb7⟩
        have H7 : Hid (Below w.heap.size w w7) := (H6.out.trans (HB.out.mono H6.out.size)).trans (hb7.mono (H6.out.trans (HB.out.mono H6.out.size)).size)
        clear hb7
        go_wp2
        go_ret
        exact ⟨rfl, H7.out⟩
  · clear hmu
    go_wp2
    go_ret
    exact ⟨rfl, H2.out⟩
end Go.Proofs.YtlpdfifjdlfpdaaGreatDoor
