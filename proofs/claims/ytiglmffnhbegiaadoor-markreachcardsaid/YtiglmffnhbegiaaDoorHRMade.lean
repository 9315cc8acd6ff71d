/- Two heaps made of a list of cells: the program's and the document's. -/
import Derived.Test.YtiglmffnhbegiaaDoorHRHeap3
namespace Go.Proofs.YtiglmffnhbegiaaDoor
open Go.RowKit

def mdH (l : List Cl) : Nat → List Cl
  | 0 => List.replicate 16 c0
  | j + 1 => match l[j]? with
    | some x => makeH (mdH l j) j x
    | none => mdH l j
theorem mdH_some {l : List Cl} {j : Nat} {x : Cl} (hx : l[j]? = some x) : mdH l (j + 1) = makeH (mdH l j) j x := by
  show (match l[j]? with | some x => makeH (mdH l j) j x | none => mdH l j) = _
  rw [hx]
theorem mdH_none {l : List Cl} {j : Nat} (hx : l.length ≤ j) : mdH l (j + 1) = mdH l j := by
  show (match l[j]? with | some x => makeH (mdH l j) j x | none => mdH l j) = _
  rw [List.getElem?_eq_none hx]
theorem mdH_end {l : List Cl} {j : Nat} (hx : l.length ≤ j) : ∀ d, mdH l (j + d) = mdH l j
  | 0 => rfl
  | d + 1 => by
    rw [← Nat.add_assoc, mdH_none (by omega)]
    exact mdH_end hx d
/-- Two heaps, all whose blocks are new. -/
structure TW (w0 w : World) (hb ab rb g : Nat) (h h' : List Cl) : Prop where
  c : CH w hb ab h
  r : RH w rb g h'
  b : Below w0.heap.size w0 w
  hb : w0.heap.size ≤ hb
  ab : w0.heap.size ≤ ab
  rb : w0.heap.size ≤ rb
  g : w0.heap.size ≤ g
theorem RH.ex {w w' : World} {hb ab rb g : Nat} {h h1 h' : List Cl} (R : RH w rb g h') (C : CH w hb ab h) (hE : ExR hb ab h1 w w') : RH w' rb g h' := by
  obtain ⟨cs, r1, _⟩ := C.r
  obtain ⟨cs', r2, _⟩ := R.r
  exact R.kept (hE.2.1.2 _ (ty_ne R.v r1 (by decide)) R.lt.1) (hE.2.1.2 _ (ty_ne r2 r1 (by decide)) R.lt.2)
theorem CH.rh {w w' : World} {hb ab rb g : Nat} {h h' h1 : List Cl} (C : CH w hb ab h) (R : RH w rb g h') (hR : RhR rb g h1 w w') : CH w' hb ab h := by
  obtain ⟨cs, r1, _⟩ := C.r
  obtain ⟨cs', r2, _⟩ := R.r
  exact C.kept (hR.2.2 _ (ty_ne C.v r2 (by decide)) C.lt.1) (hR.2.2 _ (ty_ne r1 r2 (by decide)) C.lt.2) (fun q cs hq => hR.2.2 q (ty_ne hq r2 (by decide)) (heap_lt hq))
theorem TW.ex {w0 w w' : World} {hb ab rb g : Nat} {h h1 h' : List Cl} (H : TW w0 w hb ab rb g h h') (hE : ExR hb ab h1 w w') : TW w0 w' hb ab rb g h1 h' :=
  ⟨hE.1, H.r.ex H.c hE, below_out H.b hE.2.1.1 (fun k hk => hE.2.1.2 k (by have := H.ab; omega) (Nat.lt_of_lt_of_le hk H.b.size)), H.hb, H.ab, H.rb, H.g⟩
theorem TW.rh {w0 w w' : World} {hb ab rb g : Nat} {h h1 h' : List Cl} (H : TW w0 w hb ab rb g h h') (hR : RhR rb g h1 w w') : TW w0 w' hb ab rb g h h1 :=
  ⟨H.c.rh H.r hR, hR.1, below_out H.b hR.2.1 (fun k hk => hR.2.2 k (by have := H.g; omega) (Nat.lt_of_lt_of_le hk H.b.size)), H.hb, H.ab, H.rb, H.g⟩
theorem TW.drew {w0 w : World} {hb ab rb g : Nat} {h h' : List Cl} (H : TW w0 w hb ab rb g h h') : TW w0 w.drew hb ab rb g h h' := ⟨⟨H.c.v, H.c.r, H.c.ok, H.c.len⟩, ⟨H.r.v, H.r.r, H.r.ok, H.r.len⟩, H.b.drew, H.hb, H.ab, H.rb, H.g⟩
def MdR (l : List Cl) (w : World) (e : Ending) (w' : World) : Prop := ∃ hb ab rb g : Nat, e = .returned (.tuple #[.pointer (some ⟨hb, 0, none⟩), .pointer (some ⟨rb, 0, none⟩)]) ∧ TW w w' hb ab rb g (mdH l 16) (mdH l 16)
set_option maxRecDepth 100000 in
set_option maxHeartbeats 16000000 in
theorem made_any (l : List Cl) (ra : Option Addr) (ca : Nat) (w : World) (hH : HR w ra l) :
    Calls Tryd.prog 7 #[.slice ra l.length ca] w fun e w' => MdR l w e w' := by
  obtain ⟨b, o, hor, hcs⟩ := hH
  have HCS : Hid (∀ (j : Nat) (x : Cl), l[j]? = some x → b < w.heap.size ∧ (w.cell? ⟨b, o + j * 4, none⟩ = some (.int .u8 x.k) ∧ w.cell? ⟨b, o + j * 4 + 1, none⟩ = some (.int .u8 x.c) ∧ w.cell? ⟨b, o + j * 4 + 1 + 1, none⟩ = some (.int .u64 x.a) ∧ w.cell? ⟨b, o + j * 4 + 1 + 1 + 1, none⟩ = some (.int .u64 x.b)) ∧ OkK x) := hcs
  have HOR : Hid (l.length = 0 ∨ ra = some ⟨b, o, none⟩) := hor
  have qP : ∀ (g : Nat) (W : World), (binOp .neq 32 (.pointer (some ⟨g, 0, none⟩)) (.pointer none)).run Tryd.prog W = .ok (.bool true) W := fun g W => by simp [go_sem]
  clear hor hcs
  go_enter Tryd.func7, Tryd.ntmps7
  go_wp2_with fail
  refine Calls.mono (new_any 16 w (by decide) (by decide)) ?_
  rintro e w1 ⟨hb, ab, rfl, c1, b1, l1, l2, _⟩
  have HC1 : Hid (CH w1 hb ab (List.replicate 16 c0)) := c1
  have HB1 : Hid (Below w.heap.size w w1) := b1
  clear c1 b1
  go_wp2_with fail
  refine Calls.mono (rnew_any 16 w1 (by decide) (by decide)) ?_
  rintro e w2 ⟨rb, g, rfl, r1, b2, l3, l4⟩
  have s1 := HB1.out.size
  have HT : Hid (TW w w2 hb ab rb g (mdH l 0) (mdH l 0)) := ⟨HC1.out.below b2, r1, HB1.out.trans (b2.mono s1), l1, l2, by omega, by omega⟩
  clear r1 b2 HC1 HB1
  go_wp2_with fail
  go_loopw [8] (fun i wr => ∃ j : Nat, i = .int .i64 j ∧ j ≤ l.length ∧ j ≤ 16 ∧ Hid (TW w wr hb ab rb g (mdH l j) (mdH l j))) (fun i _ => 16 - (intOf i).toNat)
  case atStart => exact ⟨0, rfl, Nat.zero_le _, Nat.zero_le _, HT⟩
  case round =>
    clear HT
    obtain ⟨j, rfl, hj, hj16, HI⟩ := hrel
    by_cases hjl : j < l.length
    · have k1 : (j : Int) < (l.length : Int) := by omega
      have k1' : decide ((j : Int) < (l.length : Int)) = true := by simpa using hjl
      by_cases hj6 : j < 16
      · have k2 : (j : Int) < 16 := by omega
        have k2' : decide ((j : Int) < 16) = true := by simp; omega
        obtain ⟨x, hx⟩ : ∃ x, l[j]? = some x := ⟨_, List.getElem?_eq_getElem hjl⟩
        obtain ⟨g1, ⟨y1, y2, y3, y4⟩, hok⟩ := HCS.out j x hx
        have hra : ra = some ⟨b, o, none⟩ := HOR.out.resolve_left (by omega)
        have HE : Hid (mdH l (j + 1) = makeH (mdH l j) j x) := mdH_some hx
        generalize hG : mdH l j = G at HI HE
        have lo : ∀ wx, Below w.heap.size w wx → wx.cell? ⟨b, o + j * 4, none⟩ = some (.int .u8 x.k) ∧ wx.cell? ⟨b, o + j * 4 + 1, none⟩ = some (.int .u8 x.c) ∧ wx.cell? ⟨b, o + j * 4 + 1 + 1, none⟩ = some (.int .u64 x.a) ∧ wx.cell? ⟨b, o + j * 4 + 1 + 1 + 1, none⟩ = some (.int .u64 x.b) := fun wx hw => ⟨(hw.cell (p := ⟨b, o + j * 4, none⟩) g1).trans y1, (hw.cell (p := ⟨b, o + j * 4 + 1, none⟩) g1).trans y2, (hw.cell (p := ⟨b, o + j * 4 + 1 + 1, none⟩) g1).trans y3, (hw.cell (p := ⟨b, o + j * 4 + 1 + 1 + 1, none⟩) g1).trans y4⟩
        obtain ⟨u1, u2, u3, u4⟩ := lo wr HI.out.b
        have HK : Hid (Calls Tryd.prog 19 #[.pointer (some ⟨hb, 0, none⟩), .int .i64 j, .int .u8 x.k, .int .u8 x.c, .int .u64 x.a, .int .u64 x.b] wr.drew fun e w' => e = .returned (.int .i64 (makeE G j x)) ∧ ExR hb ab (makeH G j x) wr.drew w') := hmake_any j x HI.out.drew.c hok
        have mk : ∀ wx, ExR hb ab (makeH G j x) wr.drew wx → wx.cell? ⟨b, o + j * 4, none⟩ = some (.int .u8 x.k) ∧ wx.cell? ⟨b, o + j * 4 + 1, none⟩ = some (.int .u8 x.c) ∧ wx.cell? ⟨b, o + j * 4 + 1 + 1, none⟩ = some (.int .u64 x.a) ∧ wx.cell? ⟨b, o + j * 4 + 1 + 1 + 1, none⟩ = some (.int .u64 x.b) := fun wx hx => lo wx (HI.out.drew.ex hx).b
        rw [hra]
        have HLo : Hid (∀ wx, Below w.heap.size w wx → wx.cell? ⟨b, o + j * 4, none⟩ = some (.int .u8 x.k) ∧ wx.cell? ⟨b, o + j * 4 + 1, none⟩ = some (.int .u8 x.c) ∧ wx.cell? ⟨b, o + j * 4 + 1 + 1, none⟩ = some (.int .u64 x.a) ∧ wx.cell? ⟨b, o + j * 4 + 1 + 1 + 1, none⟩ = some (.int .u64 x.b)) := lo
        have HMk : Hid (∀ wx, ExR hb ab (makeH G j x) wr.drew wx → wx.cell? ⟨b, o + j * 4, none⟩ = some (.int .u8 x.k) ∧ wx.cell? ⟨b, o + j * 4 + 1, none⟩ = some (.int .u8 x.c) ∧ wx.cell? ⟨b, o + j * 4 + 1 + 1, none⟩ = some (.int .u64 x.a) ∧ wx.cell? ⟨b, o + j * 4 + 1 + 1 + 1, none⟩ = some (.int .u64 x.b)) := mk
        clear hx y1 y2 y3 y4 hra hG lo mk
        go_wp2_with fail
        go_region_held3 (fun wx => wx.cell? ⟨b, o + j * 4, none⟩ = some (.int .u8 x.k) ∧ wx.cell? ⟨b, o + j * 4 + 1, none⟩ = some (.int .u8 x.c) ∧ wx.cell? ⟨b, o + j * 4 + 1 + 1, none⟩ = some (.int .u64 x.a) ∧ wx.cell? ⟨b, o + j * 4 + 1 + 1 + 1, none⟩ = some (.int .u64 x.b)) (first | (go_keep; done) | exact ⟨u1, u2, u3, u4⟩ | exact HMk.out _ hx) (first | (go_at_call 19; refine HK.out.mono ?_; rintro e w' ⟨rfl, hx⟩) | fail)
        have HI2 : Hid (TW w w' hb ab rb g (makeH G j x) G) := HI.out.drew.ex hx
        have HR : Hid (Calls Tryd.prog 24 #[.pointer (some ⟨rb, 0, none⟩), .int .i64 j, .int .u8 x.k, .int .u8 x.c, .int .u64 x.a, .int .u64 x.b] w'.drew fun e w4 => e = .returned (.int .i64 (makeE G j x)) ∧ RhR rb g (makeH G j x) w'.drew w4) := rmake_any j x HI2.out.drew.r hok
        obtain ⟨v1, v2, v3, v4⟩ := HLo.out w' HI2.out.b
        have HMk2 : Hid (∀ wx, RhR rb g (makeH G j x) w'.drew wx → wx.cell? ⟨b, o + j * 4, none⟩ = some (.int .u8 x.k) ∧ wx.cell? ⟨b, o + j * 4 + 1, none⟩ = some (.int .u8 x.c) ∧ wx.cell? ⟨b, o + j * 4 + 1 + 1, none⟩ = some (.int .u64 x.a) ∧ wx.cell? ⟨b, o + j * 4 + 1 + 1 + 1, none⟩ = some (.int .u64 x.b)) := fun wx hx => HLo.out wx (HI2.out.drew.rh hx).b
        clear hx u1 u2 u3 u4 HMk HK
        go_wp2_with fail
        go_region_held3 (fun wx => wx.cell? ⟨b, o + j * 4, none⟩ = some (.int .u8 x.k) ∧ wx.cell? ⟨b, o + j * 4 + 1, none⟩ = some (.int .u8 x.c) ∧ wx.cell? ⟨b, o + j * 4 + 1 + 1, none⟩ = some (.int .u64 x.a) ∧ wx.cell? ⟨b, o + j * 4 + 1 + 1 + 1, none⟩ = some (.int .u64 x.b)) (first | (go_keep; done) | exact ⟨v1, v2, v3, v4⟩ | exact HMk2.out _ hx) (first | (go_at_call 24; refine HR.out.mono ?_; rintro e w5 ⟨rfl, hx⟩) | fail)
        have HI3 : Hid (TW w w5 hb ab rb g (makeH G j x) (makeH G j x)) := HI2.out.drew.rh hx
        clear hx v1 v2 v3 v4 HMk2 HR
        go_wp2_with fail
        refine ⟨⟨j + 1, by go_num, by omega, by omega, ?_⟩, by simp [intOf]; omega⟩
        rw [HE.out]
        exact HI3
      · have e : j = 16 := by omega
        subst e
        have k2 : ¬ ((16 : Int) < 16) := by omega
        go_wp2_with fail
        go_ret2
        exact ⟨_, _, _, _, rfl, HI.out⟩
    · have e : j = l.length := by omega
      subst e
      have k1 : ¬ ((l.length : Int) < (l.length : Int)) := by omega
      have HE : Hid (mdH l l.length = mdH l 16) := by
        show _ = _
        have := mdH_end (Nat.le_refl l.length) (16 - l.length)
        rw [← this]
        congr 1
        omega
      rw [HE.out] at HI
      go_wp2_with fail
      go_ret2
      exact ⟨_, _, _, _, rfl, HI.out⟩
end Go.Proofs.YtiglmffnhbegiaaDoor
