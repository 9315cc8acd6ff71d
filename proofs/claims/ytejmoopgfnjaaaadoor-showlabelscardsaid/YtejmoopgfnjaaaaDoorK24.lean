/- Show of any heap, any names, any word.; How the texts of words begin: each kind of word has its own beginning. Plain mathematics. -/
import Derived.Test.YtejmoopgfnjaaaaDoorK23
import Derived.Deep.RegionHeld3
/- Show of any heap, any names, any word. -/
namespace Go.Proofs.YtejmoopgfnjaaaaDoor
open Go.RowKit Go.Maps Go.ChangeMaps

structure SeenOk0 (X : List Cl) (F : Int) : Prop where
  len : X.length ≤ 1000000
  kd : ∀ y ∈ X, Kd y
  rng : Rng F
set_option maxRecDepth 100000 in
set_option maxHeartbeats 8000000 in
theorem show_bad2 (h : List Cl) (N : List (List UInt8)) (x : Int) (ra rn : Option Addr) (ca cn : Nat) (w : World) (hl : h.length ≤ 1000000) (hH : HR w ra h) (hx : Rng x) (hT : Tab w) (hf : fitsB h x = true)
    (hNl : N.length ≤ 3000000) (hN : TX w rn N) (hE : EV w) (hTB : TB w) (hnames : areNamesB N = false)
    (hS : SeenOk0 (fH (bareM h) [x]) (fromM h x)) :
    Calls Tryd.prog 8 #[.slice ra h.length ca, .slice rn N.length cn, .int .u64 x] w fun e w' => e = .returned (.tuple #[S [], .int .i64 110]) ∧ Below w.heap.size w w' := by
  have HL : Hid _ := look_sight h x ra ca w hl hH hx hT
  have HE0 : Hid (TX w rn N ∧ EV w ∧ TB w ∧ Tab w) := ⟨hN, hE, hTB, hT⟩
  obtain ⟨X, hX⟩ : ∃ X, X = fH (bareM h) [x] := ⟨_, rfl⟩
  obtain ⟨F, hF⟩ : ∃ F, F = fromM h x := ⟨_, rfl⟩
  unfold LookR' at HL
  rw [← hX, ← hF] at HL hS
  have HS : Hid (SeenOk0 X F) := hS
  have hXl := hS.len
  clear hH hT hN hE hTB hS hX hF
  go_enter Tryd.func8, Tryd.ntmps8
  go_wp2_with fail
  refine Calls.mono HL.out ?_
  rintro e w1 ⟨hq, hb1⟩
  rcases hq with ⟨h1, _⟩ | ⟨_, g, rfl, hHX⟩
  · rw [hf] at h1
    cases h1
  have a2 := (Below.refl _ w1).alloc (Nat.le_refl w1.heap.size) (.cells #[.slice (some ⟨g, 0, none⟩) X.length X.length, .int .u64 F] 54)
  have n2 := heap_alloc_new w1 (.cells #[.slice (some ⟨g, 0, none⟩) X.length X.length, .int .u64 F] 54)
  go_upto_region 2 with fail
  obtain ⟨w2, hw2⟩ : ∃ w2, w2 = w1.alloc (.cells #[.slice (some ⟨g, 0, none⟩) X.length X.length, .int .u64 F] 54) := ⟨_, rfl⟩
  rw [← hw2] at a2 n2 ⊢
  clear hw2
  have l2 := heap_lt n2
  have HX2 : Hid (HR w2 (some ⟨g, 0, none⟩) X) := hHX.below a2
  have HB2 : Hid (Below w.heap.size w w2) := hb1.trans (a2.mono hb1.size)
  have HE2 : Hid (TX w2 rn N ∧ EV w2 ∧ TB w2 ∧ Tab w2) := ⟨HE0.out.1.below HB2.out, HE0.out.2.1.below HB2.out (ev_lt HE0.out.2.1), HE0.out.2.2.1.below HB2.out, HE0.out.2.2.2.below HB2.out⟩
  have HN2 : Hid (w2.heap[w1.heap.size]? = some (.cells #[.slice (some ⟨g, 0, none⟩) X.length X.length, .int .u64 F] 54 (0, 0))) := n2
  obtain ⟨sb, hsb⟩ : ∃ sb, sb = w1.heap.size := ⟨_, rfl⟩
  rw [← hsb] at HN2 l2 ⊢
  have HAr : Hid _ := areNames_any N rn cn w2 hNl HE2.out.1 HE2.out.2.1
  rw [hnames] at HAr
  clear HL hb1 hHX a2 n2 HE0 hsb
  go_wp2_with fail
  refine Calls.mono HAr.out ?_
  rintro e w3 ⟨rfl, hb3⟩
  have HB3 : Hid (Below w.heap.size w w3) := HB2.out.trans (hb3.mono HB2.out.size)
  clear hb3 HX2 HB2 HE2 HN2 l2 HAr
  go_wp2
  go_ret2
  exact ⟨rfl, HB3.out⟩
set_option maxRecDepth 100000 in
set_option maxHeartbeats 8000000 in
theorem show_bad3 (h : List Cl) (N : List (List UInt8)) (x : Int) (ra rn : Option Addr) (ca cn : Nat) (w : World) (hl : h.length ≤ 1000000) (hH : HR w ra h) (hx : Rng x) (hT : Tab w) (hf : fitsB h x = true)
    (hNl : N.length ≤ 3000000) (hN : TX w rn N) (hE : EV w) (hTB : TB w) (hnames : areNamesB N = true) (hnm : (metW (fH (bareM h) [x]) (fromM h x)).any (nameless N.length) = true)
    (hS : SeenOk0 (fH (bareM h) [x]) (fromM h x)) :
    Calls Tryd.prog 8 #[.slice ra h.length ca, .slice rn N.length cn, .int .u64 x] w fun e w' => e = .returned (.tuple #[S [], .int .i64 110]) ∧ Below w.heap.size w w' := by
  have HL : Hid _ := look_sight h x ra ca w hl hH hx hT
  have HE0 : Hid (TX w rn N ∧ EV w ∧ TB w ∧ Tab w) := ⟨hN, hE, hTB, hT⟩
  obtain ⟨X, hX⟩ : ∃ X, X = fH (bareM h) [x] := ⟨_, rfl⟩
  obtain ⟨F, hF⟩ : ∃ F, F = fromM h x := ⟨_, rfl⟩
  unfold LookR' at HL
  rw [← hX, ← hF] at HL hnm hS
  have HS : Hid (SeenOk0 X F) := hS
  have hXl := hS.len
  clear hH hT hN hE hTB hS hX hF
  go_enter Tryd.func8, Tryd.ntmps8
  go_wp2_with fail
  refine Calls.mono HL.out ?_
  rintro e w1 ⟨hq, hb1⟩
  rcases hq with ⟨h1, _⟩ | ⟨_, g, rfl, hHX⟩
  · rw [hf] at h1
    cases h1
  have a2 := (Below.refl _ w1).alloc (Nat.le_refl w1.heap.size) (.cells #[.slice (some ⟨g, 0, none⟩) X.length X.length, .int .u64 F] 54)
  have n2 := heap_alloc_new w1 (.cells #[.slice (some ⟨g, 0, none⟩) X.length X.length, .int .u64 F] 54)
  go_upto_region 2 with fail
  obtain ⟨w2, hw2⟩ : ∃ w2, w2 = w1.alloc (.cells #[.slice (some ⟨g, 0, none⟩) X.length X.length, .int .u64 F] 54) := ⟨_, rfl⟩
  rw [← hw2] at a2 n2 ⊢
  clear hw2
  have l2 := heap_lt n2
  have HX2 : Hid (HR w2 (some ⟨g, 0, none⟩) X) := hHX.below a2
  have HB2 : Hid (Below w.heap.size w w2) := hb1.trans (a2.mono hb1.size)
  have HE2 : Hid (TX w2 rn N ∧ EV w2 ∧ TB w2 ∧ Tab w2) := ⟨HE0.out.1.below HB2.out, HE0.out.2.1.below HB2.out (ev_lt HE0.out.2.1), HE0.out.2.2.1.below HB2.out, HE0.out.2.2.2.below HB2.out⟩
  have HN2 : Hid (w2.heap[w1.heap.size]? = some (.cells #[.slice (some ⟨g, 0, none⟩) X.length X.length, .int .u64 F] 54 (0, 0))) := n2
  obtain ⟨sb, hsb⟩ : ∃ sb, sb = w1.heap.size := ⟨_, rfl⟩
  rw [← hsb] at HN2 l2 ⊢
  have HAr : Hid _ := areNames_any N rn cn w2 hNl HE2.out.1 HE2.out.2.1
  rw [hnames] at HAr
  clear HL hb1 hHX a2 n2 HE0 hsb
  go_wp2_with fail
  refine Calls.mono HAr.out ?_
  rintro e w3 ⟨rfl, hb3⟩
  have HX3 : Hid (HR w3 (some ⟨g, 0, none⟩) X) := HX2.out.below hb3
  have HB3 : Hid (Below w.heap.size w w3) := HB2.out.trans (hb3.mono HB2.out.size)
  have HE3 : Hid (TX w3 rn N ∧ TB w3 ∧ Tab w3) := ⟨HE2.out.1.below hb3, HE2.out.2.2.1.below hb3, HE2.out.2.2.2.below hb3⟩
  have HN3 : Hid (w3.heap[sb]? = some (.cells #[.slice (some ⟨g, 0, none⟩) X.length X.length, .int .u64 F] 54 (0, 0))) := (hb3.block sb l2).trans HN2.out
  have c0 := heap_cell (j := 0) HN3.out rfl
  have c1 := heap_cell (j := 1) HN3.out rfl
  have l3 := heap_lt HN3.out
  have HNm : Hid _ := isNamed_any X F (some ⟨g, 0, none⟩) X.length N.length rn cn w3 hXl HX3.out HS.out.kd HS.out.rng HE3.out.2.2
  rw [hnm] at HNm
  clear hb3 HX2 HB2 HE2 HN2 l2 HAr
  go_wp2_with fail
  refine Calls.mono HNm.out ?_
  rintro e w4 ⟨rfl, hb4⟩
  have HB4 : Hid (Below w.heap.size w w4) := HB3.out.trans (hb4.mono HB3.out.size)
  clear c0 c1 l3 hb4 HX3 HB3 HE3 HN3 HNm
  go_wp2
  go_ret2
  exact ⟨rfl, HB4.out⟩
/-- Does Show tell? -/
def okS (h : List Cl) (N : List (List UInt8)) (x : Int) : Bool := fitsB h x && (areNamesB N && !((metW (fH (bareM h) [x]) (fromM h x)).any (nameless N.length)))
def showT (h : List Cl) (N : List (List UInt8)) (x : Int) : List UInt8 := textM (fH (bareM h) [x]) N (fromM h x)
def ShowR (h : List Cl) (N : List (List UInt8)) (x : Int) (e : Ending) : Prop := (okS h N x = false ∧ e = .returned (.tuple #[S [], .int .i64 110])) ∨ (okS h N x = true ∧ e = .returned (.tuple #[S (showT h N x), .int .i64 0]))
theorem show_any (h : List Cl) (N : List (List UInt8)) (x : Int) (ra rn : Option Addr) (ca cn : Nat) (w : World) (hl : h.length ≤ 1000000) (hH : HR w ra h) (hx : Rng x) (hT : Tab w) (hNl : N.length ≤ 3000000) (hN : TX w rn N) (hE : EV w) (hTB : TB w) :
    Calls Tryd.prog 8 #[.slice ra h.length ca, .slice rn N.length cn, .int .u64 x] w fun e w' => ShowR h N x e ∧ Below w.heap.size w w' := by
  cases hf : fitsB h x with
  | false => exact (show_bad h N x ra rn ca cn w hl hH hx hT hf).mono fun e w' hh => ⟨.inl ⟨by unfold okS; rw [hf]; rfl, hh.1⟩, hh.2⟩
  | true =>
    have hs := seen_of hf hl (hr_ok hH) hx
    cases hn : areNamesB N with
    | false => exact (show_bad2 h N x ra rn ca cn w hl hH hx hT hf hNl hN hE hTB hn ⟨hs.len, hs.kd, hs.rngF⟩).mono fun e w' hh => ⟨.inl ⟨by unfold okS; rw [hf, hn]; rfl, hh.1⟩, hh.2⟩
    | true =>
      cases hm : (metW (fH (bareM h) [x]) (fromM h x)).any (nameless N.length) with
      | true => exact (show_bad3 h N x ra rn ca cn w hl hH hx hT hf hNl hN hE hTB hn hm ⟨hs.len, hs.kd, hs.rngF⟩).mono fun e w' hh => ⟨.inl ⟨by unfold okS; rw [hf, hn, hm]; rfl, hh.1⟩, hh.2⟩
      | false =>
        obtain ⟨r, V, e1, _, _, h0, h1, h2⟩ := hs.tells hn hm
        have hlX := hs.len
        have hmt := met_len (fH (bareM h) [x]) (fromM h x)
        refine (show_tells h N x ra rn ca cn w hl hH hx hT hf hNl hN hE hTB hn hm (hs.ok hm) _ r e1 h0 (by omega) (by omega) (by omega)).mono fun e w' hh => ⟨.inr ⟨by unfold okS; rw [hf, hn, hm]; rfl, ?_⟩, hh.2⟩
        have e2 : showT h N x = r.1 := by unfold showT textM; rw [e1]
        rw [e2]; exact hh.1
end Go.Proofs.YtejmoopgfnjaaaaDoor

/- How the texts of words begin: each kind of word has its own beginning. Plain mathematics. -/
namespace Go.Proofs.YtejmoopgfnjaaaaDoor
open Go.RowKit Go.Maps Go.ChangeMaps

def Dl (t : List UInt8) : Prop := t = [] ∨ ∃ r, t = 32 :: r ∨ t = 41 :: r
def Nw (t : List UInt8) : Prop := ∀ b r, t = b :: r → isW b = false
theorem Dl.nw {t : List UInt8} (h : Dl t) : Nw t := fun b r e => by
  rcases h with h | ⟨s, h | h⟩
  · rw [h] at e; cases e
  · rw [h] at e; cases e; decide
  · rw [h] at e; cases e; decide
theorem nw40 (r : List UInt8) : Nw (40 :: r) := fun b s e => by cases e; decide
theorem tok_app : ∀ (T t : List UInt8), T.all isW = true → Nw t → (T ++ t).takeWhile isW = T ∧ (T ++ t).dropWhile isW = t
  | [], [], _, _ => ⟨rfl, rfl⟩
  | [], b :: r, _, ht => by
    have hb := ht b r rfl
    simp [hb]
  | b :: T, t, hT, ht => by
    rw [List.all_cons, Bool.and_eq_true] at hT
    have ih := tok_app T t hT.2 ht
    simp only [List.cons_append, List.takeWhile, List.dropWhile, hT.1]
    exact ⟨by rw [ih.1], ih.2⟩
def dg (l : List UInt8) : Bool := match l with | [] => false | d :: _ => isD d
/-- Which kind of word a text begins: without its label, and with it. -/
def cls0 (T : List UInt8) : Nat := if T = [] then 0 else if T.take 2 = [35, 98] then 1 else if T.take 4 = [35, 112, 114, 111] then 2 else 9
def cls (T : List UInt8) : Nat := if (hash T && dg (T.drop 1)) = true then (if ((T.drop 1).dropWhile isD).take 1 = [61] then 10 + cls0 (((T.drop 1).dropWhile isD).drop 1) else 3) else cls0 T
/-- A text, cut behind its first sign that is of no word. -/
structure VW (s T u : List UInt8) (n : Nat) : Prop where
  e : s = T ++ u
  all : T.all isW = true
  nw : Nw u
  cl : cls T = n
theorem VW.inj {s T u T' u' : List UInt8} {n n' : Nat} (h : VW s T u n) (h' : VW s T' u' n') : T = T' ∧ u = u' ∧ n = n' := by
  have h1 := tok_app T u h.all h.nw
  have h2 := tok_app T' u' h'.all h'.nw
  rw [← h.e] at h1
  rw [← h'.e] at h2
  have e : T = T' := h1.1.symm.trans h2.1
  exact ⟨e, h1.2.symm.trans h2.2, by rw [← h.cl, ← h'.cl, e]⟩
theorem dropD : ∀ (T t : List UInt8), T.all isD = true → dg t = false → (T ++ t).dropWhile isD = t
  | [], [], _, _ => rfl
  | [], b :: r, _, ht => by
    have hb : isD b = false := ht
    simp [hb]
  | b :: T, t, hT, ht => by
    rw [List.all_cons, Bool.and_eq_true] at hT
    simp only [List.cons_append, List.dropWhile, hT.1]
    exact dropD T t hT.2 ht
theorem itoa_dig (k : Nat) : (Lib.itoa (k : Int)).all isD = true ∧ ∃ d r, Lib.itoa (k : Int) = d :: r ∧ isD d = true := by
  have e : Lib.itoa (k : Int) = Lib.decDigits k := by unfold Lib.itoa; rw [if_neg (by omega)]; simp
  rw [e]
  obtain ⟨h1, h2, _⟩ := dec_spec k
  refine ⟨h1, ?_⟩
  cases hq : Lib.decDigits k with
  | nil => exact absurd hq h2
  | cons d r =>
    rw [hq, List.all_cons, Bool.and_eq_true] at h1
    exact ⟨d, r, rfl, h1.1⟩
theorem cls_lab (k : Nat) (s : List UInt8) : cls (betw [35] k [61] ++ s) = 10 + cls0 s := by
  obtain ⟨h1, d, r, h2, h3⟩ := itoa_dig k
  unfold betw cls
  have e : ([35] ++ (Lib.itoa (k : Int) ++ [61]) ++ s).drop 1 = Lib.itoa (k : Int) ++ (61 :: s) := by simp
  have hd : (Lib.itoa (k : Int) ++ (61 :: s)).dropWhile isD = 61 :: s := dropD _ _ h1 (show isD 61 = false by decide)
  rw [e, hd]
  have hh : hash ([35] ++ (Lib.itoa (k : Int) ++ [61]) ++ s) = true := rfl
  have hg : dg (Lib.itoa (k : Int) ++ (61 :: s)) = true := by rw [h2]; exact h3
  rw [hh, hg]
  rfl
theorem cls_back (k : Nat) : cls (betw [35] k [35]) = 3 := by
  obtain ⟨h1, d, r, h2, h3⟩ := itoa_dig k
  unfold betw cls
  have e : ([35] ++ (Lib.itoa (k : Int) ++ [35])).drop 1 = Lib.itoa (k : Int) ++ [35] := by simp
  have hd : (Lib.itoa (k : Int) ++ [35]).dropWhile isD = [35] := dropD _ _ h1 (by decide)
  rw [e, hd]
  have hh : hash ([35] ++ (Lib.itoa (k : Int) ++ [35])) = true := rfl
  have hg : dg (Lib.itoa (k : Int) ++ [35]) = true := by rw [h2]; exact h3
  rw [hh, hg]
  rfl
theorem cls_far {b : UInt8} {r : List UInt8} (h : ¬ b = 35) : cls (b :: r) = 9 := by
  have hh : hash (b :: r) = false := by
    unfold hash
    simp only [beq_eq_false_iff_ne]
    intro e; exact h (UInt8.toNat_inj.1 e)
  unfold cls cls0
  rw [hh]
  simp [h]
theorem betw_w (p q : List UInt8) (n : Int) (hp : p.all isW = true) (hq : q.all isW = true) : (betw p n q).all isW = true := by
  unfold betw
  rw [List.all_append, List.all_append, hp, hq, (itoa_spec n).1]; rfl
/-- The tag of what is no reference, out of its text. -/
def code7 (T : List UInt8) : Int := if T = [40, 41] then 1 else if T = [35, 102] then 2 else if T = [35, 116] then 3 else if T = [35, 110, 111, 110, 101] then 4 else if T.take 5 = [35, 112, 114, 105, 109] then 7 else if isNum T = true then 5 else 6
theorem far_ne {b : UInt8} {r : List UInt8} (h : ¬ b = 35) (h40 : ¬ b = 40) : code7 (b :: r) = if isNum (b :: r) = true then 5 else 6 := by
  unfold code7
  simp [h, h40]
theorem itoa_head (n : Int) : ∃ b r, Lib.itoa n = b :: r ∧ ¬ b = 35 ∧ ¬ b = 40 ∧ isW b = true ∧ ¬ b = 46 := by
  obtain ⟨h1, h2, _, _, _, h6, h7⟩ := itoa_spec n
  cases hq : Lib.itoa n with
  | nil => exact absurd hq h2
  | cons b r =>
    rw [hq, List.all_cons, Bool.and_eq_true] at h1
    refine ⟨b, r, rfl, fun e => h6 r (by rw [hq, e]), fun e => ?_, h1.1, fun e => h7 r (by rw [hq, e])⟩
    rw [e] at h1; exact absurd h1.1 (by decide)
theorem sym_head {s : List UInt8} (h : symB s = true) : ∃ b r, s = b :: r ∧ ¬ b = 35 ∧ ¬ b = 40 ∧ isW b = true := by
  obtain ⟨h1, h2, _, h4, _⟩ := sym_len h
  cases s with
  | nil => exact absurd rfl h1
  | cons b r =>
    rw [List.all_cons, Bool.and_eq_true] at h2
    refine ⟨b, r, rfl, fun e => ?_, fun e => ?_, h2.1⟩
    · rw [e] at h4; exact absurd (show hash (35 :: r) = true from rfl) (by rw [h4]; decide)
    · rw [e] at h2; exact absurd h2.1 (by decide)
theorem name_at {X : List Cl} {N : List (List UInt8)} {x : Int} (hg : Gd X N x) (h6 : ofT x = 6) : ∃ s, N[(ofN x).toNat]? = some s ∧ plainT N x = s ∧ 0 ≤ ofN x := by
  have h0 := ofN_sym h6
  have hn := hg.name
  unfold nameless at hn
  have hlt : (ofN x).toNat < N.length := by
    rw [h6] at hn
    simp at hn
    omega
  refine ⟨N[(ofN x).toNat], List.getElem?_eq_getElem hlt, ?_, h0⟩
  unfold plainT
  rw [if_neg (by omega), if_neg (by omega), if_neg (by omega), if_neg (by omega), if_neg (by omega), if_pos h6, List.getD_eq_getElem?_getD, List.getElem?_eq_getElem hlt]; rfl
/-- What is no reference: its text. -/
theorem plain_view {X : List Cl} {N : List (List UInt8)} (hN : ∀ s ∈ N, symB s = true) {x : Int} (hg : Gd X N x) (hr : refN x = none) : code7 (plainT N x) = ofT x ∧ (¬ ofT x = 1 → (plainT N x).all isW = true ∧ cls (plainT N x) = 9 ∧ plainT N x ≠ [46]) := by
  have h8 : ¬ ofT x = 8 := fun e => by unfold refN at hr; rw [if_pos e] at hr; cases hr
  have ht := hg.tag
  rcases (show ofT x = 1 ∨ ofT x = 2 ∨ ofT x = 3 ∨ ofT x = 4 ∨ ofT x = 5 ∨ ofT x = 6 ∨ ofT x = 7 by omega) with h | h | h | h | h | h | h
  · have e : plainT N x = [40, 41] := by unfold plainT; rw [if_pos h]
    rw [e, h]; exact ⟨by decide, fun hn => absurd rfl hn⟩
  · have e : plainT N x = [35, 102] := by unfold plainT; rw [if_neg (by omega), if_pos h]
    rw [e, h]; exact ⟨by decide, fun _ => ⟨by decide, by decide, by decide⟩⟩
  · have e : plainT N x = [35, 116] := by unfold plainT; rw [if_neg (by omega), if_neg (by omega), if_pos h]
    rw [e, h]; exact ⟨by decide, fun _ => ⟨by decide, by decide, by decide⟩⟩
  · have e : plainT N x = [35, 110, 111, 110, 101] := by unfold plainT; rw [if_neg (by omega), if_neg (by omega), if_neg (by omega), if_pos h]
    rw [e, h]; exact ⟨by decide, fun _ => ⟨by decide, by decide, by decide⟩⟩
  · have e : plainT N x = Lib.itoa (ofN x) := by unfold plainT betw; rw [if_neg (by omega), if_neg (by omega), if_neg (by omega), if_neg (by omega), if_pos h]; simp
    rw [e, h]
    obtain ⟨h1, _, h3, _⟩ := itoa_spec (ofN x)
    obtain ⟨b, r, q, q1, q2, q3, q4⟩ := itoa_head (ofN x)
    rw [q] at h1 h3 ⊢
    exact ⟨by rw [far_ne q1 q2, if_pos h3], fun _ => ⟨h1, cls_far q1, fun hh => q4 (List.cons.inj hh).1⟩⟩
  · obtain ⟨s, hs, e, _⟩ := name_at hg h
    have hsy := hN s (List.mem_of_getElem? hs)
    obtain ⟨_, h2, _, _, _, h46, hnn⟩ := sym_len hsy
    obtain ⟨b, r, q, q1, q2, q3⟩ := sym_head hsy
    rw [e, h]
    rw [q] at h2 h46 hnn ⊢
    exact ⟨by rw [far_ne q1 q2, if_neg (by rw [hnn]; decide)], fun _ => ⟨h2, cls_far q1, h46⟩⟩
  · have e : plainT N x = betw [35, 112, 114, 105, 109] (ofN x) [] := by unfold plainT; rw [if_neg (by omega), if_neg (by omega), if_neg (by omega), if_neg (by omega), if_neg (by omega), if_neg (by omega), if_pos h]
    rw [e, h]
    refine ⟨?_, fun _ => ⟨betw_w _ _ _ (by decide) rfl, ?_, ?_⟩⟩
    · unfold code7 betw; simp
    · unfold cls cls0 betw; simp [hash, dg, isD, isDI]
    · unfold betw; simp
theorem wd_of {x : Int} (h : 1 ≤ ofT x) : wd x = true := by
  cases hw : wd x
  · unfold ofT at h; rw [hw] at h; simp at h
  · rfl
theorem word_eq {x y : Int} (hx : Rng x) (hy : Rng y) (h1 : 1 ≤ ofT x) (ht : ofT x = ofT y) (hn : ofN x = ofN y) : x = y := by
  have w1 := wd_of h1
  have w2 := wd_of (show 1 ≤ ofT y by omega)
  unfold ofT ofN at *
  rw [if_pos w1, if_pos w2] at *
  rw [← mk_of hx, ← mk_of hy, ht, hn]
theorem no_number {x : Int} (h1 : 1 ≤ ofT x) (h4 : ofT x ≤ 4) : ofN x = 0 := by
  have w1 := wd_of h1
  have hm := may_iff.1 (wd_iff.1 w1).2
  unfold ofT at h1 h4
  unfold ofN
  rw [if_pos w1] at *
  unfold lo hi at hm
  rw [if_neg (by omega), if_neg (by omega), if_neg (by omega), if_neg (by omega), if_neg (by omega), if_neg (by omega)] at hm
  omega
theorem plain_inj {X X' : List Cl} {N : List (List UInt8)} (hN : areNamesB N = true) {x x' : Int} (hg : Gd X N x) (hg' : Gd X' N x') (hr : refN x = none) (hr' : refN x' = none) (he : plainT N x = plainT N x') : x = x' := by
  have hs := names_len hN
  have hc := (plain_view hs hg hr).1
  have hc' := (plain_view hs hg' hr').1
  have ht : ofT x = ofT x' := by rw [← hc, ← hc', he]
  have h8 : ¬ ofT x = 8 := fun e => by unfold refN at hr; rw [if_pos e] at hr; cases hr
  have hb := hg.tag
  refine word_eq hg.rng hg'.rng hb.1 ht ?_
  by_cases h4 : ofT x ≤ 4
  · rw [no_number hb.1 h4, no_number (by omega) (by omega)]
  · rcases (show ofT x = 5 ∨ ofT x = 6 ∨ ofT x = 7 by omega) with h | h | h
    · have e : ∀ z, ofT z = 5 → plainT N z = Lib.itoa (ofN z) := fun z h => by unfold plainT betw; rw [if_neg (by omega), if_neg (by omega), if_neg (by omega), if_neg (by omega), if_pos h]; simp
      rw [e x h, e x' (by omega)] at he
      exact itoa_inj he
    · obtain ⟨s, h1, h2, h3⟩ := name_at hg h
      obtain ⟨s', h1', h2', h3'⟩ := name_at hg' (by omega)
      have e : s = s' := by rw [← h2, ← h2', he]
      subst e
      have := (List.getElem?_inj (List.getElem?_eq_some_iff.1 h1).1 (names_nd hN)).1 (h1.trans h1'.symm)
      omega
    · have e : ∀ z, ofT z = 7 → plainT N z = betw [35, 112, 114, 105, 109] (ofN z) [] := fun z h => by unfold plainT; rw [if_neg (by omega), if_neg (by omega), if_neg (by omega), if_neg (by omega), if_neg (by omega), if_neg (by omega), if_pos h]
      rw [e x h, e x' (by omega)] at he
      unfold betw at he
      simp only [List.append_nil] at he
      exact itoa_inj (List.append_cancel_left he)
end Go.Proofs.YtejmoopgfnjaaaaDoor
