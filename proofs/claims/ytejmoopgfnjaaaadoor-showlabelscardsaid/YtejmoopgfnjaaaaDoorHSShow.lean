/- Show, where what is told is known. -/
import Derived.Test.YtejmoopgfnjaaaaDoorK22
import Derived.Test.YtejmoopgfnjaaaaDoorK09
import Derived.Test.YtejmoopgfnjaaaaDoorK10
import Derived.Test.YtejmoopgfnjaaaaDoorK11
import Derived.Deep.RegionHeld3
namespace Go.Proofs.YtejmoopgfnjaaaaDoor
open Go.RowKit Go.Maps Go.ChangeMaps

set_option maxRecDepth 100000 in
set_option maxHeartbeats 8000000 in
theorem show_bad (h : List Cl) (N : List (List UInt8)) (x : Int) (ra rn : Option Addr) (ca cn : Nat) (w : World) (hl : h.length ≤ 1000000) (hH : HR w ra h) (hx : Rng x) (hT : Tab w) (hf : fitsB h x = false) :
    Calls Tryd.prog 8 #[.slice ra h.length ca, .slice rn N.length cn, .int .u64 x] w fun e w' => e = .returned (.tuple #[S [], .int .i64 110]) ∧ Below w.heap.size w w' := by
  have HL : Hid _ := look_sight h x ra ca w hl hH hx hT
  clear hH hT
  go_enter Tryd.func8, Tryd.ntmps8
  go_wp2_with fail
  refine Calls.mono HL.out ?_
  rintro e w1 ⟨hr, hb1⟩
  rcases hr with ⟨_, rfl⟩ | ⟨h1, _⟩
  · have HB2 : Hid (Below w.heap.size w (w1.alloc (.cells #[.slice none 0 0, .int .u64 0] 54))) := hb1.alloc hb1.size _
    clear HL hb1 hf
    go_wp2
    go_ret2
    exact ⟨rfl, HB2.out⟩
  · rw [hf] at h1
    cases h1
theorem ev_lt {w : World} (h : EV w) : 5 < w.heap.size := by
  obtain ⟨te, pe, hc⟩ := h
  rcases Nat.lt_or_ge 5 w.heap.size with h' | h'
  · exact h'
  · simp [World.cell?, Array.getElem?_eq_none h'] at hc
theorem keepC {w4 W W' : World} {sb : Nat} {u v : Value} (hb : Below W.heap.size W W') (h : (W.cell? ⟨sb, 0, none⟩ = some u ∧ W.cell? ⟨sb, 1, none⟩ = some v) ∧ sb < W.heap.size ∧ Below w4.heap.size w4 W) : (W'.cell? ⟨sb, 0, none⟩ = some u ∧ W'.cell? ⟨sb, 1, none⟩ = some v) ∧ sb < W'.heap.size ∧ Below w4.heap.size w4 W' :=
  ⟨⟨(hb.cell (p := ⟨sb, 0, none⟩) h.2.1).trans h.1.1, (hb.cell (p := ⟨sb, 1, none⟩) h.2.1).trans h.1.2⟩, Nat.lt_of_lt_of_le h.2.1 hb.size, h.2.2.trans (hb.mono h.2.2.size)⟩
/-- What is asked of what is seen. -/
structure SeenOk (X : List Cl) (N : List (List UInt8)) (F : Int) : Prop where
  len : X.length ≤ 1000000
  kd : ∀ y ∈ X, Kd y
  gd : Gd X N F
  pair : ∀ (c : Nat) (y : Cl), X[c]? = some y → y.k = 1 → Gd X N y.a ∧ Gd X N y.b
  box : ∀ (c : Nat) (y : Cl), X[c]? = some y → y.k = 2 → Gd X N y.a
  proc : ∀ (c : Nat) (y : Cl), X[c]? = some y → y.k = 3 → Gd X N y.b ∧ Rng y.a
/-- A teller that begins. -/
def Begun (X : List Cl) (N : List (List UInt8)) (F : Int) (rx rn : Option Addr) (cx cn B : Nat) (w : World) (b : Nat) (W : World) : Prop := ∃ mb n, B ≤ mb ∧ n ≤ (metW X F).length ∧ Tl B b (.slice rx X.length cx) (.int .u64 F) (.slice rn N.length cn) (.map (some mb)) (.int .i64 0) [] W ∧ LM W mb n (cntL (metW X F)) ∧ Below B w W
abbrev tlC (rx rn : Option Addr) (xl cx nl cn mb : Nat) (F : Int) : Array Value := #[.slice rx xl cx, .int .u64 F, .slice rn nl cn, .map (some mb), .int .i64 0, .pointer none, .slice none 0 0]
theorem begun_of {X : List Cl} {N : List (List UInt8)} {F : Int} {rx rn : Option Addr} {cx cn n mb b : Nat} {w4 W : World} (hmb : w4.heap.size ≤ mb) (hn : n ≤ (metW X F).length) (hb : w4.heap.size ≤ b) (hW : W.heap[b]? = some (.cells (tlC rx rn X.length cx N.length cn mb F) 65 (0, 0))) (hL : LM W mb n (cntL (metW X F))) (hB : Below w4.heap.size w4 W) : Begun X N F rx rn cx cn w4.heap.size w4 b W :=
  ⟨mb, n, hmb, hn, .inl ⟨hb, .slice none 0 0, hW, World.ownsRowF_nil _ _ _ _, by simp [Value.ownBlock]⟩, hL, hB⟩
theorem begun_last {X : List Cl} {N : List (List UInt8)} {F : Int} {rx rn : Option Addr} {cx cn n mb : Nat} {w4 w5 : World} (hmb : w4.drew.heap.size ≤ mb) (hn : n ≤ (metW X F).length) (hL : LM w5 mb n (cntL (metW X F))) (hb5 : Below w4.drew.heap.size w4.drew w5) : Begun X N F rx rn cx cn w4.heap.size w4 w5.heap.size (w5.alloc (.cells (tlC rx rn X.length cx N.length cn mb F) 65)) := by
  have h5 : Below w4.heap.size w4 w5 := (Below.refl _ w4).drew.trans hb5
  exact begun_of hmb hn h5.size (heap_alloc_new _ _) (hL.kept (Below.heap_alloc _ _ _ hL.lt)) (h5.alloc h5.size _)
theorem s_at {W : World} {b j t : Nat} {cs cs' : Array Value} {v : Value} (h : W.heap[b]? = some (.cells cs t (0, 0))) (e : cs.setIfInBounds j v = cs') : (W.setCell ⟨b, j, none⟩ v).heap[b]? = some (.cells cs' t (0, 0)) := by
  rw [set_atC h, e]
theorem set7 {w : World} {b : Nat} {a0 a1 a2 a3 a4 a5 a6 : Value} {z0 z1 z2 z3 z4 z5 z6 : Value} {t : Nat} (h : w.heap[b]? = some (.cells #[z0, z1, z2, z3, z4, z5, z6] t (0, 0))) : (((((((w.setCell ⟨b, 0, none⟩ a0).setCell ⟨b, 1, none⟩ a1).setCell ⟨b, 2, none⟩ a2).setCell ⟨b, 3, none⟩ a3).setCell ⟨b, 4, none⟩ a4).setCell ⟨b, 5, none⟩ a5).setCell ⟨b, 6, none⟩ a6).heap[b]? = some (.cells #[a0, a1, a2, a3, a4, a5, a6] t (0, 0)) := by
  have g0 := s_at (j := 0) (v := a0) (cs' := #[a0, z1, z2, z3, z4, z5, z6]) h rfl
  have g1 := s_at (j := 1) (v := a1) (cs' := #[a0, a1, z2, z3, z4, z5, z6]) g0 rfl
  have g2 := s_at (j := 2) (v := a2) (cs' := #[a0, a1, a2, z3, z4, z5, z6]) g1 rfl
  have g3 := s_at (j := 3) (v := a3) (cs' := #[a0, a1, a2, a3, z4, z5, z6]) g2 rfl
  have g4 := s_at (j := 4) (v := a4) (cs' := #[a0, a1, a2, a3, a4, z5, z6]) g3 rfl
  have g5 := s_at (j := 5) (v := a5) (cs' := #[a0, a1, a2, a3, a4, a5, z6]) g4 rfl
  have g6 := s_at (j := 6) (v := a6) (cs' := #[a0, a1, a2, a3, a4, a5, a6]) g5 rfl
  exact g6
theorem begun_first {X : List Cl} {N : List (List UInt8)} {F : Int} {rx rn : Option Addr} {cx cn n mb : Nat} {w4 w5 : World} {o : Obj} {z0 z1 z2 z3 z4 z5 z6 : Value} (hmb : (w4.alloc o).drew.heap.size ≤ mb) (hn : n ≤ (metW X F).length) (hL : LM w5 mb n (cntL (metW X F))) (hb5 : Below (w4.alloc o).drew.heap.size (w4.alloc o).drew w5) (hz : w5.heap[w4.heap.size]? = some (.cells #[z0, z1, z2, z3, z4, z5, z6] 65 (0, 0))) : Begun X N F rx rn cx cn w4.heap.size w4 w4.heap.size (((((((w5.setCell ⟨w4.heap.size, 0, none⟩ (.slice rx X.length cx)).setCell ⟨w4.heap.size, 1, none⟩ (.int .u64 F)).setCell ⟨w4.heap.size, 2, none⟩ (.slice rn N.length cn)).setCell ⟨w4.heap.size, 3, none⟩ (.map (some mb))).setCell ⟨w4.heap.size, 4, none⟩ (.int .i64 0)).setCell ⟨w4.heap.size, 5, none⟩ (.pointer none)).setCell ⟨w4.heap.size, 6, none⟩ (.slice none 0 0)) := by
  have hsz : (w4.alloc o).drew.heap.size = w4.heap.size + 1 := World.size_alloc ..
  have h5 : Below w4.heap.size w4 w5 := (((Below.refl _ w4).alloc (Nat.le_refl _) o).drew).trans (hb5.mono (by omega))
  have hne : mb ≠ w4.heap.size := by omega
  have k : ∀ (W : World) (j : Nat) (v : Value), (W.setCell ⟨w4.heap.size, j, none⟩ v).heap[mb]? = W.heap[mb]? := fun W j v => Below.heap_setCell _ _ _ _ hne
  refine begun_of (by omega) hn (Nat.le_refl _) (set7 hz) (hL.kept ?_) ?_
  · rw [k, k, k, k, k, k, k]
  · exact (((((((h5.setCell (p := ⟨w4.heap.size, 0, none⟩) (Nat.le_refl _) _).setCell (p := ⟨w4.heap.size, 1, none⟩) (Nat.le_refl _) _).setCell (p := ⟨w4.heap.size, 2, none⟩) (Nat.le_refl _) _).setCell (p := ⟨w4.heap.size, 3, none⟩) (Nat.le_refl _) _).setCell (p := ⟨w4.heap.size, 4, none⟩) (Nat.le_refl _) _).setCell (p := ⟨w4.heap.size, 5, none⟩) (Nat.le_refl _) _).setCell (p := ⟨w4.heap.size, 6, none⟩) (Nat.le_refl _) _)
set_option maxRecDepth 100000 in
set_option maxHeartbeats 16000000 in
theorem show_tells (h : List Cl) (N : List (List UInt8)) (x : Int) (ra rn : Option Addr) (ca cn : Nat) (w : World) (hl : h.length ≤ 1000000) (hH : HR w ra h) (hx : Rng x) (hT : Tab w) (hf : fitsB h x = true)
    (hNl : N.length ≤ 3000000) (hN : TX w rn N) (hE : EV w) (hTB : TB w) (hnames : areNamesB N = true) (hnm : (metW (fH (bareM h) [x]) (fromM h x)).any (nameless N.length) = false)
    (hS : SeenOk (fH (bareM h) [x]) N (fromM h x)) (fu : Nat) (r : Res) (hr : tell (fH (bareM h) [x]) N fu true (cntL (metW (fH (bareM h) [x]) (fromM h x))) 0 (fromM h x) = some r) (hr0 : r.1 ≠ []) (hrl : r.1.length ≤ 1000000000) (hrk : r.2.2 ≤ 3000000) (hmet : (metW (fH (bareM h) [x]) (fromM h x)).length ≤ 3000000) :
    Calls Tryd.prog 8 #[.slice ra h.length ca, .slice rn N.length cn, .int .u64 x] w fun e w' => e = .returned (.tuple #[S r.1, .int .i64 0]) ∧ Below w.heap.size w w' := by
  have HL : Hid _ := look_sight h x ra ca w hl hH hx hT
  have HE0 : Hid (TX w rn N ∧ EV w ∧ TB w ∧ Tab w) := ⟨hN, hE, hTB, hT⟩
  obtain ⟨X, hX⟩ : ∃ X, X = fH (bareM h) [x] := ⟨_, rfl⟩
  obtain ⟨F, hF⟩ : ∃ F, F = fromM h x := ⟨_, rfl⟩
  unfold LookR' at HL
  rw [← hX, ← hF] at HL hnm hS hr hmet
  have HS : Hid (SeenOk X N F) := hS
  have HR0 : Hid (tell X N fu true (cntL (metW X F)) 0 F = some r) := hr
  have hXl := hS.len
  clear hH hT hN hE hTB hS hr hX hF
  go_enter Tryd.func8, Tryd.ntmps8
  go_wp2_with fail
  refine Calls.mono HL.out ?_
  rintro e w1 ⟨hq, hb1⟩
  rcases hq with ⟨h1, _⟩ | ⟨_, g, rfl, hHX⟩
  · rw [hf] at h1
    cases h1
  have a2 := (Below.refl _ w1).alloc (Nat.le_refl w1.heap.size) (.cells #[.slice (some ⟨g, 0, none⟩) X.length X.length, .int .u64 F] 54)
  have n2 := heap_alloc_new w1 (.cells #[.slice (some ⟨g, 0, none⟩) X.length X.length, .int .u64 F] 54)
  go_upto_region 2 with fail
  obtain ⟨w2, hw2⟩ : ∃ w2, w2 = w1.alloc (.cells #[.slice (some ⟨g, 0, none⟩) X.length X.length, .int .u64 F] 54) := ⟨_, rfl⟩
  rw [← hw2] at a2 n2 ⊢
  clear hw2
  have l2 := heap_lt n2
  have HX2 : Hid (HR w2 (some ⟨g, 0, none⟩) X) := hHX.below a2
  have HB2 : Hid (Below w.heap.size w w2) := hb1.trans (a2.mono hb1.size)
  have HE2 : Hid (TX w2 rn N ∧ EV w2 ∧ TB w2 ∧ Tab w2) := ⟨HE0.out.1.below HB2.out, HE0.out.2.1.below HB2.out (ev_lt HE0.out.2.1), HE0.out.2.2.1.below HB2.out, HE0.out.2.2.2.below HB2.out⟩
  have HN2 : Hid (w2.heap[w1.heap.size]? = some (.cells #[.slice (some ⟨g, 0, none⟩) X.length X.length, .int .u64 F] 54 (0, 0))) := n2
  obtain ⟨sb, hsb⟩ : ∃ sb, sb = w1.heap.size := ⟨_, rfl⟩
  rw [← hsb] at HN2 l2 ⊢
  have HAr : Hid _ := areNames_any N rn cn w2 hNl HE2.out.1 HE2.out.2.1
  rw [hnames] at HAr
  clear HL hb1 hHX a2 n2 HE0 hsb
  go_wp2_with fail
  refine Calls.mono HAr.out ?_
  rintro e w3 ⟨rfl, hb3⟩
  have HX3 : Hid (HR w3 (some ⟨g, 0, none⟩) X) := HX2.out.below hb3
  have HB3 : Hid (Below w.heap.size w w3) := HB2.out.trans (hb3.mono HB2.out.size)
  have HE3 : Hid (TX w3 rn N ∧ TB w3 ∧ Tab w3) := ⟨HE2.out.1.below hb3, HE2.out.2.2.1.below hb3, HE2.out.2.2.2.below hb3⟩
  have HN3 : Hid (w3.heap[sb]? = some (.cells #[.slice (some ⟨g, 0, none⟩) X.length X.length, .int .u64 F] 54 (0, 0))) := (hb3.block sb l2).trans HN2.out
  have c0 := heap_cell (j := 0) HN3.out rfl
  have c1 := heap_cell (j := 1) HN3.out rfl
  have l3 := heap_lt HN3.out
  have HNm : Hid _ := isNamed_any X F (some ⟨g, 0, none⟩) X.length N.length rn cn w3 hXl HX3.out HS.out.kd HS.out.gd.rng HE3.out.2.2
  rw [hnm] at HNm
  clear hb3 HX2 HB2 HE2 HN2 l2 HAr
  go_wp2_with fail
  refine Calls.mono HNm.out ?_
  rintro e w4 ⟨rfl, hb4⟩
  have HX4 : Hid (HR w4 (some ⟨g, 0, none⟩) X) := HX3.out.below hb4
  have HB4 : Hid (Below w.heap.size w w4) := HB3.out.trans (hb4.mono HB3.out.size)
  have HE4 : Hid (TX w4 rn N ∧ TB w4 ∧ Tab w4) := ⟨HE3.out.1.below hb4, HE3.out.2.1.below hb4, HE3.out.2.2.below hb4⟩
  have HN4 : Hid (w4.heap[sb]? = some (.cells #[.slice (some ⟨g, 0, none⟩) X.length X.length, .int .u64 F] 54 (0, 0))) := (hb4.block sb l3).trans HN3.out
  clear c0 c1 l3 hb4 HX3 HB3 HE3 HN3 HNm
  have e0 := heap_cell (j := 0) HN4.out rfl
  have e1 := heap_cell (j := 1) HN4.out rfl
  have l4 := heap_lt HN4.out
  have HCt : Hid (∀ W, Below w4.heap.size w4 W → Calls Tryd.prog 20 #[sightV (.slice (some ⟨g, 0, none⟩) X.length X.length) F] W fun e w' => CountR (metW X F) W.heap.size e w' ∧ Below W.heap.size W w') := fun W hW => count_any X F (some ⟨g, 0, none⟩) X.length W hXl (HX4.out.below hW) HS.out.kd HS.out.gd.rng (HE4.out.2.2.below hW)
  go_upto_region 4 with fail
  go_cut [10] (fun v wx => ∃ b, v = .pointer (some ⟨b, 0, none⟩) ∧ Hid (Begun X N F (some ⟨g, 0, none⟩) rn X.length cn w4.heap.size w4 b wx))
  case first =>
    have hmx : Tryd.prog.follows .mixedOrders = true := by kernel_rfl
    go_region_with (first | (go_at_call 20; refine (HCt.out _ (Below.refl _ _).drew).mono ?_; rintro e w5 ⟨⟨mb, n, hmb, rfl, hn, hLM⟩, hb5⟩; have s0 := (hb5.cell (p := ⟨sb, 0, none⟩) l4).trans e0; have s1 := (hb5.cell (p := ⟨sb, 1, none⟩) l4).trans e1; have ls : sb < w5.heap.size := Nat.lt_of_lt_of_le l4 hb5.size) | (go_at_call 20; refine (HCt.out _ ((Below.refl _ w4).alloc (Nat.le_refl _) _).drew).mono ?_; rintro e w5 ⟨⟨mb, n, hmb, rfl, hn, hLM⟩, hb5⟩; have hz : w5.heap[w4.heap.size]? = some (.cells #[.slice none 0 0, .int .u64 0, .slice none 0 0, .map none, .int .i64 0, .pointer none, .slice none 0 0] 65 (0, 0)) := (hb5.block w4.heap.size (by simp)).trans (heap_alloc_new w4 _); have z0 := heap_cell (j := 0) hz rfl; have z1 := heap_cell (j := 1) hz rfl; have z2 := heap_cell (j := 2) hz rfl; have z3 := heap_cell (j := 3) hz rfl; have z4 := heap_cell (j := 4) hz rfl; have z5 := heap_cell (j := 5) hz rfl; have z6 := heap_cell (j := 6) hz rfl; have y0 : w5.frozen? ⟨w4.heap.size, 0, none⟩ = false := (by simp [World.frozen?, hz]); have y1 : w5.frozen? ⟨w4.heap.size, 1, none⟩ = false := (by simp [World.frozen?, hz]); have y2 : w5.frozen? ⟨w4.heap.size, 2, none⟩ = false := (by simp [World.frozen?, hz]); have y3 : w5.frozen? ⟨w4.heap.size, 3, none⟩ = false := (by simp [World.frozen?, hz]); have y4 : w5.frozen? ⟨w4.heap.size, 4, none⟩ = false := (by simp [World.frozen?, hz]); have y5 : w5.frozen? ⟨w4.heap.size, 5, none⟩ = false := (by simp [World.frozen?, hz]); have y6 : w5.frozen? ⟨w4.heap.size, 6, none⟩ = false := (by simp [World.frozen?, hz]); have lz := heap_lt hz; have l4' : sb < (w4.alloc (.cells #[.slice none 0 0, .int .u64 0, .slice none 0 0, .map none, .int .i64 0, .pointer none, .slice none 0 0] 65)).drew.heap.size := (Nat.lt_of_lt_of_le l4 (by simp)); have s0 := (hb5.cell (p := ⟨sb, 0, none⟩) l4').trans ((((Below.refl _ w4).alloc (Nat.le_refl _) _).cell (p := ⟨sb, 0, none⟩) l4).trans e0); have s1 := (hb5.cell (p := ⟨sb, 1, none⟩) l4').trans ((((Below.refl _ w4).alloc (Nat.le_refl _) _).cell (p := ⟨sb, 1, none⟩) l4).trans e1); have ls : sb < w5.heap.size := Nat.lt_of_lt_of_le l4' hb5.size))
    all_goals
      go_wp2_with fail
      go_meet
      first
        | exact ⟨_, rfl, begun_first hmb hn hLM hb5 hz⟩
        | exact ⟨_, rfl, begun_last hmb hn hLM hb5⟩
  case rest =>
    obtain ⟨b, rfl, HBg⟩ := hcut
    obtain ⟨w6, rfl⟩ : ∃ w6, w6 = wc := ⟨_, rfl⟩
    obtain ⟨mb, n, hmb, hn, hTl, hLM, hb6⟩ := HBg.out
    have n6 := (hb6.block sb l4).trans HN4.out
    have f0 := heap_cell (j := 0) n6 rfl
    have f1 := heap_cell (j := 1) n6 rfl
    have l6 := heap_lt n6
    obtain ⟨hgd, hS2⟩ : Gd X N F ∧ EnvOk ⟨X, N, some ⟨g, 0, none⟩, X.length, rn, cn, .int .u64 F, w4.heap.size, b, mb⟩ := ⟨HS.out.gd, ⟨hmb, hXl, fun c y hc => HS.out.kd y (List.mem_of_getElem? hc), HS.out.pair, HS.out.box, HS.out.proc⟩⟩
    have HW : Hid (Calls Tryd.prog 21 #[.pointer (some ⟨b, 0, none⟩), .int .u64 F] w6 fun e w' => (∃ v, e = .returned v) ∧ Tl w4.heap.size b (.slice (some ⟨g, 0, none⟩) X.length X.length) (.int .u64 F) (.slice rn N.length cn) (.map (some mb)) (.int .i64 r.2.2) r.1 w' ∧ Below w4.heap.size w4 w') := (word_tells ⟨X, N, some ⟨g, 0, none⟩, X.length, rn, cn, .int .u64 F, w4.heap.size, b, mb⟩ hS2 fu (cntL (metW X F)) 0 F r [] n w6 HR0.out hgd (fun c hc => by cases hc) ⟨hTl, hLM⟩ (fun w' hb' => ⟨HX4.out.below (hb6.trans hb'), HE4.out.1.below (hb6.trans hb'), HE4.out.2.2.below (hb6.trans hb'), HE4.out.2.1.below (hb6.trans hb')⟩) hb6.size (by simp; omega) hrk (by omega)).mono (fun e w' hh => by
      obtain ⟨h1, ⟨n', ⟨h2, _⟩, _⟩, _, h4⟩ := hh
      exact ⟨h1, h2, hb6.trans h4.1⟩)
    clear hTl hLM hb6 hgd hS2 n6 HBg HCt HX4 HE4 HN4 e0 e1 l4
    go_wp2_with fail
    refine Calls.mono HW.out ?_
    rintro e w7 ⟨⟨v7, rfl⟩, ht7, hb7⟩
    have HSt : Hid _ := string_any w4.heap.size b _ _ _ _ _ r.1 w7 ht7 hr0
    have HB7 : Hid (Below w4.heap.size w4 w7) := hb7
    clear ht7 hb7 HW
    go_wp2_with fail
    refine Calls.mono HSt.out ?_
    rintro e w8 ⟨rfl, hb8⟩
    have HB8 : Hid (Below w.heap.size w w8) := HB4.out.trans ((HB7.out.trans hb8).mono HB4.out.size)
    clear hb8 HSt HB7
    go_wp2
    go_ret2
    exact ⟨rfl, HB8.out⟩
end Go.Proofs.YtejmoopgfnjaaaaDoor
