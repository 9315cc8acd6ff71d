/- parsed.; Code in rows of its own lies as Check wants it.; Parse. -/
import Derived.Test.YtpkohocjgnodnaaGreatDoorGAO
/- parsed. -/
namespace Go.Proofs.YtpkohocjgnodnaaGreatDoor
open Go.RowKit

set_option maxHeartbeats 2000000 in
theorem lc_any (s : List UInt8) (w : World) :
    Calls Tryz.prog 94 #[S s] w fun e w' => e = .returned (.func (.func 121) #[] #[.pointer (some ⟨w.heap.size, 0, none⟩)]) ∧ w' = w.alloc (.cells #[S s] 9) := by
  go_enter Tryz.func94, Tryz.ntmps94
  go_wp2
  go_ret
  exact ⟨rfl, rfl⟩
theorem suf_yes (l : List UInt8) (w : World) (hl : l.length + 1 ≤ 140737488355328) : Calls Tryz.prog 95 #[S (l ++ [10]), S [10]] w fun e w' => e = .returned (.tuple #[S l, .bool true]) ∧ w' = w := by
  have := suf_any (l ++ [10]) w (by simp; omega)
  have e : (if Lib.hasSuffix (l ++ [10]) [10] = true then (l ++ [10]).take ((l ++ [10]).length - 1) else l ++ [10]) = l := by rw [if_pos (suffix_yes l)]; simp
  rw [e, suffix_yes] at this
  exact this
theorem suf_no {l : List UInt8} (h : (10 : UInt8) ∉ l) (w : World) (hl : l.length ≤ 140737488355328) : Calls Tryz.prog 95 #[S l, S [10]] w fun e w' => e = .returned (.tuple #[S l, .bool false]) ∧ w' = w := by
  have := suf_any l w hl
  rw [suffix_no h, if_neg (by simp)] at this
  exact this
abbrev ZC : Obj := .cells #[.slice none 0 0, .slice none 0 0, .slice none 0 0] 26
abbrev ZP : Obj := .cells #[.slice none 0 0, .slice none 0 0, .slice none 0 0] 147
/-- What comes of a text. -/
def ParsedR (s : List UInt8) (base : Nat) (e : Ending) (w' : World) : Prop := ∃ r1 n1 d1 r2 n2 d2 r3 n3 d3, e = .returned (.tuple #[.agg #[.slice r1 n1 d1, .slice r2 n2 d2, .slice r3 n3 d3], .int .i64 (parsedV s noCd 1).2]) ∧ ((parsedV s noCd 1).2 = 0 → ∃ vs, OC w' base (.slice r1 n1 d1) (.slice r2 n2 d2) (.slice r3 n3 d3) vs (parsedV s noCd 1).1 ∧ GoodC s.length (parsedV s noCd 1).1 ∧ Lim (parsedV s noCd 1).1 (s.length + 1))
theorem line_len (r : List UInt8) : lineN r ≤ r.length ∧ (r ≠ [] → 1 ≤ lineN r) := by
  unfold lineN
  split
  · rename_i h
    have := congrArg List.length (line_split (s := r) (by simpa using h)).1
    simp at this
    omega
  · exact ⟨Nat.le_refl _, fun h => List.length_pos_iff.2 h⟩
/-- What stands at the head of a round. -/
structure Rnd (s : List UInt8) (w wr : World) (r : List UInt8) (n : Nat) (c : Cd) : Prop where
  pv : parsedV r c n = parsedV s noCd 1
  len : r.length + n ≤ s.length + 1
  n1 : 1 ≤ n
  lim : Lim c n
  good : GoodC s.length c
  ps : Ps wr (w.heap.size + 1) (w.heap.size + 3) c
  cut : wr.heap[w.heap.size + 2]? = some (.cells #[S (r.drop (lineN r))] 9 (0, 0))
  res : wr.heap[w.heap.size]? = some (.cells #[.slice none 0 0, .slice none 0 0, .slice none 0 0] 26 (0, 0))
  bel : Below w.heap.size w wr
theorem below3 {w w1 : World} {b : Nat} (h : Below w.heap.size w w1) (hb : w.heap.size ≤ b) (v0 v1 v2 : Value) :
    Below w.heap.size w (((w1.setCell ⟨b, 0, none⟩ v0).setCell ⟨b, 1, none⟩ v1).setCell ⟨b, 2, none⟩ v2) :=
  ((h.setCell (p := ⟨b, 0, none⟩) hb v0).setCell (p := ⟨b, 1, none⟩) hb v1).setCell (p := ⟨b, 2, none⟩) hb v2
theorem same3 (w1 : World) (b : Nat) (v0 v1 v2 : Value) {g : Nat} (hg : g ≠ b) : (((w1.setCell ⟨b, 0, none⟩ v0).setCell ⟨b, 1, none⟩ v1).setCell ⟨b, 2, none⟩ v2).heap[g]? = w1.heap[g]? :=
  (Below.heap_setCell _ _ _ _ hg).trans ((Below.heap_setCell _ _ _ _ hg).trans (Below.heap_setCell _ _ _ _ hg))
theorem own_one {w : World} {base e size n : Nat} {v : Value} {xs : List Value} (h : w.ownsRow base e size v n xs) : v.oneCell' = true := by
  obtain ⟨ra, cap, rfl⟩ := own_slice' h; rfl
theorem take_line : ∀ (l x : List UInt8), (l ++ 10 :: x).take (l.length + 1) = l ++ [10]
  | [], _ => rfl
  | a :: l, x => by show a :: ((l ++ 10 :: x).take (l.length + 1)) = _; rw [take_line l x]; rfl
/-- The start. -/
theorem rnd_start (s : List UInt8) (w : World) : Rnd s w ((((w.alloc ZC).alloc ZP).alloc (.cells #[S s] 9)).setCell ⟨w.heap.size + 2, 0, none⟩ (S (s.drop (lineN s)))) s 1 noCd := by
  have e1 : (w.alloc ZC).heap.size = w.heap.size + 1 := World.size_alloc ..
  have e2 : ((w.alloc ZC).alloc ZP).heap.size = w.heap.size + 2 := by rw [World.size_alloc, e1]
  have e3 : (((w.alloc ZC).alloc ZP).alloc (.cells #[S s] 9)).heap.size = w.heap.size + 3 := by rw [World.size_alloc, e2]
  have h0 : (((w.alloc ZC).alloc ZP).alloc (.cells #[S s] 9)).heap[w.heap.size]? = some ZC := by
    rw [Below.heap_alloc _ _ _ (by omega), Below.heap_alloc _ _ _ (by omega)]; exact heap_alloc_new w _
  have h1 : (((w.alloc ZC).alloc ZP).alloc (.cells #[S s] 9)).heap[w.heap.size + 1]? = some ZP := by
    rw [Below.heap_alloc _ _ _ (by omega), ← e1]; exact heap_alloc_new _ _
  have h2 : (((w.alloc ZC).alloc ZP).alloc (.cells #[S s] 9)).heap[w.heap.size + 2]? = some (.cells #[S s] 9) := by
    rw [← e2]; exact heap_alloc_new _ _
  refine ⟨rfl, Nat.le_refl _, Nat.le_refl _, ⟨by simp [noCd], by simp [noCd], by simp [noCd], fun p hp => (by simp [noCd] at hp)⟩, ⟨fun x hx => (by simp [noCd] at hx), fun x hx => (by simp [noCd] at hx), fun x hx => (by simp [noCd] at hx)⟩, ?_, ?_, ?_, ?_⟩
  · exact ⟨_, _, _, [], (Below.heap_setCell _ _ _ _ (by show w.heap.size + 1 ≠ w.heap.size + 2; omega)).trans h1, OC.empty _ _, by omega, by rw [World.size_setCell, e3]; exact Nat.le_refl _⟩
  · exact set_atC h2 _
  · exact (Below.heap_setCell _ _ _ _ (by show w.heap.size ≠ w.heap.size + 2; omega)).trans h0
  · exact ((((Below.refl _ w).alloc (Nat.le_refl _) _).alloc (by omega) _).alloc (by omega) _).setCell (p := ⟨w.heap.size + 2, 0, none⟩) (by show w.heap.size ≤ w.heap.size + 2; omega) _
/-- One line more is taken. -/
theorem rnd_step {s : List UInt8} {w wr w1 w2 : World} {r : List UInt8} {n : Nat} {c c' : Cd} (h : Rnd s w wr r n c) (h10 : (10 : UInt8) ∈ r) (ht : takeV c (line1 r) = some c') (hp : Ps w1 (w.heap.size + 1) (w.heap.size + 3) c') (hf : FrP (w.heap.size + 1) (w.heap.size + 3) wr w1)
    (hw : w2 = w1.setCell ⟨w.heap.size + 2, 0, none⟩ (S ((r.drop (lineN r)).drop (lineN (r.drop (lineN r)))))) : Rnd s w w2 (r.drop (lineN r)) (n + 1) c' := by
  subst hw
  obtain ⟨hs, hno⟩ := line_split h10
  have hN : lineN r = (line1 r).length + 1 := by unfold lineN; rw [if_pos (by simpa using h10)]
  have hrl := congrArg List.length hs
  simp at hrl
  have hc := h.cut
  refine ⟨?_, ?_, by omega, h.lim.take ht, h.good.take ht (by have := h.len; have := h.n1; omega), ?_, ?_, ?_, ?_⟩
  · rw [← h.pv, hN]
    conv => rhs; rw [hs]
    rw [parsedV_line hno, ht]; rfl
  · have := h.len; rw [hN, List.length_drop]; omega
  · obtain ⟨v1, v2, v3, vs, k1, k2, k3, k4⟩ := hp
    exact ⟨v1, v2, v3, vs, (Below.heap_setCell _ _ _ _ (by show w.heap.size + 1 ≠ w.heap.size + 2; omega)).trans k1, k2.same (fun g hg _ => Below.heap_setCell _ _ _ _ (by show g ≠ w.heap.size + 2; omega)), k3, by rw [World.size_setCell]; exact k4⟩
  · exact set_atC ((hf.2 (w.heap.size + 2) (by omega) (by omega)).trans hc) _
  · exact (Below.heap_setCell _ _ _ _ (by show w.heap.size ≠ w.heap.size + 2; omega)).trans ((hf.2 w.heap.size (by omega) (by omega)).trans h.res)
  · exact (h.bel.trans (hf.1.mono (by omega))).setCell (p := ⟨w.heap.size + 2, 0, none⟩) (by show w.heap.size ≤ w.heap.size + 2; omega) _
set_option maxRecDepth 100000 in
set_option maxHeartbeats 8000000 in
theorem parsed_any (s : List UInt8) (w : World) (hl : s.length ≤ 1099511627000) (hE : Env w) :
    Calls Tryz.prog 42 #[S s] w fun e w' => ParsedR s (w.heap.size + 3) e w' ∧ Below w.heap.size w w' := by
  have e1 : (w.alloc ZC).heap.size = w.heap.size + 1 := World.size_alloc ..
  have e2 : ((w.alloc ZC).alloc ZP).heap.size = w.heap.size + 2 := by rw [World.size_alloc, e1]
  have HE : Hid (Env w) := hE
  have HL : Hid (Calls Tryz.prog 94 #[S s] ((w.alloc ZC).alloc ZP) fun e w' => e = .returned (.func (.func 121) #[] #[.pointer (some ⟨w.heap.size + 2, 0, none⟩)]) ∧ w' = ((w.alloc ZC).alloc ZP).alloc (.cells #[S s] 9)) := by
    have := lc_any s ((w.alloc ZC).alloc ZP)
    rw [e2] at this
    exact this
  have HCu : Hid (∀ (r : List UInt8) (w5 : World), r.length ≤ s.length → w5.heap[w.heap.size + 2]? = some (.cells #[S r] 9 (0, 0)) → Calls Tryz.prog 121 #[.pointer (some ⟨w.heap.size + 2, 0, none⟩)] w5 fun e w' => e = .returned (S (r.take (lineN r))) ∧ w' = w5.setCell ⟨w.heap.size + 2, 0, none⟩ (S (r.drop (lineN r)))) := fun r w5 hr h5 =>
    cutter_any r _ w5 (by omega) (by simp [World.cell?, h5]) (by simp [World.frozen?, h5])
  have h2 : (((w.alloc ZC).alloc ZP).alloc (.cells #[S s] 9)).heap[w.heap.size + 2]? = some (.cells #[S s] 9) := by
    rw [← e2]; exact heap_alloc_new _ _
  have HC0 : Hid (Calls Tryz.prog 121 #[.pointer (some ⟨w.heap.size + 2, 0, none⟩)] (((w.alloc ZC).alloc ZP).alloc (.cells #[S s] 9)) fun e w' => e = .returned (S (s.take (lineN s))) ∧ w' = (((w.alloc ZC).alloc ZP).alloc (.cells #[S s] 9)).setCell ⟨w.heap.size + 2, 0, none⟩ (S (s.drop (lineN s)))) := HCu.out s _ (Nat.le_refl _) h2
  have HR0 : Hid (Rnd s w ((((w.alloc ZC).alloc ZP).alloc (.cells #[S s] 9)).setCell ⟨w.heap.size + 2, 0, none⟩ (S (s.drop (lineN s)))) s 1 noCd) := rnd_start s w
  clear hE h2 e1 e2
  go_enter Tryz.func42, Tryz.ntmps42
  go_wp2_with fail
  refine Calls.mono HL.out ?_
  rintro e w1 ⟨rfl, hw1⟩
  rw [← hw1] at HC0 HR0
  clear hw1
  go_wp2_with fail
  refine Calls.mono HC0.out ?_
  rintro e w2 ⟨rfl, hw2⟩
  rw [← hw2] at HR0
  clear hw2 HC0 HL
  go_wp2
  go_loopw [6, 7, 8, 9] (fun i l _ _ wr => ∃ (r : List UInt8) (n : Nat) (c : Cd), i = .int .i64 n ∧ l = S (r.take (lineN r)) ∧ Hid (Rnd s w wr r n c)) (fun i _ _ _ _ => s.length + 2 - (intOf i).toNat)
  case atStart => exact ⟨s, 1, noCd, rfl, rfl, HR0⟩
  case round =>
    obtain ⟨r, n, c, rfl, rfl, HR⟩ := hrel
    have hrl : r.length + n ≤ s.length + 1 := HR.out.len
    have hn1 : 1 ≤ n := HR.out.n1
    have hres := HR.out.res
    have hz : w.heap.size + 3 ≤ wr.heap.size := by obtain ⟨_, _, _, _, _, _, _, k⟩ := HR.out.ps; exact k
    have z0 : wr.cell? ⟨w.heap.size, 0, none⟩ = some (.slice none 0 0) := by simp [World.cell?, hres]
    have z1 : wr.cell? ⟨w.heap.size, 1, none⟩ = some (.slice none 0 0) := by simp [World.cell?, hres]
    have z2 : wr.cell? ⟨w.heap.size, 2, none⟩ = some (.slice none 0 0) := by simp [World.cell?, hres]
    have y0 : wr.frozen? ⟨w.heap.size, 0, none⟩ = false := by simp [World.frozen?, hres]
    have y1 : wr.frozen? ⟨w.heap.size, 1, none⟩ = false := by simp [World.frozen?, hres]
    have y2 : wr.frozen? ⟨w.heap.size, 2, none⟩ = false := by simp [World.frozen?, hres]
    clear hres
    by_cases hr : r = []
    · subst hr
      obtain ⟨v1, v2, v3, vs, k1, k2, k3, k4⟩ := HR.out.ps
      have p0 : wr.cell? ⟨w.heap.size + 1, 0, none⟩ = some v1 := by simp [World.cell?, k1]
      have p1 : wr.cell? ⟨w.heap.size + 1, 1, none⟩ = some v2 := by simp [World.cell?, k1]
      have p2 : wr.cell? ⟨w.heap.size + 1, 2, none⟩ = some v3 := by simp [World.cell?, k1]
      have HPV : Hid (parsedV s noCd 1 = (c, 0)) := by show _ = _; rw [← HR.out.pv, parsedV_nil]
      have HO : Hid (OC wr (w.heap.size + 3) v1 v2 v3 vs c) := k2
      obtain ⟨r1, d1, rfl⟩ := own_slice' k2.o1
      obtain ⟨r2, d2, rfl⟩ := own_slice' k2.o2
      obtain ⟨r3, d3, rfl⟩ := own_slice' k2.o3
      have HF : Hid (ParsedR s (w.heap.size + 3) (.returned (.tuple #[.agg #[.slice r1 c.consts.length d1, .slice r2 c.procs.length d2, .slice r3 c.globals.length d3], .int .i64 0])) (((wr.setCell ⟨w.heap.size, 0, none⟩ (.slice r1 c.consts.length d1)).setCell ⟨w.heap.size, 1, none⟩ (.slice r2 c.procs.length d2)).setCell ⟨w.heap.size, 2, none⟩ (.slice r3 c.globals.length d3))) := by
        refine ⟨_, _, _, _, _, _, _, _, _, by rw [HPV.out], fun _ => ⟨vs, ?_, ?_, ?_⟩⟩
        · rw [HPV.out]; exact HO.out.same (fun g hg _ => same3 _ _ _ _ _ (by omega))
        · rw [HPV.out]; exact HR.out.good
        · rw [HPV.out]; have := HR.out.lim; have h5 := HR.out.len; exact ⟨by have := this.1; simp at h5 ⊢; omega, by have := this.2.1; simp at h5 ⊢; omega, by have := this.2.2.1; simp at h5 ⊢; omega, fun p hp => by have := this.2.2.2 p hp; simp at h5 ⊢; omega⟩
      clear k1 k2 k3 k4 HPV HO
      have he : (([] : List UInt8).take (lineN [])) = [] := by simp
      rw [he]
      go_wp2
      refine bodyPost_ret (v := .tuple #[.agg #[.slice r1 c.consts.length d1, .slice r2 c.procs.length d2, .slice r3 c.globals.length d3], .int .i64 0]) (by simp [results, Tryz.results42, go_sem, z0, z1, z2]) rfl ⟨HF.out, below3 HR.out.bel (Nat.le_refl _) _ _ _⟩
    · have hls : s.length ≤ 1099511627000 := hl
      have hnl : (n : Int) ≤ 1099511627001 := by omega
      have HB3 : Hid (∀ w5 : World, Below w.heap.size w w5 → (parsedV s noCd 1).2 = (n : Int) → ParsedR s (w.heap.size + 3) (.returned (.tuple #[.agg #[.slice none 0 0, .slice none 0 0, .slice none 0 0], .int .i64 n])) w5) := fun w5 _ h => ⟨_, _, _, _, _, _, _, _, _, by rw [h], fun h0 => by rw [h] at h0; omega⟩
      by_cases h10 : (10 : UInt8) ∈ r
      · obtain ⟨hs, hno⟩ := line_split h10
        have hN : lineN r = (line1 r).length + 1 := by unfold lineN; rw [if_pos (by simpa using h10)]
        have hll : (line1 r).length + 1 ≤ r.length := by have := congrArg List.length hs; simp at this; omega
        have ht : r.take (lineN r) = line1 r ++ [10] := by
          rw [hN]
          exact (congrArg (List.take _) hs).trans (take_line _ _)
        have hne : (line1 r ++ [10] == ([] : List UInt8)) = false := by simp
        rw [ht]
        have HSu : Hid (Calls Tryz.prog 95 #[S (line1 r ++ [10]), S [10]] wr fun e w' => e = .returned (.tuple #[S (line1 r), .bool true]) ∧ w' = wr) := suf_yes (line1 r) wr (by omega)
        have HT : Hid (Calls Tryz.prog 96 #[.pointer (some ⟨w.heap.size + 1, 0, none⟩), S (line1 r)] wr fun e w' => Took (takeV c (line1 r)) e w' (w.heap.size + 1) (w.heap.size + 3) ∧ FrP (w.heap.size + 1) (w.heap.size + 3) wr w') :=
          take_any c _ _ _ wr (by omega) (HE.out.below HR.out.bel) HR.out.ps (by have := HR.out.lim; exact ⟨by have := this.1; omega, by have := this.2.1; omega, by have := this.2.2.1; omega, fun p hp => by have := this.2.2.2 p hp; omega⟩)
        have HPn : Hid (takeV c (line1 r) = none → (parsedV s noCd 1).2 = (n : Int)) := fun h => by
          rw [← HR.out.pv]
          conv => lhs; rw [hs]
          rw [parsedV_line hno, h]
        have H10 : Hid ((10 : UInt8) ∈ r) := h10
        have hdl : (r.drop (lineN r)).length + 1 ≤ r.length := by rw [List.length_drop, hN]; omega
        have HSt : Hid (∀ (c' : Cd) (w5 w6 : World), takeV c (line1 r) = some c' → Ps w5 (w.heap.size + 1) (w.heap.size + 3) c' → FrP (w.heap.size + 1) (w.heap.size + 3) wr w5 → w6 = w5.setCell ⟨w.heap.size + 2, 0, none⟩ (S ((r.drop (lineN r)).drop (lineN (r.drop (lineN r))))) → Rnd s w w6 (r.drop (lineN r)) (n + 1) c') := fun c' w5 w6 h1 h2 h3 h4 => rnd_step HR.out H10.out h1 h2 h3 h4
        have HCt : Hid (wr.heap[w.heap.size + 2]? = some (.cells #[S (r.drop (lineN r))] 9 (0, 0))) := HR.out.cut
        have HRs : Hid (wr.heap[w.heap.size]? = some (.cells #[.slice none 0 0, .slice none 0 0, .slice none 0 0] 26 (0, 0))) := HR.out.res
        have HBl : Hid (Below w.heap.size w wr) := HR.out.bel
        clear hs hno hN ht h10 HR z0 z1 z2 y0 y1 y2
        generalize r.drop (lineN r) = r' at *
        generalize line1 r = ln at *
        go_wp2_with fail
        refine Calls.mono HSu.out ?_
        rintro e w3 ⟨rfl, hw3⟩
        rw [hw3]
        clear hw3
        go_wp2_with fail
        refine Calls.mono HT.out ?_
        rintro e w4 ⟨htk, hfr⟩
        have HFR : Hid (FrP (w.heap.size + 1) (w.heap.size + 3) wr w4) := hfr
        have HB4 : Hid (Below w.heap.size w w4) := HBl.out.trans (hfr.1.mono (by omega))
        clear hfr
        rcases htk with ⟨c', h1, rfl, h2⟩ | ⟨h1, rfl⟩
        · have HC4 : Hid (Calls Tryz.prog 121 #[.pointer (some ⟨w.heap.size + 2, 0, none⟩)] w4 fun e w' => e = .returned (S (r'.take (lineN r'))) ∧ w' = w4.setCell ⟨w.heap.size + 2, 0, none⟩ (S (r'.drop (lineN r')))) := HCu.out r' w4 (by omega) ((HFR.out.2 _ (by omega) (by omega)).trans HCt.out)
          have HS4 : Hid (∀ w6, w6 = w4.setCell ⟨w.heap.size + 2, 0, none⟩ (S (r'.drop (lineN r'))) → Rnd s w w6 r' (n + 1) c') := fun w6 h6 => HSt.out c' w4 w6 h1 h2 HFR.out h6
          clear h1 h2 HSt HT HSu HPn
          go_wp2_with fail
          refine Calls.mono HC4.out ?_
          rintro e w5 ⟨rfl, hw5⟩
          have HR5 : Hid (Rnd s w w5 r' (n + 1) c') := HS4.out w5 hw5
          clear hw5 HS4 HC4
          go_wp2
          go_roundw
          case rel => exact ⟨r', n + 1, c', by go_num, rfl, HR5⟩
          case measure => simp [intOf]; omega
        · have hres := (HFR.out.2 w.heap.size (by omega) (by omega)).trans HRs.out
          have z0 : w4.cell? ⟨w.heap.size, 0, none⟩ = some (.slice none 0 0) := by simp [World.cell?, hres]
          have z1 : w4.cell? ⟨w.heap.size, 1, none⟩ = some (.slice none 0 0) := by simp [World.cell?, hres]
          have z2 : w4.cell? ⟨w.heap.size, 2, none⟩ = some (.slice none 0 0) := by simp [World.cell?, hres]
          have y0 : w4.frozen? ⟨w.heap.size, 0, none⟩ = false := by simp [World.frozen?, hres]
          have y1 : w4.frozen? ⟨w.heap.size, 1, none⟩ = false := by simp [World.frozen?, hres]
          have y2 : w4.frozen? ⟨w.heap.size, 2, none⟩ = false := by simp [World.frozen?, hres]
          have HN : Hid ((parsedV s noCd 1).2 = (n : Int)) := HPn.out h1
          clear hres h1 HSt HT HSu HPn
          go_wp2
          refine bodyPost_ret (v := .tuple #[.agg #[.slice none 0 0, .slice none 0 0, .slice none 0 0], .int .i64 n]) (by simp [results, Tryz.results42, go_sem, z0, z1, z2]) rfl ⟨HB3.out _ (below3 HB4.out (Nat.le_refl _) _ _ _) HN.out, below3 HB4.out (Nat.le_refl _) _ _ _⟩
      · have hN : lineN r = r.length := by unfold lineN; rw [if_neg (by simpa using h10)]
        have ht : r.take (lineN r) = r := by rw [hN]; simp
        have hne : (r == ([] : List UInt8)) = false := by simpa using hr
        rw [ht]
        have HSu : Hid (Calls Tryz.prog 95 #[S r, S [10]] wr fun e w' => e = .returned (.tuple #[S r, .bool false]) ∧ w' = wr) := suf_no h10 wr (by omega)
        have HN : Hid ((parsedV s noCd 1).2 = (n : Int)) := by show _ = _; rw [← HR.out.pv, parsedV_open h10 hr]
        have HB4 : Hid (Below w.heap.size w wr) := HR.out.bel
        clear hN ht h10 HR hr
        go_wp2_with fail
        refine Calls.mono HSu.out ?_
        rintro e w3 ⟨rfl, hw3⟩
        rw [hw3]
        clear hw3 HSu
        go_wp2
        refine bodyPost_ret (v := .tuple #[.agg #[.slice none 0 0, .slice none 0 0, .slice none 0 0], .int .i64 n]) (by simp [results, Tryz.results42, go_sem, z0, z1, z2]) rfl ⟨HB3.out _ (below3 HB4.out (Nat.le_refl _) _ _ _) HN.out, below3 HB4.out (Nat.le_refl _) _ _ _⟩
end Go.Proofs.YtpkohocjgnodnaaGreatDoor

/- Code in rows of its own lies as Check wants it. -/
namespace Go.Proofs.YtpkohocjgnodnaaGreatDoor
open Go.RowKit

theorem own_cells {w : World} {base e size n : Nat} {v : Value} {xs : List Value} (h : w.ownsRow base e size v n xs) (_ : 0 < size) : ∃ ra cap b, v = .slice ra n cap ∧ (n = 0 ∨ ra = some ⟨b, 0, none⟩) ∧ n ≤ cap ∧ n ≤ maxLen ∧ (n ≠ 0 → b < w.heap.size) ∧ ∀ j u, xs[j]? = some u → w.cell? ⟨b, j, none⟩ = some u := by
  have h0 := h
  rcases h.2 with ⟨h', rfl⟩ | ⟨g, cap, cur, rfl, hg, hh, h1, h2, _⟩
  · subst h'
    have hl := h.1
    have : xs = [] := List.length_eq_zero_iff.1 (by omega)
    subst this
    exact ⟨none, 0, 0, rfl, .inl rfl, Nat.le_refl _, by unfold maxLen; omega, fun h => absurd rfl h, fun j u hj => by simp at hj⟩
  · refine ⟨_, cap, g, rfl, .inr rfl, h1, by omega, fun _ => (h0.lt g rfl).2, fun j u hj => ?_⟩
    have hlt := (List.getElem?_eq_some_iff.1 hj).1
    rw [h0.1] at hlt
    rw [h0.cellAt j hlt]; exact hj
theorem prcCells_at : ∀ (ps : List Prc) (vs : List Value) (j : Nat) (p : Prc) (v : Value), ps[j]? = some p → vs[j]? = some v → (prcCells ps vs)[j * 2]? = some (.int .i64 p.params) ∧ (prcCells ps vs)[j * 2 + 1]? = some v
  | [], _, _, _, _, h, _ => by simp at h
  | _ :: _, [], _, _, _, _, h => by simp at h
  | q :: ps, u :: vs, 0, p, v, h1, h2 => by simp at h1 h2; subst h1; subst h2; exact ⟨rfl, rfl⟩
  | q :: ps, u :: vs, j + 1, p, v, h1, h2 => by
    have := prcCells_at ps vs j p v (by simpa using h1) (by simpa using h2)
    rw [show (j + 1) * 2 = j * 2 + 1 + 1 by omega]
    exact this
theorem insCells_at : ∀ (l : List Ins) (j : Nat) (x : Ins), l[j]? = some x → (insCells l)[j * 2]? = some (.int .u8 x.op) ∧ (insCells l)[j * 2 + 1]? = some (.int .i64 x.a)
  | [], _, _, h => by simp at h
  | q :: l, 0, x, h => by simp at h; subst h; exact ⟨rfl, rfl⟩
  | q :: l, j + 1, x, h => by
    have := insCells_at l j x (by simpa using h)
    rw [show (j + 1) * 2 = j * 2 + 1 + 1 by omega]
    exact this
theorem OC.cv {w : World} {base L : Nat} {v1 v2 v3 : Value} {vs : List Value} {c : Cd} (h : OC w base v1 v2 v3 vs c) (g : GoodC L c) (hL : L ≤ maxLen) : CV w (.agg #[v1, v2, v3]) c := by
  obtain ⟨r1, c1, b1, rfl, a1, _, m1, s1, k1⟩ := own_cells h.o1 (by decide)
  obtain ⟨r2, c2, b2, rfl, a2, _, m2, s2, k2⟩ := own_cells h.o2 (by decide)
  obtain ⟨r3, c3, b3, rfl, a3, l3, m3, s3, k3⟩ := own_cells h.o3 (by decide)
  refine ⟨⟨r1, c1, r2, c2, r3, c3, rfl, ⟨b1, 0, a1, fun j x hx => ?_⟩, ⟨b2, 0, a2, fun j x hx => ?_⟩, ⟨b3, 0, a3, fun j x hx => ?_⟩, l3⟩, m1, m2, m3⟩
  · have hne : c.consts.length ≠ 0 := by have := (List.getElem?_eq_some_iff.1 hx).1; omega
    exact ⟨s1 hne, by rw [Nat.zero_add]; exact k1 j _ (by unfold wordCells; rw [List.getElem?_map, hx]; rfl), g.cs x (List.mem_of_getElem? hx)⟩
  · have hjl := (List.getElem?_eq_some_iff.1 hx).1
    have hne : c.procs.length ≠ 0 := by omega
    have hv : vs[j]? = some (vs[j]'(by rw [h.hv]; exact hjl)) := List.getElem?_eq_getElem _
    obtain ⟨q1, q2⟩ := prcCells_at _ _ j x _ hx hv
    have hc := h.code j x _ hx hv
    obtain ⟨r4, c4, b4, e4, a4, _, m4, s4, k4⟩ := own_cells hc (by decide)
    have gp := (g.ps x (List.mem_of_getElem? hx)).2
    refine ⟨s2 hne, by rw [Nat.zero_add]; exact k2 _ _ q1, ⟨r4, c4, by rw [Nat.zero_add, ← e4]; exact k2 _ _ q2, b4, 0, a4, fun i y hy => ?_⟩, m4⟩
    have hil := (List.getElem?_eq_some_iff.1 hy).1
    obtain ⟨i1, i2⟩ := insCells_at _ i y hy
    exact ⟨s4 (by omega), by rw [Nat.zero_add]; exact k4 _ _ i1, by rw [Nat.zero_add]; exact k4 _ _ i2, (gp y (List.mem_of_getElem? hy)).1, (gp y (List.mem_of_getElem? hy)).2⟩
  · have hne : c.globals.length ≠ 0 := by have := (List.getElem?_eq_some_iff.1 hx).1; omega
    exact ⟨s3 hne, by rw [Nat.zero_add]; exact k3 j _ (by rw [List.getElem?_map, hx]; rfl), Nat.le_trans (g.gs x (List.mem_of_getElem? hx)) hL⟩
end Go.Proofs.YtpkohocjgnodnaaGreatDoor

/- Parse. -/
namespace Go.Proofs.YtpkohocjgnodnaaGreatDoor
open Go.RowKit

def nilC : Value := .agg #[.slice none 0 0, .slice none 0 0, .slice none 0 0]
/-- What Parse tells of a text. -/
def ParseR (s : List UInt8) (base : Nat) (e : Ending) (w' : World) : Prop :=
  ((parsedV s noCd 1).2 ≠ 0 ∧ e = .returned (.tuple #[nilC, .int .i64 81, .int .i64 (parsedV s noCd 1).2]))
  ∨ ((parsedV s noCd 1).2 = 0 ∧ (chkC (parsedV s noCd 1).1).1 ≠ 0 ∧ e = .returned (.tuple #[nilC, .int .i64 (chkC (parsedV s noCd 1).1).1, .int .i64 0]))
  ∨ ((parsedV s noCd 1).2 = 0 ∧ (chkC (parsedV s noCd 1).1).1 = 0 ∧ ∃ v1 v2 v3 vs, e = .returned (.tuple #[.agg #[v1, v2, v3], .int .i64 0, .int .i64 0]) ∧ OC w' base v1 v2 v3 vs (parsedV s noCd 1).1 ∧ GoodC s.length (parsedV s noCd 1).1)
theorem parseR_text {s : List UInt8} {base : Nat} {w' : World} {pc : Cd} {pn : Int} (h : parsedV s noCd 1 = (pc, pn)) (hn : pn ≠ 0) : ParseR s base (.returned (.tuple #[nilC, .int .i64 81, .int .i64 pn])) w' := by
  refine .inl ?_; rw [h]; exact ⟨hn, rfl⟩
theorem parseR_form {s : List UInt8} {base : Nat} {w' : World} {pc : Cd} {e0 : Int} {p0 q0 : Nat} (h : parsedV s noCd 1 = (pc, 0)) (hc : chkC pc = (e0, p0, q0)) (hn : e0 ≠ 0) : ParseR s base (.returned (.tuple #[nilC, .int .i64 e0, .int .i64 0])) w' := by
  refine .inr (.inl ?_); rw [h]; refine ⟨rfl, ?_, ?_⟩ <;> rw [hc]; exact hn
theorem parseR_ok {s : List UInt8} {base : Nat} {w' : World} {pc : Cd} {p0 q0 : Nat} {v1 v2 v3 : Value} {vs : List Value} (h : parsedV s noCd 1 = (pc, 0)) (hc : chkC pc = (0, p0, q0)) (ho : OC w' base v1 v2 v3 vs pc) (hg : GoodC s.length pc) : ParseR s base (.returned (.tuple #[.agg #[v1, v2, v3], .int .i64 0, .int .i64 0])) w' := by
  refine .inr (.inr ?_); rw [h]; exact ⟨rfl, by rw [hc], v1, v2, v3, vs, rfl, ho, hg⟩
theorem cells3 {w0 : World} {b : Nat} (h : w0.heap[b]? = some ZC) (u0 u1 u2 : Value) (X : Obj) (k : Nat) : ((((w0.setCell ⟨b, 0, none⟩ u0).setCell ⟨b, 1, none⟩ u1).setCell ⟨b, 2, none⟩ u2).alloc X).cell? ⟨b, k, none⟩ = [u0, u1, u2][k]? := by
  have hb := (Array.getElem?_eq_some_iff.1 h).1
  have h3 := set_atC (j := 2) (set_atC (j := 1) (set_atC (j := 0) h u0) u1) u2
  have h4 := (Below.heap_alloc _ X b (by rw [World.size_setCell, World.size_setCell, World.size_setCell]; exact hb)).trans h3
  simp only [World.cell?, h4]
  simp
abbrev CO (v1 v2 v3 : Value) : Obj := .cells #[v1, v2, v3] 26
set_option maxRecDepth 100000 in
set_option maxHeartbeats 8000000 in
theorem parse_any (s : List UInt8) (w : World) (hl : s.length ≤ 1099511627000) (hE : Env w) :
    Calls Tryz.prog 15 #[S s] w fun e w' => ParseR s (w.heap.size + 4) e w' ∧ Below w.heap.size w w' := by
  have e1 : (w.alloc ZC).heap.size = w.heap.size + 1 := World.size_alloc ..
  have hal : Below w.heap.size w (w.alloc ZC) := (Below.refl _ w).alloc (Nat.le_refl _) _
  have HE : Hid (Env w) := hE
  have HC : Hid (Calls Tryz.prog 42 #[S s] (w.alloc ZC) fun e w' => ParsedR s (w.heap.size + 4) e w' ∧ Below (w.alloc ZC).heap.size (w.alloc ZC) w') := by
    have := parsed_any s (w.alloc ZC) hl (hE.below hal)
    rw [e1, show w.heap.size + 1 + 3 = w.heap.size + 4 from rfl] at this
    rw [e1]
    exact this
  have HA : Hid (Below w.heap.size w (w.alloc ZC)) := hal
  clear hE hal
  go_enter Tryz.func15, Tryz.ntmps15
  go_wp2_with fail
  refine Calls.mono HC.out ?_
  rintro e w0 ⟨⟨r1, n1, d1, r2, n2, d2, r3, n3, d3, rfl, hok⟩, hb0⟩
  have HOK : Hid ((parsedV s noCd 1).2 = 0 → ∃ vs, OC w0 (w.heap.size + 4) (.slice r1 n1 d1) (.slice r2 n2 d2) (.slice r3 n3 d3) vs (parsedV s noCd 1).1 ∧ GoodC s.length (parsedV s noCd 1).1 ∧ Lim (parsedV s noCd 1).1 (s.length + 1)) := hok
  have HB0 : Hid (Below (w.alloc ZC).heap.size (w.alloc ZC) w0) := hb0
  have hres : w0.heap[w.heap.size]? = some ZC := (hb0.block _ (by omega)).trans (heap_alloc_new w _)
  have hz : w.heap.size < w0.heap.size := by have := hb0.size; omega
  have HRes : Hid (w0.heap[w.heap.size]? = some ZC) := hres
  have z0 : w0.cell? ⟨w.heap.size, 0, none⟩ = some (.slice none 0 0) := by simp [World.cell?, hres]
  have z1 : w0.cell? ⟨w.heap.size, 1, none⟩ = some (.slice none 0 0) := by simp [World.cell?, hres]
  have z2 : w0.cell? ⟨w.heap.size, 2, none⟩ = some (.slice none 0 0) := by simp [World.cell?, hres]
  have y0 : w0.frozen? ⟨w.heap.size, 0, none⟩ = false := by simp [World.frozen?, hres]
  have y1 : w0.frozen? ⟨w.heap.size, 1, none⟩ = false := by simp [World.frozen?, hres]
  have y2 : w0.frozen? ⟨w.heap.size, 2, none⟩ = false := by simp [World.frozen?, hres]
  clear hok hres hb0
  generalize hpv : parsedV s noCd 1 = pv at *
  obtain ⟨pc, pn⟩ := pv
  have HPV : Hid (parsedV s noCd 1 = (pc, pn)) := hpv
  clear hpv
  simp only at HOK
  by_cases hp0 : pn = 0
  · subst hp0
    obtain ⟨vs, hoc, hgd, hlm⟩ := HOK.out rfl
    have HO : Hid (OC w0 (w.heap.size + 4) (.slice r1 n1 d1) (.slice r2 n2 d2) (.slice r3 n3 d3) vs pc) := hoc
    have HG : Hid (GoodC s.length pc) := hgd
    have hb1 : Below w0.heap.size w0 (w0.alloc (CO (.slice r1 n1 d1) (.slice r2 n2 d2) (.slice r3 n3 d3))) := (Below.refl _ w0).alloc (Nat.le_refl _) _
    have HB1 : Hid (Below w.heap.size w (w0.alloc (CO (.slice r1 n1 d1) (.slice r2 n2 d2) (.slice r3 n3 d3)))) := HA.out.trans ((HB0.out.mono (by omega)).trans (hb1.mono (by omega)))
    have hen := HE.out.below HB1.out
    have HCk : Hid (Calls Tryz.prog 10 #[.agg #[.slice r1 n1 d1, .slice r2 n2 d2, .slice r3 n3 d3]] (w0.alloc (CO (.slice r1 n1 d1) (.slice r2 n2 d2) (.slice r3 n3 d3))) fun e w' => e = .returned (eppV (chkC pc)) ∧ Below (w0.alloc (CO (.slice r1 n1 d1) (.slice r2 n2 d2) (.slice r3 n3 d3))).heap.size (w0.alloc (CO (.slice r1 n1 d1) (.slice r2 n2 d2) (.slice r3 n3 d3))) w') :=
      check_any pc _ _ ((hoc.same (fun g _ hg => hb1.block g hg)).cv hgd (by unfold maxLen; omega)) (fun t ht => Nat.le_trans (hgd.gs t ht) (by omega)) hen.T hen.E hen.P
    clear hoc hgd hlm hen HOK
    go_wp2_with fail
    refine Calls.mono HCk.out ?_
    rintro e w2 ⟨rfl, hb2⟩
    have HB2 : Hid (Below (w0.alloc (CO (.slice r1 n1 d1) (.slice r2 n2 d2) (.slice r3 n3 d3))).heap.size (w0.alloc (CO (.slice r1 n1 d1) (.slice r2 n2 d2) (.slice r3 n3 d3))) w2) := hb2
    obtain ⟨hc2, hfz2⟩ := bcell hb2
    have x0 : w2.cell? ⟨w.heap.size, 0, none⟩ = some (.slice none 0 0) := (hb2.cell (p := ⟨w.heap.size, 0, none⟩) (by show w.heap.size < (w0.alloc _).heap.size; rw [World.size_alloc]; omega)).trans ((hb1.cell (p := ⟨w.heap.size, 0, none⟩) hz).trans z0)
    have x1 : w2.cell? ⟨w.heap.size, 1, none⟩ = some (.slice none 0 0) := (hb2.cell (p := ⟨w.heap.size, 1, none⟩) (by show w.heap.size < (w0.alloc _).heap.size; rw [World.size_alloc]; omega)).trans ((hb1.cell (p := ⟨w.heap.size, 1, none⟩) hz).trans z1)
    have x2 : w2.cell? ⟨w.heap.size, 2, none⟩ = some (.slice none 0 0) := (hb2.cell (p := ⟨w.heap.size, 2, none⟩) (by show w.heap.size < (w0.alloc _).heap.size; rw [World.size_alloc]; omega)).trans ((hb1.cell (p := ⟨w.heap.size, 2, none⟩) hz).trans z2)
    clear hb1 hb2 HCk
    have HOf : Hid (∀ u0 u1 u2, OC (((w2.setCell ⟨w.heap.size, 0, none⟩ u0).setCell ⟨w.heap.size, 1, none⟩ u1).setCell ⟨w.heap.size, 2, none⟩ u2) (w.heap.size + 4) (.slice r1 n1 d1) (.slice r2 n2 d2) (.slice r3 n3 d3) vs pc) := fun u0 u1 u2 => HO.out.same (fun g hg hg2 => (same3 _ _ _ _ _ (by omega)).trans ((HB2.out.block g (by rw [World.size_alloc]; omega)).trans (Below.heap_alloc _ _ _ hg2)))
    have HBf : Hid (∀ u0 u1 u2, Below w.heap.size w (((w2.setCell ⟨w.heap.size, 0, none⟩ u0).setCell ⟨w.heap.size, 1, none⟩ u1).setCell ⟨w.heap.size, 2, none⟩ u2)) := fun u0 u1 u2 => below3 (HB1.out.trans (HB2.out.mono (by rw [World.size_alloc]; omega))) (Nat.le_refl _) _ _ _
    unfold eppV
    generalize hck : chkC pc = ck at *
    obtain ⟨e0, p0, q0⟩ := ck
    have HCK : Hid (chkC pc = (e0, p0, q0)) := hck
    clear hck
    by_cases he0 : e0 = 0
    · subst he0
      go_wp2
      refine bodyPost_ret (v := .tuple #[.agg #[.slice r1 n1 d1, .slice r2 n2 d2, .slice r3 n3 d3], .int .i64 0, .int .i64 0]) (by simp [results, Tryz.results15, go_sem, x0, x1, x2]) rfl ⟨parseR_ok HPV.out HCK.out (HOf.out _ _ _) HG.out, HBf.out _ _ _⟩
    · have hen0 : (e0 == 0) = false := by simpa using he0
      have HN : Hid (e0 ≠ 0) := he0
      clear he0
      go_wp2
      refine bodyPost_ret (v := .tuple #[nilC, .int .i64 e0, .int .i64 0]) (by simp [nilC, results, Tryz.results15, go_sem, x0, x1, x2]) rfl ⟨parseR_form HPV.out HCK.out HN.out, HBf.out _ _ _⟩
  · have hpn : (pn == 0) = false := by simpa using hp0
    have HN : Hid (pn ≠ 0) := hp0
    have HBf : Hid (∀ u0 u1 u2 X, Below w.heap.size w ((((w0.setCell ⟨w.heap.size, 0, none⟩ u0).setCell ⟨w.heap.size, 1, none⟩ u1).setCell ⟨w.heap.size, 2, none⟩ u2).alloc X)) := fun u0 u1 u2 X => (below3 (HA.out.trans (HB0.out.mono (by omega))) (Nat.le_refl _) _ _ _).alloc (by rw [World.size_setCell, World.size_setCell, World.size_setCell]; omega) X
    have x0 := cells3 HRes.out (.slice none 0 0) (.slice none 0 0) (.slice none 0 0) (CO (.slice r1 n1 d1) (.slice r2 n2 d2) (.slice r3 n3 d3)) 0
    have x1 := cells3 HRes.out (.slice none 0 0) (.slice none 0 0) (.slice none 0 0) (CO (.slice r1 n1 d1) (.slice r2 n2 d2) (.slice r3 n3 d3)) 1
    have x2 := cells3 HRes.out (.slice none 0 0) (.slice none 0 0) (.slice none 0 0) (CO (.slice r1 n1 d1) (.slice r2 n2 d2) (.slice r3 n3 d3)) 2
    have X : Hid (((((w0.setCell ⟨w.heap.size, 0, none⟩ (.slice none 0 0)).setCell ⟨w.heap.size, 1, none⟩ (.slice none 0 0)).setCell ⟨w.heap.size, 2, none⟩ (.slice none 0 0)).alloc (CO (.slice r1 n1 d1) (.slice r2 n2 d2) (.slice r3 n3 d3))).cell? ⟨w.heap.size, 0, none⟩ = some (.slice none 0 0) ∧ ((((w0.setCell ⟨w.heap.size, 0, none⟩ (.slice none 0 0)).setCell ⟨w.heap.size, 1, none⟩ (.slice none 0 0)).setCell ⟨w.heap.size, 2, none⟩ (.slice none 0 0)).alloc (CO (.slice r1 n1 d1) (.slice r2 n2 d2) (.slice r3 n3 d3))).cell? ⟨w.heap.size, 1, none⟩ = some (.slice none 0 0) ∧ ((((w0.setCell ⟨w.heap.size, 0, none⟩ (.slice none 0 0)).setCell ⟨w.heap.size, 1, none⟩ (.slice none 0 0)).setCell ⟨w.heap.size, 2, none⟩ (.slice none 0 0)).alloc (CO (.slice r1 n1 d1) (.slice r2 n2 d2) (.slice r3 n3 d3))).cell? ⟨w.heap.size, 2, none⟩ = some (.slice none 0 0)) := ⟨x0, x1, x2⟩
    clear x0 x1 x2
    have HBe : Hid (Below w.heap.size w ((((w0.setCell ⟨w.heap.size, 0, none⟩ (.slice none 0 0)).setCell ⟨w.heap.size, 1, none⟩ (.slice none 0 0)).setCell ⟨w.heap.size, 2, none⟩ (.slice none 0 0)).alloc (CO (.slice r1 n1 d1) (.slice r2 n2 d2) (.slice r3 n3 d3)))) := HBf.out _ _ _ _
    clear HBf
    clear hp0 HOK
    go_wp2
    obtain ⟨x0, x1, x2⟩ := X.out
    generalize (((w0.setCell ⟨w.heap.size, 0, none⟩ (.slice none 0 0)).setCell ⟨w.heap.size, 1, none⟩ (.slice none 0 0)).setCell ⟨w.heap.size, 2, none⟩ (.slice none 0 0)).alloc (CO (.slice r1 n1 d1) (.slice r2 n2 d2) (.slice r3 n3 d3)) = wE at *
    refine bodyPost_ret (v := .tuple #[nilC, .int .i64 81, .int .i64 pn]) (by simp [nilC, results, Tryz.results15, go_sem, x0, x1, x2]) rfl ⟨parseR_text HPV.out HN.out, HBe.out⟩
end Go.Proofs.YtpkohocjgnodnaaGreatDoor
