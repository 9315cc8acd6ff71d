/- A step of word: from less fuel to more.; A step of tail. -/
import Derived.Test.YtejmoopgfnjaaaaDoorK20
/- A step of word: from less fuel to more. -/
namespace Go.Proofs.YtejmoopgfnjaaaaDoor
open Go.RowKit Go.Maps Go.ChangeMaps

/-- What is asked of what is seen. -/
structure EnvOk (E : Env) : Prop where
  mb : E.B ≤ E.mb
  len : E.X.length ≤ 1000000
  kd : ∀ (c : Nat) (y : Cl), E.X[c]? = some y → Kd y
  pair : ∀ (c : Nat) (y : Cl), E.X[c]? = some y → y.k = 1 → Gd E.X E.N y.a ∧ Gd E.X E.N y.b
  box : ∀ (c : Nat) (y : Cl), E.X[c]? = some y → y.k = 2 → Gd E.X E.N y.a
  proc : ∀ (c : Nat) (y : Cl), E.X[c]? = some y → y.k = 3 → Gd E.X E.N y.b ∧ Rng y.a
theorem word_step (E : Env) (hE : EnvOk E) (fu : Nat) (IW : CallC E fu true 21) (IT : CallC E fu false 39) : CallC E (fu + 1) true 21 := by
  intro f k x r l n w ht hg hL h hR hB hlen hk hn
  unfold tell at ht
  split at ht
  · rename_i hr
    cases ht
    exact word_plain E f k x l n w hr hg hL h hR hB hlen
  · rename_i c hr
    split at ht
    · rename_i hcm
      cases ht
      exact word_came E f k c x l n w hr hg hL h hR hB hcm.1 hcm.2 (by omega)
    · rename_i hcm
      split at ht
      · cases ht
      · rename_i y hy
        split at ht
        · rename_i hyk
          obtain ⟨r1, h1, h2⟩ := Option.bind_eq_some_iff.1 ht
          obtain ⟨r2, h3, h4⟩ := Option.bind_eq_some_iff.1 h2
          cases h4
          exact word_pair E fu IW IT f k c y x l n w r1 r2 hr hg hy hyk (hE.pair c y hy hyk) hL h hR hB hE.mb hE.len hcm h1 h3 hlen hk hn
        · rename_i hy1
          split at ht
          · rename_i hyk
            obtain ⟨r1, h1, h2⟩ := Option.bind_eq_some_iff.1 ht
            cases h2
            exact word_box E fu IW f k c y x l n w r1 hr hg hy hyk (hE.box c y hy hyk) hL h hR hB hE.mb hE.len hcm h1 hlen hk hn
          · rename_i hy2
            have hyk : y.k = 3 := by rcases hE.kd c y hy with h | h | h <;> omega
            obtain ⟨r1, h1, h2⟩ := Option.bind_eq_some_iff.1 ht
            cases h2
            exact word_proc E fu IW f k c y x l n w r1 hr hg hy hyk (hE.proc c y hy hyk) hL h hR hB hE.mb hE.len hcm h1 hlen hk hn
end Go.Proofs.YtejmoopgfnjaaaaDoor

/- A step of tail. -/
namespace Go.Proofs.YtejmoopgfnjaaaaDoor
open Go.RowKit Go.Maps Go.ChangeMaps

/-- How long the text is that a teller holds. -/
def lenB (b : Nat) (w : World) : Nat := match w.cell? ⟨b, 6, none⟩ with
  | some (.slice _ n _) => n
  | _ => 0
theorem Tl.lenB {B b : Nat} {a0 a1 a2 a3 a4 : Value} {l : List UInt8} {w : World} (h : Tl B b a0 a1 a2 a3 a4 l w) : lenB b w = l.length := by
  obtain ⟨hB, p, v, hp, h1, h2, h3⟩ := h.block
  have hc := heap_cell (j := 6) h1 rfl
  unfold Go.Proofs.YtejmoopgfnjaaaaDoor.lenB
  rw [hc]
  rcases h2.2 with ⟨rfl, h0⟩ | ⟨g, cap, cur, fz, rfl, _⟩
  · exact h0.symm
  · rfl
def goC : Option Cl → Cl
  | none => ⟨0, 0, 0, 0⟩
  | some y => y
theorem goV_is (o : Option Cl) : goV o = .tuple #[cV (goC o), .bool o.isSome] := by cases o <;> rfl
theorem goes_some {X : List Cl} {f : Nat → Lab} {x : Int} {y : Cl} (h : some y = goesM X f x) : ∃ c : Nat, X[c]? = some y ∧ y.k = 1 := by
  unfold goesM at h
  split at h
  · cases h
  · rename_i c _
    split at h
    · cases h
    · rename_i z hz
      split at h
      · rename_i hk
        split at h
        · cases h
        · cases h; exact ⟨c, hz, hk⟩
      · cases h
theorem set4 {w : World} {g : Nat} {y : Cl} (z : Cl) (h : w.heap[g]? = some (KO y)) : ((((w.setCell ⟨g, 0, none⟩ (.int .u8 z.k)).setCell ⟨g, 1, none⟩ (.int .u8 z.c)).setCell ⟨g, 2, none⟩ (.int .u64 z.a)).setCell ⟨g, 3, none⟩ (.int .u64 z.b)).heap[g]? = some (KO z) := by
  simp [World.setCell, Array.getElem?_modify, h]
theorem KM.new {B b mb g : Nat} {w u : World} (h : KM B b mb w u) (hg : w.heap.size ≤ g) (hB : B ≤ g) (o : Nat) (v : Value) : KM B b mb w (u.setCell ⟨g, o, none⟩ v) := ⟨h.1.setCell (p := ⟨g, o, none⟩) hB v, fun i ob h1 h2 h3 h4 => (Below.heap_setCell _ _ _ _ (fun e => by have := heap_lt h1; simp at e; omega)).trans (h.2 i ob h1 h2 h3 h4)⟩
theorem cell_kind {w : World} {g o : Nat} {t : TypeId} {fz : Nat × Nat} {cs : Array Value} (h : w.heap[g]? = some (.cells cs t fz)) (v : Value) : ∃ cs', (w.setCell ⟨g, o, none⟩ v).heap[g]? = some (.cells cs' t fz) := by
  refine ⟨cs.setIfInBounds o v, ?_⟩
  simp [World.setCell, Array.getElem?_modify, h]
theorem TS.far {E : Env} {n k : Nat} {f : Nat → Lab} {l : List UInt8} {w : World} (h : TS E n f k l w) {g o : Nat} {cs : Array Value} (hg : w.heap[g]? = some (.cells cs 39 (0, 0))) (hb : g ≠ E.b) (hm : g ≠ E.mb) (v : Value) : TS E n f k l (w.setCell ⟨g, o, none⟩ v) := by
  obtain ⟨hB, p, u, hp, h1, h2, h3⟩ := h.1.block
  have hu : u.ownBlock ≠ some g := fun e => by
    obtain ⟨c, fz, hc⟩ := Lib.ownsRowF_kind h2 g e
    rw [hg] at hc
    cases hc
  refine ⟨Tl.of hB hp ((Below.heap_setCell _ _ _ _ (fun e => hb (by first | exact e | exact e.symm))).trans h1) (h2.kept (grown_set w ⟨g, o, none⟩ v) (Or.inr hu)) h3, h.2.kept (Below.heap_setCell _ _ _ _ (fun e => hm (by first | exact e | exact e.symm)))⟩
theorem TS.far4 {E : Env} {n k : Nat} {f : Nat → Lab} {l : List UInt8} {w : World} (h : TS E n f k l w) {g : Nat} {y : Cl} (hg : w.heap[g]? = some (KO y)) (hb : g ≠ E.b) (hm : g ≠ E.mb) (v0 v1 v2 v3 : Value) : TS E n f k l ((((w.setCell ⟨g, 0, none⟩ v0).setCell ⟨g, 1, none⟩ v1).setCell ⟨g, 2, none⟩ v2).setCell ⟨g, 3, none⟩ v3) := by
  obtain ⟨c1, k1⟩ := cell_kind (o := 0) hg v0
  obtain ⟨c2, k2⟩ := cell_kind (o := 1) k1 v1
  obtain ⟨c3, k3⟩ := cell_kind (o := 2) k2 v2
  exact (((h.far hg hb hm v0).far k1 hb hm v1).far k2 hb hm v2).far k3 hb hm v3
/-- Where a tail stands. -/
structure At (E : Env) (fu : Nat) (r : Res) (l : List UInt8) (n k : Nat) (w : World) (x' : Int) (g : Nat) (wr : World) (o : Option Cl) : Prop where
  ex : ∃ (j : Nat) (f' : Nat → Lab) (k' : Nat) (r' : Res) (l' : List UInt8) (n' : Nat), j ≤ fu ∧ tell E.X E.N (j + 1) false f' k' x' = some r' ∧ Gd E.X E.N x' ∧ LO f' ∧ TS E n' f' k' l' wr ∧ l' ++ r'.1 = l ++ r.1 ∧ r'.2 = r.2 ∧ n' ≤ n + (k' - k) ∧ k ≤ k' ∧ o = goesM E.X f' x'
  km : KM E.B E.b E.mb w wr
  blk : wr.heap[g]? = some (KO (goC o))
  far : g ≠ E.b ∧ g ≠ E.mb
set_option maxRecDepth 100000 in
set_option maxHeartbeats 8000000 in
theorem tail_step (E : Env) (hE : EnvOk E) (fu : Nat) (IW : ∀ j, j ≤ fu → CallC E j true 21) : CallC E (fu + 1) false 39 := by
  intro f k x r l n w ht hg hL h hR hB hlen hk hn
  obtain ⟨hHR, _, hTa, _⟩ := hR w (Below.refl _ w)
  have HG : Hid (Calls Tryd.prog 52 #[.pointer (some ⟨E.b, 0, none⟩), .int .u64 x] w fun e w' => e = .returned (.tuple #[cV (goC (goesM E.X f x)), .bool (goesM E.X f x).isSome]) ∧ Below w.heap.size w w') := by
    have := goesOn_any E.B E.b E.mb n E.X E.rx E.cx E.a1 (.slice E.rn E.N.length E.cn) (.int .i64 k) f l x w h.1 hHR h.2 hTa hg.rng hg.cell hE.len
    rw [goV_is] at this
    exact this
  have HA : Hid (tell E.X E.N (fu + 1) false f k x = some r ∧ Gd E.X E.N x ∧ LO f ∧ TS E n f k l w) := ⟨ht, hg, hL, h⟩
  have HIW : Hid (∀ j, j ≤ fu → CallC E j true 21) := IW
  have HR0 : Hid (Rds E.X E.N E.rx E.rn E.B w) := hR
  have Hlim : Hid (l.length + r.1.length + 1000 ≤ 140737488355328 ∧ r.2.2 ≤ 3000000 ∧ n + (r.2.2 - k) ≤ 10000000) := ⟨hlen, hk, hn⟩
  clear hHR hTa hR IW hlen hk hn ht hg hL h
  obtain ⟨o0, ho0⟩ : ∃ o0, o0 = goesM E.X f x := ⟨_, rfl⟩
  have HO0 : Hid (o0 = goesM E.X f x) := ho0
  rw [← ho0] at HG
  clear ho0
  go_enter Tryd.func39, Tryd.ntmps39
  go_wp2_with fail
  refine Calls.mono HG.out ?_
  rintro e w1 ⟨rfl, hb1⟩
  have a2 := hb1.trans ((Below.refl _ w1).alloc (Nat.le_refl w1.heap.size) (KO (goC o0)) |>.mono hb1.size)
  have HAt : Hid (At E fu r l n k w x w1.heap.size (w1.alloc (KO (goC o0))) o0) := ⟨⟨fu, f, k, r, l, n, Nat.le_refl _, HA.out.1, HA.out.2.1, HA.out.2.2.1, HA.out.2.2.2.keep a2, rfl, rfl, by omega, Nat.le_refl _, HO0.out⟩, KM.below a2 hB, heap_alloc_new w1 _, by have := HA.out.2.2.2.1.at2.2; have := hb1.size; omega, by have := HA.out.2.2.2.2.lt; have := hb1.size; omega⟩
  clear hb1 a2 HG HA HO0
  go_wp2
  generalize w1.alloc (KO (goC o0)) = W2 at *
  go_loopw [1, 4, 5] (fun xv cv ov wr => ∃ (x' : Int) (g : Nat) (o : Option Cl), xv = .int .u64 x' ∧ cv = .pointer (some ⟨g, 0, none⟩) ∧ ov = .bool o.isSome ∧ Hid (At E fu r l n k w x' g wr o)) (fun _ _ _ wr => (l ++ r.1).length + 1 - lenB E.b wr)
  case atStart => exact ⟨x, _, o0, rfl, rfl, rfl, HAt⟩
  case round =>
    obtain ⟨x', g, o, rfl, rfl, rfl, HAr⟩ := hrel
    obtain ⟨⟨j, f', k', r', l', n', hj, ht', hg', hL', hs', he', hr', hn', hk', ho⟩, hkm, hblk, hfar⟩ := HAr.out
    have sB : E.B ≤ wr.heap.size := Nat.le_trans hB hkm.1.size
    have hlq : l'.length + r'.1.length = l.length + r.1.length := by rw [← List.length_append, he', List.length_append]
    cases o with
    | none =>
      unfold tell at ht'
      rw [← ho] at ht'
      simp only at ht'
      have HO : Hid (Calls Tryd.prog 24 #[.int .u64 x'] wr fun e w' => e = .returned (.tuple #[.int .u8 (ofT x'), .int .i64 (ofN x'), .bool (wd x')]) ∧ w' = wr) := of_any x' wr hg'.rng (HR0.out wr hkm.1).2.2.1
      by_cases h1 : ofT x' = 1
      · rw [if_pos h1] at ht'
        rw [h1] at HO
        have HF : Hid (PostW E n k l w r (.returned (.tuple #[])) wr) := by
          show PostW ..
          cases ht'
          simp only [List.append_nil] at he'
          refine ⟨⟨_, rfl⟩, ⟨n', ?_, ?_⟩, ?_, hkm⟩
          · rw [← hr', ← he']; exact hs'
          · rw [← hr']; exact hn'
          · rw [← hr']; exact hL'
        clear ht' hg' hL' hs' he' hr' hn' hk' ho hkm hblk hfar HAr hlq
        go_wp2_with fail
        refine Calls.mono HO.out ?_
        rintro e w3 ⟨rfl, hw3⟩
        rw [hw3]
        clear hw3 HO
        go_wp2
        go_end0
        exact HF.out
      · rw [if_neg h1] at ht'
        obtain ⟨r1, h2, h3⟩ := Option.bind_eq_some_iff.1 ht'
        have HT2 : Hid (tell E.X E.N j true f' k' x' = some r1) := h2
        have HE : Hid (l' ++ ([32, 46, 32] ++ r1.1) = l ++ r.1 ∧ r1.2 = r.2) := by
          cases h3
          exact ⟨he', hr'⟩
        have hl2 : l'.length + 3 + r1.1.length = l.length + r.1.length := by
          have := congrArg List.length HE.out.1
          simp only [List.length_append, List.length_cons, List.length_nil] at this
          omega
        have hmo := tell_mono _ _ _ _ _ _ _ _ h2
        have HS : Hid (TS E n' f' k' l' wr ∧ LO f' ∧ Gd E.X E.N x' ∧ n' ≤ n + (k' - k) ∧ k ≤ k' ∧ k' ≤ r1.2.2 ∧ j ≤ fu) := ⟨hs', hL', hg', hn', hk', hmo, hj⟩
        have HK : Hid (KM E.B E.b E.mb w wr) := hkm
        clear ht' hg' hL' hs' he' hr' hn' hk' ho hkm hblk hfar HAr hlq h2 h3 hmo
        generalize ofT x' = t6 at *
        go_wp2_with fail
        refine Calls.mono HO.out ?_
        rintro e w3 ⟨rfl, hw3⟩
        rw [hw3]
        clear hw3 HO
        go_wp2_with fail
        refine (putS E.B E.b _ _ _ _ _ l' [32, 46, 32] _ HS.out.1.1 (by have := Hlim.out.1; simp only [List.length_cons, List.length_nil]; omega) sB).mono ?_
        rintro e w4 ⟨⟨v4, rfl⟩, h4, k4⟩
        have HS4 : Hid (TS E n' f' k' (l' ++ [32, 46, 32]) w4) := HS.out.1.put h4 k4
        have HK4 : Hid (KM E.B E.b E.mb w w4) := HK.out.trans (KM.kp k4)
        have s4 : E.B ≤ w4.heap.size := Nat.le_trans hB HK4.out.1.size
        clear h4 k4
        go_wp2_with fail
        refine (HIW.out j HS.out.2.2.2.2.2.2 f' k' x' r1 (l' ++ [32, 46, 32]) n' w4 HT2.out HS.out.2.2.1 HS.out.2.1 HS4.out (HR0.out.next HK4.out.1) s4 (by have := Hlim.out.1; simp only [List.length_append, List.length_cons, List.length_nil]; omega) (by rw [HE.out.2]; exact Hlim.out.2.1) (by rw [HE.out.2]; have := Hlim.out; have := HS.out.2.2.2; rw [HE.out.2] at this; omega)).mono ?_
        rintro e w5 ⟨⟨v5, rfl⟩, ⟨n5, hs5, hn5⟩, hl5, hk5⟩
        have HF : Hid (PostW E n k l w r (.returned (.tuple #[])) w5) := by
          refine ⟨⟨_, rfl⟩, ⟨n5, ?_, ?_⟩, ?_, HK4.out.trans hk5⟩
          · rw [← HE.out.1, ← HE.out.2, ← List.append_assoc]; exact hs5
          · have := HS.out.2.2.2; rw [← HE.out.2]; omega
          · rw [← HE.out.2]; exact hl5
        clear hs5 hn5 hl5 hk5
        go_wp2
        go_end0
        exact HF.out
    | some y =>
      unfold tell at ht'
      rw [← ho] at ht'
      simp only at ht'
      obtain ⟨r1, h2, h3⟩ := Option.bind_eq_some_iff.1 ht'
      obtain ⟨q, h4, h5⟩ := Option.bind_eq_some_iff.1 h3
      obtain ⟨cy, hcy, hyk⟩ := goes_some ho
      obtain ⟨hga, hgb⟩ := hE.pair cy y hcy hyk
      obtain ⟨i, rfl⟩ : ∃ i, j = i + 1 := by
        cases j with
        | zero => cases h4
        | succ i => exact ⟨i, rfl⟩
      have HE2 : Hid (l' ++ ([32] ++ (r1.1 ++ q.1)) = l ++ r.1 ∧ q.2 = r.2) := by
        cases h5
        exact ⟨he', hr'⟩
      have hl2 : l'.length + 1 + r1.1.length + q.1.length = l.length + r.1.length := by
        have := congrArg List.length HE2.out.1
        simp only [List.length_append, List.length_cons, List.length_nil] at this
        omega
      have hmo := tell_mono _ _ _ _ _ _ _ _ h2
      have hmp := tell_mono _ _ _ _ _ _ _ _ h4
      have HT2 : Hid (tell E.X E.N (i + 1) true f' k' y.a = some r1 ∧ tell E.X E.N (i + 1) false r1.2.1 r1.2.2 y.b = some q) := ⟨h2, h4⟩
      have HS : Hid (TS E n' f' k' l' wr ∧ LO f' ∧ (Gd E.X E.N y.a ∧ Gd E.X E.N y.b) ∧ n' ≤ n + (k' - k) ∧ k ≤ k' ∧ k' ≤ r1.2.2 ∧ r1.2.2 ≤ q.2.2 ∧ i + 1 ≤ fu) := ⟨hs', hL', ⟨hga, hgb⟩, hn', hk', hmo, hmp, hj⟩
      have HK : Hid (KM E.B E.b E.mb w wr) := hkm
      have HBl : Hid (wr.heap[g]? = some (KO y) ∧ g ≠ E.b ∧ g ≠ E.mb) := ⟨hblk, hfar⟩
      have hlb := hs'.1.lenB
      clear ht' hg' hL' hs' he' hr' hn' hk' ho hkm hblk hfar HAr hlq h2 h3 h4 h5 hmo hmp hga hgb hcy hyk
      have e2 := heap_cell (j := 2) HBl.out.1 rfl
      have le := heap_lt HBl.out.1
      go_wp2_with fail
      refine (putL E.B E.b _ _ _ _ _ l' 32 32 rfl _ HS.out.1.1 (by have := Hlim.out.1; omega) sB).mono ?_
      rintro e w4 ⟨rfl, h4, k4⟩
      have HS4 : Hid (TS E n' f' k' (l' ++ [32]) w4) := HS.out.1.put h4 k4
      have HK4 : Hid (KM E.B E.b E.mb w w4) := HK.out.trans (KM.kp k4)
      have g4 := km_block (mb := E.mb) (KM.kp k4) HBl.out.1 HBl.out.2.1 HBl.out.2.2
      have HB4 : Hid (w4.heap[g]? = some (KO y)) := g4
      have e2' := heap_cell (j := 2) g4 rfl
      have le4 := heap_lt g4
      have s4 : E.B ≤ w4.heap.size := Nat.le_trans hB HK4.out.1.size
      clear h4 k4 g4 e2 le
      go_wp2_with fail
      refine (HIW.out (i + 1) HS.out.2.2.2.2.2.2.2 f' k' y.a r1 (l' ++ [32]) n' w4 HT2.out.1 HS.out.2.2.1.1 HS.out.2.1 HS4.out (HR0.out.next HK4.out.1) s4 (by have := Hlim.out.1; simp only [List.length_append, List.length_cons, List.length_nil]; omega) (by have := Hlim.out.2.1; have := HS.out.2.2.2; rw [HE2.out.2] at this; omega) (by have := Hlim.out; have := HS.out.2.2.2; rw [HE2.out.2] at this; omega)).mono ?_
      rintro e w5 ⟨⟨v5, rfl⟩, ⟨n5, hs5, hn5⟩, hl5, hk5⟩
      have HS5 : Hid (TS E n5 r1.2.1 r1.2.2 (l' ++ [32] ++ r1.1) w5 ∧ n5 ≤ n' + (r1.2.2 - k') ∧ LO r1.2.1) := ⟨hs5, hn5, hl5⟩
      have HK5 : Hid (KM E.B E.b E.mb w w5) := HK4.out.trans hk5
      have g5 := km_block hk5 HB4.out HBl.out.2.1 HBl.out.2.2
      have i0 := heap_cell (j := 0) g5 rfl
      have i1 := heap_cell (j := 1) g5 rfl
      have i2 := heap_cell (j := 2) g5 rfl
      have i3 := heap_cell (j := 3) g5 rfl
      have le5 := heap_lt g5
      have s5 : E.B ≤ w5.heap.size := Nat.le_trans hB HK5.out.1.size
      clear hs5 hn5 hl5 hk5 g5 e2' le4
      have a6 := (Below.refl _ w5).alloc (Nat.le_refl w5.heap.size) (KO y)
      have hs6 := HS5.out.1.keep a6
      have hk6 : KM E.B E.b E.mb w (w5.alloc (KO y)) := HK5.out.trans (KM.below a6 s5)
      have HG6 : Hid (Calls Tryd.prog 52 #[.pointer (some ⟨E.b, 0, none⟩), .int .u64 y.b] (w5.alloc (KO y)) fun e w' => e = .returned (.tuple #[cV (goC (goesM E.X r1.2.1 y.b)), .bool (goesM E.X r1.2.1 y.b).isSome]) ∧ Below (w5.alloc (KO y)).heap.size (w5.alloc (KO y)) w') := by
        have hr6 := HR0.out _ hk6.1
        have := goesOn_any E.B E.b E.mb n5 E.X E.rx E.cx E.a1 (.slice E.rn E.N.length E.cn) (.int .i64 r1.2.2) r1.2.1 (l' ++ [32] ++ r1.1) y.b (w5.alloc (KO y)) hs6.1 hr6.1 hs6.2 hr6.2.2.1 HS.out.2.2.1.2.rng HS.out.2.2.1.2.cell hE.len
        rw [goV_is] at this
        exact this
      have HS6 : Hid (TS E n5 r1.2.1 r1.2.2 (l' ++ [32] ++ r1.1) (w5.alloc (KO y))) := hs6
      have HK6 : Hid (KM E.B E.b E.mb w (w5.alloc (KO y))) := hk6
      have HB6 : Hid ((w5.alloc (KO y)).heap[w5.heap.size]? = some (KO y) ∧ w5.heap.size ≠ E.b ∧ w5.heap.size ≠ E.mb) := ⟨heap_alloc_new w5 _, by have := HS5.out.1.1.at2.2; omega, by have := HS5.out.1.2.lt; omega⟩
      clear a6 hs6 hk6
      obtain ⟨o2, ho2⟩ : ∃ o2, o2 = goesM E.X r1.2.1 y.b := ⟨_, rfl⟩
      have HO2 : Hid (o2 = goesM E.X r1.2.1 y.b) := ho2
      rw [← ho2] at HG6
      clear ho2
      go_wp2_with fail
      refine Calls.mono HG6.out ?_
      rintro e w7 ⟨rfl, hb7⟩
      have g7 : w7.heap[w5.heap.size]? = some (KO y) := (hb7.block _ (heap_lt HB6.out.1)).trans HB6.out.1
      have j0 := heap_cell (j := 0) g7 rfl
      have j1 := heap_cell (j := 1) g7 rfl
      have j2 := heap_cell (j := 2) g7 rfl
      have j3 := heap_cell (j := 3) g7 rfl
      have m0 := Lib.frozen_of_heap g7 0
      have m1 := Lib.frozen_of_heap g7 1
      have m2 := Lib.frozen_of_heap g7 2
      have m3 := Lib.frozen_of_heap g7 3
      have le7 := heap_lt g7
      have hk7 : KM E.B E.b E.mb w w7 := HK6.out.trans (KM.below hb7 (Nat.le_trans hB HK6.out.1.size))
      have hw5 : w.heap.size ≤ w5.heap.size := HK5.out.1.size
      have ts7 := (HS6.out.keep hb7).far4 g7 HB6.out.2.1 HB6.out.2.2 (.int .u8 (goC o2).k) (.int .u8 (goC o2).c) (.int .u64 (goC o2).a) (.int .u64 (goC o2).b)
      have hat : Hid (At E fu r l n k w y.b w5.heap.size ((((w7.setCell ⟨w5.heap.size, 0, none⟩ (.int .u8 (goC o2).k)).setCell ⟨w5.heap.size, 1, none⟩ (.int .u8 (goC o2).c)).setCell ⟨w5.heap.size, 2, none⟩ (.int .u64 (goC o2).a)).setCell ⟨w5.heap.size, 3, none⟩ (.int .u64 (goC o2).b)) o2) := by
        refine ⟨⟨i, r1.2.1, r1.2.2, q, l' ++ [32] ++ r1.1, n5, by have := HS.out.2.2.2; omega, HT2.out.2, HS.out.2.2.1.2, HS5.out.2.2, ts7, ?_, HE2.out.2, ?_, ?_, HO2.out⟩, ?_, set4 (goC o2) g7, HB6.out.2⟩
        · rw [← HE2.out.1]; simp only [List.append_assoc]
        · have := HS.out.2.2.2; have := HS5.out.2.1; omega
        · have := HS.out.2.2.2; omega
        · exact (((hk7.new hw5 s5 0 _).new hw5 s5 1 _).new hw5 s5 2 _).new hw5 s5 3 _
      have HLB : Hid (lenB E.b ((((w7.setCell ⟨w5.heap.size, 0, none⟩ (.int .u8 (goC o2).k)).setCell ⟨w5.heap.size, 1, none⟩ (.int .u8 (goC o2).c)).setCell ⟨w5.heap.size, 2, none⟩ (.int .u64 (goC o2).a)).setCell ⟨w5.heap.size, 3, none⟩ (.int .u64 (goC o2).b)) = (l' ++ [32] ++ r1.1).length) := ts7.1.lenB
      have HLA : Hid (lenB E.b wr = l'.length) := hlb
      clear hb7 g7 hk7 ts7 HG6 HS6 HK6 HB6 hlb
      go_wp2
      go_roundw
      case rel => exact ⟨y.b, w5.heap.size, o2, rfl, rfl, rfl, hat⟩
      case measure =>
        have q1 := HLB.out
        have q2 := HLA.out
        simp only [List.length_append, List.length_cons, List.length_nil] at q1 ⊢
        rw [q1, q2]
        omega
end Go.Proofs.YtejmoopgfnjaaaaDoor
