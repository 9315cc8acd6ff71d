/- The words that are met.; Have all symbols that are met names? -/
import Derived.Test.YtejmoopgfnjaaaaDoorK09
/- The words that are met. -/
namespace Go.Proofs.YtejmoopgfnjaaaaDoor
open Go.RowKit

abbrev encU (l : List Int) : List Value := l.map (Value.int .u64)
/-- The fields of a cell that are met with it. -/
def fieldsM (x : Cl) : List Int := if x.k = 1 then [x.a, x.b] else if x.k = 2 then [x.a] else [x.b]
def metW (X : List Cl) (F : Int) : List Int := F :: X.flatMap fieldsM
def Kd (x : Cl) : Prop := x.k = 1 ∨ x.k = 2 ∨ x.k = 3
def FieldsR (x : Cl) (e : Ending) (w' : World) : Prop := ∃ g c, e = .returned (.slice (some ⟨g, 0, none⟩) (fieldsM x).length c) ∧ g < w'.heap.size ∧ ∀ (j : Nat) (u : Value), (encU (fieldsM x))[j]? = some u → w'.cell? ⟨g, j, none⟩ = some u
set_option maxRecDepth 100000 in
set_option maxHeartbeats 4000000 in
theorem fields_any (x : Cl) (w : World) (hk : Kd x) :
    Calls Tryd.prog 50 #[cV x] w fun e w' => FieldsR x e w' ∧ Below w.heap.size w w' := by
  have a0 := (Below.refl _ w).alloc (Nat.le_refl w.heap.size) (KO x)
  have b0 := heap_alloc_new w (KO x)
  have c0 := heap_cell (j := 0) b0 rfl
  have c2 := heap_cell (j := 2) b0 rfl
  have c3 := heap_cell (j := 3) b0 rfl
  have l0 := heap_lt b0
  have HB : Hid (∀ o, Below w.heap.size w ((w.alloc (KO x)).alloc o)) := fun o => a0.alloc a0.size o
  have HN : Hid (∀ (l : List Int), (∀ (j : Nat) (u : Value), (encU l)[j]? = some u → ((w.alloc (KO x)).alloc (.cells (encU l).toArray 25)).cell? ⟨(w.alloc (KO x)).heap.size, j, none⟩ = some u) ∧ (w.alloc (KO x)).heap.size < ((w.alloc (KO x)).alloc (.cells (encU l).toArray 25)).heap.size) := fun l => ⟨fun j u hj => new_cell _ _ _ j u (by simpa using hj), by simp⟩
  clear a0 b0
  unfold cV
  rcases hk with hk | hk | hk
  · have HF : Hid (fieldsM x = [x.a, x.b]) := by show _ = _; unfold fieldsM; rw [if_pos hk]
    have k1 : (x.k == 1) = true := by simpa using hk
    clear hk
    have HR : Hid (∀ e w', (∃ g c, e = .returned (.slice (some ⟨g, 0, none⟩) 2 c) ∧ g < w'.heap.size ∧ ∀ (j : Nat) (u : Value), (encU [x.a, x.b])[j]? = some u → w'.cell? ⟨g, j, none⟩ = some u) → FieldsR x e w') := fun e w' hh => by unfold FieldsR; rw [HF.out]; exact hh
    go_enter Tryd.func50, Tryd.ntmps50
    go_upto_region 1 with fail
    generalize w.alloc (KO x) = W at *
    go_wp2
    go_ret
    exact ⟨HR.out _ _ ⟨_, _, rfl, (HN.out [x.a, x.b]).2, (HN.out [x.a, x.b]).1⟩, HB.out _⟩
  · have HF : Hid (fieldsM x = [x.a]) := by show _ = _; unfold fieldsM; rw [if_neg (by omega), if_pos hk]
    have k1 : (x.k == 1) = false := by simp; omega
    have k2 : (x.k == 2) = true := by simpa using hk
    clear hk
    have HR : Hid (∀ e w', (∃ g c, e = .returned (.slice (some ⟨g, 0, none⟩) 1 c) ∧ g < w'.heap.size ∧ ∀ (j : Nat) (u : Value), (encU [x.a])[j]? = some u → w'.cell? ⟨g, j, none⟩ = some u) → FieldsR x e w') := fun e w' hh => by unfold FieldsR; rw [HF.out]; exact hh
    go_enter Tryd.func50, Tryd.ntmps50
    go_upto_region 1 with fail
    generalize w.alloc (KO x) = W at *
    go_wp2
    go_ret
    exact ⟨HR.out _ _ ⟨_, _, rfl, (HN.out [x.a]).2, (HN.out [x.a]).1⟩, HB.out _⟩
  · have HF : Hid (fieldsM x = [x.b]) := by show _ = _; unfold fieldsM; rw [if_neg (by omega), if_neg (by omega)]
    have k1 : (x.k == 1) = false := by simp; omega
    have k2 : (x.k == 2) = false := by simp; omega
    have k3 : (x.k == 3) = true := by simpa using hk
    clear hk
    have HR : Hid (∀ e w', (∃ g c, e = .returned (.slice (some ⟨g, 0, none⟩) 1 c) ∧ g < w'.heap.size ∧ ∀ (j : Nat) (u : Value), (encU [x.b])[j]? = some u → w'.cell? ⟨g, j, none⟩ = some u) → FieldsR x e w') := fun e w' hh => by unfold FieldsR; rw [HF.out]; exact hh
    go_enter Tryd.func50, Tryd.ntmps50
    go_upto_region 1 with fail
    generalize w.alloc (KO x) = W at *
    go_wp2
    go_ret
    exact ⟨HR.out _ _ ⟨_, _, rfl, (HN.out [x.b]).2, (HN.out [x.b]).1⟩, HB.out _⟩
theorem met_step {X : List Cl} {F : Int} {j : Nat} {x : Cl} (hx : X[j]? = some x) : F :: (X.take (j + 1)).flatMap fieldsM = (F :: (X.take j).flatMap fieldsM) ++ fieldsM x := by
  rw [List.take_add_one, hx]
  simp
theorem fields_len (x : Cl) : 1 ≤ (fieldsM x).length ∧ (fieldsM x).length ≤ 2 := by
  unfold fieldsM
  split
  · simp
  · split <;> simp
theorem met_len (X : List Cl) (F : Int) : (metW X F).length ≤ 1 + 2 * X.length := by
  unfold metW
  induction X with
  | nil => simp
  | cons x X ih =>
    simp only [List.flatMap_cons, List.length_cons, List.length_append] at ih ⊢
    have := (fields_len x).2
    omega
theorem take_met_len (X : List Cl) (F : Int) (j : Nat) : (F :: (X.take j).flatMap fieldsM).length ≤ 1 + 2 * X.length := by
  have h1 := met_len (X.take j) F
  unfold metW at h1
  rw [List.length_take] at h1
  omega
def MetR (X : List Cl) (F : Int) (e : Ending) (w' : World) : Prop := ∃ rv cv, e = .returned (.slice rv (metW X F).length cv) ∧ WR w' rv (metW X F)
theorem wr_own {w : World} {B : Nat} {ra : Option Addr} {n c : Nat} {l : List Int} (h : w.ownsRow B 25 1 (.slice ra n c) n (encU l)) (hl : l.length = n) (hR : ∀ x ∈ l, Rng x) : WR w ra l := by
  rcases h.2 with ⟨h0, h1⟩ | ⟨g, cap, cur, hv, _⟩
  · exact ⟨0, 0, .inl (by omega), fun j x hx => by
      have := (List.getElem?_eq_some_iff.1 hx).1
      omega⟩
  · cases hv
    refine ⟨g, 0, .inr rfl, fun j x hx => ⟨(h.lt g rfl).2, ?_, hR x (List.mem_of_getElem? hx)⟩⟩
    have := h.cells rfl j (.int .u64 x) (by rw [List.getElem?_map, hx]; rfl)
    rwa [ad_add] at this
theorem met_rng {X : List Cl} {F : Int} (hF : Rng F) (hX : ∀ x ∈ X, OkK x) : ∀ y ∈ metW X F, Rng y := fun y hy => by
  unfold metW at hy
  rcases List.mem_cons.1 hy with rfl | hy
  · exact hF
  · obtain ⟨x, hx, hy⟩ := List.mem_flatMap.1 hy
    have hk := hX x hx
    unfold fieldsM at hy
    split at hy
    · simp at hy; rcases hy with rfl | rfl
      · exact hk.a
      · exact hk.b
    · split at hy
      · simp at hy; subst hy; exact hk.a
      · simp at hy; subst hy; exact hk.b
set_option maxRecDepth 100000 in
set_option maxHeartbeats 8000000 in
theorem met_any (X : List Cl) (F : Int) (rx : Option Addr) (cx : Nat) (w : World) (hl : X.length ≤ 1000000) (hH : HR w rx X) (hk : ∀ x ∈ X, Kd x) (hF : Rng F) :
    Calls Tryd.prog 34 #[sightV (.slice rx X.length cx) F] w fun e w' => MetR X F e w' ∧ Below w.heap.size w w' := by
  obtain ⟨i2, hi2, hv0, hv1, hv2⟩ := info_parts infoW
  have HR0 : Hid (∀ y ∈ metW X F, Rng y) := met_rng hF (hr_ok hH)
  have HK : Hid (∀ x ∈ X, Kd x) := hk
  have a0 := (Below.refl _ w).alloc (Nat.le_refl w.heap.size) (.cells #[.slice rx X.length cx, .int .u64 F] 54)
  have s0 := sight_new w (.slice rx X.length cx) (.int .u64 F)
  have a1 := a0.alloc a0.size (.cells #[.int .u64 F] 25)
  have z0 := heap_lt s0
  have s1 : SB ((w.alloc (.cells #[.slice rx X.length cx, .int .u64 F] 54)).alloc (.cells #[.int .u64 F] 25)) w.heap.size (.slice rx X.length cx) (.int .u64 F) := (Below.heap_alloc _ _ _ z0).trans s0
  have c0 := heap_cell (j := 0) s0 rfl
  have c1 := heap_cell (j := 1) s0 rfl
  have e0 := heap_cell (j := 0) s1 rfl
  have z1 := heap_lt s1
  have HH : Hid (HR w rx X) := hH
  have HB1 : Hid (Below w.heap.size w ((w.alloc (.cells #[.slice rx X.length cx, .int .u64 F] 54)).alloc (.cells #[.int .u64 F] 25))) := a1
  have zz : (w.alloc (.cells #[.slice rx X.length cx, .int .u64 F] 54)).heap.size = w.heap.size + 1 := World.size_alloc ..
  have hn1 := heap_alloc_new (w.alloc (.cells #[.slice rx X.length cx, .int .u64 F] 54)) (.cells #[.int .u64 F] 25)
  rw [zz] at hn1
  have HO1 : Hid (((w.alloc (.cells #[.slice rx X.length cx, .int .u64 F] 54)).alloc (.cells #[.int .u64 F] 25)).ownsRow w.heap.size 25 1 (.slice (some ⟨w.heap.size + 1, 0, none⟩) 1 1) 1 (encU (F :: (X.take 0).flatMap fieldsM))) := ⟨by simp, .inr ⟨w.heap.size + 1, 1, #[.int .u64 F], rfl, by omega, hn1, Nat.le_refl _, by unfold maxLen; omega, rfl, by simp⟩⟩
  clear a0 s0 a1 s1 hH hk hF hn1 zz
  unfold sightV
  go_enter Tryd.func34, Tryd.ntmps34
  go_upto_region 2 with fail
  generalize (w.alloc (.cells #[.slice rx X.length cx, .int .u64 F] 54)).alloc (.cells #[.int .u64 F] 25) = W1 at *
  go_wp2
  go_loopw [12, 3, 5] (fun i v _ wr => ∃ (j : Nat) (rv : Option Addr) (cv : Nat), i = .int .i64 j ∧ v = .slice rv (F :: (X.take j).flatMap fieldsM).length cv ∧ j ≤ X.length ∧ Hid (wr.ownsRow w.heap.size 25 1 (.slice rv (F :: (X.take j).flatMap fieldsM).length cv) (F :: (X.take j).flatMap fieldsM).length (encU (F :: (X.take j).flatMap fieldsM))) ∧ Hid (Below w.heap.size w wr)) (fun i _ _ _ => X.length - (intOf i).toNat)
  case atStart => exact ⟨0, some ⟨w.heap.size + 1, 0, none⟩, 1, rfl, rfl, Nat.zero_le _, HO1, HB1⟩
  case round =>
    obtain ⟨j, rv, cv, rfl, rfl, hj, HW, HB⟩ := hrel
    by_cases hlt : j < X.length
    · have k1 : (j : Int) < (X.length : Int) := by omega
      obtain ⟨x, hx⟩ : ∃ x, X[j]? = some x := ⟨_, List.getElem?_eq_getElem hlt⟩
      obtain ⟨b, o, q1, q2⟩ := HH.out.below HB.out
      obtain rfl : rx = some ⟨b, o, none⟩ := q1.resolve_left (by omega)
      obtain ⟨l1, ⟨d0, d1, d2, d3⟩, hkx⟩ := q2 j x hx
      have hal := (Below.refl _ wr).alloc (Nat.le_refl wr.heap.size) (KO x)
      have hn := heap_alloc_new wr (KO x)
      have m0 := heap_cell (j := 0) hn rfl
      have m1 := heap_cell (j := 1) hn rfl
      have m2 := heap_cell (j := 2) hn rfl
      have m3 := heap_cell (j := 3) hn rfl
      have lm := heap_lt hn
      have HFi : Hid (Calls Tryd.prog 50 #[cV x] (wr.alloc (KO x)) fun e w' => FieldsR x e w' ∧ Below (wr.alloc (KO x)).heap.size (wr.alloc (KO x)) w') := fields_any x _ (HK.out x (List.mem_of_getElem? hx))
      have HBa : Hid (Below wr.heap.size wr (wr.alloc (KO x))) := hal
      have HTk : Hid (F :: (X.take (j + 1)).flatMap fieldsM = (F :: (X.take j).flatMap fieldsM) ++ fieldsM x) := met_step hx
      have hfl := fields_len x
      have htl := take_met_len X F j
      clear q1 q2 hx hkx hal hn
      generalize (F :: (X.take j).flatMap fieldsM) = L at *
      go_upto_region 5 with fail
      generalize wr.alloc (KO x) = W2 at *
      go_wp2_with fail
      refine Calls.mono HFi.out ?_
      rintro e w3 ⟨⟨g, c, rfl, lg, hcs⟩, hb3⟩
      have hB3 : Below wr.heap.size wr w3 := HBa.out.trans (hb3.mono HBa.out.size)
      have hW3 : w3.ownsRow w.heap.size 25 1 (.slice rv L.length cv) L.length (encU L) := own_same HW.out (fun k hk => hB3.block k (HW.out.lt k hk).2)
      have hs := HB.out.size
      have hs3 := hB3.size
      have HW3 : Hid (w3.ownsRow w.heap.size 25 1 (.slice rv L.length cv) L.length (encU L)) := hW3
      have HB3 : Hid (Below wr.heap.size wr w3) := hB3
      have HCs : Hid (∀ (j : Nat) (u : Value), (encU (fieldsM x))[j]? = some u → w3.cell? ⟨g, j, none⟩ = some u) := hcs
      clear hb3 HFi HBa hW3 hB3 hcs m0 m1 m2 m3 lm d0 d1 d2 d3 l1 e0 HO1 HB1
      go_wp2_with (at_builtin; refine stop_of ?_)
      unfold Hid
      refine wpList_append_lies _ rfl _ _ 42 rfl w.heap.size 25 i2 (.int .u64 0) 1 8 Tryd.underlying42 hi2 hv0 hv1 hv2 rfl (by decide) (.slice rv L.length cv) L.length (encU L) rfl HW3.out ⟨g, 0, none⟩ (fieldsM x).length c (encU (fieldsM x)) rfl (by simp) (fun k u hu => ?_) (fun u hu => ?_) (by omega) (by unfold maxLen; omega) (by omega) (by omega) _ rfl ?_
      · rw [ad_add, Nat.zero_add]
        exact HCs.out k u hu
      · obtain ⟨y, _, rfl⟩ := List.mem_map.1 hu
        rfl
      intro gn cn w4 hown hgr hat2 hlt2
      have nb : ∀ k, (Value.slice rv L.length cv).ownBlock = some k → w.heap.size ≤ k := fun k hk => (HW.out.lt k hk).1
      have HB4 : Hid (Below w.heap.size w w4) := (HB.out.trans (HB3.out.mono hs)).trans (grown_low hgr (fun k hk => nb k (by rw [← hk])) (by omega))
      have HW4 : Hid (w4.ownsRow w.heap.size 25 1 (.slice (some ⟨gn, 0, none⟩) (F :: (X.take (j + 1)).flatMap fieldsM).length cn) (F :: (X.take (j + 1)).flatMap fieldsM).length (encU (F :: (X.take (j + 1)).flatMap fieldsM))) := by
        show World.ownsRow ..
        rw [HTk.out, List.length_append, show encU (L ++ fieldsM x) = encU L ++ encU (fieldsM x) from List.map_append ..]
        exact hown
      have HLn : Hid ((F :: (X.take (j + 1)).flatMap fieldsM).length = L.length + (fieldsM x).length) := by show _ = _; rw [HTk.out, List.length_append]
      clear hown hgr hat2 nb HW HW3 HCs HTk
      go_wp2
      go_roundw
      case rel => exact ⟨j + 1, some ⟨gn, 0, none⟩, cn, by go_num, by rw [HLn.out], by omega, HW4, HB4⟩
      case measure => simp [intOf]; omega
    · have k1 : ¬ (j : Int) < (X.length : Int) := by omega
      have HE : Hid (MetR X F (.returned (.slice rv (F :: (X.take j).flatMap fieldsM).length cv)) wr) := by
        have h9 := HW.out
        rw [List.take_of_length_le (by omega)] at h9 ⊢
        exact ⟨rv, cv, rfl, wr_own h9 rfl HR0.out⟩
      generalize (F :: (X.take j).flatMap fieldsM).length = m at *
      go_wp2
      go_ret
      exact ⟨HE.out, HB.out⟩
end Go.Proofs.YtejmoopgfnjaaaaDoor

/- Have all symbols that are met names? -/
namespace Go.Proofs.YtejmoopgfnjaaaaDoor
open Go.RowKit

/-- A symbol without a name. -/
def nameless (n : Nat) (x : Int) : Bool := (ofT x == 6) && decide ((n : Int) ≤ ofN x)
set_option maxRecDepth 100000 in
set_option maxHeartbeats 4000000 in
theorem named1_any (n nb : Nat) (rn : Option Addr) (cn : Nat) (x : Int) (w : World) (hx : Rng x) (hN : w.heap[nb]? = some (.cells #[.slice rn n cn] 23 (0, 0))) (hT : Tab w) :
    Calls Tryd.prog 35 #[.int .u64 x, .pointer (some ⟨nb, 0, none⟩)] w fun e w' => e = .returned (.bool (nameless n x)) ∧ w' = w := by
  have c0 := heap_cell (j := 0) hN rfl
  have l0 := heap_lt hN
  have HOf : Hid (Calls Tryd.prog 24 #[.int .u64 x] w fun e w' => e = .returned (.tuple #[.int .u8 (ofT x), .int .i64 (ofN x), .bool (wd x)]) ∧ w' = w) := of_any x w hx hT
  clear hN hT
  cases h6 : (ofT x == 6)
  · have HE : Hid (nameless n x = false) := by show _ = _; unfold nameless; rw [h6]; rfl
    rw [HE.out]
    have h6' : ofT x ≠ 6 := by simpa using h6
    generalize ofT x = t6 at *
    generalize ofN x = n6 at *
    go_enter Tryd.func35, Tryd.ntmps35
    go_wp2_with fail
    refine Calls.mono HOf.out ?_
    rintro e w1 ⟨rfl, hw1⟩
    rw [hw1]
    clear hw1 HOf
    go_wp2
    all_goals
      go_ret
      first
        | exact ⟨rfl, rfl⟩
        | exact absurd rfl h6'
  · have HE : Hid (nameless n x = decide ((n : Int) ≤ ofN x)) := by show _ = _; unfold nameless; rw [h6]; rfl
    have h6' : ofT x = 6 := by simpa using h6
    rw [HE.out]
    rw [h6'] at HOf
    clear HE h6 h6'
    generalize ofN x = n6 at *
    go_enter Tryd.func35, Tryd.ntmps35
    go_wp2_with fail
    refine Calls.mono HOf.out ?_
    rintro e w1 ⟨rfl, hw1⟩
    rw [hw1]
    clear hw1 HOf
    go_wp2
    go_ret
    exact ⟨rfl, rfl⟩
set_option maxRecDepth 100000 in
set_option maxHeartbeats 4000000 in
theorem indexNamed_any (n nb : Nat) (rn : Option Addr) (cn : Nat) (l : List Int) (ra : Option Addr) (ca : Nat) (w : World) (hl : l.length ≤ 3000000) (hH : WR w ra l) (hN : w.heap[nb]? = some (.cells #[.slice rn n cn] 23 (0, 0))) (hT : Tab w) :
    Calls Tryd.prog 49 #[.slice ra l.length ca, .func (.func 35) #[] #[.pointer (some ⟨nb, 0, none⟩)]] w fun e w' => (∃ k : Int, e = .returned (.int .i64 k) ∧ (l.any (nameless n) = decide (0 ≤ k))) ∧ Below w.heap.size w w' := by
  have HH : Hid (WR w ra l ∧ w.heap[nb]? = some (.cells #[.slice rn n cn] 23 (0, 0)) ∧ Tab w) := ⟨hH, hN, hT⟩
  clear hH hN hT
  have hen : ∀ (args : Array Value) (w : World), (callFunc 35 args).run Tryd.prog w = .ok (.enter 35 args) w := fun args w => by go_simp
  go_enter Tryd.func49, Tryd.ntmps49
  go_wp2
  go_loopw [8, 5] (fun i _ wr => ∃ j : Nat, i = .int .i64 j ∧ j ≤ l.length ∧ Hid ((l.take j).any (nameless n) = false) ∧ Hid (Below w.heap.size w wr)) (fun i _ _ => l.length - (intOf i).toNat)
  case atStart => exact ⟨0, rfl, Nat.zero_le _, rfl, Below.refl _ _⟩
  case round =>
    obtain ⟨j, rfl, hj, HN, HB⟩ := hrel
    by_cases hlt : j < l.length
    · have k1 : (j : Int) < (l.length : Int) := by omega
      obtain ⟨x, hx⟩ : ∃ x, l[j]? = some x := ⟨_, List.getElem?_eq_getElem hlt⟩
      obtain ⟨b, o, q1, q2⟩ := HH.out.1.below HB.out
      obtain rfl : ra = some ⟨b, o, none⟩ := q1.resolve_left (by omega)
      obtain ⟨l1, d0, hkx⟩ := q2 j x hx
      have HC : Hid (Calls Tryd.prog 35 #[.int .u64 x, .pointer (some ⟨nb, 0, none⟩)] wr fun e w' => e = .returned (.bool (nameless n x)) ∧ w' = wr) := named1_any n nb rn cn x wr hkx ((HB.out.block _ (heap_lt HH.out.2.1)).trans HH.out.2.1) (HH.out.2.2.below HB.out)
      have HXx : Hid (l[j]? = some x) := hx
      clear q1 q2 hx hkx
      cases hwr : nameless n x
      · rw [hwr] at HC
        have HW : Hid (nameless n x = false) := hwr
        clear hwr
        go_wp2_with fail
        refine Calls.mono HC.out ?_
        rintro e w1 ⟨rfl, hw1⟩
        rw [hw1]
        clear hw1 HC
        go_wp2
        go_roundw
        case rel => exact ⟨j + 1, by go_num, by omega, (any_take HN.out HXx.out).trans HW.out, HB⟩
        case measure => simp [intOf]; omega
      · rw [hwr] at HC
        have HW : Hid (nameless n x = true) := hwr
        clear hwr
        go_wp2_with fail
        refine Calls.mono HC.out ?_
        rintro e w1 ⟨rfl, hw1⟩
        rw [hw1]
        clear hw1 HC
        go_wp2
        go_ret
        exact ⟨⟨j, rfl, by rw [any_at HXx.out HW.out]; simp⟩, HB.out⟩
    · have k1 : ¬ (j : Int) < (l.length : Int) := by omega
      have HE : Hid (l.any (nameless n) = false) := by have := HN.out; rwa [List.take_of_length_le (by omega)] at this
      go_wp2
      go_ret
      exact ⟨⟨-1, rfl, by rw [HE.out]; rfl⟩, HB.out⟩
set_option maxRecDepth 100000 in
set_option maxHeartbeats 4000000 in
theorem isNamed_any (X : List Cl) (F : Int) (rx : Option Addr) (cx n : Nat) (rn : Option Addr) (cn : Nat) (w : World) (hl : X.length ≤ 1000000) (hH : HR w rx X) (hk : ∀ x ∈ X, Kd x) (hF : Rng F) (hT : Tab w) :
    Calls Tryd.prog 19 #[sightV (.slice rx X.length cx) F, .slice rn n cn] w fun e w' => e = .returned (.bool (!(metW X F).any (nameless n))) ∧ Below w.heap.size w w' := by
  have a0 := (Below.refl _ w).alloc (Nat.le_refl w.heap.size) (.cells #[.slice rx X.length cx, .int .u64 F] 54)
  have s0 := sight_new w (.slice rx X.length cx) (.int .u64 F)
  have z0 : (w.alloc (.cells #[.slice rx X.length cx, .int .u64 F] 54)).heap.size = w.heap.size + 1 := World.size_alloc ..
  have a1 := a0.alloc a0.size (.cells #[.slice rn n cn] 23)
  have s1 : SB ((w.alloc (.cells #[.slice rx X.length cx, .int .u64 F] 54)).alloc (.cells #[.slice rn n cn] 23)) w.heap.size (.slice rx X.length cx) (.int .u64 F) := (Below.heap_alloc _ _ _ (heap_lt s0)).trans s0
  have n1 := heap_alloc_new (w.alloc (.cells #[.slice rx X.length cx, .int .u64 F] 54)) (.cells #[.slice rn n cn] 23)
  rw [z0] at n1
  have c0 := heap_cell (j := 0) s1 rfl
  have c1 := heap_cell (j := 1) s1 rfl
  have l0 := heap_lt s1
  have HN1 : Hid (((w.alloc (.cells #[.slice rx X.length cx, .int .u64 F] 54)).alloc (.cells #[.slice rn n cn] 23)).heap[w.heap.size + 1]? = some (.cells #[.slice rn n cn] 23 (0, 0))) := n1
  have HB1 : Hid (Below w.heap.size w ((w.alloc (.cells #[.slice rx X.length cx, .int .u64 F] 54)).alloc (.cells #[.slice rn n cn] 23))) := a1
  have HM : Hid _ := met_any X F rx cx _ hl (hH.below a1) hk hF
  have HT : Hid (Tab ((w.alloc (.cells #[.slice rx X.length cx, .int .u64 F] 54)).alloc (.cells #[.slice rn n cn] 23))) := hT.below a1
  have hml := met_len X F
  clear a0 s0 a1 s1 n1 z0 hH hk hF hT
  unfold sightV at *
  go_enter Tryd.func19, Tryd.ntmps19
  go_upto_region 1 with fail
  generalize (w.alloc (.cells #[.slice rx X.length cx, .int .u64 F] 54)).alloc (.cells #[.slice rn n cn] 23) = W1 at *
  go_wp2_with fail
  refine Calls.mono HM.out ?_
  rintro e w2 ⟨⟨rv, cv, rfl, hr⟩, hb⟩
  have HI : Hid _ := indexNamed_any n (w.heap.size + 1) rn cn (metW X F) rv cv w2 (by omega) hr ((hb.block _ (heap_lt HN1.out)).trans HN1.out) (HT.out.below hb)
  have HB2 : Hid (Below w.heap.size w w2) := HB1.out.trans (hb.mono HB1.out.size)
  have HC : Hid (Calls Tryd.prog 33 #[.slice rv (metW X F).length cv, .func (.func 35) #[] #[.pointer (some ⟨w.heap.size + 1, 0, none⟩)]] w2 fun e w' => e = .returned (.bool ((metW X F).any (nameless n))) ∧ Below w2.heap.size w2 w') := by
    clear hb hr HM
    show Calls ..
    generalize (metW X F).any (nameless n) = bb at *
    go_enter Tryd.func33, Tryd.ntmps33
    go_wp2_with fail
    refine Calls.mono HI.out ?_
    rintro e w3 ⟨⟨k, rfl, hk⟩, hb3⟩
    have HB3 : Hid (Below w2.heap.size w2 w3) := hb3
    have HK : Hid (bb = decide (0 ≤ k)) := hk
    clear hb3 hk HI
    go_wp2
    go_ret
    exact ⟨by rw [HK.out]; rfl, HB3.out⟩
  clear hb hr HM HI
  obtain ⟨bb, hbb⟩ : ∃ bb, bb = (metW X F).any (nameless n) := ⟨_, rfl⟩
  rw [← hbb] at HC
  have HBb : Hid (bb = (metW X F).any (nameless n)) := hbb
  clear hbb
  go_wp2_with fail
  refine Calls.mono HC.out ?_
  rintro e w3 ⟨rfl, hb3⟩
  have HB3 : Hid (Below w.heap.size w w3) := HB2.out.trans (hb3.mono HB2.out.size)
  clear hb3 HC
  go_wp2
  go_ret
  exact ⟨by rw [← HBb.out]; rfl, HB3.out⟩
end Go.Proofs.YtejmoopgfnjaaaaDoor
