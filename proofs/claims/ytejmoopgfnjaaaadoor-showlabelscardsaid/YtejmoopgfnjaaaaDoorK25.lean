/- Two that are told by one text are told in step: what is entered in the one is paired with what is entered in the other. Plain mathematics.; The step itself: one text, one pairing. Plain mathematics. -/
import Derived.Test.YtejmoopgfnjaaaaDoorK24
/- Two that are told by one text are told in step: what is entered in the one is paired with what is entered in the other. Plain mathematics. -/
namespace Go.Proofs.YtejmoopgfnjaaaaDoor
open Go.RowKit Go.Maps Go.ChangeMaps

theorem vw_nil {N : List (List UInt8)} {x : Int} (h : ofT x = 1) (t : List UInt8) : VW (plainT N x ++ t) [] (40 :: 41 :: t) 0 := by
  have e : plainT N x = [40, 41] := by unfold plainT; rw [if_pos h]
  exact ⟨by rw [e]; rfl, rfl, nw40 _, by decide⟩
theorem vw_plain {X : List Cl} {N : List (List UInt8)} (hN : ∀ s ∈ N, symB s = true) {x : Int} (hg : Gd X N x) (hr : refN x = none) (h : ¬ ofT x = 1) {t : List UInt8} (ht : Dl t) : VW (plainT N x ++ t) (plainT N x) t 9 := by
  obtain ⟨h1, h2, _⟩ := (plain_view hN hg hr).2 h
  exact ⟨rfl, h1, ht.nw, h2⟩
theorem vw_back (k : Nat) {t : List UInt8} (ht : Dl t) : VW (betw [35] k [35] ++ t) (betw [35] k [35]) t 3 := ⟨rfl, betw_w _ _ _ (by decide) (by decide), ht.nw, cls_back k⟩
theorem pre_w (f : Nat → Lab) (k c : Nat) : (preT f k c).all isW = true := by
  unfold preT
  split
  · rfl
  · exact betw_w _ _ _ (by decide) (by decide)
theorem pre_cls (f : Nat → Lab) (k c : Nat) (s : List UInt8) (h : cls s = cls0 s) : cls (preT f k c ++ s) = (if (f c).met = 1 then 0 else 10) + cls0 s := by
  unfold preT
  split
  · rw [List.nil_append, h]; omega
  · exact cls_lab k s
theorem vw_pair (f : Nat → Lab) (k c : Nat) (a b t : List UInt8) : VW ((preT f k c ++ ([40] ++ (a ++ (b ++ [41])))) ++ t) (preT f k c) (40 :: (a ++ (b ++ 41 :: t))) ((if (f c).met = 1 then 0 else 10) + 0) := by
  refine ⟨by simp, pre_w f k c, nw40 _, ?_⟩
  have := pre_cls f k c [] rfl
  rw [List.append_nil] at this
  exact this
theorem vw_box (f : Nat → Lab) (k c : Nat) (a t : List UInt8) : VW ((preT f k c ++ ([35, 98, 111, 120, 40] ++ (a ++ [41]))) ++ t) (preT f k c ++ [35, 98, 111, 120]) (40 :: (a ++ 41 :: t)) ((if (f c).met = 1 then 0 else 10) + 1) := by
  refine ⟨by simp, by rw [List.all_append, pre_w]; rfl, nw40 _, ?_⟩
  exact pre_cls f k c [35, 98, 111, 120] (by decide)
theorem vw_proc (f : Nat → Lab) (k c : Nat) (n : Int) (a t : List UInt8) : VW ((preT f k c ++ (betw [35, 112, 114, 111, 99] n [40] ++ (a ++ [41]))) ++ t) (preT f k c ++ ([35, 112, 114, 111, 99] ++ Lib.itoa n)) (40 :: (a ++ 41 :: t)) ((if (f c).met = 1 then 0 else 10) + 2) := by
  have h0 : cls ([35, 112, 114, 111, 99] ++ Lib.itoa n) = 2 := by unfold cls cls0; simp [hash, dg, isD, isDI]
  have h1 : cls0 ([35, 112, 114, 111, 99] ++ Lib.itoa n) = 2 := by unfold cls0; simp
  refine ⟨by unfold betw; simp, by rw [List.all_append, pre_w, List.all_append, (itoa_spec n).1]; rfl, nw40 _, ?_⟩
  rw [pre_cls f k c _ (h0.trans h1.symm), h1]
/-- A word's text, cut. -/
theorem Td.view {X : List Cl} {N : List (List UInt8)} {met : Nat → Nat} (hN : ∀ s ∈ N, symB s = true) {m : Bool} {f : Nat → Lab} {k : Nat} {x : Int} {V : List Nat} {r : Res} {V' : List Nat} (h : Td X N m f k x V r V') (hm : m = true) (hf : Fl met f k V) (hg : Gd X N x) {t : List UInt8} (ht : Dl t) : ∃ T u n, VW (r.1 ++ t) T u n ∧ T ≠ [46] ∧ (T = [] → ∃ z, u = 40 :: z) := by
  cases h with
  | plain hr =>
    by_cases h1 : ofT x = 1
    · exact ⟨_, _, _, vw_nil h1 t, by simp, fun _ => ⟨_, rfl⟩⟩
    · exact ⟨_, _, _, vw_plain hN hg hr h1 ht, ((plain_view hN hg hr).2 h1).2.2, fun e => absurd e (plain_ne hN hg hr)⟩
  | @back _ _ _ _ c hr hc h1 h2 =>
    obtain ⟨j, h3, _⟩ := hf.num c h2
    rw [h3]
    exact ⟨_, _, _, vw_back j ht, by unfold betw; simp, fun e => by unfold betw at e; simp at e⟩
  | @pair _ _ _ _ c y r V1 q V2 hr hc hy hk t1 t2 =>
    refine ⟨_, _, _, vw_pair f k c r.1 q.1 t, fun e => ?_, fun _ => ⟨_, rfl⟩⟩
    unfold preT betw at e
    split at e <;> simp at e
  | @box _ _ _ _ c y r V1 hr hc hy hk t1 =>
    refine ⟨_, _, _, vw_box f k c r.1 t, fun e => ?_, fun _ => ⟨_, rfl⟩⟩
    unfold preT betw at e
    split at e <;> simp at e
  | @proc _ _ _ _ c y r V1 hr hc hy hk t1 =>
    refine ⟨_, _, _, vw_proc f k c (ofN y.a) r.1 t, fun e => ?_, fun _ => ⟨_, rfl⟩⟩
    unfold preT betw at e
    split at e <;> simp at e
  | goes => cases hm
  | nil => cases hm
  | dot => cases hm
theorem Td.head {X : List Cl} {N : List (List UInt8)} {met : Nat → Nat} (hN : ∀ s ∈ N, symB s = true) {f : Nat → Lab} {k : Nat} {x : Int} {V : List Nat} {r : Res} {V' : List Nat} (h : Td X N true f k x V r V') (hf : Fl met f k V) (hg : Gd X N x) {t : List UInt8} (ht : Dl t) : (∀ z, r.1 ++ t ≠ 41 :: z) ∧ ∀ z, r.1 ++ t ≠ 46 :: 32 :: z := by
  obtain ⟨T, u, n, hv, h46, h0⟩ := h.view hN rfl hf hg ht
  refine ⟨fun z e => ?_, fun z e => ?_⟩
  · have := hv.e
    rw [e] at this
    cases T with
    | nil =>
      obtain ⟨y, hy⟩ := h0 rfl
      rw [hy] at this
      exact absurd (List.cons.inj this).1 (by decide)
    | cons b T =>
      have e2 := (List.cons.inj this).1
      have ha := hv.all
      rw [List.all_cons, ← e2] at ha
      exact absurd ha (by simp [isW, isWI])
  · have hv2 : VW (r.1 ++ t) [46] (32 :: z) (cls [46]) := ⟨e, by decide, Dl.nw (.inr ⟨z, .inl rfl⟩), rfl⟩
    exact h46 (hv.inj hv2).1
theorem Td.tailE {X : List Cl} {N : List (List UInt8)} {m : Bool} {f : Nat → Lab} {k : Nat} {x : Int} {V : List Nat} {r : Res} {V' : List Nat} (h : Td X N m f k x V r V') (hm : m = false) (t : List UInt8) : Dl (r.1 ++ 41 :: t) := by
  cases h with
  | plain => cases hm
  | back => cases hm
  | pair => cases hm
  | box => cases hm
  | proc => cases hm
  | goes => exact .inr ⟨_, .inl rfl⟩
  | nil => exact .inr ⟨_, .inr rfl⟩
  | dot => exact .inr ⟨_, .inl rfl⟩
/-- Labels agree. -/
def Ag (f f' : Nat → Lab) (Z : List (Nat × Nat)) : Prop := ∀ p ∈ Z, (f p.1).came = (f' p.2).came ∧ ((f p.1).came = true → (f p.1).num = (f' p.2).num)
/-- Two words are paired; two cells are. -/
def Wr (Z : List (Nat × Nat)) (x x' : Int) : Prop := (refN x = none ∧ refN x' = none ∧ x = x') ∨ ∃ c c', refN x = some c ∧ refN x' = some c' ∧ (c, c') ∈ Z
def Cr (X X' : List Cl) (Z : List (Nat × Nat)) (p : Nat × Nat) : Prop := ∃ y y', X[p.1]? = some y ∧ X'[p.2]? = some y' ∧ y.k = y'.k ∧ (y.k = 1 → Wr Z y.a y'.a ∧ Wr Z y.b y'.b) ∧ (y.k = 2 → Wr Z y.a y'.a) ∧ (y.k = 3 → ofN y.a = ofN y'.a ∧ Wr Z y.b y'.b)
theorem Wr.mono {Z Z' : List (Nat × Nat)} {x x' : Int} (h : Wr Z x x') (hz : ∀ p ∈ Z, p ∈ Z') : Wr Z' x x' := by
  rcases h with h | ⟨c, c', h1, h2, h3⟩
  · exact .inl h
  · exact .inr ⟨c, c', h1, h2, hz _ h3⟩
theorem Cr.mono {X X' : List Cl} {Z Z' : List (Nat × Nat)} {p : Nat × Nat} (h : Cr X X' Z p) (hz : ∀ p ∈ Z, p ∈ Z') : Cr X X' Z' p := by
  obtain ⟨y, y', h1, h2, h3, h4, h5, h6⟩ := h
  exact ⟨y, y', h1, h2, h3, fun e => ⟨(h4 e).1.mono hz, (h4 e).2.mono hz⟩, fun e => (h5 e).mono hz, fun e => ⟨(h6 e).1, (h6 e).2.mono hz⟩⟩
theorem Ag.enter {f f' : Nat → Lab} {Z : List (Nat × Nat)} (h : Ag f f' Z) {k c c' : Nat} {met met' : Nat → Nat} (hf : Fl met f k (Z.map Prod.fst)) (hf' : Fl met' f' k (Z.map Prod.snd)) (hc : c ∉ Z.map Prod.fst) (hc' : c' ∉ Z.map Prod.snd) (hm : (f c).met = 1 ↔ (f' c').met = 1) : Ag (preF f k c) (preF f' k c') ((c, c') :: Z) := by
  have n1 : ¬ (f c).came = true := fun e => hc ((hf.came c).1 e).1
  have n2 : ¬ (f' c').came = true := fun e => hc' ((hf'.came c').1 e).1
  by_cases h1 : (f c).met = 1
  · have h2 := hm.1 h1
    unfold preF
    rw [if_pos h1, if_pos h2]
    intro p hp
    rcases List.mem_cons.1 hp with rfl | hp
    · simp only [Bool.not_eq_true] at n1 n2
      exact ⟨by rw [n1, n2], fun e => absurd e (by simp [n1])⟩
    · exact h p hp
  · have h2 : ¬ (f' c').met = 1 := fun e => h1 (hm.2 e)
    unfold preF
    rw [if_neg h1, if_neg h2]
    intro p hp
    unfold getL
    rcases List.mem_cons.1 hp with rfl | hp
    · simp
    · have e1 : p.1 ≠ c := fun e => hc (e ▸ List.mem_map.2 ⟨p, hp, rfl⟩)
      have e2 : p.2 ≠ c' := fun e => hc' (e ▸ List.mem_map.2 ⟨p, hp, rfl⟩)
      rw [if_neg e1, if_neg e2]
      exact h p hp
end Go.Proofs.YtejmoopgfnjaaaaDoor

/- The step itself: one text, one pairing. Plain mathematics. -/
namespace Go.Proofs.YtejmoopgfnjaaaaDoor
open Go.RowKit Go.Maps Go.ChangeMaps

/-- What is known behind two that were told in step. -/
structure Lk (X X' : List Cl) (Z : List (Nat × Nat)) (x x' : Int) (r r' : Res) (W W' : List Nat) (t t' : List UInt8) (Z1 : List (Nat × Nat)) : Prop where
  w1 : W = (Z1 ++ Z).map Prod.fst
  w2 : W' = (Z1 ++ Z).map Prod.snd
  tx : r.1 = r'.1
  ts : t = t'
  kk : r.2.2 = r'.2.2
  ag : Ag r.2.1 r'.2.1 (Z1 ++ Z)
  wr : Wr (Z1 ++ Z) x x'
  cr : ∀ p ∈ Z1, Cr X X' (Z1 ++ Z) p
theorem field_1 {y : Cl} (h : y.k = 1) : y.a ∈ fieldsM y ∧ y.b ∈ fieldsM y := by unfold fieldsM; rw [if_pos h]; simp
theorem field_2 {y : Cl} (h : y.k = 2) : y.a ∈ fieldsM y := by unfold fieldsM; rw [if_neg (by omega), if_pos h]; simp
theorem field_3 {y : Cl} (h : y.k = 3) : y.b ∈ fieldsM y := by unfold fieldsM; rw [if_neg (by omega), if_neg (by omega)]; simp
theorem met_same {a b : Prop} [Decidable a] [Decidable b] {n : Nat} (h : (if a then 0 else 10) + n = (if b then 0 else 10) + n) : a ↔ b := by
  by_cases ha : a <;> by_cases hb : b <;> simp [ha, hb] at h ⊢
theorem preK_same {f f' : Nat → Lab} {k c c' : Nat} (h : (f c).met = 1 ↔ (f' c').met = 1) : preK f' k c' = preK f k c := by
  unfold preK
  by_cases a : (f c).met = 1
  · rw [if_pos a, if_pos (h.1 a)]
  · rw [if_neg a, if_neg (fun e => a (h.2 e))]
theorem preT_same {f f' : Nat → Lab} {k c c' : Nat} (h : (f c).met = 1 ↔ (f' c').met = 1) : preT f' k c' = preT f k c := by
  unfold preT
  by_cases a : (f c).met = 1
  · rw [if_pos a, if_pos (h.1 a)]
  · rw [if_neg a, if_neg (fun e => a (h.2 e))]
theorem lock {X X' : List Cl} {N : List (List UInt8)} {met met' : Nat → Nat} (hN : areNamesB N = true) (hG : ∀ (c : Nat) (y : Cl), X[c]? = some y → ∀ z ∈ fieldsM y, Gd X N z) (hG' : ∀ (c : Nat) (y : Cl), X'[c]? = some y → ∀ z ∈ fieldsM y, Gd X' N z)
    {m : Bool} {f : Nat → Lab} {k : Nat} {x : Int} {V : List Nat} {r : Res} {W : List Nat} (h : Td X N m f k x V r W) : ∀ {f' : Nat → Lab} {x' : Int} {V' : List Nat} {r' : Res} {W' : List Nat} (Z : List (Nat × Nat)), Td X' N m f' k x' V' r' W' → V = Z.map Prod.fst → V' = Z.map Prod.snd → Fl met f k V → Fl met' f' k V' → Ag f f' Z → Gd X N x → Gd X' N x' → ∀ t t', (if m = true then Dl t else ∃ s, t = 41 :: s) → (if m = true then Dl t' else ∃ s, t' = 41 :: s) → r.1 ++ t = r'.1 ++ t' → ∃ Z1, Lk X X' Z x x' r r' W W' t t' Z1 := by
  have hs := names_len hN
  induction h with
  | @plain f k x V hr =>
    intro f' x' V' r' W' Z h' eV eV' hf hf' ha gx gx' t t' ht ht' he
    subst eV; subst eV'
    simp only [if_true] at ht ht'
    cases h' with
    | @plain _ _ _ _ hr' =>
      dsimp only at he
      have key : x = x' ∧ t = t' := by
        by_cases h1 : ofT x = 1
        · by_cases h1' : ofT x' = 1
          · have hu := (VW.inj (vw_nil (N := N) h1 t) (he ▸ vw_nil (N := N) h1' t')).2.1
            have := (List.cons.inj (List.cons.inj hu).2).2
            exact ⟨word_eq gx.rng gx'.rng (by omega) (by omega) (by rw [no_number (by omega) (by omega), no_number (by omega) (by omega)]), this⟩
          · exact absurd (VW.inj (vw_nil (N := N) h1 t) (he ▸ vw_plain hs gx' hr' h1' ht')).2.2 (by omega)
        · by_cases h1' : ofT x' = 1
          · exact absurd (VW.inj (vw_plain hs gx hr h1 ht) (he ▸ vw_nil (N := N) h1' t')).2.2 (by omega)
          · have hv := VW.inj (vw_plain hs gx hr h1 ht) (he ▸ vw_plain hs gx' hr' h1' ht')
            exact ⟨plain_inj hN gx gx' hr hr' hv.1, hv.2.1⟩
      obtain ⟨rfl, rfl⟩ := key
      exact ⟨[], rfl, rfl, rfl, rfl, rfl, ha, .inl ⟨hr, hr', rfl⟩, fun p hp => (by cases hp)⟩
    | @back _ _ _ _ c' hr' hc' hm' hcm' =>
      dsimp only at he
      obtain ⟨j', hj', _⟩ := hf'.num c' hcm'
      rw [hj'] at he
      by_cases h1 : ofT x = 1
      · exact absurd (VW.inj (vw_nil (N := N) h1 t) (he ▸ vw_back j' ht')).2.2 (by (repeat' split) <;> omega)
      · exact absurd (VW.inj (vw_plain hs gx hr h1 ht) (he ▸ vw_back j' ht')).2.2 (by (repeat' split) <;> omega)
    | @pair _ _ _ _ c' y' ra' V1' q' V2' hr' hc' hy' hk' t1' t2' =>
      dsimp only at he
      by_cases h1 : ofT x = 1
      · have hu := (VW.inj (vw_nil (N := N) h1 t) (he ▸ vw_pair f' k c' ra'.1 q'.1 t')).2.1
        exact absurd (List.cons.inj hu).2.symm ((t1'.head hs (hf'.enter hc') (hG' _ _ hy' _ (field_1 hk').1) (t2'.tailE rfl t')).1 _)
      · exact absurd (VW.inj (vw_plain hs gx hr h1 ht) (he ▸ vw_pair f' k c' ra'.1 q'.1 t')).2.2 (by (repeat' split) <;> omega)
    | @box _ _ _ _ c' y' ra' V1' hr' hc' hy' hk' t1' =>
      dsimp only at he
      by_cases h1 : ofT x = 1
      · exact absurd (VW.inj (vw_nil (N := N) h1 t) (he ▸ vw_box f' k c' ra'.1 t')).2.2 (by (repeat' split) <;> omega)
      · exact absurd (VW.inj (vw_plain hs gx hr h1 ht) (he ▸ vw_box f' k c' ra'.1 t')).2.2 (by (repeat' split) <;> omega)
    | @proc _ _ _ _ c' y' ra' V1' hr' hc' hy' hk' t1' =>
      dsimp only at he
      by_cases h1 : ofT x = 1
      · exact absurd (VW.inj (vw_nil (N := N) h1 t) (he ▸ vw_proc f' k c' (ofN y'.a) ra'.1 t')).2.2 (by (repeat' split) <;> omega)
      · exact absurd (VW.inj (vw_plain hs gx hr h1 ht) (he ▸ vw_proc f' k c' (ofN y'.a) ra'.1 t')).2.2 (by (repeat' split) <;> omega)
  | @back f k x V c hr hc hm hcm =>
    intro f' x' V' r' W' Z h' eV eV' hf hf' ha gx gx' t t' ht ht' he
    subst eV; subst eV'
    simp only [if_true] at ht ht'
    cases h' with
    | @plain _ _ _ _ hr' =>
      dsimp only at he
      obtain ⟨j, hj, _⟩ := hf.num c hcm
      rw [hj] at he
      by_cases h1' : ofT x' = 1
      · exact absurd (VW.inj (vw_back j ht) (he ▸ vw_nil (N := N) h1' t')).2.2 (by (repeat' split) <;> omega)
      · exact absurd (VW.inj (vw_back j ht) (he ▸ vw_plain hs gx' hr' h1' ht')).2.2 (by (repeat' split) <;> omega)
    | @back _ _ _ _ c' hr' hc' hm' hcm' =>
      dsimp only at he
      obtain ⟨j, hj, _⟩ := hf.num c hcm
      obtain ⟨j', hj', _⟩ := hf'.num c' hcm'
      rw [hj, hj'] at he ⊢
      have hv := VW.inj (vw_back j ht) (he ▸ vw_back j' ht')
      have hjj : (j : Int) = j' := by
        have := hv.1
        unfold betw at this
        exact itoa_inj (List.append_cancel_right (List.append_cancel_left this))
      obtain ⟨p, hp, hpc⟩ := List.mem_map.1 hc
      have h3 := ha p hp
      rw [hpc] at h3
      have h4 : p.2 = c' := hf'.inj _ _ (by rw [← h3.1]; exact hcm) hcm' (by rw [← h3.2 hcm, hj, hj', hjj])
      refine ⟨[], rfl, rfl, by rw [hjj], hv.2.1, rfl, ha, .inr ⟨c, c', hr, hr', ?_⟩, fun p hp => (by cases hp)⟩
      rw [← hpc, ← h4]; exact hp
    | @pair _ _ _ _ c' y' ra' V1' q' V2' hr' hc' hy' hk' t1' t2' =>
      dsimp only at he
      obtain ⟨j, hj, _⟩ := hf.num c hcm
      rw [hj] at he
      exact absurd (VW.inj (vw_back j ht) (he ▸ vw_pair f' k c' ra'.1 q'.1 t')).2.2 (by (repeat' split) <;> omega)
    | @box _ _ _ _ c' y' ra' V1' hr' hc' hy' hk' t1' =>
      dsimp only at he
      obtain ⟨j, hj, _⟩ := hf.num c hcm
      rw [hj] at he
      exact absurd (VW.inj (vw_back j ht) (he ▸ vw_box f' k c' ra'.1 t')).2.2 (by (repeat' split) <;> omega)
    | @proc _ _ _ _ c' y' ra' V1' hr' hc' hy' hk' t1' =>
      dsimp only at he
      obtain ⟨j, hj, _⟩ := hf.num c hcm
      rw [hj] at he
      exact absurd (VW.inj (vw_back j ht) (he ▸ vw_proc f' k c' (ofN y'.a) ra'.1 t')).2.2 (by (repeat' split) <;> omega)
  | @pair f k x V c y ra V1 q V2 hr hc hy hk t1 t2 ih1 ih2 =>
    intro f' x' V' r' W' Z h' eV eV' hf hf' ha gx gx' t t' ht ht' he
    subst eV; subst eV'
    simp only [if_true] at ht ht'
    cases h' with
    | @plain _ _ _ _ hr' =>
      dsimp only at he
      by_cases h1' : ofT x' = 1
      · have hu := (VW.inj (vw_pair f k c ra.1 q.1 t) (he ▸ vw_nil (N := N) h1' t')).2.1
        exact absurd (List.cons.inj hu).2 ((t1.head hs (hf.enter hc) (hG _ _ hy _ (field_1 hk).1) (t2.tailE rfl t)).1 _)
      · exact absurd (VW.inj (vw_pair f k c ra.1 q.1 t) (he ▸ vw_plain hs gx' hr' h1' ht')).2.2 (by (repeat' split) <;> omega)
    | @back _ _ _ _ c' hr' hc' hm' hcm' =>
      dsimp only at he
      obtain ⟨j', hj', _⟩ := hf'.num c' hcm'
      rw [hj'] at he
      exact absurd (VW.inj (vw_pair f k c ra.1 q.1 t) (he ▸ vw_back j' ht')).2.2 (by (repeat' split) <;> omega)
    | @pair _ _ _ _ c' y' ra' V1' q' V2' hr' hc' hy' hk' t1' t2' =>
      dsimp only at he
      have hv := VW.inj (vw_pair f k c ra.1 q.1 t) (he ▸ vw_pair f' k c' ra'.1 q'.1 t')
      have hm := met_same hv.2.2
      have hu := (List.cons.inj hv.2.1).2
      have hK := preK_same (k := k) hm
      have hF' := hf'.enter hc'
      have hF := hf.enter hc
      rw [hK] at t1' hF'
      have hA := ha.enter hf hf' hc hc' hm
      obtain ⟨Z1, l1⟩ := ih1 ((c, c') :: Z) t1' rfl rfl hF hF' hA (hG _ _ hy _ (field_1 hk).1) (hG' _ _ hy' _ (field_1 hk').1) _ _ (t2.tailE rfl t) (t2'.tailE rfl t') hu
      have hF2 := t1'.fl hF'
      rw [← l1.kk] at t2' hF2
      obtain ⟨Z2, l2⟩ := ih2 (Z1 ++ (c, c') :: Z) t2' l1.w1 l1.w2 (t1.fl hF) hF2 l1.ag (hG _ _ hy _ (field_1 hk).2) (hG' _ _ hy' _ (field_1 hk').2) (41 :: t) (41 :: t') ⟨t, rfl⟩ ⟨t', rfl⟩ l1.ts
      have eZ : (Z2 ++ (Z1 ++ [(c, c')])) ++ Z = Z2 ++ (Z1 ++ (c, c') :: Z) := by simp
      have sub : ∀ p ∈ Z1 ++ (c, c') :: Z, p ∈ Z2 ++ (Z1 ++ (c, c') :: Z) := fun p hp => List.mem_append_right _ hp
      have htt := (List.cons.inj l2.ts).2
      refine ⟨Z2 ++ (Z1 ++ [(c, c')]), by rw [eZ]; exact l2.w1, by rw [eZ]; exact l2.w2, by dsimp only; rw [preT_same hm, l1.tx, l2.tx], htt, l2.kk, by rw [eZ]; exact l2.ag, .inr ⟨c, c', hr, hr', by simp⟩, fun p hp => ?_⟩
      rw [eZ]
      rcases List.mem_append.1 hp with hp | hp
      · exact l2.cr p hp
      · rcases List.mem_append.1 hp with hp | hp
        · exact (l1.cr p hp).mono sub
        · rw [List.mem_singleton.1 hp]
          exact ⟨y, y', hy, hy', hk.trans hk'.symm, fun _ => ⟨l1.wr.mono sub, l2.wr⟩, fun e => absurd e (by omega), fun e => absurd e (by omega)⟩
    | @box _ _ _ _ c' y' ra' V1' hr' hc' hy' hk' t1' =>
      dsimp only at he
      exact absurd (VW.inj (vw_pair f k c ra.1 q.1 t) (he ▸ vw_box f' k c' ra'.1 t')).2.2 (by (repeat' split) <;> omega)
    | @proc _ _ _ _ c' y' ra' V1' hr' hc' hy' hk' t1' =>
      dsimp only at he
      exact absurd (VW.inj (vw_pair f k c ra.1 q.1 t) (he ▸ vw_proc f' k c' (ofN y'.a) ra'.1 t')).2.2 (by (repeat' split) <;> omega)
  | @box f k x V c y ra V1 hr hc hy hk t1 ih1 =>
    intro f' x' V' r' W' Z h' eV eV' hf hf' ha gx gx' t t' ht ht' he
    subst eV; subst eV'
    simp only [if_true] at ht ht'
    cases h' with
    | @plain _ _ _ _ hr' =>
      dsimp only at he
      by_cases h1' : ofT x' = 1
      · exact absurd (VW.inj (vw_box f k c ra.1 t) (he ▸ vw_nil (N := N) h1' t')).2.2 (by (repeat' split) <;> omega)
      · exact absurd (VW.inj (vw_box f k c ra.1 t) (he ▸ vw_plain hs gx' hr' h1' ht')).2.2 (by (repeat' split) <;> omega)
    | @back _ _ _ _ c' hr' hc' hm' hcm' =>
      dsimp only at he
      obtain ⟨j', hj', _⟩ := hf'.num c' hcm'
      rw [hj'] at he
      exact absurd (VW.inj (vw_box f k c ra.1 t) (he ▸ vw_back j' ht')).2.2 (by (repeat' split) <;> omega)
    | @pair _ _ _ _ c' y' ra' V1' q' V2' hr' hc' hy' hk' t1' t2' =>
      dsimp only at he
      exact absurd (VW.inj (vw_box f k c ra.1 t) (he ▸ vw_pair f' k c' ra'.1 q'.1 t')).2.2 (by (repeat' split) <;> omega)
    | @box _ _ _ _ c' y' ra' V1' hr' hc' hy' hk' t1' =>
      dsimp only at he
      have hv := VW.inj (vw_box f k c ra.1 t) (he ▸ vw_box f' k c' ra'.1 t')
      have hm := met_same hv.2.2
      have hu := (List.cons.inj hv.2.1).2
      have hK := preK_same (k := k) hm
      have hF' := hf'.enter hc'
      rw [hK] at t1' hF'
      obtain ⟨Z1, l1⟩ := ih1 ((c, c') :: Z) t1' rfl rfl (hf.enter hc) hF' (ha.enter hf hf' hc hc' hm) (hG _ _ hy _ (field_2 hk)) (hG' _ _ hy' _ (field_2 hk')) _ _ (.inr ⟨t, .inr rfl⟩) (.inr ⟨t', .inr rfl⟩) hu
      have eZ : (Z1 ++ [(c, c')]) ++ Z = Z1 ++ (c, c') :: Z := by simp
      have htt := (List.cons.inj l1.ts).2
      refine ⟨Z1 ++ [(c, c')], by rw [eZ]; exact l1.w1, by rw [eZ]; exact l1.w2, by dsimp only; rw [preT_same hm, l1.tx], htt, l1.kk, by rw [eZ]; exact l1.ag, .inr ⟨c, c', hr, hr', by simp⟩, fun p hp => ?_⟩
      rcases List.mem_append.1 hp with hp | hp
      · rw [eZ]; exact l1.cr p hp
      · rw [List.mem_singleton.1 hp]
        exact ⟨y, y', hy, hy', hk.trans hk'.symm, fun e => absurd e (by omega), fun _ => (by rw [eZ]; exact l1.wr), fun e => absurd e (by omega)⟩
    | @proc _ _ _ _ c' y' ra' V1' hr' hc' hy' hk' t1' =>
      dsimp only at he
      exact absurd (VW.inj (vw_box f k c ra.1 t) (he ▸ vw_proc f' k c' (ofN y'.a) ra'.1 t')).2.2 (by (repeat' split) <;> omega)
  | @proc f k x V c y ra V1 hr hc hy hk t1 ih1 =>
    intro f' x' V' r' W' Z h' eV eV' hf hf' ha gx gx' t t' ht ht' he
    subst eV; subst eV'
    simp only [if_true] at ht ht'
    cases h' with
    | @plain _ _ _ _ hr' =>
      dsimp only at he
      by_cases h1' : ofT x' = 1
      · exact absurd (VW.inj (vw_proc f k c (ofN y.a) ra.1 t) (he ▸ vw_nil (N := N) h1' t')).2.2 (by (repeat' split) <;> omega)
      · exact absurd (VW.inj (vw_proc f k c (ofN y.a) ra.1 t) (he ▸ vw_plain hs gx' hr' h1' ht')).2.2 (by (repeat' split) <;> omega)
    | @back _ _ _ _ c' hr' hc' hm' hcm' =>
      dsimp only at he
      obtain ⟨j', hj', _⟩ := hf'.num c' hcm'
      rw [hj'] at he
      exact absurd (VW.inj (vw_proc f k c (ofN y.a) ra.1 t) (he ▸ vw_back j' ht')).2.2 (by (repeat' split) <;> omega)
    | @pair _ _ _ _ c' y' ra' V1' q' V2' hr' hc' hy' hk' t1' t2' =>
      dsimp only at he
      exact absurd (VW.inj (vw_proc f k c (ofN y.a) ra.1 t) (he ▸ vw_pair f' k c' ra'.1 q'.1 t')).2.2 (by (repeat' split) <;> omega)
    | @box _ _ _ _ c' y' ra' V1' hr' hc' hy' hk' t1' =>
      dsimp only at he
      exact absurd (VW.inj (vw_proc f k c (ofN y.a) ra.1 t) (he ▸ vw_box f' k c' ra'.1 t')).2.2 (by (repeat' split) <;> omega)
    | @proc _ _ _ _ c' y' ra' V1' hr' hc' hy' hk' t1' =>
      dsimp only at he
      have hv := VW.inj (vw_proc f k c (ofN y.a) ra.1 t) (he ▸ vw_proc f' k c' (ofN y'.a) ra'.1 t')
      have hm := met_same hv.2.2
      have hu := (List.cons.inj hv.2.1).2
      have hK := preK_same (k := k) hm
      have hn : ofN y.a = ofN y'.a := by
        have := hv.1
        rw [preT_same hm] at this
        exact itoa_inj (List.append_cancel_left (List.append_cancel_left this))
      have hF' := hf'.enter hc'
      rw [hK] at t1' hF'
      obtain ⟨Z1, l1⟩ := ih1 ((c, c') :: Z) t1' rfl rfl (hf.enter hc) hF' (ha.enter hf hf' hc hc' hm) (hG _ _ hy _ (field_3 hk)) (hG' _ _ hy' _ (field_3 hk')) _ _ (.inr ⟨t, .inr rfl⟩) (.inr ⟨t', .inr rfl⟩) hu
      have eZ : (Z1 ++ [(c, c')]) ++ Z = Z1 ++ (c, c') :: Z := by simp
      have htt := (List.cons.inj l1.ts).2
      refine ⟨Z1 ++ [(c, c')], by rw [eZ]; exact l1.w1, by rw [eZ]; exact l1.w2, by dsimp only; rw [preT_same hm, l1.tx, hn], htt, l1.kk, by rw [eZ]; exact l1.ag, .inr ⟨c, c', hr, hr', by simp⟩, fun p hp => ?_⟩
      rcases List.mem_append.1 hp with hp | hp
      · rw [eZ]; exact l1.cr p hp
      · rw [List.mem_singleton.1 hp]
        exact ⟨y, y', hy, hy', hk.trans hk'.symm, fun e => absurd e (by omega), fun e => absurd e (by omega), fun _ => ⟨hn, by rw [eZ]; exact l1.wr⟩⟩
  | @goes f k x V c y ra V1 q V2 hr hc hy hk hm t1 t2 ih1 ih2 =>
    intro f' x' V' r' W' Z h' eV eV' hf hf' ha gx gx' t t' ht ht' he
    subst eV; subst eV'
    simp only [Bool.false_eq_true, if_false] at ht ht'
    cases h' with
    | @goes _ _ _ _ c' y' ra' V1' q' V2' hr' hc' hy' hk' hm' t1' t2' =>
      dsimp only at he
      obtain ⟨s, rfl⟩ := ht
      obtain ⟨s', rfl⟩ := ht'
      have hu : ra.1 ++ (q.1 ++ 41 :: s) = ra'.1 ++ (q'.1 ++ 41 :: s') := by
        have := (List.cons.inj he).2
        simpa using this
      have hF := hf.same hc hm
      have hF' := hf'.same hc' hm'
      have hA := ha.enter (k := k) hf hf' hc hc' ⟨fun _ => hm', fun _ => hm⟩
      have z1 : preF f k c = f := by unfold preF; rw [if_pos hm]
      have z2 : preF f' k c' = f' := by unfold preF; rw [if_pos hm']
      rw [z1, z2] at hA
      obtain ⟨Z1, l1⟩ := ih1 ((c, c') :: Z) t1' rfl rfl hF hF' hA (hG _ _ hy _ (field_1 hk).1) (hG' _ _ hy' _ (field_1 hk').1) _ _ (t2.tailE rfl s) (t2'.tailE rfl s') hu
      have hF2 := t1'.fl hF'
      rw [← l1.kk] at t2' hF2
      obtain ⟨Z2, l2⟩ := ih2 (Z1 ++ (c, c') :: Z) t2' l1.w1 l1.w2 (t1.fl hF) hF2 l1.ag (hG _ _ hy _ (field_1 hk).2) (hG' _ _ hy' _ (field_1 hk').2) (41 :: s) (41 :: s') ⟨s, rfl⟩ ⟨s', rfl⟩ l1.ts
      have eZ : (Z2 ++ (Z1 ++ [(c, c')])) ++ Z = Z2 ++ (Z1 ++ (c, c') :: Z) := by simp
      have sub : ∀ p ∈ Z1 ++ (c, c') :: Z, p ∈ Z2 ++ (Z1 ++ (c, c') :: Z) := fun p hp => List.mem_append_right _ hp
      have htt := l2.ts
      refine ⟨Z2 ++ (Z1 ++ [(c, c')]), by rw [eZ]; exact l2.w1, by rw [eZ]; exact l2.w2, by dsimp only; rw [l1.tx, l2.tx], htt, l2.kk, by rw [eZ]; exact l2.ag, .inr ⟨c, c', hr, hr', by simp⟩, fun p hp => ?_⟩
      rw [eZ]
      rcases List.mem_append.1 hp with hp | hp
      · exact l2.cr p hp
      · rcases List.mem_append.1 hp with hp | hp
        · exact (l1.cr p hp).mono sub
        · rw [List.mem_singleton.1 hp]
          exact ⟨y, y', hy, hy', hk.trans hk'.symm, fun _ => ⟨l1.wr.mono sub, l2.wr⟩, fun e => absurd e (by omega), fun e => absurd e (by omega)⟩
    | @nil _ _ _ _ h1' =>
      dsimp only at he
      obtain ⟨s', rfl⟩ := ht'
      exact absurd (List.cons.inj he).1 (by decide)
    | @dot _ _ _ _ ra' V1' h1' hgo' t1' =>
      dsimp only at he
      obtain ⟨s, rfl⟩ := ht
      have hu : ra.1 ++ (q.1 ++ 41 :: s) = 46 :: 32 :: (ra'.1 ++ t') := by
        have := (List.cons.inj he).2
        simpa using this
      exact absurd hu ((t1.head hs (hf.same hc hm) (hG _ _ hy _ (field_1 hk).1) (t2.tailE rfl s)).2 _)
  | @nil f k x V h1 =>
    intro f' x' V' r' W' Z h' eV eV' hf hf' ha gx gx' t t' ht ht' he
    subst eV; subst eV'
    simp only [Bool.false_eq_true, if_false] at ht ht'
    cases h' with
    | @goes _ _ _ _ c' y' ra' V1' q' V2' hr' hc' hy' hk' hm' t1' t2' =>
      dsimp only at he
      obtain ⟨s, rfl⟩ := ht
      exact absurd (List.cons.inj he).1 (by decide)
    | @nil _ _ _ _ h1' =>
      dsimp only at he
      exact ⟨[], rfl, rfl, rfl, he, rfl, ha, .inl ⟨by unfold refN; rw [if_neg (by omega)], by unfold refN; rw [if_neg (by omega)], word_eq gx.rng gx'.rng (by omega) (by omega) (by rw [no_number (by omega) (by omega), no_number (by omega) (by omega)])⟩, fun p hp => (by cases hp)⟩
    | @dot _ _ _ _ ra' V1' h1' hgo' t1' =>
      dsimp only at he
      obtain ⟨s, rfl⟩ := ht
      exact absurd (List.cons.inj he).1 (by decide)
  | @dot f k x V ra V1 h1 hgo t1 ih1 =>
    intro f' x' V' r' W' Z h' eV eV' hf hf' ha gx gx' t t' ht ht' he
    subst eV; subst eV'
    simp only [Bool.false_eq_true, if_false] at ht ht'
    cases h' with
    | @goes _ _ _ _ c' y' ra' V1' q' V2' hr' hc' hy' hk' hm' t1' t2' =>
      dsimp only at he
      obtain ⟨s', rfl⟩ := ht'
      have hu : 46 :: 32 :: (ra.1 ++ t) = ra'.1 ++ (q'.1 ++ 41 :: s') := by
        have := (List.cons.inj he).2
        simpa using this
      exact absurd hu.symm ((t1'.head hs (hf'.same hc' hm') (hG' _ _ hy' _ (field_1 hk').1) (t2'.tailE rfl s')).2 _)
    | @nil _ _ _ _ h1' =>
      dsimp only at he
      obtain ⟨s', rfl⟩ := ht'
      exact absurd (List.cons.inj he).1 (by decide)
    | @dot _ _ _ _ ra' V1' h1' hgo' t1' =>
      dsimp only at he
      obtain ⟨s, rfl⟩ := ht
      obtain ⟨s', rfl⟩ := ht'
      have hu : ra.1 ++ 41 :: s = ra'.1 ++ 41 :: s' := (List.cons.inj (List.cons.inj (List.cons.inj he).2).2).2
      obtain ⟨Z1, l1⟩ := ih1 Z t1' rfl rfl hf hf' ha gx gx' (41 :: s) (41 :: s') (.inr ⟨s, .inr rfl⟩) (.inr ⟨s', .inr rfl⟩) hu
      exact ⟨Z1, l1.w1, l1.w2, by dsimp only; rw [l1.tx], l1.ts, l1.kk, l1.ag, l1.wr, l1.cr⟩
end Go.Proofs.YtejmoopgfnjaaaaDoor
