/- One text just for what looks the same. Plain mathematics.; How many labels a text gives, and how many it comes back to. Plain mathematics. -/
import Derived.Test.YtejmoopgfnjaaaaDoorK25
/- One text just for what looks the same. Plain mathematics. -/
namespace Go.Proofs.YtejmoopgfnjaaaaDoor
open Go.RowKit Go.Maps Go.ChangeMaps

theorem Td.nd {X : List Cl} {N : List (List UInt8)} {m : Bool} {f : Nat → Lab} {k : Nat} {x : Int} {V : List Nat} {r : Res} {V' : List Nat} (h : Td X N m f k x V r V') : V.Nodup → V'.Nodup := by
  induction h with
  | plain _ => exact id
  | back _ _ _ _ => exact id
  | pair _ hc _ _ _ _ ih1 ih2 => exact fun hf => ih2 (ih1 (List.nodup_cons.2 ⟨hc, hf⟩))
  | box _ hc _ _ _ ih1 => exact fun hf => ih1 (List.nodup_cons.2 ⟨hc, hf⟩)
  | proc _ hc _ _ _ ih1 => exact fun hf => ih1 (List.nodup_cons.2 ⟨hc, hf⟩)
  | goes _ hc _ _ h1 _ _ ih1 ih2 => exact fun hf => ih2 (ih1 (List.nodup_cons.2 ⟨hc, hf⟩))
  | nil _ => exact id
  | dot _ _ _ ih => exact ih
/-- The other one of a pair. -/
def asc : List (Nat × Nat) → Nat → Nat
  | [], _ => 0
  | p :: Z, c => if p.1 = c then p.2 else asc Z c
theorem asc_mem : ∀ {Z : List (Nat × Nat)}, (Z.map Prod.fst).Nodup → ∀ {c c' : Nat}, (c, c') ∈ Z → asc Z c = c'
  | p :: Z, hn, c, c', hm => by
    rw [List.map_cons, List.nodup_cons] at hn
    unfold asc
    rcases List.mem_cons.1 hm with rfl | hm
    · rw [if_pos rfl]
    · rw [if_neg (fun e => hn.1 (by rw [e]; exact List.mem_map.2 ⟨(c, c'), hm, rfl⟩))]
      exact asc_mem hn.2 hm
theorem snd_inj : ∀ {Z : List (Nat × Nat)}, (Z.map Prod.snd).Nodup → ∀ {c d a : Nat}, (c, a) ∈ Z → (d, a) ∈ Z → c = d
  | p :: Z, hn, c, d, a, h1, h2 => by
    rw [List.map_cons, List.nodup_cons] at hn
    rcases List.mem_cons.1 h1 with e1 | g1
    · rcases List.mem_cons.1 h2 with e2 | g2
      · exact (Prod.mk.inj (e1.trans e2.symm)).1
      · exact absurd (by rw [← e1]; exact List.mem_map.2 ⟨(d, a), g2, rfl⟩) hn.1
    · rcases List.mem_cons.1 h2 with e2 | g2
      · exact absurd (by rw [← e2]; exact List.mem_map.2 ⟨(c, a), g1, rfl⟩) hn.1
      · exact snd_inj hn.2 g1 g2
theorem ref_none {x : Int} (h : ¬ ofT x = 8) : refN x = none := by unfold refN; rw [if_neg h]
theorem Wr.mv {Z : List (Nat × Nat)} (hn : (Z.map Prod.fst).Nodup) {x x' : Int} (h : Wr Z x x') : Mv (asc Z) x x' ∧ ∀ d, refN x = some d → ∃ d', (d, d') ∈ Z := by
  rcases h with ⟨h1, h2, h3⟩ | ⟨c, c', h1, h2, h3⟩
  · refine ⟨⟨by rw [h1, h2]; rfl, fun _ => h3.symm⟩, fun d hd => by rw [h1] at hd; cases hd⟩
  · refine ⟨⟨by rw [h1, h2, Option.map_some, asc_mem hn h3], fun e => by rw [h1] at e; cases e⟩, fun d hd => ?_⟩
    rw [h1] at hd; cases hd
    exact ⟨c', h3⟩
theorem mv_same {σ : Nat → Nat} {x x' : Int} (h : refN x = none) (e : x = x') : Mv σ x x' := by
  subst e
  exact ⟨by rw [h]; rfl, fun _ => rfl⟩
theorem text_inj {X X' : List Cl} {F F' : Int} {N : List (List UInt8)} (hs : Seen X F) (hs' : Seen X' F') (hN : areNamesB N = true) (hm : (metW X F).any (nameless N.length) = false) (hm' : (metW X' F').any (nameless N.length) = false) (he : textM X N F = textM X' N F') : X = X' ∧ F = F' := by
  obtain ⟨r, V, e1, t1, _⟩ := hs.tells hN hm
  obtain ⟨r', V', e1', t1', _⟩ := hs'.tells hN hm'
  have hr : r.1 = r'.1 := by unfold textM at he; rw [e1, e1'] at he; exact he
  obtain ⟨Z, l⟩ := lock (met := cntM (metW X F)) (met' := cntM (metW X' F')) hN (fun c y hy z hz => hs.gd hm (mem_met (List.mem_of_getElem? hy) hz)) (fun c y hy z hz => hs'.gd hm' (mem_met (List.mem_of_getElem? hy) hz)) t1 [] t1' rfl rfl (fl_start X F) (fl_start X' F') (fun p hp => by cases hp) (hs.gd hm (List.mem_cons_self ..)) (hs'.gd hm' (List.mem_cons_self ..)) [] [] (.inl rfl) (.inl rfl) (by rw [hr])
  have w1 := l.w1
  have w2 := l.w2
  have wr := l.wr
  have cr := l.cr
  rw [List.append_nil] at w1 w2 wr cr
  have n1 : (Z.map Prod.fst).Nodup := by rw [← w1]; exact t1.nd List.nodup_nil
  have n2 : (Z.map Prod.snd).Nodup := by rw [← w2]; exact t1'.nd List.nodup_nil
  have hi : Iso X X' [F] [F'] (asc Z) (fun c => ∃ c', (c, c') ∈ Z) := by
    refine ⟨fun c d hc hd e => ?_, fun c hc => ?_, rfl, fun j x hx => ?_⟩
    · obtain ⟨c', h1⟩ := hc
      obtain ⟨d', h2⟩ := hd
      rw [asc_mem n1 h1, asc_mem n1 h2] at e
      subst e
      exact snd_inj n2 h1 h2
    · obtain ⟨c', h1⟩ := hc
      obtain ⟨y, y', h2, h3, h4, h5, h6, h7⟩ := cr _ h1
      rw [asc_mem n1 h1]
      refine ⟨y, y', h2, h3, h4.symm, fun _ => ?_⟩
      have my := List.mem_of_getElem? h2
      have my' := List.mem_of_getElem? h3
      rcases hs.kd y my with hk | hk | hk
      · have a := ((h5 hk).1).mv n1
        have b := ((h5 hk).2).mv n1
        exact ⟨⟨a.1, b.1⟩, a.2, b.2⟩
      · have a := (h6 hk).mv n1
        have e2 := hs.box y my hk
        have e3 := hs'.box y' my' (by omega)
        have hn1 : refN y.b = none := by rw [e2]; kernel_rfl
        exact ⟨⟨a.1, mv_same hn1 (by rw [e2, e3])⟩, a.2, fun d hd => by rw [hn1] at hd; cases hd⟩
      · have b := (h7 hk).2.mv n1
        have p1 := hs.proc y my hk
        have p2 := hs'.proc y' my' (by omega)
        have hn1 : refN y.a = none := ref_none (by omega)
        exact ⟨⟨mv_same hn1 (word_eq (hs.rng y my).1 (hs'.rng y' my').1 (by omega) (by omega) (h7 hk).1), b.1⟩, fun d hd => (by rw [hn1] at hd; cases hd), b.2⟩
    · match j, hx with
      | 0, hx =>
        cases hx
        have a := wr.mv n1
        exact ⟨F', rfl, a.1, a.2⟩
      | j + 1, hx => simp at hx
  have hw := hi.walk hs.heap hs'.heap
  have e2 : fH X' [F'] = fH X [F] := hi.form hw
  have e3 : fR X' [F'] = fR X [F] := hi.rootsF hw
  rw [hs.form, hs'.form] at e2
  rw [hs.root, hs'.root] at e3
  exact ⟨e2.symm, by simpa using e3.symm⟩
/-- One text just if they look the same. -/
theorem one_text {h g : List Cl} {x y : Int} {N : List (List UInt8)} (hl : h.length ≤ 1000000) (gl : g.length ≤ 1000000) (hk : ∀ z ∈ h, OkK z) (gk : ∀ z ∈ g, OkK z) (hx : Rng x) (hy : Rng y) (h1 : okS h N x = true) (h2 : okS g N y = true) : alikeB h x g y = decide (showT h N x = showT g N y) := by
  unfold okS at h1 h2
  rw [Bool.and_eq_true, Bool.and_eq_true] at h1 h2
  have s1 := seen_of h1.1 hl hk hx
  have s2 := seen_of h2.1 gl gk hy
  have m1 : (metW (fH (bareM h) [x]) (fromM h x)).any (nameless N.length) = false := by simpa using h1.2.2
  have m2 : (metW (fH (bareM g) [y]) (fromM g y)).any (nameless N.length) = false := by simpa using h2.2.2
  unfold alikeB showT
  by_cases ht : textM (fH (bareM h) [x]) N (fromM h x) = textM (fH (bareM g) [y]) N (fromM g y)
  · obtain ⟨e1, e2⟩ := text_inj s1 s2 h1.2.1 m1 m2 ht
    rw [e1, e2]; simp
  · rw [decide_eq_false ht]
    rw [Bool.and_eq_false_iff]
    by_cases e1 : fromM h x = fromM g y
    · refine .inr (decide_eq_false fun e2 => ht ?_)
      rw [e1, e2]
    · exact .inl (decide_eq_false e1)
theorem alike_self (h : List Cl) (x : Int) : alikeB h x h x = true := by unfold alikeB; simp
theorem alike_comm (h g : List Cl) (x y : Int) : alikeB g y h x = alikeB h x g y := by
  unfold alikeB
  congr 1
  · exact decide_eq_decide.2 eq_comm
  · exact decide_eq_decide.2 eq_comm
end Go.Proofs.YtejmoopgfnjaaaaDoor

/- How many labels a text gives, and how many it comes back to. Plain mathematics. -/
namespace Go.Proofs.YtejmoopgfnjaaaaDoor
open Go.RowKit Go.Maps Go.ChangeMaps

/-- A sign of a text: 1 behind a hash, 2 behind a hash and digits, 3 behind other digits, 0 else; labels given, labels come back to. -/
def lstep (s : Nat) (b : UInt8) : Nat × Nat × Nat :=
  if isD b = true then ((if s = 1 ∨ s = 2 then 2 else 3), 0, 0) else if b = 35 then (1, 0, if s = 2 then 1 else 0) else if b = 61 then (0, (if s = 2 then 1 else 0), 0) else (0, 0, 0)
def lrun : Nat → List UInt8 → Nat × Nat × Nat
  | s, [] => (s, 0, 0)
  | s, b :: r => ((lrun (lstep s b).1 r).1, (lstep s b).2.1 + (lrun (lstep s b).1 r).2.1, (lstep s b).2.2 + (lrun (lstep s b).1 r).2.2)
theorem lrun_cons (s : Nat) (b : UInt8) (r : List UInt8) : lrun s (b :: r) = ((lrun (lstep s b).1 r).1, (lstep s b).2.1 + (lrun (lstep s b).1 r).2.1, (lstep s b).2.2 + (lrun (lstep s b).1 r).2.2) := rfl
theorem lrun_app : ∀ (s : Nat) (a b : List UInt8), lrun s (a ++ b) = ((lrun (lrun s a).1 b).1, (lrun s a).2.1 + (lrun (lrun s a).1 b).2.1, (lrun s a).2.2 + (lrun (lrun s a).1 b).2.2)
  | s, [], b => by simp [lrun]
  | s, c :: a, b => by
    rw [List.cons_append, lrun_cons, lrun_cons, lrun_app (lstep s c).1 a b]
    simp only [Nat.add_assoc]
theorem lrun_dig : ∀ (d : List UInt8) (s : Nat), d.all isD = true → (s = 2 ∨ s = 3) → lrun s d = (s, 0, 0)
  | [], s, _, _ => rfl
  | b :: d, s, h, hs => by
    rw [List.all_cons, Bool.and_eq_true] at h
    have e : lstep s b = (s, 0, 0) := by
      unfold lstep
      rw [if_pos h.1]
      rcases hs with rfl | rfl <;> simp
    rw [lrun_cons, e]
    simp only
    rw [lrun_dig d s h.2 hs]
    simp
theorem lrun_digs (d : List UInt8) (s : Nat) (h : d.all isD = true) (hn : d ≠ []) : lrun s d = ((if s = 1 ∨ s = 2 then 2 else 3), 0, 0) := by
  cases d with
  | nil => exact absurd rfl hn
  | cons b d =>
    rw [List.all_cons, Bool.and_eq_true] at h
    have e : lstep s b = ((if s = 1 ∨ s = 2 then 2 else 3), 0, 0) := by unfold lstep; rw [if_pos h.1]
    rw [lrun_cons, e]
    simp only
    rw [lrun_dig d _ h.2 (by split <;> simp)]
    simp
theorem itoa_any (n : Int) : ∃ d : List UInt8, d.all isD = true ∧ d ≠ [] ∧ (Lib.itoa n = d ∨ Lib.itoa n = 45 :: d) := by
  unfold Lib.itoa
  split
  · exact ⟨_, (dec_spec n.natAbs).1, (dec_spec n.natAbs).2.1, .inr rfl⟩
  · exact ⟨_, (dec_spec n.toNat).1, (dec_spec n.toNat).2.1, .inl rfl⟩
theorem l45 (s : Nat) : lstep s 45 = (0, 0, 0) := by unfold lstep; rw [if_neg (by decide), if_neg (by decide), if_neg (by decide)]
/-- A number that stands behind no hash gives no label. -/
theorem lrun_num (n : Int) (s : Nat) (hs : s = 0 ∨ s = 3) : ∃ e, lrun s (Lib.itoa n) = (e, 0, 0) ∧ (e = 3 ∨ e = 0) := by
  obtain ⟨d, h1, h2, h3 | h3⟩ := itoa_any n
  · rw [h3, lrun_digs d s h1 h2]
    exact ⟨_, rfl, by rcases hs with rfl | rfl <;> simp⟩
  · rw [h3, lrun_cons, l45]
    simp only
    rw [lrun_digs d 0 h1 h2]
    exact ⟨_, rfl, by simp⟩
theorem lrun_lab (k : Nat) : lrun 0 (betw [35] k [61]) = (0, 1, 0) := by
  obtain ⟨h1, d, r, h2, _⟩ := itoa_dig k
  unfold betw
  rw [lrun_app]
  have e : lrun 0 [35] = (1, 0, 0) := by decide
  rw [e]
  simp only
  rw [lrun_app, lrun_digs _ 1 h1 (by rw [h2]; simp)]
  have e2 : lrun 2 [61] = (0, 1, 0) := by decide
  simp only [true_or, if_true]
  rw [e2]
  simp
theorem lrun_back (k : Nat) : lrun 0 (betw [35] k [35]) = (1, 0, 1) := by
  obtain ⟨h1, d, r, h2, _⟩ := itoa_dig k
  unfold betw
  rw [lrun_app]
  have e : lrun 0 [35] = (1, 0, 0) := by decide
  rw [e]
  simp only
  rw [lrun_app, lrun_digs _ 1 h1 (by rw [h2]; simp)]
  have e2 : lrun 2 [35] = (1, 0, 1) := by decide
  simp only [true_or, if_true]
  rw [e2]
  simp
theorem lrun_pre (f : Nat → Lab) (k c : Nat) : lrun 0 (preT f k c) = (0, preK f k c - k, 0) := by
  unfold preT preK
  split
  · simp [lrun]
  · rw [lrun_lab]; simp
theorem lrun_proc (n : Int) : lrun 0 (betw [35, 112, 114, 111, 99] n [40]) = (0, 0, 0) := by
  have e0 : lrun 0 [35, 112, 114, 111, 99] = (0, 0, 0) := by decide
  obtain ⟨en, hn, h | h⟩ := lrun_num n 0 (.inl rfl)
  all_goals
    unfold betw
    rw [lrun_app, e0]
    simp only
    rw [lrun_app, hn, h]
    decide
/-- A closing bracket, a blank: whatever stands ahead. -/
theorem l41 (s : Nat) : lstep s 41 = (0, 0, 0) := by unfold lstep; rw [if_neg (by decide), if_neg (by decide), if_neg (by decide)]
theorem l32 (s : Nat) : lstep s 32 = (0, 0, 0) := by unfold lstep; rw [if_neg (by decide), if_neg (by decide), if_neg (by decide)]
theorem l40 (s : Nat) : lstep s 40 = (0, 0, 0) := by unfold lstep; rw [if_neg (by decide), if_neg (by decide), if_neg (by decide)]
theorem lrun1 {s : Nat} {b : UInt8} (h : lstep s b = (0, 0, 0)) (r : List UInt8) : lrun s (b :: r) = lrun 0 r := by
  rw [lrun_cons, h]
  simp
def rf (x : Int) : Nat := if (refN x).isSome then 1 else 0
def rfs (X : List Cl) (i : Nat) : Nat := ((fieldsM (X.getD i zCl)).map rf).sum
/-- References of what has not been entered; how many of these have labels. -/
def restR (X : List Cl) (V : List Nat) : Nat := rsum (rfs X) V X.length
def lc (X : List Cl) (met : Nat → Nat) (V : List Nat) : Nat := rsum (fun c => if met c = 1 then 0 else 1) V X.length
theorem restR_enter {X : List Cl} {V : List Nat} {c : Nat} {y : Cl} (hc : c ∉ V) (hy : X[c]? = some y) : restR X V = restR X (c :: V) + ((fieldsM y).map rf).sum := by
  have hl := (List.getElem?_eq_some_iff.1 hy).1
  unfold restR
  rw [rsum_cons hc, if_pos hl]
  unfold rfs
  rw [List.getD_eq_getElem?_getD, hy]; rfl
theorem lc_enter {X : List Cl} {met : Nat → Nat} {V : List Nat} {c : Nat} {y : Cl} (hc : c ∉ V) (hy : X[c]? = some y) : lc X met V = lc X met (c :: V) + (if met c = 1 then 0 else 1) := by
  have hl := (List.getElem?_eq_some_iff.1 hy).1
  unfold lc
  rw [rsum_cons hc, if_pos hl]
theorem preK_met {met : Nat → Nat} {f : Nat → Lab} {k c : Nat} {V : List Nat} (hf : Fl met f k V) : preK f k c = k + (if met c = 1 then 0 else 1) := by
  have := hf.mt c
  unfold preK
  by_cases h : met c = 1
  · rw [if_pos h, if_pos (by omega)]; rfl
  · rw [if_neg h, if_neg (by omega)]
/-- What a text that is told says of labels. -/
structure Lb (X : List Cl) (met : Nat → Nat) (s : Nat) (k : Nat) (x : Int) (V : List Nat) (r : Res) (V' : List Nat) : Prop where
  run : ∃ e b, lrun s r.1 = (e, r.2.2 - k, b) ∧ b + un X V + restR X V' = rf x + restR X V + un X V'
  kk : r.2.2 + lc X met V' = k + lc X met V
  le : k ≤ r.2.2
theorem rf_none {x : Int} (h : refN x = none) : rf x = 0 := by unfold rf; rw [h]; rfl
theorem rf_some {x : Int} {c : Nat} (h : refN x = some c) : rf x = 1 := by unfold rf; rw [h]; rfl
theorem plain_lab {X : List Cl} {x : Int} (hg : Gd X [] x) (hr : refN x = none) : ∃ e, lrun 0 (plainT [] x) = (e, 0, 0) := by
  have h8 : ¬ ofT x = 8 := fun e => by unfold refN at hr; rw [if_pos e] at hr; cases hr
  have ht := hg.tag
  have h6 : ¬ ofT x = 6 := fun e => by
    have hn := hg.name
    have h0 := ofN_sym e
    unfold nameless at hn
    rw [e] at hn
    simp at hn
    omega
  obtain ⟨e0, n0, _⟩ := lrun_num (ofN x) 0 (.inl rfl)
  unfold plainT
  split
  · exact ⟨0, by decide⟩
  split
  · exact ⟨0, by decide⟩
  split
  · exact ⟨0, by decide⟩
  split
  · exact ⟨0, by decide⟩
  split
  · unfold betw; rw [List.nil_append, List.append_nil]; exact ⟨_, n0⟩
  split
  · unfold betw
    rw [List.append_nil, lrun_app]
    have e : lrun 0 [35, 112, 114, 105, 109] = (0, 0, 0) := by decide
    rw [e]
    simp only
    rw [n0]
    exact ⟨_, rfl⟩
  · exact ⟨0, rfl⟩
theorem Lb.of {X : List Cl} {met : Nat → Nat} {k : Nat} {x : Int} {V : List Nat} {r : Res} {V' : List Nat} {s e b : Nat} (h1 : lrun s r.1 = (e, r.2.2 - k, b)) (h2 : b + un X V + restR X V' = rf x + restR X V + un X V') (h3 : r.2.2 + lc X met V' = k + lc X met V) (h4 : k ≤ r.2.2) : Lb X met s k x V r V' := ⟨⟨e, b, h1, h2⟩, h3, h4⟩
/-- The labels of what is told. -/
theorem Td.labels {X : List Cl} {met : Nat → Nat} (hG : ∀ (c : Nat) (y : Cl), X[c]? = some y → ∀ z ∈ fieldsM y, Gd X [] z) {m : Bool} {f : Nat → Lab} {k : Nat} {x : Int} {V : List Nat} {r : Res} {V' : List Nat} (h : Td X [] m f k x V r V') : Fl met f k V → Gd X [] x → ∀ s, (if m = true then s = 0 else True) → Lb X met s k x V r V' := by
  induction h with
  | @plain f k x V hr =>
    intro _ hg s hs
    simp only [if_true] at hs
    subst hs
    obtain ⟨e, he⟩ := plain_lab hg hr
    exact .of (e := e) (b := 0) (by dsimp only; rw [he]; simp) (by rw [rf_none hr]; omega) rfl (Nat.le_refl _)
  | @back f k x V c hr hc hm hcm =>
    intro hf _ s hs
    simp only [if_true] at hs
    subst hs
    obtain ⟨j, hj, _⟩ := hf.num c hcm
    refine .of (e := 1) (b := 1) (by dsimp only; rw [hj, lrun_back]; simp) (by rw [rf_some hr]; omega) rfl (Nat.le_refl _)
  | @pair f k x V c y r V1 q V2 hr hc hy hk t1 t2 ih1 ih2 =>
    intro hf _ s hs
    simp only [if_true] at hs
    subst hs
    have hF := hf.enter hc
    obtain ⟨⟨e1, b1, a1, a2⟩, a3, a4⟩ := ih1 hF (hG _ _ hy _ (field_1 hk).1) 0 rfl
    obtain ⟨⟨e2, b2, c1, c2⟩, c3, c4⟩ := ih2 (t1.fl hF) (hG _ _ hy _ (field_1 hk).2) e1 trivial
    have hU := un_enter hc hy
    have hR := restR_enter hc hy
    have hL := lc_enter (met := met) hc hy
    have hK := preK_met (c := c) hf
    have hfl : fieldsM y = [y.a, y.b] := by unfold fieldsM; rw [if_pos hk]
    rw [hfl] at hR
    simp only [List.map_cons, List.map_nil, List.sum_cons, List.sum_nil] at hR
    refine .of (e := 0) (b := b1 + b2) ?_ (by rw [rf_some hr]; omega) (by dsimp only; omega) (by dsimp only; omega)
    dsimp only
    rw [lrun_app, lrun_pre]
    simp only
    rw [List.cons_append, List.nil_append, lrun1 (l40 0), lrun_app, a1]
    simp only
    rw [lrun_app, c1]
    simp only
    rw [lrun1 (l41 _)]
    simp only [lrun, Prod.mk.injEq, true_and]
    exact ⟨by omega, by omega⟩
  | @box f k x V c y r V1 hr hc hy hk t1 ih1 =>
    intro hf _ s hs
    simp only [if_true] at hs
    subst hs
    have hF := hf.enter hc
    obtain ⟨⟨e1, b1, a1, a2⟩, a3, a4⟩ := ih1 hF (hG _ _ hy _ (field_2 hk)) 0 rfl
    have hU := un_enter hc hy
    have hR := restR_enter hc hy
    have hL := lc_enter (met := met) hc hy
    have hK := preK_met (c := c) hf
    have hfl : fieldsM y = [y.a] := by unfold fieldsM; rw [if_neg (by omega), if_pos hk]
    rw [hfl] at hR
    simp only [List.map_cons, List.map_nil, List.sum_cons, List.sum_nil] at hR
    refine .of (e := 0) (b := b1) ?_ (by rw [rf_some hr]; omega) (by dsimp only; omega) (by dsimp only; omega)
    dsimp only
    rw [lrun_app, lrun_pre]
    simp only
    have e0 : lrun 0 [35, 98, 111, 120, 40] = (0, 0, 0) := by decide
    rw [lrun_app, e0]
    simp only
    rw [lrun_app, a1]
    simp only
    rw [lrun1 (l41 _)]
    simp only [lrun, Prod.mk.injEq, true_and]
    exact ⟨by omega, by omega⟩
  | @proc f k x V c y r V1 hr hc hy hk t1 ih1 =>
    intro hf _ s hs
    simp only [if_true] at hs
    subst hs
    have hF := hf.enter hc
    obtain ⟨⟨e1, b1, a1, a2⟩, a3, a4⟩ := ih1 hF (hG _ _ hy _ (field_3 hk)) 0 rfl
    have hU := un_enter hc hy
    have hR := restR_enter hc hy
    have hL := lc_enter (met := met) hc hy
    have hK := preK_met (c := c) hf
    have hfl : fieldsM y = [y.b] := by unfold fieldsM; rw [if_neg (by omega), if_neg (by omega)]
    rw [hfl] at hR
    simp only [List.map_cons, List.map_nil, List.sum_cons, List.sum_nil] at hR
    refine .of (e := 0) (b := b1) ?_ (by rw [rf_some hr]; omega) (by dsimp only; omega) (by dsimp only; omega)
    dsimp only
    rw [lrun_app, lrun_pre]
    simp only
    rw [lrun_app, lrun_proc]
    simp only
    rw [lrun_app, a1]
    simp only
    rw [lrun1 (l41 _)]
    simp only [lrun, Prod.mk.injEq, true_and]
    exact ⟨by omega, by omega⟩
  | @goes f k x V c y r V1 q V2 hr hc hy hk hm t1 t2 ih1 ih2 =>
    intro hf _ s _
    have hF := hf.same hc hm
    obtain ⟨⟨e1, b1, a1, a2⟩, a3, a4⟩ := ih1 hF (hG _ _ hy _ (field_1 hk).1) 0 rfl
    obtain ⟨⟨e2, b2, c1, c2⟩, c3, c4⟩ := ih2 (t1.fl hF) (hG _ _ hy _ (field_1 hk).2) e1 trivial
    have hU := un_enter hc hy
    have hR := restR_enter hc hy
    have hL := lc_enter (met := met) hc hy
    have hm1 : met c = 1 := by have := hf.mt c; omega
    rw [if_pos hm1] at hL
    have hfl : fieldsM y = [y.a, y.b] := by unfold fieldsM; rw [if_pos hk]
    rw [hfl] at hR
    simp only [List.map_cons, List.map_nil, List.sum_cons, List.sum_nil] at hR
    refine .of (e := e2) (b := b1 + b2) ?_ (by rw [rf_some hr]; omega) (by dsimp only; omega) (by dsimp only; omega)
    dsimp only
    rw [List.cons_append, List.nil_append, lrun1 (l32 s), lrun_app, a1]
    simp only
    rw [c1]
    simp only [Prod.mk.injEq, true_and, and_true]
    omega
  | @nil f k x V h1 =>
    intro _ _ s _
    exact .of (e := s) (b := 0) (by simp [lrun]) (by rw [rf_none (by unfold refN; rw [if_neg (by omega)])]; omega) rfl (Nat.le_refl _)
  | @dot f k x V r V1 h1 hgo t1 ih1 =>
    intro hf hg s _
    obtain ⟨⟨e1, b1, a1, a2⟩, a3, a4⟩ := ih1 hf hg 0 rfl
    refine .of (e := e1) (b := b1) ?_ a2 a3 a4
    dsimp only
    have l46 : lstep 0 46 = (0, 0, 0) := by decide
    rw [List.cons_append, lrun1 (l32 s), List.cons_append, lrun1 l46, List.cons_append, lrun1 (l32 0), List.nil_append, a1]
end Go.Proofs.YtejmoopgfnjaaaaDoor
