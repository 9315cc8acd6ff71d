/- Names that a form uses: unlike, no primitives, no keywords; under them all nothing is used. -/
import Derived.Test.YtkgnigloboajcabGreatDoorOfFrm
import Derived.Test.YtkgnigloboajcabGreatDoorRKey
namespace Go.Proofs.YtkgnigloboajcabGreatDoor

/-! What is told already stays. -/
theorem addU_pre (B : List UInt8 → Int) (s : List UInt8) (out : List (List UInt8)) : ∃ l, addU B s out = out ++ l := by
  unfold addU
  split
  · exact ⟨_, rfl⟩
  · exact ⟨[], by simp⟩
theorem useF_pre : ∀ (g : Fm) (B B' : List UInt8 → Int) (n : Nat) (out : List (List UInt8)), ∃ l, useF B B' n g out = out ++ l
  | .nil, _, _, _, out => ⟨[], by simp [useF]⟩
  | .cons k t ns ks _ _ _ _ _ r, B, B', n, out => by
    simp only [useF]
    obtain ⟨l0, h0⟩ : ∃ l, (if hasTextB k then addU (if n = 0 then B' else B) t out else out) = out ++ l := by
      split
      · exact addU_pre _ _ _
      · exact ⟨[], by simp⟩
    rw [h0]
    obtain ⟨l1, h1⟩ := useF_pre ks (if n = 0 then B' else B) (bindU (if n = 0 then B' else B) ns 1) (if k = 8 then ns.length else 0) (out ++ l0)
    rw [h1]
    obtain ⟨l2, h2⟩ := useF_pre r B B' (n - 1) (out ++ l0 ++ l1)
    exact ⟨l0 ++ l1 ++ l2, by rw [h2]; simp⟩
/-! Names are unlike. -/
theorem addU_nodup {B : List UInt8 → Int} {s : List UInt8} {out : List (List UInt8)} (h : out.Nodup) : (addU B s out).Nodup := by
  unfold addU
  split
  · rename_i hc
    simp only [Bool.and_eq_true, Bool.not_eq_true', decide_eq_false_iff_not] at hc
    rw [List.nodup_append]
    exact ⟨h, by simp, fun a ha b hb => by simp at hb; subst hb; rintro rfl; exact hc.2 ha⟩
  · exact h
theorem useF_nodup : ∀ (g : Fm) (B B' : List UInt8 → Int) (n : Nat) (out : List (List UInt8)), out.Nodup → (useF B B' n g out).Nodup
  | .nil, _, _, _, out, h => h
  | .cons k t ns ks _ _ _ _ _ r, B, B', n, out, h => by
    simp only [useF]
    refine useF_nodup r B B' (n - 1) _ (useF_nodup ks _ _ _ _ ?_)
    split
    · exact addU_nodup h
    · exact h
/-! A term's names may be. -/
def nmOk (s : List UInt8) : Prop := primOf s = none ∧ nameB s = true ∧ s.length ≤ 281474976710656
theorem termE_named {f : Frm} {inn : Bool} (h : termE f inn = 0) : namedB f = true := by
  unfold termE at h
  by_cases h1 : (!shapedB f || (inn && f.kind == 5)) = true
  · rw [if_pos h1] at h; exact absurd h (by decide)
  · rw [if_neg h1] at h
    cases h2 : namedB f with
    | true => rfl
    | false => rw [h2] at h; exact absurd h (by simp)
theorem named_text {f : Frm} (h : namedB f = true) (hk : hasTextB f.kind = true) : nameB f.text = true := by
  unfold namedB at h
  by_cases h2 : f.kind = 2
  · rwa [if_pos h2] at h
  rw [if_neg h2] at h
  have h5 : f.kind = 5 ∨ f.kind = 6 := by
    simp only [hasTextB, Bool.or_eq_true, beq_iff_eq] at hk
    omega
  rw [if_pos h5] at h
  simp only [varB, Bool.and_eq_true] at h
  exact h.2
theorem addU_ok {B : List UInt8 → Int} {s : List UInt8} {out : List (List UInt8)} (ho : ∀ x ∈ out, nmOk x) (hs : (primOf s).isNone = true → nmOk s) : ∀ x ∈ addU B s out, nmOk x := by
  unfold addU
  split
  · rename_i hc
    simp only [Bool.and_eq_true] at hc
    intro x hx
    rcases List.mem_append.1 hx with h | h
    · exact ho x h
    · simp at h; subst h; exact hs hc.1.1
  · exact ho
theorem terms_cons {inn : Bool} {k : Int} {t : List UInt8} {ns : List (List UInt8)} {ks : Fm} {dk dn : Int} {dt : List UInt8} {ds : Fo} {dd : Bool} {r : Fm} (h : termsE inn (.cons k t ns ks dk dn dt ds dd r) = 0) :
    termE ⟨k, t, ns, ks, ⟨dk, dn, dt, ds, dd⟩⟩ inn = 0 ∧ termsE true ks = 0 ∧ termsE inn r = 0 := by
  simp only [termsE] at h
  by_cases h1 : termE ⟨k, t, ns, ks, ⟨dk, dn, dt, ds, dd⟩⟩ inn = 0
  · rw [if_neg (by simpa using h1)] at h
    by_cases h2 : termsE true ks = 0
    · rw [if_neg (by simpa using h2)] at h
      exact ⟨h1, h2, h⟩
    · rw [if_pos (by simpa using h2)] at h; exact absurd h h2
  · rw [if_pos (by simpa using h1)] at h; exact absurd h h1
theorem useF_ok : ∀ (g : Fm) (B B' : List UInt8 → Int) (n : Nat) (out : List (List UInt8)) (inn : Bool), termsE inn g = 0 → g.oks → (∀ x ∈ out, nmOk x) → ∀ x ∈ useF B B' n g out, nmOk x
  | .nil, _, _, _, out, _, _, _, h => h
  | .cons k t ns ks dk dn dt ds dd r, B, B', n, out, inn, hT, hO, h => by
    obtain ⟨h1, h2, h3⟩ := terms_cons hT
    simp only [useF]
    refine useF_ok r B B' (n - 1) _ inn h3 hO.2.2 (useF_ok ks _ _ _ _ true h2 hO.2.1 ?_)
    split
    · rename_i hk
      refine addU_ok h fun hp => ⟨by simpa using hp, named_text (termE_named h1) hk, hO.1.t⟩
    · exact h
/-! Under names that are all bound nothing is used. -/
def addE (B E : List UInt8 → Int) : List UInt8 → Int := fun s => B s + E s
theorem bindU_addE (B E : List UInt8 → Int) (ns : List (List UInt8)) : bindU (addE B E) ns 1 = addE (bindU B ns 1) E := by
  funext s
  simp only [bindU, addE]
  omega
theorem bindU_pos {B : List UInt8 → Int} (h : ∀ s, 0 ≤ B s) (ns : List (List UInt8)) : ∀ s, 0 ≤ bindU B ns 1 s := fun s => by
  have := h s
  simp only [bindU]
  omega
theorem addU_none {B E : List UInt8 → Int} {s : List UInt8} {out out' : List (List UInt8)} (hB : ∀ s, 0 ≤ B s) (hE : ∀ s, 0 ≤ E s) (h : ∀ x ∈ addU B s out, 0 < E x) : addU (addE B E) s out' = out' := by
  unfold addU
  split
  · rename_i hc
    exfalso
    simp only [Bool.and_eq_true, beq_iff_eq, addE] at hc
    obtain ⟨⟨hp, h0⟩, _⟩ := hc
    have b := hB s
    have e := hE s
    have hb : B s = 0 := by omega
    have he : E s = 0 := by omega
    have hm : s ∈ addU B s out := by
      unfold addU
      by_cases hs : s ∈ out
      · rw [if_neg (by simp [hs])]; exact hs
      · rw [if_pos (by simp only [hp, hb, hs]; decide)]; simp
    have := h s hm
    omega
  · rfl
theorem useF_none : ∀ (g : Fm) (B B' E : List UInt8 → Int) (n : Nat) (out out' : List (List UInt8)), (∀ s, 0 ≤ B s) → (∀ s, 0 ≤ B' s) → (∀ s, 0 ≤ E s) → (∀ x ∈ useF B B' n g out, 0 < E x) → useF (addE B E) (addE B' E) n g out' = out'
  | .nil, _, _, _, _, _, _, _, _, _, _ => rfl
  | .cons k t ns ks _ _ _ _ _ r, B, B', E, n, out, out', hB, hB', hE, h => by
    simp only [useF] at h ⊢
    obtain ⟨C, hC⟩ : ∃ C, (if n = 0 then B' else B) = C := ⟨_, rfl⟩
    have hCE : (if n = 0 then addE B' E else addE B E) = addE C E := by rw [← hC]; split <;> rfl
    have hCp : ∀ s, 0 ≤ C s := by rw [← hC]; split <;> assumption
    rw [hC] at h
    rw [hCE, bindU_addE]
    obtain ⟨l2, e2⟩ := useF_pre r B B' (n - 1) (useF C (bindU C ns 1) (if k = 8 then ns.length else 0) ks (if hasTextB k then addU C t out else out))
    obtain ⟨l1, e1⟩ := useF_pre ks C (bindU C ns 1) (if k = 8 then ns.length else 0) (if hasTextB k then addU C t out else out)
    have h1 : ∀ x ∈ useF C (bindU C ns 1) (if k = 8 then ns.length else 0) ks (if hasTextB k then addU C t out else out), 0 < E x := fun x hx => h x (by rw [e2]; exact List.mem_append_left _ hx)
    have h0 : ∀ x ∈ (if hasTextB k then addU C t out else out), 0 < E x := fun x hx => h1 x (by rw [e1]; exact List.mem_append_left _ hx)
    have e3 : (if hasTextB k then addU (addE C E) t out' else out') = out' := by
      split
      · rename_i hk
        rw [if_pos hk] at h0
        exact addU_none hCp hE h0
      · rfl
    rw [e3, useF_none ks C (bindU C ns 1) E _ _ _ hCp (bindU_pos hCp ns) hE h1, useF_none r B B' E _ _ _ hB hB' hE h]
/-! How many names. -/
def Fm.fc : Fm → Nat
  | .nil => 0
  | .cons _ _ _ ks _ _ _ _ _ r => 1 + ks.fc + r.fc
theorem useF_fc : ∀ (g : Fm) (B B' : List UInt8 → Int) (n : Nat) (out : List (List UInt8)), (useF B B' n g out).length ≤ out.length + g.fc
  | .nil, _, _, _, _ => Nat.le_refl _
  | .cons k t ns ks _ _ _ _ _ r, B, B', n, out => by
    simp only [useF, Fm.fc]
    have h1 := useF_fc r B B' (n - 1) (useF (if n = 0 then B' else B) (bindU (if n = 0 then B' else B) ns 1) (if k = 8 then ns.length else 0) ks (if hasTextB k then addU (if n = 0 then B' else B) t out else out))
    have h2 := useF_fc ks (if n = 0 then B' else B) (bindU (if n = 0 then B' else B) ns 1) (if k = 8 then ns.length else 0) (if hasTextB k then addU (if n = 0 then B' else B) t out else out)
    have h3 : (if hasTextB k then addU (if n = 0 then B' else B) t out else out).length ≤ out.length + 1 := by
      split
      · exact addU_len _ _ _
      · omega
    omega
/-! The law. -/
def lamOf (f : Frm) : Frm := ⟨4, [], usesM f, f.fm .nil, dt0⟩
theorem uses_eq {f : Frm} (h : (backM f).2 = 0) : usesM f = useF (fun _ => 0) (fun _ => 0) 0 (f.fm .nil) [] := by
  unfold usesM
  rw [if_neg (by simpa using h)]
  exact (useF_cons (fun _ => 0) f.kind f.text f.names f.kids f.dat.k f.dat.n f.dat.t f.dat.s f.dat.d .nil []).symm
theorem twice_false : ∀ (l p : List (List UInt8)), (p ++ l).Nodup → twiceB p l = false
  | [], _, _ => rfl
  | s :: r, p, h => by
    have h2 := (List.nodup_append.1 h).2.2
    have hs : s ∉ p := fun hm => h2 s hm s (by simp) rfl
    simp only [twiceB, hs, decide_false, Bool.false_or]
    exact twice_false r (p ++ [s]) (by simpa using h)
theorem uses_ok {f : Frm} (h : (backM f).2 = 0) (hF : FOk f) (hO : f.kids.oks) : ∀ x ∈ usesM f, nmOk x := by
  rw [uses_eq h]
  exact useF_ok (f.fm .nil) _ _ 0 [] false (backM_ok h) ⟨hF, hO, trivial⟩ (fun x hx => by cases hx)
theorem uses_nodup (f : Frm) : (usesM f).Nodup := by
  unfold usesM
  split
  · simp
  · unfold use1
    refine useF_nodup _ _ _ _ _ ?_
    split
    · exact addU_nodup (by simp)
    · simp
theorem nmOk_key {s : List UInt8} (h : nmOk s) : kwB s = false := by
  have h1 := h.2.1
  simp only [nameB, Bool.and_eq_true, Option.isNone_iff_eq_none] at h1
  rw [← kw_is, h1.1]
  rfl
theorem uses_def {f : Frm} (h : (backM f).2 = 0) (hk : f.kind = 5) : ∃ l, usesM f = f.text :: l := by
  have ht := (terms_cons (backM_ok h)).1
  have hn := termE_named ht
  unfold usesM
  rw [if_neg (by simpa using h)]
  unfold use1
  rw [if_pos (by rw [hk]; decide)]
  have e : addU (fun _ => 0) f.text [] = [f.text] := by
    unfold addU
    rw [if_pos]
    · rfl
    · have hv : varB f.text = true := by
        have : (if f.kind = 2 then nameB f.text else if f.kind = 5 ∨ f.kind = 6 then varB f.text else f.names.all varB) = true := hn
        rwa [if_neg (by omega), if_pos (.inl hk)] at this
      simp only [varB, Bool.and_eq_true] at hv
      simp [hv.1]
  rw [e]
  obtain ⟨l, hl⟩ := useF_pre f.kids (fun _ => 0) (bindU (fun _ => 0) f.names 1) (valsN f) [f.text]
  exact ⟨l, hl⟩
theorem terms_in {f : Frm} (h : termsE false (f.fm .nil) = 0) (hk : f.kind ≠ 5) : termsE true (f.fm .nil) = 0 := by
  obtain ⟨h1, h2, _⟩ := terms_cons h
  have e : termE f true = termE f false := by
    have hk' : (f.kind == 5) = false := by simpa using hk
    simp [termE, hk']
  have e1 : termE ⟨f.kind, f.text, f.names, f.kids, ⟨f.dat.k, f.dat.n, f.dat.t, f.dat.s, f.dat.d⟩⟩ true = 0 := e.trans h1
  show termsE true (.cons _ _ _ _ _ _ _ _ _ .nil) = 0
  simp only [termsE, e1, h2]
  rfl
theorem lam_terms {f : Frm} (h : (backM f).2 = 0) (hk : f.kind ≠ 5) (hF : FOk f) (hO : f.kids.oks) : termsE false ((lamOf f).fm .nil) = 0 := by
  have hn : ∀ x ∈ usesM f, nmOk x := uses_ok h hF hO
  have e1 : termE (lamOf f) false = 0 := by
    have hs : shapedB (lamOf f) = true := by
      unfold shapedB
      rw [if_neg (by show ¬ ((4 : Int) < 1 ∨ 15 < (4 : Int)); omega)]
      have a1 : takesB (lamOf f).kind.toNat ((lamOf f).kids.len - valsN (lamOf f)) = true := by
        show takesB 4 (((f.fm .nil).len : Int) - ((0 : Nat) : Int)) = true
        rw [Frm.len1]
        decide
      have a2 : datFitB (lamOf f) = true := by
        show datFitB ⟨4, [], usesM f, f.fm .nil, dt0⟩ = true
        unfold datFitB
        rw [if_neg (by show ¬ (4 : Int) = 1; omega)]
        show sameB 0 0 [] .nil false 0 0 [] .nil false = true
        decide
      have a3 : callFitB (lamOf f) = true := by
        unfold callFitB
        rw [if_neg (by show ¬ ((4 : Int) = 10 ∧ _); omega)]
      rw [a1, a2, a3]
      simp [lamOf, hasNamesB]
    have hm : namedB (lamOf f) = true := by
      show (if (4 : Int) = 2 then _ else if (4 : Int) = 5 ∨ (4 : Int) = 6 then _ else (usesM f).all varB) = true
      rw [if_neg (by omega), if_neg (by omega), List.all_eq_true]
      intro x hx
      obtain ⟨p1, p2, _⟩ := hn x hx
      simp [varB, p1, p2]
    have ht : twiceB [] (lamOf f).names = false := twice_false (usesM f) [] (by simpa using uses_nodup f)
    simp [termE, hs, hm, ht]
  have e2 : termsE true (f.fm .nil) = 0 := terms_in (backM_ok h) hk
  have e1' : termE ⟨4, [], usesM f, f.fm .nil, ⟨dt0.k, dt0.n, dt0.t, dt0.s, dt0.d⟩⟩ false = 0 := e1
  show termsE false (.cons 4 [] (usesM f) (f.fm .nil) dt0.k dt0.n dt0.t dt0.s dt0.d .nil) = 0
  simp only [termsE, e1', e2]
  rfl
theorem lam_back {f : Frm} (h : (backM f).2 = 0) (hk : f.kind ≠ 5) (hF : FOk f) (hO : f.kids.oks) : (backM (lamOf f)).2 = 0 ∨ (backM (lamOf f)).2 = 70 := by
  unfold backM
  rw [if_neg (by simpa using lam_terms h hk hF hO)]
  split
  · exact .inl rfl
  · exact .inr rfl
theorem lam_uses {f : Frm} (h : (backM f).2 = 0) (hl : (backM (lamOf f)).2 = 0) : usesM (lamOf f) = [] := by
  have hu := uses_eq h
  obtain ⟨n, hn⟩ : ∃ n, usesM f = n := ⟨_, rfl⟩
  have e : usesM (lamOf f) = useF (fun _ => 0) (bindU (fun _ => 0) n 1) 0 (f.fm .nil) [] := by
    unfold usesM
    rw [if_neg (by simpa using hl), ← hn]
    rfl
  rw [e, useF_zero]
  have e2 : bindU (fun _ => 0) n 1 = addE (fun _ => 0) (fun s => (n.count s : Int)) := by
    funext s
    simp only [bindU, addE]
    omega
  rw [e2]
  refine useF_none (f.fm .nil) (fun _ => 0) (fun _ => 0) _ 0 [] [] (fun _ => Int.le_refl _) (fun _ => Int.le_refl _) (fun s => by show 0 ≤ (n.count s : Int); omega) fun x hx => ?_
  rw [← hu, hn] at hx
  show 0 < (n.count x : Int)
  have := List.count_pos_iff.2 hx
  omega
theorem wt_am : ∀ g : Fm, g.wt + 2 * g.fc ≤ 3 * g.am
  | .nil => Nat.le_refl _
  | .cons _ t ns ks _ _ dt ds _ r => by
    have h1 := wt_am ks
    have h2 := wt_am r
    have hl := txsAm_len ns
    have hs := Fo.am_size ds
    simp only [Fm.wt, Fm.fc, Fm.am]
    omega
theorem fc_am : ∀ g : Fm, 2 * g.fc ≤ g.am
  | .nil => Nat.le_refl _
  | .cons _ t ns ks _ _ dt ds _ r => by
    have h1 := fc_am ks
    have h2 := fc_am r
    simp only [Fm.fc, Fm.am]
    omega
theorem lam_ok {f : Frm} {n : Nat} (h : (backM f).2 = 0) (ha : f.am ≤ n) (hn : n ≤ 200000) : FOk (lamOf f) ∧ (lamOf f).kids.oks ∧ ((lamOf f).fm .nil).wt ≤ 900000 ∧ (usesM f).length ≤ 200000 := by
  obtain ⟨h1, h2, _⟩ := Frm.am_ok ha hn
  have e : (f.fm .nil).am = f.am := by
    show 1 + f.text.length + (1 + f.dat.t.length + f.dat.s.am) + txsAm f.names + f.kids.am + 0 = 1 + f.text.length + (1 + f.dat.t.length + f.dat.s.am) + txsAm f.names + f.kids.am
    omega
  have hw := wt_am (f.fm .nil)
  have hu : (usesM f).length ≤ (f.fm .nil).fc := by
    rw [uses_eq h]
    have := useF_fc (f.fm .nil) (fun _ => 0) (fun _ => 0) 0 []
    simpa using this
  have hfc : 2 * (f.fm .nil).fc ≤ (f.fm .nil).am := fc_am _
  refine ⟨⟨by show 0 ≤ 281474976710656; omega, by show (usesM f).length ≤ 1000000; omega, fun s hs => (uses_ok h h1 h2 s hs).2.2, by show 1 ≤ 1000000; omega, ⟨by show 0 ≤ 1000000; omega, by show 0 ≤ 281474976710656; omega, trivial⟩⟩, ⟨h1, h2, trivial⟩, ?_, by omega⟩
  show 4 + 2 * (usesM f).length + (f.fm .nil).wt + 0 + 0 ≤ 900000
  omega
end Go.Proofs.YtkgnigloboajcabGreatDoor
