/- Ways through a procedure, and what is written down of them: plain mathematics.; The document's depths are the program's: plain mathematics. -/
import Derived.Test.YtpkohocjgnodnaaGreatDoorGAF
/- Ways through a procedure, and what is written down of them: plain mathematics. -/
namespace Go.Proofs.YtpkohocjgnodnaaGreatDoor

/-- The places behind an instruction. -/
def Next (p : Nat) (x : Ins) (q : Nat) : Prop := ((x.op = 8 ∨ x.op = 9) ∧ q = x.a.toNat) ∨ (endsB x.op = false ∧ q = p + 1)
/-- A way comes to a place with a depth. -/
inductive Way (code : List Ins) : Nat → Int → Prop
  | zero : Way code 0 0
  | step (p q : Nat) (d : Int) (x : Ins) : Way code p d → code[p]? = some x → Next p x q → Way code q (d - takesN x + putsN x)
/-- A depth is written down at a place. -/
def Rec (a : Ar) (d : Int) : Prop := (1 ≤ a.c ∧ a.d0 = d) ∨ (2 ≤ a.c ∧ a.d1 = d)
def Known (m : Sm) (p : Nat) (d : Int) : Prop := ∃ a, m.met[p]? = some a ∧ (Rec a d ∨ 2 ≤ a.c)
theorem come_known {n : Nat} {m : Sm} (h : Okm n m) {p : Nat} (d : Int) (hp : p < n) : Known (comeM m p d) p d := by
  have hlt : p < m.met.length := by rw [h.len]; exact hp
  have hc := h.c _ (List.getElem_mem hlt)
  unfold comeM
  rw [List.getElem?_eq_getElem hlt]
  dsimp only
  split
  · rename_i hn
    refine ⟨putAr m.met[p] d, by simp [List.getElem?_set_self hlt], .inl ?_⟩
    rcases isNew_c hn with h0 | h0
    · refine .inl ?_; unfold putAr; rw [if_pos h0]; exact ⟨by simp, rfl⟩
    · refine .inr ?_; unfold putAr; rw [if_neg (by omega)]; exact ⟨by show 2 ≤ _ + 1; omega, rfl⟩
  · rename_i hn
    refine ⟨m.met[p], List.getElem?_eq_getElem hlt, ?_⟩
    unfold isNewB at hn
    simp only [Bool.or_eq_true, Bool.and_eq_true, beq_iff_eq, bne_iff_ne, ne_eq, not_or, not_and, Decidable.not_not] at hn
    by_cases h1 : m.met[p].c = 1
    · exact .inl (.inl ⟨by omega, hn.2 h1⟩)
    · exact .inr (by omega)
theorem come_mono {n : Nat} {m : Sm} (h : Okm n m) {p : Nat} (d : Int) (hp : p < n) {q : Nat} {e : Int} (hk : Known m q e) : Known (comeM m p d) q e := by
  have hlt : p < m.met.length := by rw [h.len]; exact hp
  obtain ⟨a, ha, hr⟩ := hk
  unfold comeM
  rw [List.getElem?_eq_getElem hlt]
  dsimp only
  split
  · rename_i hn
    by_cases hq : q = p
    · subst hq
      rw [List.getElem?_eq_getElem hlt] at ha
      cases ha
      refine ⟨putAr m.met[q] d, by simp [List.getElem?_set_self hlt], ?_⟩
      unfold putAr
      rcases isNew_c hn with h0 | h0
      · exfalso; rcases hr with (⟨h1, _⟩ | ⟨h1, _⟩) | h1 <;> omega
      · rw [if_neg (by omega)]; exact .inr (by show 2 ≤ _ + 1; omega)
    · exact ⟨a, by simp only; rw [List.getElem?_set_ne (fun e => hq e.symm)]; exact ha, hr⟩
  · exact ⟨a, ha, hr⟩
theorem come_rec {n : Nat} {m : Sm} (h : Okm n m) {p : Nat} {d : Int} (hp : p < n) {q : Nat} {e : Int} {a' : Ar} (ha : (comeM m p d).met[q]? = some a') (hr : Rec a' e) : (∃ a, m.met[q]? = some a ∧ Rec a e) ∨ (q = p ∧ e = d ∧ (p, d) ∈ (comeM m p d).left) := by
  have hlt : p < m.met.length := by rw [h.len]; exact hp
  unfold comeM at ha ⊢
  rw [List.getElem?_eq_getElem hlt] at ha ⊢
  dsimp only at ha ⊢
  split at ha
  · rename_i hn
    rw [if_pos hn]
    by_cases hq : q = p
    · subst hq
      simp only at ha
      rw [List.getElem?_set_self hlt] at ha
      cases ha
      unfold putAr at hr
      rcases isNew_c hn with h0 | h0
      · rw [if_pos h0] at hr
        rcases hr with ⟨_, h2⟩ | ⟨h2, _⟩
        · exact .inr ⟨rfl, h2.symm, by simp⟩
        · exact absurd h2 (by show ¬ (2 : Int) ≤ 1; decide)
      · rw [if_neg (by omega)] at hr
        rcases hr with ⟨_, h2⟩ | ⟨_, h2⟩
        · exact .inl ⟨_, List.getElem?_eq_getElem hlt, .inl ⟨by omega, h2⟩⟩
        · exact .inr ⟨rfl, h2.symm, by simp⟩
    · simp only at ha
      rw [List.getElem?_set_ne (fun e => hq e.symm)] at ha
      exact .inl ⟨a', ha, hr⟩
  · exact .inl ⟨a', ha, hr⟩
theorem come_left {m : Sm} {p : Nat} {d : Int} {q : Nat × Int} (h : q ∈ m.left) : q ∈ (comeM m p d).left := by
  unfold comeM
  split
  · exact h
  · split
    · simp [h]
    · exact h
theorem come_left_inv {m : Sm} {p : Nat} {d : Int} {q : Nat × Int} (h : q ∈ (comeM m p d).left) : q ∈ m.left ∨ q = (p, d) := by
  unfold comeM at h
  split at h
  · exact .inl h
  · split at h
    · simpa using h
    · exact .inl h
theorem come_dd {n : Nat} {m : Sm} (h : Okm n m) {p : Nat} {d : Int} (hp : p < n) (hd : ∀ a ∈ m.met, a.c = 2 → a.d0 ≠ a.d1) : ∀ a ∈ (comeM m p d).met, a.c = 2 → a.d0 ≠ a.d1 := by
  have hlt : p < m.met.length := by rw [h.len]; exact hp
  unfold comeM
  rw [List.getElem?_eq_getElem hlt]
  dsimp only
  split
  · rename_i hn
    intro a ha hc
    rcases List.mem_or_eq_of_mem_set ha with ha | rfl
    · exact hd a ha hc
    · unfold putAr at hc ⊢
      rcases isNew_c hn with h0 | h0
      · rw [if_pos h0] at hc; cases hc
      · rw [if_neg (by omega)]
        unfold isNewB at hn
        rw [h0] at hn
        simpa using hn
  · exact hd
/-- What stands while the ways are gone; but for one arrival that is just gone on from. -/
structure Inv (code : List Ins) (m : Sm) (ex : Nat → Int → Prop) : Prop where
  ok : Okm code.length m
  zero : Known m 0 0
  cl : ∀ p a d x, m.met[p]? = some a → Rec a d → code[p]? = some x → ex p d ∨ (p, d) ∈ m.left ∨ ∀ q, Next p x q → Known m q (d - takesN x + putsN x)
  dd : ∀ a ∈ m.met, a.c = 2 → a.d0 ≠ a.d1
  snd : ∀ p a d, m.met[p]? = some a → Rec a d → Way code p d
  lf : ∀ q ∈ m.left, Way code q.1 q.2
theorem Inv.come {code : List Ins} {m : Sm} {ex : Nat → Int → Prop} (h : Inv code m ex) {p : Nat} {d : Int} (hp : p < code.length) (hd : -300 * (cnt m.met + 1) ≤ d ∧ d ≤ 300 * (cnt m.met + 1)) (hw : Way code p d) : Inv code (comeM m p d) ex where
  ok := h.ok.come hp hd
  zero := come_mono h.ok d hp h.zero
  cl := fun q a e x ha hr hx => by
    rcases come_rec h.ok hp ha hr with ⟨a0, h1, h2⟩ | ⟨rfl, rfl, h3⟩
    · rcases h.cl q a0 e x h1 h2 hx with h4 | h4 | h4
      · exact .inl h4
      · exact .inr (.inl (come_left h4))
      · exact .inr (.inr fun r hr => come_mono h.ok d hp (h4 r hr))
    · exact .inr (.inl h3)
  dd := come_dd h.ok hp h.dd
  snd := fun q a e ha hr => by
    rcases come_rec h.ok hp ha hr with ⟨a0, h1, h2⟩ | ⟨rfl, rfl, _⟩
    · exact h.snd q a0 e h1 h2
    · exact hw
  lf := fun q hq => by
    rcases come_left_inv hq with h1 | rfl
    · exact h.lf q h1
    · exact hw
theorem Inv.pass {code : List Ins} {met : List Ar} {l : List (Nat × Int)} {p : Nat} {d : Int} {x : Ins} (h : Inv code ⟨met, l ++ [(p, d)]⟩ (fun _ _ => False)) (hx : code[p]? = some x) (hf : Fit code.length p x) : Inv code (passM ⟨met, l⟩ p d x) (fun _ _ => False) := by
  have hm := h.ok.left (p, d) (by simp)
  have hok : Okm code.length ⟨met, l⟩ := ⟨h.ok.len, h.ok.c, fun q hq => h.ok.left q (List.mem_append_left _ hq)⟩
  have hway : Way code p d := h.lf (p, d) (by simp)
  have h0 : Inv code ⟨met, l⟩ (fun q e => q = p ∧ e = d) := ⟨hok, h.zero, fun q a e y ha hr hy => by
    rcases h.cl q a e y ha hr hy with h1 | h1 | h1
    · exact h1.elim
    · rcases List.mem_append.1 h1 with h2 | h2
      · exact .inr (.inl h2)
      · refine .inl ?_
        have := List.mem_singleton.1 h2
        cases this; exact ⟨rfl, rfl⟩
    · exact .inr (.inr h1), h.dd, h.snd, fun q hq => h.lf q (List.mem_append_left _ hq)⟩
  have hdd := hm.2
  simp only at hdd
  have htp : -300 * (cnt met + 1) ≤ d - takesN x + putsN x ∧ d - takesN x + putsN x ≤ 300 * (cnt met + 1) := by
    have h1 := takes_bd x hf.pr hf.cl
    have h2 := puts_bd x
    omega
  have fin : ∀ m : Sm, Inv code m (fun q e => q = p ∧ e = d) → (∀ q, Next p x q → Known m q (d - takesN x + putsN x)) → Inv code m (fun _ _ => False) := fun m hi hk =>
    ⟨hi.ok, hi.zero, fun q a e y ha hr hy => by
      rcases hi.cl q a e y ha hr hy with ⟨rfl, rfl⟩ | h1 | h1
      · rw [hx] at hy; cases hy; exact .inr (.inr hk)
      · exact .inr (.inl h1)
      · exact .inr (.inr h1), hi.dd, hi.snd, hi.lf⟩
  unfold passM
  by_cases he : endsB x.op = true
  · rw [if_pos he]
    by_cases hj : x.op = 8 ∨ x.op = 9
    · rw [if_pos hj]
      have hj' := hf.j hj
      have hn : Next p x x.a.toNat := .inl ⟨hj, rfl⟩
      refine fin _ (h0.come (by omega) htp (.step p _ d x hway hx hn)) (fun q hq => ?_)
      rcases hq with ⟨_, rfl⟩ | ⟨h1, _⟩
      · exact come_known hok _ (by omega)
      · rw [he] at h1; cases h1
    · rw [if_neg hj]
      refine fin _ h0 (fun q hq => ?_)
      rcases hq with ⟨h1, _⟩ | ⟨h1, _⟩
      · exact absurd h1 hj
      · rw [he] at h1; cases h1
  · rw [if_neg he]
    have he' : endsB x.op = false := by simpa using he
    have hp1 := hf.e he'
    have hn1 : Next p x (p + 1) := .inr ⟨he', rfl⟩
    by_cases hj : x.op = 8 ∨ x.op = 9
    · rw [if_pos hj]
      have hj' := hf.j hj
      have hn : Next p x x.a.toNat := .inl ⟨hj, rfl⟩
      have h1 := h0.come (by omega) htp (.step p _ d x hway hx hn)
      have hc : cnt met ≤ cnt (comeM ⟨met, l⟩ x.a.toNat (d - takesN x + putsN x)).met := by
        have hlt : x.a.toNat < met.length := by have := h.ok.len; simp only at this; omega
        unfold comeM
        rw [List.getElem?_eq_getElem hlt]
        dsimp only
        split
        · rename_i hn
          have hc := cnt_set met x.a.toNat _ (putAr met[x.a.toNat] (d - takesN x + putsN x)) (List.getElem?_eq_getElem hlt)
          have hpc := putAr_c hn
          simp only; rw [hc, hpc]; omega
        · exact Int.le_refl _
      refine fin _ (h1.come hp1 (by omega) (.step p _ d x hway hx hn1)) (fun q hq => ?_)
      rcases hq with ⟨_, rfl⟩ | ⟨_, rfl⟩
      · exact come_mono h1.ok _ hp1 (come_known hok _ (by omega))
      · exact come_known h1.ok _ hp1
    · rw [if_neg hj]
      refine fin _ (h0.come hp1 htp (.step p _ d x hway hx hn1)) (fun q hq => ?_)
      rcases hq with ⟨h1, _⟩ | ⟨_, rfl⟩
      · exact absurd h1 hj
      · exact come_known hok _ hp1
theorem Inv.run {code : List Ins} (hf : ∀ p x, code[p]? = some x → Fit code.length p x) : ∀ (k : Nat) (m : Sm), Inv code m (fun _ _ => False) → far code.length m ≤ k → Inv code (runM code k m) (fun _ _ => False) ∧ (runM code k m).left = []
  | 0, m, h, hk => by
    have hc := cnt_le m.met h.ok.c
    rw [h.ok.len] at hc
    unfold far at hk
    have : m.left = [] := List.length_eq_zero_iff.1 (by omega)
    exact ⟨h, this⟩
  | k + 1, m, h, hk => by
    obtain ⟨met, left⟩ := m
    by_cases hl : left = []
    · subst hl; rw [runM_nil code _ _ rfl]; exact ⟨h, rfl⟩
    · obtain ⟨l, ⟨p, d⟩, rfl⟩ := last_split left hl
      have hm := h.ok.left (p, d) (by simp)
      have hx := List.getElem?_eq_getElem hm.1
      rw [runM_snoc code k met l p d _ hx]
      have hfit := hf p _ hx
      refine Inv.run hf k _ (h.pass hx hfit) ?_
      have hok : Okm code.length ⟨met, l⟩ := ⟨h.ok.len, h.ok.c, fun q hq => h.ok.left q (List.mem_append_left _ hq)⟩
      have := far_pass hok p d _ hm.2 hfit.j hfit.e hfit.pr hfit.cl
      unfold far at this hk ⊢
      simp only [List.length_append, List.length_singleton] at this hk ⊢
      omega
theorem inv_end {code : List Ins} (hf : ∀ p x, code[p]? = some x → Fit code.length p x) (hn : 0 < code.length) : Inv code (endM code) (fun _ _ => False) ∧ (endM code).left = [] := by
  have hz := okm_zero code.length
  have h0 : Inv code (startM code.length) (fun _ _ => False) := by
    unfold startM
    refine ⟨hz.come hn (by rw [cnt_zero]; omega), come_known hz 0 hn, fun p a d x ha hr hx => ?_, come_dd hz hn (fun a ha => ?_), fun p a d ha hr => ?_, fun q hq => ?_⟩
    · rcases come_rec hz hn ha hr with ⟨a0, h1, h2⟩ | ⟨rfl, rfl, h3⟩
      · obtain ⟨_, rfl⟩ := List.mem_replicate.1 (List.mem_of_getElem? h1)
        rcases h2 with ⟨h2, _⟩ | ⟨h2, _⟩ <;> exact absurd h2 (by decide)
      · exact .inr (.inl h3)
    · obtain ⟨_, rfl⟩ := List.mem_replicate.1 ha; intro h; cases h
    · rcases come_rec hz hn ha hr with ⟨a0, h1, h2⟩ | ⟨rfl, rfl, h3⟩
      · obtain ⟨_, rfl⟩ := List.mem_replicate.1 (List.mem_of_getElem? h1)
        rcases h2 with ⟨h2, _⟩ | ⟨h2, _⟩ <;> exact absurd h2 (by decide)
      · exact .zero
    · rcases come_left_inv hq with h1 | rfl
      · cases h1
      · exact .zero
  refine Inv.run hf _ _ h0 ?_
  have := far_come hz 0 hn
  unfold far at this ⊢
  simp only [List.length_nil, cnt_zero] at this
  unfold startM
  omega
theorem wrongAt_none : ∀ (l : List Ar) (r : List Ins) (j : Nat), wrongAt l r j = none → ∀ (p : Nat) (a : Ar) (x : Ins), l[p]? = some a → r[p]? = some x → isWrongB a (takesN x) = false
  | [], _, _, _, p, a, x, ha, _ => by simp at ha
  | _ :: _, [], _, _, p, a, x, _, hx => by simp at hx
  | b :: l, y :: r, j, h, p, a, x, ha, hx => by
    unfold wrongAt at h
    split at h
    · cases h
    · rename_i hb
      cases p with
      | zero => simp at ha hx; subst ha; subst hx; simpa using hb
      | succ p => exact wrongAt_none l r (j + 1) h p a x (by simpa using ha) (by simpa using hx)
/-- No place is wrong: each place has one depth, and all ways keep to it. -/
theorem ways_ok {code : List Ins} (hf : ∀ p x, code[p]? = some x → Fit code.length p x) (hn : 0 < code.length) (h : wrongAt (endM code).met code 0 = none) : ∃ f : Nat → Int, f 0 = 0 ∧ ∀ p x, code[p]? = some x → takesN x ≤ f p ∧ f p ≤ 255 ∧ ∀ q, Next p x q → q < code.length ∧ f q = f p - takesN x + putsN x := by
  obtain ⟨hi, hl⟩ := inv_end hf hn
  have hone : ∀ (p : Nat) (a : Ar) (x : Ins), (endM code).met[p]? = some a → code[p]? = some x → a.c = 1 ∧ takesN x ≤ a.d0 ∧ a.d0 ≤ 255 := fun p a x ha hx => by
    have := wrongAt_none _ _ 0 h p a x ha hx
    unfold isWrongB at this
    simp only [Bool.or_eq_false_iff, bne_eq_false_iff_eq, decide_eq_false_iff_not] at this
    omega
  have hkn : ∀ (q : Nat) (d : Int), Known (endM code) q d → q < code.length ∧ ((endM code).met.getD q ⟨0, 0, 0⟩).d0 = d := fun q d ⟨a, ha, hr⟩ => by
    have hq : q < (endM code).met.length := (List.getElem?_eq_some_iff.1 ha).1
    rw [hi.ok.len] at hq
    have hx := List.getElem?_eq_getElem hq
    have h1 := hone q a _ ha hx
    refine ⟨hq, ?_⟩
    rw [List.getD_eq_getElem?_getD, ha]
    rcases hr with (⟨_, h2⟩ | ⟨h2, _⟩) | h2
    · exact h2
    · omega
    · omega
  refine ⟨fun p => ((endM code).met.getD p ⟨0, 0, 0⟩).d0, (hkn 0 0 hi.zero).2, fun p x hx => ?_⟩
  have hp : p < (endM code).met.length := by rw [hi.ok.len]; exact (List.getElem?_eq_some_iff.1 hx).1
  have ha := List.getElem?_eq_getElem hp
  have h1 := hone p _ x ha hx
  have e : (endM code).met.getD p ⟨0, 0, 0⟩ = (endM code).met[p] := by rw [List.getD_eq_getElem?_getD, ha]; rfl
  simp only [e]
  refine ⟨h1.2.1, h1.2.2, fun q hq => ?_⟩
  rcases hi.cl p _ _ x ha (.inl ⟨by omega, rfl⟩) hx with h2 | h2 | h2
  · exact h2.elim
  · rw [hl] at h2; cases h2
  · exact hkn q _ (h2 q hq)
end Go.Proofs.YtpkohocjgnodnaaGreatDoor

/- The document's depths are the program's: plain mathematics. -/
namespace Go.Proofs.YtpkohocjgnodnaaGreatDoor

/-- Every way is known when nothing is left. -/
theorem way_known {code : List Ins} {m : Sm} (hi : Inv code m (fun _ _ => False)) (hl : m.left = []) {p : Nat} {d : Int} (hw : Way code p d) : Known m p d := by
  induction hw with
  | zero => exact hi.zero
  | step p q d x _ hx hn ih =>
    obtain ⟨a, ha, hr⟩ := ih
    have key : ∀ e, Rec a e → Known m q (e - takesN x + putsN x) := fun e he => by
      rcases hi.cl p a e x ha he hx with h | h | h
      · exact h.elim
      · rw [hl] at h; cases h
      · exact h q hn
    rcases hr with hr | hr
    · exact key d hr
    · have hc := hi.ok.c a (List.mem_of_getElem? ha)
      have hdd := hi.dd a (List.mem_of_getElem? ha) (by omega)
      obtain ⟨b, hb, h1⟩ := key a.d0 (.inl ⟨by omega, rfl⟩)
      obtain ⟨b', hb', h2⟩ := key a.d1 (.inr ⟨hr, rfl⟩)
      rw [hb] at hb'
      cases hb'
      refine ⟨b, hb, .inr ?_⟩
      rcases h1 with h1 | h1
      · rcases h2 with h2 | h2
        · rcases h1 with ⟨_, h1⟩ | ⟨h1, _⟩
          · rcases h2 with ⟨_, h2⟩ | ⟨h2, _⟩
            · omega
            · exact h2
          · exact h1
        · exact h2
      · exact h1
def Two (code : List Ins) (p : Nat) : Prop := ∃ d e, d ≠ e ∧ Way code p d ∧ Way code p e
theorem met_is {code : List Ins} {m : Sm} (hi : Inv code m (fun _ _ => False)) (hl : m.left = []) {p : Nat} {a : Ar} (ha : m.met[p]? = some a) : (a.c = 0 ↔ ¬ ∃ d, Way code p d) ∧ (2 ≤ a.c ↔ Two code p) ∧ (a.c = 1 → Way code p a.d0) := by
  have hc := hi.ok.c a (List.mem_of_getElem? ha)
  have hk : ∀ d, Way code p d → Rec a d ∨ 2 ≤ a.c := fun d hw => by
    obtain ⟨b, hb, h⟩ := way_known hi hl hw
    rw [ha] at hb; cases hb; exact h
  refine ⟨⟨fun h0 ⟨d, hw⟩ => ?_, fun hn => ?_⟩, ⟨fun h2 => ?_, fun ⟨d, e, hne, h1, h2⟩ => ?_⟩, fun h1 => hi.snd p a a.d0 ha (.inl ⟨by omega, rfl⟩)⟩
  · rcases hk d hw with (⟨h, _⟩ | ⟨h, _⟩) | h <;> omega
  · rcases Int.lt_or_le a.c 1 with h | h
    · omega
    · exact absurd ⟨a.d0, hi.snd p a a.d0 ha (.inl ⟨h, rfl⟩)⟩ hn
  · exact ⟨a.d0, a.d1, hi.dd a (List.mem_of_getElem? ha) (by omega), hi.snd p a _ ha (.inl ⟨by omega, rfl⟩), hi.snd p a _ ha (.inr ⟨h2, rfl⟩)⟩
  · rcases hk d h1 with (⟨_, q1⟩ | ⟨q1, _⟩) | q1
    · rcases hk e h2 with (⟨_, q2⟩ | ⟨q2, _⟩) | q2
      · omega
      · exact q2
      · exact q2
    · exact q1
    · exact q1
/-- What the document knows when all is gone through. -/
structure DocW (code : List Ins) (come two : Nat → Bool) (dep : Nat → Int) : Prop where
  cm : ∀ p, come p = true ↔ ∃ d, Way code p d
  way : ∀ p, come p = true → Way code p (dep p)
  tw : ∀ p, two p = true ↔ Two code p
theorem wrong_same {code : List Ins} {m : Sm} {come two : Nat → Bool} {dep : Nat → Int} (hi : Inv code m (fun _ _ => False)) (hl : m.left = []) (hD : DocW code come two dep) {p : Nat} {a : Ar} (ha : m.met[p]? = some a) (t : Int) :
    isWrongB a t = (!come p || (two p || (decide (dep p < t) || decide (255 < dep p)))) := by
  obtain ⟨h0, h2, h1⟩ := met_is hi hl ha
  have hc := hi.ok.c a (List.mem_of_getElem? ha)
  unfold isWrongB
  by_cases c1 : a.c = 1
  · have hcm : come p = true := (hD.cm p).2 ⟨_, h1 c1⟩
    have htw : two p = false := by
      cases h : two p with
      | false => rfl
      | true => exact absurd (h2.2 ((hD.tw p).1 h)) (by omega)
    have hd : dep p = a.d0 := by
      rcases Int.lt_trichotomy (dep p) a.d0 with h | h | h
      · exact absurd (h2.2 ⟨dep p, a.d0, by omega, hD.way p hcm, h1 c1⟩) (by omega)
      · exact h
      · exact absurd (h2.2 ⟨dep p, a.d0, by omega, hD.way p hcm, h1 c1⟩) (by omega)
    have e1 : (a.c != 1) = false := by simp [c1]
    have e2 : decide (256 ≤ a.d0) = decide (255 < a.d0) := by
      by_cases h : 255 < a.d0
      · rw [decide_eq_true h, decide_eq_true (by omega)]
      · rw [decide_eq_false h, decide_eq_false (by omega)]
    rw [e1, hcm, htw, hd, e2]; rfl
  · have e1 : (a.c != 1) = true := by simp [c1]
    rw [e1, Bool.true_or]
    by_cases c0 : a.c = 0
    · have : come p = false := by
        cases h : come p with
        | false => rfl
        | true => exact absurd ((hD.cm p).1 h) (h0.1 c0)
      rw [this]; rfl
    · have : two p = true := (hD.tw p).2 (h2.1 (by omega))
      rw [this]
      cases come p <;> rfl
/-- The places behind, in the document's order. -/
def nxtL (p : Nat) (x : Ins) : List Nat := if x.op = 12 ∨ x.op = 11 then [] else if x.op = 8 then [x.a.toNat] else if x.op = 9 then [p + 1, x.a.toNat] else [p + 1]
theorem nxt_iff {p : Nat} {x : Ins} {q : Nat} : q ∈ nxtL p x ↔ Next p x q := by
  unfold nxtL Next endsB
  by_cases h12 : x.op = 12 ∨ x.op = 11
  · rw [if_pos h12]
    rcases h12 with h | h <;> simp [h]
  · rw [if_neg h12]
    by_cases h8 : x.op = 8
    · rw [if_pos h8]; simp [h8]
    · rw [if_neg h8]
      have h12' : x.op ≠ 12 := fun e => h12 (.inl e)
      have h11' : x.op ≠ 11 := fun e => h12 (.inr e)
      by_cases h9 : x.op = 9
      · rw [if_pos h9]; simp [h9]; exact Or.comm
      · rw [if_neg h9]; simp [h8, h9, h12', h11']
def depN (x : Ins) (d : Int) : Int := d - takesN x + putsN x
/-- The first walk: what has come, with its first depth. -/
structure B1 (code : List Ins) (k : Nat) (row : List Nat) (come : Nat → Bool) (dep : Nat → Int) : Prop where
  mem : ∀ p, come p = true ↔ p ∈ row
  nd : row.Nodup
  lt : ∀ p ∈ row, p < code.length
  way : ∀ p ∈ row, Way code p (dep p)
  bd : ∀ p ∈ row, -300 * (row.length : Int) ≤ dep p ∧ dep p ≤ 300 * (row.length : Int)
  zero : come 0 = true ∧ dep 0 = 0
  cl : ∀ j p x q, j < k → row[j]? = some p → code[p]? = some x → Next p x q → come q = true
theorem B1.len {code : List Ins} {k : Nat} {row : List Nat} {come : Nat → Bool} {dep : Nat → Int} (h : B1 code k row come dep) : row.length ≤ code.length := by
  have h1 : row.length ≤ (List.range code.length).length := List.Nodup.length_le_of_subset h.nd (fun c hc => List.mem_range.2 (h.lt c hc))
  simpa using h1
theorem b1_start {code : List Ins} (hn : 0 < code.length) : B1 code 0 [0] (fun p => decide (p = 0)) (fun _ => 0) :=
  ⟨fun p => by simp, by simp, fun p hp => by rw [List.mem_singleton.1 hp]; exact hn, fun p hp => by rw [List.mem_singleton.1 hp]; exact .zero, fun p _ => by simp, ⟨by simp, rfl⟩, fun j _ _ _ hj => absurd hj (Nat.not_lt_zero _)⟩
def updB (f : Nat → Bool) (q : Nat) : Nat → Bool := fun p => decide (p = q) || f p
def updD (f : Nat → Int) (q : Nat) (d : Int) : Nat → Int := fun p => if p = q then d else f p
theorem B1.come {code : List Ins} {k : Nat} {row : List Nat} {come : Nat → Bool} {dep : Nat → Int} (h : B1 code k row come dep) {q : Nat} {d : Int} (hq : q < code.length) (hc : come q = false) (hw : Way code q d) (hd : -300 * ((row.length : Int) + 1) ≤ d ∧ d ≤ 300 * ((row.length : Int) + 1)) (hk : k ≤ row.length) :
    B1 code k (row ++ [q]) (updB come q) (updD dep q d) := by
  have hqr : q ∉ row := fun hm => by rw [(h.mem q).2 hm] at hc; cases hc
  have hl : ((row ++ [q]).length : Int) = (row.length : Int) + 1 := by simp
  refine ⟨fun p => ?_, ?_, fun p hp => ?_, fun p hp => ?_, fun p hp => ?_, ⟨?_, ?_⟩, fun j p x r hj hp hx hn => ?_⟩
  · unfold updB
    rw [Bool.or_eq_true, decide_eq_true_eq, List.mem_append, List.mem_singleton, h.mem p]; exact Or.comm
  · rw [List.nodup_append]
    exact ⟨h.nd, by simp, fun a ha b hb => by rw [List.mem_singleton.1 hb]; exact fun e => hqr (by rw [← e]; exact ha)⟩
  · rcases List.mem_append.1 hp with hp | hp
    · exact h.lt p hp
    · rw [List.mem_singleton.1 hp]; exact hq
  · unfold updD
    split
    · rename_i e; subst e; exact hw
    · rename_i e
      rcases List.mem_append.1 hp with hp | hp
      · exact h.way p hp
      · exact absurd (List.mem_singleton.1 hp) e
  · rw [hl]
    unfold updD
    split
    · exact hd
    · rename_i e
      rcases List.mem_append.1 hp with hp | hp
      · have := h.bd p hp; omega
      · exact absurd (List.mem_singleton.1 hp) e
  · unfold updB; rw [h.zero.1, Bool.or_true]
  · unfold updD
    rw [if_neg (fun e => by rw [← e] at hc; rw [h.zero.1] at hc; cases hc)]
    exact h.zero.2
  · rw [List.getElem?_append_left (by omega)] at hp
    unfold updB
    rw [h.cl j p x r hj hp hx hn, Bool.or_true]
theorem B1.next {code : List Ins} {k : Nat} {row : List Nat} {come : Nat → Bool} {dep : Nat → Int} (h : B1 code k row come dep) {p : Nat} {x : Ins} (hp : row[k]? = some p) (hx : code[p]? = some x) (ha : ∀ q ∈ nxtL p x, come q = true) : B1 code (k + 1) row come dep :=
  ⟨h.mem, h.nd, h.lt, h.way, h.bd, h.zero, fun j p' x' q hj hp' hx' hn => by
    by_cases e : j = k
    · subst e
      rw [hp] at hp'; cases hp'
      rw [hx] at hx'; cases hx'
      exact ha q (nxt_iff.2 hn)
    · exact h.cl j p' x' q (by omega) hp' hx' hn⟩
theorem B1.ends {code : List Ins} {row : List Nat} {come : Nat → Bool} {dep : Nat → Int} (h : B1 code row.length row come dep) : (∀ p, come p = true ↔ ∃ d, Way code p d) ∧ ∀ p, come p = true → Way code p (dep p) := by
  have h2 : ∀ p, come p = true → Way code p (dep p) := fun p hp => h.way p ((h.mem p).1 hp)
  have h3 : ∀ p d, Way code p d → come p = true := fun p d hw => by
    induction hw with
    | zero => exact h.zero.1
    | step p q d x _ hx hn ih =>
      obtain ⟨j, hj⟩ := List.getElem?_of_mem ((h.mem p).1 ih)
      exact h.cl j p x q (List.getElem?_eq_some_iff.1 hj).1 hj hx hn
  exact ⟨fun p => ⟨fun hp => ⟨_, h2 p hp⟩, fun ⟨d, hw⟩ => h3 p d hw⟩, h2⟩
/-- The second one: who has two depths: first those at which ways meet. -/
structure B2 (code : List Ins) (come : Nat → Bool) (dep : Nat → Int) (i : Nat) (two : Nat → Bool) : Prop where
  snd : ∀ p, two p = true → Two code p
  cmp : ∀ i' p x, i' < i → come i' = true → code[i']? = some x → Next i' x p → dep p ≠ depN x (dep i') → two p = true
theorem two_next {code : List Ins} {p q : Nat} {x : Ins} (h : Two code p) (hx : code[p]? = some x) (hn : Next p x q) : Two code q := by
  obtain ⟨d, e, hne, h1, h2⟩ := h
  exact ⟨_, _, by omega, .step p q d x h1 hx hn, .step p q e x h2 hx hn⟩
/-- Then all that lies behind them. -/
structure B3 (code : List Ins) (come : Nat → Bool) (dep : Nat → Int) (k : Nat) (row : List Nat) (two : Nat → Bool) : Prop where
  b2 : B2 code come dep code.length two
  mem : ∀ p, two p = true ↔ p ∈ row
  nd : row.Nodup
  lt : ∀ p ∈ row, p < code.length
  cl : ∀ j p x q, j < k → row[j]? = some p → code[p]? = some x → Next p x q → two q = true
theorem B3.len {code : List Ins} {k : Nat} {row : List Nat} {come : Nat → Bool} {dep : Nat → Int} {two : Nat → Bool} (h : B3 code come dep k row two) : row.length ≤ code.length := by
  have h1 : row.length ≤ (List.range code.length).length := List.Nodup.length_le_of_subset h.nd (fun c hc => List.mem_range.2 (h.lt c hc))
  simpa using h1
theorem B3.put {code : List Ins} {k : Nat} {row : List Nat} {come : Nat → Bool} {dep : Nat → Int} {two : Nat → Bool} (h : B3 code come dep k row two) {q : Nat} (hq : q < code.length) (hc : two q = false) (hw : Two code q) (hk : k ≤ row.length) : B3 code come dep k (row ++ [q]) (updB two q) := by
  have hqr : q ∉ row := fun hm => by rw [(h.mem q).2 hm] at hc; cases hc
  refine ⟨⟨fun p hp => ?_, fun i' p x h1 h2 h3 h4 h5 => ?_⟩, fun p => ?_, ?_, fun p hp => ?_, fun j p x r hj hp hx hn => ?_⟩
  · unfold updB at hp
    rw [Bool.or_eq_true, decide_eq_true_eq] at hp
    rcases hp with rfl | hp
    · exact hw
    · exact h.b2.snd p hp
  · unfold updB; rw [h.b2.cmp i' p x h1 h2 h3 h4 h5, Bool.or_true]
  · unfold updB
    rw [Bool.or_eq_true, decide_eq_true_eq, List.mem_append, List.mem_singleton, h.mem p]; exact Or.comm
  · rw [List.nodup_append]
    exact ⟨h.nd, by simp, fun a ha b hb => by rw [List.mem_singleton.1 hb]; exact fun e => hqr (by rw [← e]; exact ha)⟩
  · rcases List.mem_append.1 hp with hp | hp
    · exact h.lt p hp
    · rw [List.mem_singleton.1 hp]; exact hq
  · rw [List.getElem?_append_left (by omega)] at hp
    unfold updB
    rw [h.cl j p x r hj hp hx hn, Bool.or_true]
theorem B3.next {code : List Ins} {k : Nat} {row : List Nat} {come : Nat → Bool} {dep : Nat → Int} {two : Nat → Bool} (h : B3 code come dep k row two) {p : Nat} {x : Ins} (hp : row[k]? = some p) (hx : code[p]? = some x) (ha : ∀ q ∈ nxtL p x, two q = true) : B3 code come dep (k + 1) row two :=
  ⟨h.b2, h.mem, h.nd, h.lt, fun j p' x' q hj hp' hx' hn => by
    by_cases e : j = k
    · subst e
      rw [hp] at hp'; cases hp'
      rw [hx] at hx'; cases hx'
      exact ha q (nxt_iff.2 hn)
    · exact h.cl j p' x' q (by omega) hp' hx' hn⟩
theorem B3.doc {code : List Ins} {row1 row : List Nat} {come : Nat → Bool} {dep : Nat → Int} {two : Nat → Bool} (h1 : B1 code row1.length row1 come dep) (h : B3 code come dep row.length row two) : DocW code come two dep := by
  obtain ⟨e1, e2⟩ := h1.ends
  have key : ∀ p d, Way code p d → d ≠ dep p → two p = true := fun p d hw => by
    induction hw with
    | zero => intro hd; exact absurd h1.zero.2.symm hd
    | step p q d x hw hx hn ih =>
      intro hd
      by_cases hdp : d = dep p
      · refine h.b2.cmp p q x (List.getElem?_eq_some_iff.1 hx).1 ((e1 p).2 ⟨d, hw⟩) hx hn (fun e => hd ?_)
        rw [e]; unfold depN; rw [hdp]
      · obtain ⟨j, hj⟩ := List.getElem?_of_mem ((h.mem p).1 (ih hdp))
        exact h.cl j p x q (List.getElem?_eq_some_iff.1 hj).1 hj hx hn
  refine ⟨e1, e2, fun p => ⟨h.b2.snd p, fun ⟨d, e, hne, w1, w2⟩ => ?_⟩⟩
  by_cases hd : d = dep p
  · exact key p e w2 (fun e' => hne (by rw [hd, e']))
  · exact key p d w1 hd
end Go.Proofs.YtpkohocjgnodnaaGreatDoor
