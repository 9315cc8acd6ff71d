/- Where the path of an error leads: plain mathematics.; A datum whose quoted numbers and truths stand without their quote: plain mathematics.; What stands within what can be written can be written; there and back, as mathematics.; Which errors there are: plain mathematics.; There and back, of any datum that is a form: plain mathematics.; How much a form is: plain mathematics.; A form within others: plain mathematics. -/
import Derived.Test.YtkgnigloboajcaaGreatDoorK18
import Derived.Test.YtkgnigloboajcaaGreatDoorK38
import Derived.Test.YtkgnigloboajcaaGreatDoorK27
/- Where the path of an error leads: plain mathematics. -/
namespace Go.Proofs.YtkgnigloboajcaaGreatDoor

def Fo.nd : Fo → Nat → Option Dt
  | .nil, _ => none
  | .cons k n t s d _, 0 => some ⟨k, n, t, s, d⟩
  | .cons _ _ _ _ _ r, j + 1 => r.nd j
/-- The datum to which a path leads. -/
def atM : Dt → List Int → Option Dt
  | x, [] => some x
  | x, i :: p => if 0 ≤ i then (match x.s.nd i.toNat with | some y => atM y p | none => none) else none
theorem Fo.nd_lt : ∀ {s : Fo} {j : Nat} {y : Dt}, s.nd j = some y → j < s.len
  | .nil, _, _, h => by cases h
  | .cons _ _ _ _ _ _, 0, _, _ => by simp [Fo.len]
  | .cons _ _ _ _ _ r, j + 1, _, h => by have := Fo.nd_lt (s := r) h; simp only [Fo.len]; omega
theorem Fo.nd_hd {s : Fo} (h : 0 < s.len) : s.nd 0 = some s.hd := by cases s with | nil => simp [Fo.len] at h | cons k n t s d r => rfl
theorem Fo.nd_tl (s : Fo) (j : Nat) : s.tl.nd j = s.nd (j + 1) := by cases s <;> rfl
theorem Fo.tl_len (s : Fo) : s.tl.len = s.len - 1 := by cases s <;> simp [Fo.tl, Fo.len]
theorem allD_tl {s : Fo} (h : allD s = true) : allD s.tl = true := by
  cases s with
  | nil => rfl
  | cons k n t s d r =>
    have hA : allD (.cons k n t s d r) = (isDat k n t s d && (allD s && allD r)) := rfl
    rw [hA] at h
    simp only [Bool.and_eq_true] at h
    exact h.2.2
/-- A datum that is one. -/
def okD (x : Dt) : Prop := isDat x.k x.n x.t x.s x.d = true ∧ allD x.s = true
theorem okD_of {x : Dt} (h : allD (x.fo .nil) = true) : okD x := by
  have hA : allD (x.fo .nil) = (isDat x.k x.n x.t x.s x.d && (allD x.s && allD .nil)) := rfl
  rw [hA] at h
  simp only [Bool.and_eq_true] at h
  exact ⟨h.1, h.2.1⟩
theorem nd_ok : ∀ {s : Fo} {j : Nat} {y : Dt}, allD s = true → s.nd j = some y → okD y
  | .nil, _, _, _, h => by cases h
  | .cons k n t s d r, 0, y, hA, h => by
    have e : allD (.cons k n t s d r) = (isDat k n t s d && (allD s && allD r)) := rfl
    rw [e] at hA
    simp only [Bool.and_eq_true] at hA
    cases h
    exact ⟨hA.1, hA.2.1⟩
  | .cons k n t s d r, j + 1, y, hA, h => nd_ok (s := r) (allD_tl hA) h
theorem canB_ok {x : Dt} (h : canB x = true) : okD x := by
  unfold canB at h
  have hc : chk (x.fo .nil) = 0 := by
    unfold writeOf at h
    by_cases h0 : chk (x.fo .nil) = 0
    · exact h0
    · rw [if_pos h0] at h
      exact absurd (by simpa using h) h0
  exact okD_of (chk_zero.1 hc).1
theorem symB_can {t : List UInt8} (h : symB t = true) : canB ⟨2, 0, t, .nil, false⟩ = true := by
  have hl := sym_len h
  have h1 : isDat 2 0 t .nil false = true := by
    unfold isDat
    rw [if_neg (by decide), if_pos rfl, h]
    simp [sameB, Fo.same]
  have hA : allD (Dt.fo ⟨2, 0, t, .nil, false⟩ .nil) = true := by
    show (isDat 2 0 t .nil false && (allD .nil && allD .nil)) = true
    rw [h1]; rfl
  have hc : chk (Dt.fo ⟨2, 0, t, .nil, false⟩ .nil) = 0 := chk_zero.2 ⟨hA, by simp [Dt.fo, dep], by simp [Dt.fo, Fo.size]⟩
  unfold canB writeOf
  rw [if_neg (by simp [hc]), if_neg]
  · rfl
  · have e : textsT (Dt.fo ⟨2, 0, t, .nil, false⟩ .nil) = [t] := by
      simp [Dt.fo, textsT, oneT]
    rw [e]
    simp only [linesT]
    omega
theorem ok_sym {x : Dt} (h : okD x) (hk : x.k = 2) : symB x.t = true := by
  have h1 := h.1
  unfold isDat at h1
  rw [if_neg (by rw [hk]; decide), if_pos hk] at h1
  simp only [Bool.and_eq_true] at h1
  exact h1.2

theorem within_bd {α : Type} {i e : Int} {p : List Int} {x : PR α} (h : x.within i = .bad e p) : ∃ q, x = .bad e q ∧ p = i :: q := by
  cases x with
  | ok a => cases h
  | bad e' q => cases h; exact ⟨q, rfl, rfl⟩
theorem then_bd {α β : Type} {e : Int} {p : List Int} {x : PR α} {K : α → PR β} (h : x.then K = .bad e p) : x = .bad e p ∨ ∃ a, x = .ok a ∧ K a = .bad e p := by
  cases x with
  | ok a => exact .inr ⟨a, rfl, h⟩
  | bad e' q => cases h; exact .inl rfl

/-- The error's path leads to a datum; what a name's error says of it. -/
def BadP (m : Nat) (x : Dt) (e : Int) (p : List Int) : Prop :=
  ∃ y, atM x p = some y ∧ (e = 72 → y.k = 2 ∧ m ≤ p.length) ∧ (e = 71 → y.k ≠ 2 ∨ (primOf y.t).isSome = true ∨ (kwOf y.t).isSome = true)
theorem BadP.kid {m j : Nat} {x y : Dt} {e : Int} {p : List Int} (h : BadP m y e p) (hj : x.s.nd j = some y) : BadP (m + 1) x e ((j : Int) :: p) := by
  obtain ⟨z, h1, h2, h3⟩ := h
  refine ⟨z, ?_, fun he => ⟨(h2 he).1, by have := (h2 he).2; simp only [List.length_cons]; omega⟩, h3⟩
  simp only [atM]
  rw [if_pos (by omega), Int.toNat_natCast, hj]
  exact h1
theorem BadP.less {m n : Nat} {x : Dt} {e : Int} {p : List Int} (h : BadP m x e p) (hn : n ≤ m) : BadP n x e p := by
  obtain ⟨z, h1, h2, h3⟩ := h
  exact ⟨z, h1, fun he => ⟨(h2 he).1, by have := (h2 he).2; omega⟩, h3⟩
theorem BadP.here {x : Dt} {e : Int} (m : Nat) (h2 : e ≠ 72) (h1 : e ≠ 71) : BadP m x e [] := ⟨x, rfl, fun h => absurd h h2, fun h => absurd h h1⟩

theorem vari_bd {x : Dt} (hx : okD x) (h : x.k ≠ 2 ∨ varB x.t = false) (m : Nat) : BadP m x 71 [] := by
  refine ⟨x, rfl, fun h => absurd h (by decide), fun _ => ?_⟩
  by_cases hk : x.k = 2
  · have hv := h.resolve_left (fun h => h hk)
    have hc := symB_can (ok_sym hx hk)
    unfold varB nameB at hv
    rw [hc] at hv
    cases hp : primOf x.t <;> cases hw : kwOf x.t <;> simp_all
  · exact .inl hk
theorem new_bd {ahead : List (List UInt8)} {x : Dt} {e : Int} {p : List Int} (hx : okD x) (h : newM ahead x.k x.t = .bad e p) : p = [] ∧ BadP 0 x e p := by
  unfold newM at h
  split at h
  · rename_i hc
    cases h
    exact ⟨rfl, vari_bd hx (by simpa using hc) 0⟩
  · rename_i hc
    split at h
    · cases h
      have hk : x.k = 2 := Decidable.not_not.1 fun h => hc (by simp [h])
      exact ⟨rfl, x, rfl, fun _ => ⟨hk, Nat.zero_le _⟩, fun h => absurd h (by decide)⟩
    · cases h
theorem varim_bd {x : Dt} {e : Int} {p : List Int} (hx : okD x) (h : variM x.k x.t = .bad e p) (m : Nat) : BadP m x e p := by
  unfold variM at h
  split at h
  · rename_i hc
    cases h
    exact vari_bd hx (by simpa using hc) m
  · cases h

theorem forms_bd {R : Dt → PR Frm} {m : Nat} (hR : ∀ y e p, okD y → R y = .bad e p → BadP m y e p) : ∀ {s : Fo} {i : Int} {e : Int} {p : List Int}, allD s = true → formsM R i s = .bad e p →
    ∃ (j : Nat) (y : Dt) (q : List Int), s.nd j = some y ∧ p = (i + j) :: q ∧ BadP m y e q
  | .nil, _, _, _, _, h => by cases h
  | .cons k n t s d r, i, e, p, hA, h => by
    rcases then_bd h with h | ⟨a, _, h⟩
    · obtain ⟨q, h1, rfl⟩ := within_bd h
      exact ⟨0, _, q, rfl, by simp, hR _ _ _ (nd_ok (j := 0) hA rfl) h1⟩
    · rcases then_bd h with h | ⟨a, _, h⟩
      · obtain ⟨j, y, q, h1, rfl, h3⟩ := forms_bd hR (allD_tl hA) h
        exact ⟨j + 1, y, q, h1, by congr 1; omega, h3⟩
      · cases h
theorem names_bd : ∀ {s : Fo} {ahead : List (List UInt8)} {i : Int} {e : Int} {p : List Int}, allD s = true → namesM ahead i s = .bad e p →
    ∃ (j : Nat) (y : Dt) (q : List Int), s.nd j = some y ∧ p = (i + j) :: q ∧ BadP 0 y e q
  | .nil, _, _, _, _, _, h => by cases h
  | .cons k n t s d r, ahead, i, e, p, hA, h => by
    rcases then_bd h with h | ⟨a, _, h⟩
    · obtain ⟨q, h1, rfl⟩ := within_bd h
      exact ⟨0, ⟨k, n, t, s, d⟩, q, rfl, by simp, (new_bd (x := ⟨k, n, t, s, d⟩) (nd_ok (j := 0) hA rfl) h1).2⟩
    · rcases then_bd h with h | ⟨a, _, h⟩
      · obtain ⟨j, y, q, h1, rfl, h3⟩ := names_bd (allD_tl hA) h
        exact ⟨j + 1, y, q, h1, by congr 1; omega, h3⟩
      · cases h
theorem bind_bd {R : Dt → PR Frm} (hR : ∀ y e p, okD y → R y = .bad e p → BadP 2 y e p) {ahead : List (List UInt8)} {x : Dt} {e : Int} {p : List Int} (hx : okD x) (h : bindM R ahead x = .bad e p) : BadP 1 x e p := by
  unfold bindM at h
  split at h
  · cases h
    exact .here _ (by decide) (by decide)
  · rename_i hc
    have hl : x.s.len = 2 := by
      simp only [Bool.or_eq_true, not_or] at hc
      simpa using hc.2
    have e0 : x.s.nd 0 = some x.s.hd := Fo.nd_hd (by omega)
    have e1 : x.s.nd 1 = some x.s.tl.hd := by rw [← Fo.nd_tl x.s 0]; exact Fo.nd_hd (by rw [Fo.tl_len]; omega)
    rcases then_bd h with h | ⟨a, _, h⟩
    · obtain ⟨q, h1, rfl⟩ := within_bd h
      exact ((new_bd (nd_ok hx.2 e0) h1).2.kid e0).less (by omega)
    · rcases then_bd h with h | ⟨a, _, h⟩
      · obtain ⟨q, h1, rfl⟩ := within_bd h
        exact ((hR _ _ _ (nd_ok hx.2 e1) h1).kid e1).less (by omega)
      · cases h
theorem binds_bd {R : Dt → PR Frm} (hR : ∀ y e p, okD y → R y = .bad e p → BadP 2 y e p) : ∀ {s : Fo} {ahead : List (List UInt8)} {i : Int} {e : Int} {p : List Int}, allD s = true → bindsM R ahead i s = .bad e p →
    ∃ (j : Nat) (y : Dt) (q : List Int), s.nd j = some y ∧ p = (i + j) :: q ∧ BadP 1 y e q
  | .nil, _, _, _, _, _, h => by cases h
  | .cons k n t s d r, ahead, i, e, p, hA, h => by
    rcases then_bd h with h | ⟨a, _, h⟩
    · obtain ⟨q, h1, rfl⟩ := within_bd h
      exact ⟨0, ⟨k, n, t, s, d⟩, q, rfl, by simp, bind_bd hR (nd_ok (j := 0) hA rfl) h1⟩
    · rcases then_bd h with h | ⟨a, _, h⟩
      · obtain ⟨j, y, q, h1, rfl, h3⟩ := binds_bd hR (allD_tl hA) h
        exact ⟨j + 1, y, q, h1, by congr 1; omega, h3⟩
      · cases h
theorem namesD_bd {x : Dt} {e : Int} {p : List Int} (hx : okD x) (h : namesD x = .bad e p) : BadP 1 x e p := by
  unfold namesD at h
  split at h
  · cases h
    exact .here _ (by decide) (by decide)
  · obtain ⟨j, y, q, h1, rfl, h3⟩ := names_bd hx.2 h
    rw [Int.zero_add]
    exact h3.kid h1
theorem bindsD_bd {R : Dt → PR Frm} (hR : ∀ y e p, okD y → R y = .bad e p → BadP 2 y e p) {x : Dt} {e : Int} {p : List Int} (hx : okD x) (h : bindsD R x = .bad e p) : BadP 1 x e p := by
  unfold bindsD at h
  split at h
  · cases h
    exact .here _ (by decide) (by decide)
  · obtain ⟨j, y, q, h1, rfl, h3⟩ := binds_bd hR hx.2 h
    rw [Int.zero_add]
    exact (h3.kid h1).less (by omega)

/-- Forms from a place on. -/
theorem from1 {R : Dt → PR Frm} (hR : ∀ y e p, okD y → R y = .bad e p → BadP 2 y e p) {x : Dt} {e : Int} {p : List Int} (hx : okD x) (h : formsM R 1 x.s.tl = .bad e p) : BadP 2 x e p := by
  obtain ⟨j, y, q, h1, rfl, h3⟩ := forms_bd hR (allD_tl hx.2) h
  rw [Fo.nd_tl] at h1
  have := (h3.kid h1).less (show 2 ≤ 3 by omega)
  rwa [show ((1 : Int) + (j : Int)) = ((j + 1 : Nat) : Int) by omega]
theorem from2 {R : Dt → PR Frm} (hR : ∀ y e p, okD y → R y = .bad e p → BadP 2 y e p) {x : Dt} {e : Int} {p : List Int} (hx : okD x) (h : formsM R 2 x.s.tl.tl = .bad e p) : BadP 2 x e p := by
  obtain ⟨j, y, q, h1, rfl, h3⟩ := forms_bd hR (allD_tl (allD_tl hx.2)) h
  rw [Fo.nd_tl, Fo.nd_tl] at h1
  have := (h3.kid h1).less (show 2 ≤ 3 by omega)
  rwa [show ((2 : Int) + (j : Int)) = ((j + 1 + 1 : Nat) : Int) by omega]
theorem shp_two {kd : Nat} (h : kd = 4 ∨ kd = 5 ∨ kd = 6 ∨ kd = 8) : (shpOf kd).2.1 = 1 ∧ (shpOf kd).2.2.1 = 1 := by
  rcases h with rfl | rfl | rfl | rfl <;> exact ⟨rfl, rfl⟩
theorem list_bd {R : Dt → PR Frm} (hR : ∀ y e p, okD y → R y = .bad e p → BadP 2 y e p) {within : Bool} {x : Dt} {e : Int} {p : List Int} (hx : okD x) (h : listM R within x = .bad e p) : BadP 2 x e p := by
  unfold listM at h
  split at h
  · cases h
    exact .here _ (by decide) (by decide)
  · split at h
    · unfold callM at h
      split at h
      · cases h
        exact .here _ (by decide) (by decide)
      · rcases then_bd h with h | ⟨a, _, h⟩
        · obtain ⟨j, y, q, h1, rfl, h3⟩ := forms_bd hR hx.2 h
          rw [Int.zero_add]
          exact (h3.kid h1).less (by omega)
        · cases h
    · rename_i kd _
      split at h
      · cases h
        exact .here _ (by decide) (by decide)
      · rename_i hc
        have hl : (kd = 4 ∨ kd = 5 ∨ kd = 6 ∨ kd = 8) → 3 ≤ x.s.len := fun hk => by
          obtain ⟨a1, a2⟩ := shp_two hk
          simp only [Bool.or_eq_true, not_or, Bool.not_eq_true', Bool.not_eq_false] at hc
          have := hc.1
          unfold takesB at this
          rw [a1, a2] at this
          simp only [Bool.and_eq_true, decide_eq_true_eq] at this
          omega
        have h : rowM R kd x = .bad e p := by
          rcases then_bd h with h | ⟨a, _, h⟩
          · exact h
          · cases h
        have e1 : 3 ≤ x.s.len → x.s.nd 1 = some x.s.tl.hd := fun h => by rw [← Fo.nd_tl x.s 0]; exact Fo.nd_hd (by rw [Fo.tl_len]; omega)
        unfold rowM at h
        split at h
        · cases h
        split at h
        · rename_i hk
          have e1 := e1 (hl (by omega))
          rcases then_bd h with h | ⟨a, _, h⟩
          · obtain ⟨q, h1, rfl⟩ := within_bd h
            exact (namesD_bd (nd_ok hx.2 e1) h1).kid e1
          · rcases then_bd h with h | ⟨a, _, h⟩
            · exact from2 hR hx h
            · cases h
        have hnamed : (kd = 5 ∨ kd = 6) → rowNamed R x = .bad e p → BadP 2 x e p := fun hk h => by
          have e1 := e1 (hl (by omega))
          rcases then_bd h with h | ⟨a, _, h⟩
          · obtain ⟨q, h1, rfl⟩ := within_bd h
            exact (varim_bd (nd_ok hx.2 e1) h1 1).kid e1
          · rcases then_bd h with h | ⟨a, _, h⟩
            · exact from2 hR hx h
            · cases h
        split at h
        · rename_i hk; exact hnamed (.inl hk) h
        split at h
        · rename_i hk; exact hnamed (.inr hk) h
        split at h
        · rename_i hk
          have e1 := e1 (hl (by omega))
          rcases then_bd h with h | ⟨a, _, h⟩
          · obtain ⟨q, h1, rfl⟩ := within_bd h
            exact (bindsD_bd hR (nd_ok hx.2 e1) h1).kid e1
          · rcases then_bd h with h | ⟨a, _, h⟩
            · exact from2 hR hx h
            · cases h
        · rcases then_bd h with h | ⟨a, _, h⟩
          · exact from1 hR hx h
          · cases h
theorem form_bd : ∀ (K : Nat) {within : Bool} {x : Dt} {e : Int} {p : List Int}, okD x → formM K within x = .bad e p → BadP 2 x e p
  | 0, _, _, _, _, _, h => by cases h; exact .here _ (by decide) (by decide)
  | K + 1, within, x, e, p, hx, h => by
    unfold formM at h
    split at h
    · exact list_bd (fun y e p hy h => form_bd K hy h) hx h
    split at h
    · rename_i hk
      split at h
      · cases h
      · rename_i hn
        cases h
        refine ⟨x, rfl, fun h => absurd h (by decide), fun _ => ?_⟩
        have hc := symB_can (ok_sym hx hk)
        unfold nameB at hn
        rw [hc] at hn
        cases hw : kwOf x.t <;> simp_all
    · cases h
/-- Of: its error's path leads to a datum of what was handed in. -/
theorem of_path (x : Dt) : BadP 2 x (ofM x).2.1 (ofM x).2.2 := by
  cases hc : canB x with
  | false =>
    have e : ofM x = (frm0, 70, []) := by unfold ofM; rw [hc]; rfl
    rw [e]
    exact .here 2 (show (70 : Int) ≠ 72 by decide) (show (70 : Int) ≠ 71 by decide)
  | true =>
    cases h : formM 200 false x with
    | ok f =>
      have e : ofM x = (f, 0, []) := by unfold ofM; rw [hc, if_pos rfl, h]
      rw [e]
      exact .here 2 (show (0 : Int) ≠ 72 by decide) (show (0 : Int) ≠ 71 by decide)
    | bad e p =>
      have e1 : ofM x = (frm0, e, p) := by unfold ofM; rw [hc, if_pos rfl, h]
      rw [e1]
      exact form_bd 200 (canB_ok hc) h
end Go.Proofs.YtkgnigloboajcaaGreatDoor

/- A datum whose quoted numbers and truths stand without their quote: plain mathematics. -/
namespace Go.Proofs.YtkgnigloboajcaaGreatDoor

def quB (s : Fo) (d : Bool) : Bool := s.len == 2 && (!d && (s.hd.k == 2 && decide (s.hd.t = quoteB)))
def atomB (x : Dt) : Bool := x.k != 5 && x.k != 2
def plOne (k n : Int) (t : List UInt8) (s : Fo) (d : Bool) (ps : Fo) : Dt :=
  if k ≠ 5 then ⟨k, n, t, s, d⟩ else if quB s d then (if atomB s.tl.hd then s.tl.hd else ⟨k, n, t, s, d⟩) else ⟨k, n, t, ps, d⟩
def plF : Fo → Fo
  | .nil => .nil
  | .cons k n t s d r => (plOne k n t s d (plF s)).fo (plF r)
def plD (x : Dt) : Dt := plOne x.k x.n x.t x.s x.d (plF x.s)
theorem plF_len : ∀ f : Fo, (plF f).len = f.len
  | .nil => rfl
  | .cons _ _ _ _ _ r => by simp only [plF, Dt.fo, Fo.len, plF_len r]
theorem fo_hd_tl {s : Fo} (h : 0 < s.len) : s = s.hd.fo s.tl := by
  cases s with
  | nil => simp [Fo.len] at h
  | cons k n t s d r => rfl
theorem plD_list {x : Dt} (hk : x.k = 5) (hq : quB x.s x.d = false) : plD x = ⟨5, x.n, x.t, plF x.s, x.d⟩ := by
  unfold plD plOne
  rw [if_neg (by simp [hk]), hq, hk]
  rfl
theorem plD_atom {x : Dt} (hk : x.k ≠ 5) : plD x = x := by unfold plD plOne; rw [if_pos hk]
/-! What a datum that is one is made of. -/
theorem dat_sym {x : Dt} (h : okD x) (hk : x.k = 2) : x = ⟨2, 0, x.t, .nil, false⟩ := by
  obtain ⟨k, n, t, s, d⟩ := x
  have h1 := h.1
  simp only at hk
  subst hk
  have h1 : isDat 2 n t s d = true := h1
  unfold isDat at h1
  rw [if_neg (by decide), if_pos rfl] at h1
  simp only [sameB, Bool.and_eq_true, beq_iff_eq, decide_eq_true_eq] at h1
  obtain ⟨⟨_, h2, _, h3, h4⟩, _⟩ := h1
  have h5 := (Fo.same_iff _ _).1 h4
  subst h2 h3 h5
  rfl
theorem dat_t {x : Dt} (h : okD x) (hk : x.k ≠ 2) : x.t = [] := by
  have h1 := h.1
  unfold isDat at h1
  split at h1
  · simp only [sameB, Bool.and_eq_true, decide_eq_true_eq] at h1; exact h1.1.2.2.1
  split at h1
  · simp only [sameB, Bool.and_eq_true, decide_eq_true_eq] at h1; exact h1.2.2.1
  split at h1
  · simp only [Bool.and_eq_true, decide_eq_true_eq] at h1; exact h1.2.1
  · cases h1
theorem ok_hd {s : Fo} (h : allD s = true) (hl : 0 < s.len) : okD s.hd := nd_ok h (Fo.nd_hd hl)
/-! It is a datum, no deeper, no more, no longer. -/
/-- How long a row's texts are, each by itself. -/
def LeT (l m : List (List UInt8)) : Prop := l.length = m.length ∧ ∀ j, (l.getD j []).length ≤ (m.getD j []).length
theorem LeT.cons {x y : List UInt8} {l m : List (List UInt8)} (h : x.length ≤ y.length) (h2 : LeT l m) : LeT (x :: l) (y :: m) :=
  ⟨by simp [h2.1], fun j => by cases j with | zero => exact h | succ j => exact h2.2 j⟩
def Dt.tx1 (x : Dt) : List UInt8 := oneT x.k x.n x.t x.s x.d (textsT x.s)
theorem dep_one (x : Dt) (L : Nat) : dep L (x.fo .nil) = if x.k = 5 then max (L + 1) (dep (L + 1) x.s) else dep L x.s := by
  show max (if x.k = 5 then max (L + 1) (dep (L + 1) x.s) else dep L x.s) 0 = _
  omega
theorem canB_iff {x : Dt} : canB x = true ↔ okD x ∧ dep 0 (x.fo .nil) ≤ 100 ∧ x.s.size + 1 ≤ 10000 ∧ x.tx1.length ≤ 65536 := by
  have es : (x.fo .nil).size = x.s.size + 1 := by simp [Dt.fo, Fo.size]
  have et : linesT (textsT (x.fo .nil)) = x.tx1 := rfl
  have ea : allD (x.fo .nil) = true ↔ okD x := by
    show (isDat x.k x.n x.t x.s x.d && (allD x.s && true)) = true ↔ _
    simp [okD]
  have hz := chk_zero (f := x.fo .nil)
  rw [ea, es] at hz
  have h2 : ∀ f, (chk f ≠ 0 → chk f ≠ 0) := fun _ h => h
  unfold canB writeOf
  rw [et]
  by_cases h0 : chk (x.fo .nil) = 0
  · have := hz.1 h0
    rw [if_neg (by simp [h0])]
    by_cases hl : 65536 < x.tx1.length
    · rw [if_pos hl]; constructor
      · intro h; simp at h
      · intro h; omega
    · rw [if_neg hl]
      exact ⟨fun _ => ⟨this.1, this.2.1, this.2.2, by omega⟩, fun _ => by simp⟩
  · rw [if_pos h0]
    constructor
    · intro h; exact absurd (by simpa using h) h0
    · intro h; exact absurd (hz.2 ⟨h.1, h.2.1, h.2.2.1⟩) h0
end Go.Proofs.YtkgnigloboajcaaGreatDoor

/- What stands within what can be written can be written; there and back, as mathematics. -/
namespace Go.Proofs.YtkgnigloboajcaaGreatDoor

theorem nd_size : ∀ {s : Fo} {j : Nat} {y : Dt}, s.nd j = some y → y.s.size + 1 ≤ s.size
  | .nil, _, _, h => by cases h
  | .cons k n t s d r, 0, y, h => by cases h; simp only [Fo.size]; omega
  | .cons k n t s d r, j + 1, y, h => by have := nd_size (s := r) h; simp only [Fo.size]; omega
theorem nd_dep : ∀ {s : Fo} {j : Nat} {y : Dt} {L : Nat}, s.nd j = some y → dep L (y.fo .nil) ≤ dep L s
  | .nil, _, _, _, h => by cases h
  | .cons k n t s d r, 0, y, L, h => by cases h; rw [dep_one]; simp only [dep]; omega
  | .cons k n t s d r, j + 1, y, L, h => by have := nd_dep (s := r) (L := L) h; simp only [dep]; omega
theorem nd_text : ∀ {s : Fo} {j : Nat} {y : Dt}, s.nd j = some y → (textsT s).getD j [] = y.tx1
  | .nil, _, _, h => by cases h
  | .cons k n t s d r, 0, y, h => by cases h; rfl
  | .cons k n t s d r, j + 1, y, h => nd_text (s := r) h
theorem kidsT_has (d : Bool) : ∀ (l : List (List UInt8)) (b : Bool) (j : Nat), (l.getD j []).length ≤ (kidsT d b l).length
  | [], _, _ => by simp
  | x :: l, b, 0 => by simp only [kidsT, List.length_append, List.getD_cons_zero]; omega
  | x :: l, b, j + 1 => by
    have := kidsT_has d l false j
    simp only [kidsT, List.length_append, List.getD_cons_succ]
    omega
/-- A Kid of what can be written can be. -/
theorem can_kid {x y : Dt} {j : Nat} (h : canB x = true) (hk : x.k = 5) (hj : x.s.nd j = some y) : canB y = true := by
  rw [canB_iff] at h ⊢
  obtain ⟨h1, h2, h3, h4⟩ := h
  refine ⟨nd_ok h1.2 hj, ?_, ?_, ?_⟩
  · rw [dep_one, if_pos hk] at h2
    have a := nd_dep (L := 0 + 1) hj
    have b := dep_mono (y.fo .nil) 0 (0 + 1) (by omega)
    omega
  · have := nd_size hj; omega
  · have ht := nd_text hj
    cases hi : isQ x.s x.d with
    | false =>
      have e : x.tx1 = 40 :: (kidsT x.d true (textsT x.s) ++ [41]) := by
        unfold Dt.tx1 oneT
        rw [if_neg (by omega), if_neg (by omega), if_neg (by omega), if_neg (by omega), hi]
        rfl
      have := kidsT_has x.d (textsT x.s) true j
      rw [ht] at this
      rw [e, List.length_cons, List.length_append] at h4
      omega
    | true =>
      have e : x.tx1 = 39 :: (textsT x.s).getD 1 [] := by
        unfold Dt.tx1 oneT
        rw [if_neg (by omega), if_neg (by omega), if_neg (by omega), if_neg (by omega), if_pos hi]
      rw [e, List.length_cons] at h4
      obtain ⟨hd, k, n, t, s1, d1, es⟩ := isQ_spec hi
      have hl := Fo.nd_lt hj
      rw [es] at hj ht h4 hl
      simp only [Fo.len] at hl
      match j with
      | 0 => cases hj; simp [Dt.tx1, oneT, quoteB]
      | 1 => rw [ht] at h4; omega
      | j + 2 => omega
/-- All of a row can be written, each by itself. -/
def CanF (s : Fo) : Prop := ∀ j y, s.nd j = some y → canB y = true
theorem CanF.of {x : Dt} (h : canB x = true) (hk : x.k = 5) : CanF x.s := fun _ _ hj => can_kid h hk hj
theorem CanF.tl {s : Fo} (h : CanF s) : CanF s.tl := fun j y hj => h (j + 1) y (by rw [← Fo.nd_tl]; exact hj)
theorem within_ok {α : Type} {i : Int} {x : PR α} {a : α} (h : x.within i = .ok a) : x = .ok a := by
  cases x with
  | ok b => exact h
  | bad e p => cases h
theorem then_ok {α β : Type} {x : PR α} {K : α → PR β} {b : β} (h : x.then K = .ok b) : ∃ a, x = .ok a ∧ K a = .ok b := by
  cases x with
  | ok a => exact ⟨a, rfl, h⟩
  | bad e p => cases h
/-! Names. -/
theorem new_ok {ahead : List (List UInt8)} {k : Int} {t a : List UInt8} (h : newM ahead k t = .ok a) : k = 2 ∧ varB t = true ∧ a = t ∧ t ∉ ahead := by
  unfold newM at h
  split at h
  · cases h
  · rename_i hc
    split at h
    · cases h
    · rename_i hm
      cases h
      have h1 : ¬ (k ≠ 2) := fun e => hc (by simp [e])
      refine ⟨Decidable.not_not.1 h1, ?_, rfl, hm⟩
      cases hv : varB t with
      | true => rfl
      | false => exact absurd (by simp [hv]) hc
theorem vari_ok {k : Int} {t a : List UInt8} (h : variM k t = .ok a) : k = 2 ∧ varB t = true ∧ a = t := by
  unfold variM at h
  split at h
  · cases h
  · rename_i hc
    cases h
    have h1 : ¬ (k ≠ 2) := fun e => hc (by simp [e])
    refine ⟨Decidable.not_not.1 h1, ?_, rfl⟩
    cases hv : varB t with
    | true => rfl
    | false => exact absurd (by simp [hv]) hc
end Go.Proofs.YtkgnigloboajcaaGreatDoor

/- Which errors there are: plain mathematics. -/
namespace Go.Proofs.YtkgnigloboajcaaGreatDoor

/-- One of the three errors. -/
def Er (e : Int) : Prop := e = 70 ∨ e = 71 ∨ e = 72
def PE {α : Type} (x : PR α) : Prop := ∀ e p, x = .bad e p → Er e
theorem PE.ok {α : Type} (a : α) : PE (.ok a) := fun _ _ h => by cases h
theorem PE.bad {α : Type} {e : Int} {p : List Int} (h : Er e) : PE (.bad e p : PR α) := fun _ _ k => by cases k; exact h
theorem PE.within {α : Type} {x : PR α} {i : Int} (h : PE x) : PE (x.within i) := by
  cases x with
  | ok a => exact .ok a
  | bad e p => exact .bad (h e p rfl)
theorem PE.then {α β : Type} {x : PR α} {K : α → PR β} (h : PE x) (k : ∀ a, PE (K a)) : PE (x.then K) := by
  cases x with
  | ok a => exact k a
  | bad e p => exact .bad (h e p rfl)
theorem nd_dpt : ∀ {s : Fo} {j : Nat} {y : Dt}, s.nd j = some y → y.s.dpt + 1 ≤ s.dpt
  | .nil, _, _, h => by cases h
  | .cons k n t s d r, 0, y, h => by cases h; simp only [Fo.dpt]; omega
  | .cons k n t s d r, j + 1, y, h => by have := nd_dpt (s := r) h; simp only [Fo.dpt]; omega
theorem tl_dpt (s : Fo) : s.tl.dpt ≤ s.dpt := by cases s <;> simp only [Fo.tl, Fo.dpt] <;> omega
theorem hd_dpt (s : Fo) : s.hd.s.dpt ≤ s.dpt := by
  cases s with
  | nil => exact Nat.le_refl _
  | cons k n t s d r => simp only [Fo.hd, Fo.dpt]; omega
theorem pe_new (ahead : List (List UInt8)) (k : Int) (t : List UInt8) : PE (newM ahead k t) := by
  unfold newM
  split
  · exact .bad (.inr (.inl rfl))
  split
  · exact .bad (.inr (.inr rfl))
  · exact .ok _
theorem pe_vari (k : Int) (t : List UInt8) : PE (variM k t) := by
  unfold variM
  split
  · exact .bad (.inr (.inl rfl))
  · exact .ok _
theorem pe_names : ∀ (s : Fo) (ahead : List (List UInt8)) (i : Int), PE (namesM ahead i s)
  | .nil, _, _ => .ok _
  | .cons k _ t _ _ r, ahead, i => (pe_new ahead k t).within.then fun x => (pe_names r (ahead ++ [x]) (i + 1)).then fun _ => .ok _
theorem pe_forms {R : Dt → PR Frm} {D : Nat} (hR : ∀ y, y.s.dpt + 1 ≤ D → PE (R y)) : ∀ (s : Fo) (i : Int), s.dpt ≤ D → PE (formsM R i s)
  | .nil, _, _ => .ok _
  | .cons k n t s d r, i, h => by
    simp only [Fo.dpt] at h
    exact (hR ⟨k, n, t, s, d⟩ (by show s.dpt + 1 ≤ D; omega)).within.then fun x => (pe_forms hR r (i + 1) (by omega)).then fun g => .ok _
theorem pe_bind {R : Dt → PR Frm} {D : Nat} (hR : ∀ y, y.s.dpt + 1 ≤ D → PE (R y)) (ahead : List (List UInt8)) (x : Dt) (h : x.s.dpt ≤ D) : PE (bindM R ahead x) := by
  unfold bindM
  split
  · exact .bad (.inl rfl)
  · rename_i hc
    have hl : x.s.len = 2 := by
      simp only [Bool.or_eq_true, not_or] at hc
      simpa using hc.2
    have e1 : x.s.nd 1 = some x.s.tl.hd := by rw [← Fo.nd_tl x.s 0]; exact Fo.nd_hd (by rw [Fo.tl_len]; omega)
    exact (pe_new ahead _ _).within.then fun a => ((hR _ (by have := nd_dpt e1; omega)).within).then fun f => .ok _
theorem pe_binds {R : Dt → PR Frm} {D : Nat} (hR : ∀ y, y.s.dpt + 1 ≤ D → PE (R y)) : ∀ (s : Fo) (ahead : List (List UInt8)) (i : Int), s.dpt ≤ D → PE (bindsM R ahead i s)
  | .nil, _, _, _ => .ok _
  | .cons k n t s d r, ahead, i, h => by
    simp only [Fo.dpt] at h
    exact (pe_bind hR ahead ⟨k, n, t, s, d⟩ (by show s.dpt ≤ D; omega)).within.then fun x => (pe_binds hR r (ahead ++ [x.1]) (i + 1) (by omega)).then fun y => .ok _
theorem pe_list {R : Dt → PR Frm} {D : Nat} (hR : ∀ y, y.s.dpt + 1 ≤ D → PE (R y)) (w : Bool) (x : Dt) (h : x.s.dpt ≤ D) : PE (listM R w x) := by
  have t1 := tl_dpt x.s
  have t2 := tl_dpt x.s.tl
  have t3 := hd_dpt x.s.tl
  unfold listM
  split
  · exact .bad (.inl rfl)
  split
  · unfold callM
    split
    · exact .bad (.inl rfl)
    · exact (pe_forms hR x.s 0 h).then fun g => .ok _
  split
  · exact .bad (.inl rfl)
  · refine PE.then ?_ fun f => .ok _
    unfold rowM
    have hn : PE (rowNamed R x) := (pe_vari _ _).within.then fun a => (pe_forms hR _ 2 (by omega)).then fun g => .ok _
    split
    · exact .ok _
    split
    · refine PE.then (PE.within ?_) fun l => (pe_forms hR _ 2 (by omega)).then fun g => .ok _
      unfold namesD
      split
      · exact .bad (.inl rfl)
      · exact pe_names _ _ _
    split
    · exact hn
    split
    · exact hn
    split
    · refine PE.then (PE.within ?_) fun l => (pe_forms hR _ 2 (by omega)).then fun g => .ok _
      unfold bindsD
      split
      · exact .bad (.inl rfl)
      · exact pe_binds hR _ _ _ (by omega)
    · exact (pe_forms hR _ 1 (by omega)).then fun g => .ok _
theorem pe_form : ∀ (K : Nat) (w : Bool) (x : Dt), x.s.dpt + 1 ≤ K → PE (formM K w x)
  | 0, _, _, h => by omega
  | K + 1, w, x, h => by
    unfold formM
    split
    · exact pe_list (fun y hy => pe_form K true y hy) w x (by omega)
    split
    · split
      · exact .ok _
      · exact .bad (.inr (.inl rfl))
    · exact .ok _
end Go.Proofs.YtkgnigloboajcaaGreatDoor

/- There and back, of any datum that is a form: plain mathematics. -/
namespace Go.Proofs.YtkgnigloboajcaaGreatDoor

theorem shp_word {s : List UInt8} {kd : Nat} (h : kwOf s = some kd) : (shpOf kd).1 = s := by
  unfold kwOf at h
  split at h
  · cases h
  · obtain ⟨j, hj, he⟩ := Option.map_eq_some_iff.1 h
    subst he
    obtain ⟨hl, hp, _⟩ := List.findIdx?_eq_some_iff_getElem.1 hj
    unfold shpOf
    rw [Nat.add_sub_cancel, List.getD_eq_getElem?_getD, List.getElem?_eq_getElem hl]
    simpa using hp
theorem kw_sym {x : Dt} {kd : Nat} (h : okD x) (hk : kwOf x.t = some kd) : x.k = 2 := by
  by_cases h2 : x.k = 2
  · exact h2
  · rw [dat_t h h2] at hk; cases hk
theorem kw_quote {s : List UInt8} {kd : Nat} (h : kwOf s = some kd) : kd = 1 ↔ s = quoteB := by
  have hw := shp_word h
  constructor
  · rintro rfl; exact hw.symm
  · rintro rfl
    have : kwOf quoteB = some 1 := by decide
    rw [this] at h
    exact (Option.some.inj h).symm
theorem word_of {s : List UInt8} {kd : Nat} (h : kwOf s = some kd) (hs : s ≠ []) : wordF (kd : Int) = Dt.fo ⟨2, 0, s, .nil, false⟩ .nil := by
  have hw := shp_word h
  unfold wordF
  rw [Int.toNat_natCast, hw, if_neg hs]
  rfl
/-- The parts of a list that is a form by a keyword, but for a quote. -/
structure Kw (x : Dt) (kd : Nat) (within : Bool) : Prop where
  k : x.k = 5
  d : x.d = false
  n : x.n = 0
  t : x.t = []
  ok : okD x
  can : canB x = true
  kw : kwOf x.s.hd.t = some kd
  ne : kd ≠ 1
  takes : takesB kd (x.s.len - 1 - (shpOf kd).2.1) = true
  out : ¬ (within = true ∧ kd = 5)
  len : 0 < x.s.len
theorem Kw.sym {x : Dt} {kd : Nat} {w : Bool} (h : Kw x kd w) : x.s.hd = ⟨2, 0, x.s.hd.t, .nil, false⟩ := dat_sym (ok_hd h.ok.2 h.len) (kw_sym (ok_hd h.ok.2 h.len) h.kw)
theorem Kw.txt {x : Dt} {kd : Nat} {w : Bool} (h : Kw x kd w) : x.s.hd.t ≠ [] := fun e => by have := h.kw; rw [e] at this; cases this
theorem Kw.qu {x : Dt} {kd : Nat} {w : Bool} (h : Kw x kd w) : quB x.s x.d = false := by
  cases hq : quB x.s x.d with
  | false => rfl
  | true =>
    unfold quB at hq
    simp only [Bool.and_eq_true, decide_eq_true_eq] at hq
    exact absurd ((kw_quote h.kw).2 hq.2.2.2) h.ne
theorem Kw.pl {x : Dt} {kd : Nat} {w : Bool} (h : Kw x kd w) : plD x = listD (Dt.fo ⟨2, 0, x.s.hd.t, .nil, false⟩ (plF x.s.tl)) := by
  have e1 : plF x.s = (plD x.s.hd).fo (plF x.s.tl) := by
    have := fo_hd_tl h.len
    have e : plF x.s = plF (x.s.hd.fo x.s.tl) := by rw [← this]
    rw [e]; rfl
  rw [plD_list h.k h.qu, h.n, h.t, h.d, e1, plD_atom (by rw [kw_sym (ok_hd h.ok.2 h.len) h.kw]; decide), ← h.sym]
  rfl
/-- A list of what is plain, begun by the same keyword: what listM makes of it. -/
theorem Kw.again {x : Dt} {kd : Nat} {w : Bool} (h : Kw x kd w) {R : Dt → PR Frm} {f : Frm} (hr : rowM R kd (plD x) = .ok f) : listM R w (plD x) = .ok { f with kind := kd } := by
  have hl : (plD x).s.len = x.s.len := by
    rw [h.pl]
    show (plF x.s.tl).len + 1 = _
    have := h.len
    rw [plF_len, Fo.tl_len]
    omega
  have hh : (plD x).s.hd.t = x.s.hd.t := by rw [h.pl]; rfl
  have hd : (plD x).d = false := by rw [h.pl]; rfl
  have h0 := h.len
  unfold listM
  rw [if_neg (by rw [hd, hl]; simp; omega), hh]
  simp only [h.kw]
  rw [if_neg, hr]
  · rfl
  · rw [hl]
    have := h.out
    simp only [h.takes, Bool.not_true, Bool.false_or, Bool.and_eq_true, beq_iff_eq]
    exact fun e => this ⟨e.2, e.1⟩
theorem Kw.app {x : Dt} {kd : Nat} {w : Bool} (h : Kw x kd w) {A B : Fo} : listD (((wordF (kd : Int)).app A).app B) = listD (Dt.fo ⟨2, 0, x.s.hd.t, .nil, false⟩ (A.app B)) := by
  rw [word_of h.kw h.txt]
  rfl
/-- The second Kid of a keyword's list that wants one. -/
theorem Kw.three {x : Dt} {kd : Nat} {w : Bool} (h : Kw x kd w) (hk : kd = 4 ∨ kd = 5 ∨ kd = 6 ∨ kd = 8) : 3 ≤ x.s.len ∧ (shpOf kd).2.1 = 1 := by
  obtain ⟨a1, a2⟩ := shp_two hk
  have := h.takes
  unfold takesB at this
  rw [a1, a2] at this
  simp only [Bool.and_eq_true, decide_eq_true_eq] at this
  exact ⟨by omega, a1⟩
end Go.Proofs.YtkgnigloboajcaaGreatDoor

/- How much a form is: plain mathematics. -/
namespace Go.Proofs.YtkgnigloboajcaaGreatDoor

/-- A form that is not too much. -/
structure Szd (n : Nat) (f : Frm) : Prop where
  ok : FOk f
  ks : f.kids.oks
  wt : (f.fm .nil).wt ≤ n
theorem hd_dok {s : Fo} (hs : s.size ≤ 1000000) (ht : s.tx) : DOk s.hd := by
  cases s with
  | nil => exact ⟨by show 0 ≤ 1000000; omega, by show 0 ≤ 281474976710656; omega, trivial⟩
  | cons k n t s d r => simp only [Fo.size] at hs; exact ⟨by show s.size ≤ 1000000; omega, ht.1, ht.2.1⟩
theorem tl_size (s : Fo) : s.tl.size ≤ s.size := by cases s <;> simp only [Fo.tl, Fo.size] <;> omega
theorem tl_tx {s : Fo} (h : s.tx) : s.tl.tx := by cases s with | nil => trivial | cons k n t s d r => exact h.2.2
theorem hd_size {s : Fo} (h : 0 < s.len) : s.size = s.hd.s.size + s.tl.size + 1 := by
  cases s with
  | nil => simp [Fo.len] at h
  | cons k n t s d r => rfl
theorem hd_size' (s : Fo) : s.hd.s.size + s.tl.size ≤ s.size := by cases s <;> simp only [Fo.hd, Fo.tl, Fo.size, dt0] <;> omega
theorem szd_forms {R : Dt → PR Frm} (hR : ∀ y f, DOk y → R y = .ok f → Szd (6 * (y.s.size + 1)) f) : ∀ {s : Fo} {i : Int} {g : Fm}, s.size ≤ 1000000 → s.tx → formsM R i s = .ok g → g.oks ∧ g.wt ≤ 6 * s.size ∧ g.len = s.len
  | .nil, _, _, _, _, h => by cases h; exact ⟨trivial, Nat.le_refl _, rfl⟩
  | .cons k n t s d r, i, g, hs, ht, h => by
    obtain ⟨f, h1, h2⟩ := then_ok h
    obtain ⟨g', h3, h4⟩ := then_ok h2
    cases h4
    have hs' := hs
    simp only [Fo.size] at hs'
    have a := hR ⟨k, n, t, s, d⟩ f ⟨by show s.size ≤ 1000000; omega, ht.1, ht.2.1⟩ (within_ok h1)
    obtain ⟨e1, e2, e3⟩ := szd_forms hR (s := r) (by omega) ht.2.2 h3
    refine ⟨⟨a.ok, a.ks, e1⟩, ?_, ?_⟩
    · have h5 := a.wt
      have h6 : (f.fm .nil).wt = 4 + 2 * f.names.length + f.kids.wt + f.dat.s.size + 0 := rfl
      show 4 + 2 * f.names.length + f.kids.wt + f.dat.s.size + g'.wt ≤ 6 * (s.size + r.size + 1)
      have h7 : (f.fm .nil).wt ≤ 6 * (s.size + 1) := h5
      omega
    · show g'.len + 1 = r.len + 1
      rw [e3]
theorem szd_names : ∀ {s : Fo} {ahead : List (List UInt8)} {i : Int} {l : List (List UInt8)}, s.tx → namesM ahead i s = .ok l → l.length = s.len ∧ ∀ a ∈ l, a.length ≤ 281474976710656
  | .nil, _, _, _, _, h => by cases h; exact ⟨rfl, fun a h => by cases h⟩
  | .cons k n t s d r, ahead, i, l, ht, h => by
    obtain ⟨a, h1, h2⟩ := then_ok h
    obtain ⟨l', h3, h4⟩ := then_ok h2
    cases h4
    obtain ⟨_, _, rfl, _⟩ := new_ok (within_ok h1)
    obtain ⟨e1, e2⟩ := szd_names (s := r) ht.2.2 h3
    refine ⟨by show l'.length + 1 = r.len + 1; rw [e1], fun b hb => ?_⟩
    rw [List.mem_cons] at hb
    rcases hb with rfl | hb
    · exact ht.1
    · exact e2 b hb
theorem szd_binds {R : Dt → PR Frm} (hR : ∀ y f, DOk y → R y = .ok f → Szd (6 * (y.s.size + 1)) f) : ∀ {s : Fo} {ahead : List (List UInt8)} {i : Int} {y : List (List UInt8) × Fm}, s.size ≤ 1000000 → s.tx → bindsM R ahead i s = .ok y →
    y.1.length = s.len ∧ (∀ a ∈ y.1, a.length ≤ 281474976710656) ∧ y.2.oks ∧ y.2.len = s.len ∧ 2 * y.1.length + y.2.wt ≤ 6 * s.size
  | .nil, _, _, _, _, _, h => by cases h; exact ⟨rfl, fun a h => by simp at h, trivial, rfl, Nat.le_refl _⟩
  | .cons k n t s d r, ahead, i, y, hs, ht, h => by
    obtain ⟨x, h1, h2⟩ := then_ok h
    obtain ⟨y', h3, h4⟩ := then_ok h2
    cases h4
    have hx := within_ok h1
    have hs' := hs
    simp only [Fo.size] at hs'
    obtain ⟨e1, e2, e3, e4, e5⟩ := szd_binds hR (s := r) (by omega) ht.2.2 h3
    unfold bindM at hx
    split at hx
    · cases hx
    rename_i hc
    simp only [Bool.or_eq_true, not_or, Bool.not_eq_true', Bool.not_eq_false] at hc
    have hl : s.len = 2 := by simpa using hc.2
    obtain ⟨a, h5, h6⟩ := then_ok hx
    obtain ⟨f, h7, h8⟩ := then_ok h6
    cases h8
    obtain ⟨_, _, rfl, _⟩ := new_ok (within_ok h5)
    have z1 := hd_size (s := s) (by omega)
    have z2 := hd_size (s := s.tl) (by rw [Fo.tl_len]; omega)
    have hst : s.tx := ht.2.1
    have dk := hd_dok (s := s.tl) (by have := tl_size s; omega) (tl_tx hst)
    have f1 := hR s.tl.hd f dk (within_ok h7)
    have d1 := hd_dok (s := s) (by omega) hst
    refine ⟨by show y'.1.length + 1 = r.len + 1; rw [e1], fun b hb => ?_, ⟨f1.ok, f1.ks, e3⟩, by show y'.2.len + 1 = r.len + 1; rw [e4], ?_⟩
    · rcases List.mem_cons.1 hb with rfl | hb
      · exact d1.t
      · exact e2 b hb
    · have h6 : (f.fm .nil).wt = 4 + 2 * f.names.length + f.kids.wt + f.dat.s.size + 0 := rfl
      have h7 := f1.wt
      show 2 * (y'.1.length + 1) + (4 + 2 * f.names.length + f.kids.wt + f.dat.s.size + y'.2.wt) ≤ 6 * (s.size + r.size + 1)
      omega
theorem dok_0 : DOk dt0 := ⟨by show 0 ≤ 1000000; omega, by show 0 ≤ 281474976710656; omega, trivial⟩
theorem Fm.wt_app : ∀ f g : Fm, (f.app g).wt = f.wt + g.wt
  | .nil, g => by simp [Fm.app, Fm.wt]
  | .cons _ _ _ _ _ _ _ _ _ r, g => by simp only [Fm.app, Fm.wt, Fm.wt_app r g]; omega
theorem Fm.oks_app : ∀ {f g : Fm}, f.oks → g.oks → (f.app g).oks
  | .nil, _, _, h => h
  | .cons _ _ _ _ _ _ _ _ _ _, _, ⟨h1, h2, h3⟩, h => ⟨h1, h2, Fm.oks_app h3 h⟩
theorem szd_list {R : Dt → PR Frm} (hR : ∀ y f, DOk y → R y = .ok f → Szd (6 * (y.s.size + 1)) f) {w : Bool} {x : Dt} {f : Frm} (hx : DOk x) (h : listM R w x = .ok f) : Szd (6 * (x.s.size + 1)) f := by
  have s1 := tl_size x.s
  have s2 := tl_size x.s.tl
  have t1 := tl_tx hx.tx
  have t2 := tl_tx t1
  have l1 := Fo.len_size x.s
  have l2 := Fo.len_size x.s.tl
  have l3 := Fo.len_size x.s.tl.tl
  have hxs := hx.size
  have d1 : DOk x.s.tl.hd := hd_dok (by omega) t1
  have z1 := hd_size' x.s
  have z2 := hd_size' x.s.tl
  have z3 := Fo.len_size x.s.tl.hd.s
  unfold listM at h
  split at h
  · cases h
  split at h
  · unfold callM at h
    split at h
    · cases h
    · obtain ⟨g, h1, h2⟩ := then_ok h
      cases h2
      obtain ⟨e1, e2, e3⟩ := szd_forms hR hx.size hx.tx h1
      exact ⟨⟨by show 0 ≤ 281474976710656; omega, by show 0 ≤ 1000000; omega, (fun s hs => by cases hs), by show g.len ≤ 1000000; omega, dok_0⟩, e1, by show 4 + 2 * 0 + g.wt + 0 + 0 ≤ _; omega⟩
  · split at h
    · cases h
    rename_i kd _ _
    obtain ⟨f0, h1, h2⟩ := then_ok h
    cases h2
    suffices hh : Szd (6 * (x.s.size + 1)) f0 from ⟨⟨hh.ok.t, hh.ok.nl, hh.ok.ns, hh.ok.kl, hh.ok.d⟩, hh.ks, hh.wt⟩
    unfold rowM at h1
    have hn : rowNamed R x = .ok f0 → Szd (6 * (x.s.size + 1)) f0 := fun h => by
      obtain ⟨a, h0, hg⟩ := then_ok h
      obtain ⟨g, k1, k2⟩ := then_ok hg
      clear h1
      cases k2
      obtain ⟨_, _, rfl⟩ := vari_ok (within_ok h0)
      obtain ⟨e1, e2, e3⟩ := szd_forms hR (by omega) t2 k1
      exact ⟨⟨d1.t, by show 0 ≤ 1000000; omega, (fun s hs => by cases hs), by show g.len ≤ 1000000; omega, dok_0⟩, e1, by show 4 + 2 * 0 + g.wt + 0 + 0 ≤ _; omega⟩
    split at h1
    · cases h1
      exact ⟨⟨by show 0 ≤ 281474976710656; omega, by show 0 ≤ 1000000; omega, (fun s hs => by cases hs), by show 0 ≤ 1000000; omega, d1⟩, trivial, by show 4 + 2 * 0 + 0 + x.s.tl.hd.s.size + 0 ≤ _; omega⟩
    split at h1
    · obtain ⟨l, h0, hg⟩ := then_ok h1
      obtain ⟨g, k1, h2⟩ := then_ok hg
      clear h1
      have h1 := k1
      cases h2
      have h0 := within_ok h0
      unfold namesD at h0
      split at h0
      · cases h0
      obtain ⟨n1, n2⟩ := szd_names d1.tx h0
      obtain ⟨e1, e2, e3⟩ := szd_forms hR (by omega) t2 h1
      exact ⟨⟨by show 0 ≤ 281474976710656; omega, by show l.length ≤ 1000000; omega, n2, by show g.len ≤ 1000000; omega, dok_0⟩, e1, by show 4 + 2 * l.length + g.wt + 0 + 0 ≤ _; omega⟩
    split at h1
    · exact hn h1
    split at h1
    · exact hn h1
    split at h1
    · obtain ⟨y, h0, hg⟩ := then_ok h1
      obtain ⟨g, k1, h2⟩ := then_ok hg
      clear h1
      have h1 := k1
      cases h2
      have h0 := within_ok h0
      unfold bindsD at h0
      split at h0
      · cases h0
      obtain ⟨n1, n2, n3, n4, n5⟩ := szd_binds hR d1.size d1.tx h0
      obtain ⟨e1, e2, e3⟩ := szd_forms hR (by omega) t2 h1
      refine ⟨⟨by show 0 ≤ 281474976710656; omega, by show y.1.length ≤ 1000000; omega, n2, ?_, dok_0⟩, Fm.oks_app n3 e1, ?_⟩
      · show (y.2.app g).len ≤ 1000000
        rw [Fm.len_app]
        omega
      · show 4 + 2 * y.1.length + (y.2.app g).wt + 0 + 0 ≤ _
        rw [Fm.wt_app]
        omega
    · obtain ⟨g, k1, h2⟩ := then_ok h1
      clear h1
      cases h2
      obtain ⟨e1, e2, e3⟩ := szd_forms hR (by omega) t1 k1
      exact ⟨⟨by show 0 ≤ 281474976710656; omega, by show 0 ≤ 1000000; omega, (fun s hs => by cases hs), by show g.len ≤ 1000000; omega, dok_0⟩, e1, by show 4 + 2 * 0 + g.wt + 0 + 0 ≤ _; omega⟩
theorem szd_form : ∀ (K : Nat) {w : Bool} {x : Dt} {f : Frm}, DOk x → formM K w x = .ok f → Szd (6 * (x.s.size + 1)) f
  | 0, _, _, _, _, h => by cases h
  | K + 1, w, x, f, hx, h => by
    unfold formM at h
    split at h
    · exact szd_list (fun y f hy h => szd_form K hy h) hx h
    split at h
    · split at h
      · cases h
        exact ⟨⟨hx.t, by show 0 ≤ 1000000; omega, (fun s hs => by cases hs), by show 0 ≤ 1000000; omega, dok_0⟩, trivial, by show 4 + 2 * 0 + 0 + 0 + 0 ≤ _; omega⟩
      · cases h
    · cases h
      exact ⟨⟨by show 0 ≤ 281474976710656; omega, by show 0 ≤ 1000000; omega, (fun s hs => by cases hs), by show 0 ≤ 1000000; omega, hx⟩, trivial, by show 4 + 2 * 0 + 0 + x.s.size + 0 ≤ _; omega⟩
/-- What Of tells is not too much. -/
theorem of_szd {x : Dt} (hx : DOk x) : Szd 60000 (ofM x).1 := by
  have h0 : Szd 60000 frm0 := ⟨⟨by show 0 ≤ 281474976710656; omega, by show 0 ≤ 1000000; omega, (fun s hs => by cases hs), by show 0 ≤ 1000000; omega, dok_0⟩, trivial, by show 4 + 2 * 0 + 0 + 0 + 0 ≤ _; omega⟩
  cases hc : canB x with
  | false =>
    have e : ofM x = (frm0, 70, []) := by unfold ofM; rw [hc]; rfl
    rw [e]; exact h0
  | true =>
    cases h : formM 200 false x with
    | ok f =>
      have e : ofM x = (f, 0, []) := by unfold ofM; rw [hc, if_pos rfl, h]
      have k := szd_form 200 hx h
      have := (canB_iff.1 hc).2.2.1
      rw [e]
      exact ⟨k.ok, k.ks, by have := k.wt; show (f.fm .nil).wt ≤ 60000; omega⟩
    | bad er p =>
      have e : ofM x = (frm0, er, p) := by unfold ofM; rw [hc, if_pos rfl, h]
      rw [e]; exact h0
end Go.Proofs.YtkgnigloboajcaaGreatDoor

/- A form within others: plain mathematics. -/
namespace Go.Proofs.YtkgnigloboajcaaGreatDoor

/-! How deep one looks does not matter. -/
theorem cg_forms {R R' : Dt → PR Frm} {D : Nat} (hR : ∀ y, y.s.dpt + 1 ≤ D → R y = R' y) : ∀ (s : Fo) (i : Int), s.dpt ≤ D → formsM R i s = formsM R' i s
  | .nil, _, _ => rfl
  | .cons k n t s d r, i, h => by
    simp only [Fo.dpt] at h
    simp only [formsM]
    rw [hR ⟨k, n, t, s, d⟩ (by show s.dpt + 1 ≤ D; omega), cg_forms hR r (i + 1) (by omega)]
theorem cg_bind {R R' : Dt → PR Frm} {D : Nat} (hR : ∀ y, y.s.dpt + 1 ≤ D → R y = R' y) (ahead : List (List UInt8)) (x : Dt) (h : x.s.dpt ≤ D) : bindM R ahead x = bindM R' ahead x := by
  unfold bindM
  split
  · rfl
  · rename_i hc
    have hl : x.s.len = 2 := by
      simp only [Bool.or_eq_true, not_or] at hc
      simpa using hc.2
    have e1 : x.s.nd 1 = some x.s.tl.hd := by rw [← Fo.nd_tl x.s 0]; exact Fo.nd_hd (by rw [Fo.tl_len]; omega)
    rw [hR _ (by have := nd_dpt e1; omega)]
theorem cg_binds {R R' : Dt → PR Frm} {D : Nat} (hR : ∀ y, y.s.dpt + 1 ≤ D → R y = R' y) : ∀ (s : Fo) (ahead : List (List UInt8)) (i : Int), s.dpt ≤ D → bindsM R ahead i s = bindsM R' ahead i s
  | .nil, _, _, _ => rfl
  | .cons k n t s d r, ahead, i, h => by
    simp only [Fo.dpt] at h
    simp only [bindsM]
    rw [cg_bind hR ahead ⟨k, n, t, s, d⟩ (by show s.dpt ≤ D; omega)]
    congr 1
    funext x
    rw [cg_binds hR r _ _ (by omega)]
theorem cg_list {R R' : Dt → PR Frm} {D : Nat} (hR : ∀ y, y.s.dpt + 1 ≤ D → R y = R' y) (w : Bool) (x : Dt) (h : x.s.dpt ≤ D) : listM R w x = listM R' w x := by
  have t1 := tl_dpt x.s
  have t2 := tl_dpt x.s.tl
  have t3 := hd_dpt x.s.tl
  have f0 := cg_forms hR x.s 0 h
  have f1 := cg_forms hR x.s.tl 1 (by omega)
  have f2 := cg_forms hR x.s.tl.tl 2 (by omega)
  have fb := cg_binds hR x.s.tl.hd.s [] 0 (by omega)
  have hr : ∀ kd, rowM R kd x = rowM R' kd x := fun kd => by
    unfold rowM rowPlain rowNamed rowLambda rowLet bindsD
    rw [f1, f2, fb]
  unfold listM callM
  rw [f0]
  congr 1
  split
  · rfl
  · rw [hr]
theorem fuel_form : ∀ (K K' : Nat) (w : Bool) (x : Dt), x.s.dpt + 1 ≤ K → x.s.dpt + 1 ≤ K' → formM K w x = formM K' w x
  | 0, _, _, _, h, _ => by omega
  | _ + 1, 0, _, _, _, h => by omega
  | K + 1, K' + 1, w, x, h, h' => by
    unfold formM
    rw [cg_list (D := x.s.dpt) (fun y hy => fuel_form K K' true y (by omega) (by omega)) w x (Nat.le_refl _)]
/-- A define. -/
def isDef (x : Dt) : Bool := x.k == 5 && (!x.d && (x.s.len != 0 && kwOf x.s.hd.t == some 5))
theorem def_in {K : Nat} {x : Dt} (h : isDef x = true) : formM (K + 1) true x = .bad 70 [] := by
  unfold isDef at h
  simp only [Bool.and_eq_true, beq_iff_eq, Bool.not_eq_true', bne_iff_ne] at h
  obtain ⟨h1, h2, h3, h4⟩ := h
  unfold formM
  rw [if_pos h1]
  unfold listM
  rw [if_neg (by simp [h2, h3]), h4]
  simp
theorem def_out {K : Nat} {x : Dt} (h : isDef x = false) : formM K true x = formM K false x := by
  cases K with
  | zero => rfl
  | succ K =>
    unfold formM
    by_cases hk : x.k = 5
    · rw [if_pos hk, if_pos hk]
      unfold listM
      split
      · rfl
      rename_i hc
      simp only [Bool.or_eq_true, not_or, beq_iff_eq, Bool.not_eq_true] at hc
      cases hkw : kwOf x.s.hd.t with
      | none => rfl
      | some kd =>
        have : kd ≠ 5 := by
          rintro rfl
          unfold isDef at h
          simp [hk, hc.1, hc.2, hkw] at h
        have e : (kd == 5 && true) = (kd == 5 && false) := by
          have : (kd == 5) = false := by simpa using this
          rw [this]; rfl
        simp only [e]
    · rw [if_neg hk, if_neg hk]
theorem kind_of {K : Nat} {w : Bool} {x : Dt} {f : Frm} (h : formM K w x = .ok f) : f.kind = 5 ↔ isDef x = true := by
  cases K with
  | zero => cases h
  | succ K =>
    unfold formM at h
    split at h
    · rename_i hk
      unfold listM at h
      split at h
      · cases h
      rename_i hc
      simp only [Bool.or_eq_true, not_or, beq_iff_eq, Bool.not_eq_true] at hc
      cases hkw : kwOf x.s.hd.t with
      | none =>
        rw [hkw] at h
        have h : callM (formM K true) x = .ok f := h
        unfold callM at h
        split at h
        · cases h
        obtain ⟨g, _, h2⟩ := then_ok h
        cases h2
        constructor
        · intro e; have : (10 : Int) = 5 := e; omega
        · intro e; unfold isDef at e; simp [hkw] at e
      | some kd =>
        rw [hkw] at h
        replace h : (if !takesB kd (x.s.len - 1 - (shpOf kd).2.1) || (kd == 5 && w) then PR.bad 70 [] else (rowM (formM K true) kd x).then fun f => .ok { f with kind := kd }) = .ok f := h
        split at h
        · cases h
        obtain ⟨g, _, h2⟩ := then_ok h
        cases h2
        constructor
        · intro e
          have e : (kd : Int) = 5 := e
          have : kd = 5 := by omega
          subst this
          unfold isDef
          simp [hk, hc.1, hc.2, hkw]
        · intro e
          unfold isDef at e
          simp only [Bool.and_eq_true, beq_iff_eq] at e
          rw [hkw] at e
          have : kd = 5 := Option.some.inj e.2.2.2
          subst this
          rfl
    split at h
    · rename_i hk hk2
      split at h
      · cases h
        constructor
        · intro e; have : (2 : Int) = 5 := e; omega
        · intro e; unfold isDef at e; simp [hk] at e
      · cases h
    · rename_i hk hk2
      cases h
      constructor
      · intro e; have : (1 : Int) = 5 := e; omega
      · intro e; unfold isDef at e; simp [hk] at e
/-- Is a form one of a row? -/
def InF (f : Frm) : Fm → Prop
  | .nil => False
  | .cons k t ns ks dk dn dt ds dd r => (⟨k, t, ns, ks, ⟨dk, dn, dt, ds, dd⟩⟩ : Frm) = f ∨ InF f r
/-- What is told of d by itself, and of x of which it is a part, at `more`. -/
structure With (d x : Dt) (more : List Int) : Prop where
  defs : (ofM d).2.1 = 0 → (ofM d).1.kind = 5 → (ofM x).2.1 = 70 ∧ (ofM x).2.2 = more
  here : (ofM d).2.1 ≠ 0 → (ofM d).2.2 = [] → (ofM x).2.1 = 70 → (ofM x).2.2 = more
  errs : (ofM d).2.1 ≠ 0 → isDef d = true ∨ ((ofM x).2.1 = (ofM d).2.1 ∧ (ofM x).2.2 = more ++ (ofM d).2.2)
  oks : (ofM d).2.1 = 0 → (ofM d).1.kind ≠ 5 → (ofM x).2.1 = 0 ∧ (ofM x).2.2 = [] ∧ InF (ofM d).1 (ofM x).1.kids
theorem with_of {d x : Dt} {more : List Int} {G : Frm → Frm} (hx : canB x = true) (hd : canB d = true) (hf : formM 200 false x = (match formM 199 true d with | .ok f => .ok (G f) | .bad e p => .bad e (more ++ p))) (hG : ∀ f, InF f (G f).kids) : With d x more := by
  have hdp := canB_dpt hd
  have e1 : ofM x = (match formM 200 false x with | .ok f => (f, 0, []) | .bad e p => (frm0, e, p)) := by unfold ofM; rw [hx]; rfl
  have e2 : ofM d = (match formM 200 false d with | .ok f => (f, 0, []) | .bad e p => (frm0, e, p)) := by unfold ofM; rw [hd]; rfl
  rw [hf] at e1
  cases hdf : isDef d with
  | true =>
    rw [def_in (K := 198) hdf] at e1
    have e1 : ofM x = (frm0, 70, more) := by rw [e1]; simp
    refine ⟨fun _ _ => ⟨by rw [e1], by rw [e1]⟩, fun _ _ _ => by rw [e1], fun _ => .inl hdf, fun h0 hk => ?_⟩
    cases hf2 : formM 200 false d with
    | ok f =>
      rw [hf2] at e2
      have e2 : ofM d = (f, 0, []) := e2
      rw [e2] at hk
      exact absurd ((kind_of hf2).2 hdf) hk
    | bad er p =>
      have hp := pe_form 200 false d (by omega) er p hf2
      rw [hf2] at e2
      have e2 : ofM d = (frm0, er, p) := e2
      rw [e2] at h0
      have h0 : er = 0 := h0
      unfold Er at hp
      omega
  | false =>
    rw [def_out hdf, fuel_form 199 200 false d (by omega) (by omega)] at e1
    cases hf2 : formM 200 false d with
    | ok f =>
      rw [hf2] at e1 e2
      have e1 : ofM x = (G f, 0, []) := e1
      have e2 : ofM d = (f, 0, []) := e2
      refine ⟨fun _ hk => ?_, fun h => absurd (by rw [e2]) h, fun h => absurd (by rw [e2]) h, fun _ _ => by rw [e1, e2]; exact ⟨rfl, rfl, hG f⟩⟩
      rw [e2] at hk
      have := (kind_of hf2).1 hk
      rw [this] at hdf; cases hdf
    | bad er p =>
      rw [hf2] at e1 e2
      have e1 : ofM x = (frm0, er, more ++ p) := e1
      have e2 : ofM d = (frm0, er, p) := e2
      have hp := pe_form 200 false d (by omega) er p hf2
      have h0 : er ≠ 0 := by unfold Er at hp; omega
      refine ⟨fun h => absurd (by rw [e2] at h; exact h) h0, fun _ hp' _ => ?_, fun _ => .inr (by rw [e1, e2]; exact ⟨rfl, rfl⟩), fun h => absurd (by rw [e2] at h; exact h) h0⟩
      rw [e2] at hp'
      have hp' : p = [] := hp'
      rw [e1, hp']
      simp

/-! The five. -/
def oneD : Dt := ⟨1, 1, [], .nil, false⟩
def qone : Frm := ⟨1, [], [], .nil, oneD⟩
def wx0 (d : Dt) : Dt := listD (Dt.fo (symD [105, 102]) (oneD.fo (d.fo (oneD.fo .nil))))
def wx1 (d : Dt) : Dt := listD (Dt.fo (symD [108, 97, 109, 98, 100, 97]) ((listD .nil).fo (oneD.fo (d.fo .nil))))
def wx2 (d : Dt) : Dt := listD (Dt.fo (symD [108, 101, 116]) ((listD ((listD (Dt.fo (symD [120]) (d.fo .nil))).fo .nil)).fo (oneD.fo .nil)))
def wx3 (d : Dt) : Dt := listD (Dt.fo (symD [108, 101, 116]) ((listD .nil).fo (d.fo .nil)))
def wx4 (d : Dt) : Dt := listD (Dt.fo (symD [115, 111, 109, 101]) (oneD.fo (d.fo .nil)))
theorem one_of (K : Nat) : formM (K + 1) true oneD = .ok qone := rfl
theorem some_of (K : Nat) : formM (K + 1) true (symD [115, 111, 109, 101]) = .ok ⟨2, [115, 111, 109, 101], [], .nil, dt0⟩ := by
  have h : nameB [115, 111, 109, 101] = true := by kernel_rfl
  unfold formM
  rw [if_neg (by decide), if_pos (show (symD [115, 111, 109, 101]).k = 2 from rfl)]
  show (if nameB [115, 111, 109, 101] = true then _ else _) = _
  rw [if_pos h]
  rfl
theorem var_x : varB [120] = true := by kernel_rfl
theorem w0_of {R : Dt → PR Frm} (h1 : R oneD = .ok qone) (d : Dt) : listM R false (wx0 d) = (match R d with | .ok f => .ok ⟨3, [], [], qone.fm (f.fm (qone.fm .nil)), dt0⟩ | .bad e p => .bad e ([2] ++ p)) := by
  show ((formsM R 1 (oneD.fo (d.fo (oneD.fo .nil)))).then fun g => .ok { frm0 with kids := g }).then (fun f => PR.ok { f with kind := (3 : Nat) }) = _
  have e : formsM R 1 (oneD.fo (d.fo (oneD.fo .nil))) = ((R oneD).within 1).then fun x => (((R d).within 2).then fun y => (((R oneD).within 3).then fun z => (PR.ok .nil : PR Fm).then fun g => .ok (z.fm g)).then fun g => .ok (y.fm g)).then fun g => .ok (x.fm g) := rfl
  rw [e, h1]
  cases R d with
  | ok f => rfl
  | bad e p => rfl
theorem w1_of {R : Dt → PR Frm} (h1 : R oneD = .ok qone) (d : Dt) : listM R false (wx1 d) = (match R d with | .ok f => .ok ⟨4, [], [], qone.fm (f.fm .nil), dt0⟩ | .bad e p => .bad e ([3] ++ p)) := by
  have hk : kwOf (wx1 d).s.hd.t = some 4 := (by decide : kwOf [108, 97, 109, 98, 100, 97] = some 4)
  have ht : takesB 4 (((wx1 d).s.len : Int) - 1 - (shpOf 4).2.1) = true := (by decide : takesB 4 (((4 : Nat) : Int) - 1 - 1) = true)
  have e0 : listM R false (wx1 d) = (rowM R 4 (wx1 d)).then fun f => .ok { f with kind := ((4 : Nat) : Int) } := by
    unfold listM
    rw [if_neg (by show ¬ ((false || (4 : Nat) == 0) = true); decide), hk]
    simp only [ht]
    rfl
  have en : namesD (listD .nil) = .ok [] := rfl
  have e : formsM R 2 (oneD.fo (d.fo .nil)) = ((R oneD).within 2).then fun x => (((R d).within 3).then fun y => (PR.ok .nil : PR Fm).then fun g => .ok (y.fm g)).then fun g => .ok (x.fm g) := rfl
  have er : rowM R 4 (wx1 d) = ((namesD (listD .nil)).within 1).then fun l => (formsM R 2 (oneD.fo (d.fo .nil))).then fun g => .ok { frm0 with names := l, kids := g } := rfl
  rw [e0, er, en, e, h1]
  cases R d with
  | ok f => rfl
  | bad e p => rfl
theorem w2_of {R : Dt → PR Frm} (h1 : R oneD = .ok qone) (d : Dt) : listM R false (wx2 d) = (match R d with | .ok f => .ok ⟨8, [], [[120]], f.fm (qone.fm .nil), dt0⟩ | .bad e p => .bad e ([1, 0, 1] ++ p)) := by
  show ((((bindsD R (listD ((listD (Dt.fo (symD [120]) (d.fo .nil))).fo .nil))).within 1).then fun y => (formsM R 2 (oneD.fo .nil)).then fun g => .ok { frm0 with names := y.1, kids := y.2.app g })).then (fun f => PR.ok { f with kind := (8 : Nat) }) = _
  have e : formsM R 2 (oneD.fo .nil) = ((R oneD).within 2).then fun y => (PR.ok .nil : PR Fm).then fun g => .ok (y.fm g) := rfl
  have en : newM [] 2 [120] = .ok [120] := by unfold newM; rw [var_x]; rfl
  have eb : bindsD R (listD ((listD (Dt.fo (symD [120]) (d.fo .nil))).fo .nil)) = ((((newM [] 2 [120]).within 0).then fun a => ((R d).within 1).then fun f => .ok (a, f)).within 0).then fun x => (PR.ok ([], .nil) : PR (List (List UInt8) × Fm)).then fun y => .ok (x.1 :: y.1, x.2.fm y.2) := rfl
  rw [eb, en, e, h1]
  cases R d with
  | ok f => rfl
  | bad e p => rfl
theorem w3_of {R : Dt → PR Frm} (d : Dt) : listM R false (wx3 d) = (match R d with | .ok f => .ok ⟨8, [], [], f.fm .nil, dt0⟩ | .bad e p => .bad e ([2] ++ p)) := by
  show ((((bindsD R (listD .nil)).within 1).then fun y => (formsM R 2 (d.fo .nil)).then fun g => .ok { frm0 with names := y.1, kids := y.2.app g })).then (fun f => PR.ok { f with kind := (8 : Nat) }) = _
  have e : formsM R 2 (d.fo .nil) = ((R d).within 2).then fun y => (PR.ok .nil : PR Fm).then fun g => .ok (y.fm g) := rfl
  rw [e]
  cases R d with
  | ok f => rfl
  | bad e p => rfl
theorem w4_of {R : Dt → PR Frm} (h1 : R oneD = .ok qone) (h2 : R (symD [115, 111, 109, 101]) = .ok ⟨2, [115, 111, 109, 101], [], .nil, dt0⟩) (d : Dt) : listM R false (wx4 d) = (match R d with | .ok f => .ok ⟨10, [], [], Frm.fm ⟨2, [115, 111, 109, 101], [], .nil, dt0⟩ (qone.fm (f.fm .nil)), dt0⟩ | .bad e p => .bad e ([2] ++ p)) := by
  have hk : kwOf [115, 111, 109, 101] = none := by decide
  have e0 : listM R false (wx4 d) = callM R (wx4 d) := by
    unfold listM
    rw [if_neg (by show ¬ ((false || (3 : Nat) == 0) = true); decide)]
    have hk' : kwOf (wx4 d).s.hd.t = none := hk
    rw [hk']
  rw [e0]
  have ha : argsB [115, 111, 109, 101] 2 = true := by decide
  show (if !argsB [115, 111, 109, 101] 2 then PR.bad 70 [] else (formsM R 0 (Dt.fo (symD [115, 111, 109, 101]) (oneD.fo (d.fo .nil)))).then fun g => .ok { frm0 with kind := 10, kids := g }) = _
  have e : formsM R 0 (Dt.fo (symD [115, 111, 109, 101]) (oneD.fo (d.fo .nil))) = ((R (symD [115, 111, 109, 101])).within 0).then fun s => (((R oneD).within 1).then fun x => (((R d).within 2).then fun y => (PR.ok .nil : PR Fm).then fun g => .ok (y.fm g)).then fun g => .ok (x.fm g)).then fun g => .ok (s.fm g) := rfl
  rw [ha, e, h1, h2]
  cases R d with
  | ok f => rfl
  | bad e p => rfl
theorem f200 {x : Dt} (h : x.k = 5) : formM 200 false x = listM (formM 199 true) false x := by
  show (if x.k = 5 then _ else _) = _
  rw [if_pos h]
/-- The five, and where d stands in each. -/
def wxs (i : Nat) (d : Dt) : Dt := if i = 0 then wx0 d else if i = 1 then wx1 d else if i = 2 then wx2 d else if i = 3 then wx3 d else wx4 d
def mores (i : Nat) : List Int := if i = 0 then [2] else if i = 1 then [3] else if i = 2 then [1, 0, 1] else if i = 3 then [2] else [2]
theorem with_all {i : Nat} {d : Dt} (hx : canB (wxs i d) = true) : canB d = true ∧ With d (wxs i d) (mores i) := by
  unfold wxs mores at *
  split at hx
  · rename_i h
    rw [if_pos h, if_pos h]
    have hd : canB d = true := can_kid (j := 2) hx rfl rfl
    exact ⟨hd, with_of (G := fun f => ⟨3, [], [], qone.fm (f.fm (qone.fm .nil)), dt0⟩) hx hd (by rw [f200 rfl]; exact w0_of (one_of 198) d) (fun f => .inr (.inl rfl))⟩
  split at hx
  · rename_i h0 h
    rw [if_neg h0, if_pos h, if_neg h0, if_pos h]
    have hd : canB d = true := can_kid (j := 3) hx rfl rfl
    exact ⟨hd, with_of (G := fun f => ⟨4, [], [], qone.fm (f.fm .nil), dt0⟩) hx hd (by rw [f200 rfl]; exact w1_of (one_of 198) d) (fun f => .inr (.inl rfl))⟩
  split at hx
  · rename_i h0 h1 h
    rw [if_neg h0, if_neg h1, if_pos h, if_neg h0, if_neg h1, if_pos h]
    have h1' : canB (listD ((listD (Dt.fo (symD [120]) (d.fo .nil))).fo .nil)) = true := can_kid (j := 1) hx rfl rfl
    have h2' : canB (listD (Dt.fo (symD [120]) (d.fo .nil))) = true := can_kid (j := 0) h1' rfl rfl
    have hd : canB d = true := can_kid (j := 1) h2' rfl rfl
    exact ⟨hd, with_of (G := fun f => ⟨8, [], [[120]], f.fm (qone.fm .nil), dt0⟩) hx hd (by rw [f200 rfl]; exact w2_of (one_of 198) d) (fun f => .inl rfl)⟩
  split at hx
  · rename_i h0 h1 h2 h
    rw [if_neg h0, if_neg h1, if_neg h2, if_pos h, if_neg h0, if_neg h1, if_neg h2, if_pos h]
    have hd : canB d = true := can_kid (j := 2) hx rfl rfl
    exact ⟨hd, with_of (G := fun f => ⟨8, [], [], f.fm .nil, dt0⟩) hx hd (by rw [f200 rfl]; exact w3_of d) (fun f => .inl rfl)⟩
  · rename_i h0 h1 h2 h
    rw [if_neg h0, if_neg h1, if_neg h2, if_neg h, if_neg h0, if_neg h1, if_neg h2, if_neg h]
    have hd : canB d = true := can_kid (j := 2) hx rfl rfl
    exact ⟨hd, with_of (G := fun f => ⟨10, [], [], Frm.fm ⟨2, [115, 111, 109, 101], [], .nil, dt0⟩ (qone.fm (f.fm .nil)), dt0⟩) hx hd (by rw [f200 rfl]; exact w4_of (one_of 198) (some_of 198) d) (fun f => .inr (.inr (.inl rfl)))⟩
end Go.Proofs.YtkgnigloboajcaaGreatDoor
