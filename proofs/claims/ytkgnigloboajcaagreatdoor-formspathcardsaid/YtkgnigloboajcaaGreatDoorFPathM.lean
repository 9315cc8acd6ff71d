/- Where the path of an error leads: plain mathematics. -/
import Derived.Test.YtkgnigloboajcaaGreatDoorK18
namespace Go.Proofs.YtkgnigloboajcaaGreatDoor

def Fo.nd : Fo → Nat → Option Dt
  | .nil, _ => none
  | .cons k n t s d _, 0 => some ⟨k, n, t, s, d⟩
  | .cons _ _ _ _ _ r, j + 1 => r.nd j
/-- The datum to which a path leads. -/
def atM : Dt → List Int → Option Dt
  | x, [] => some x
  | x, i :: p => if 0 ≤ i then (match x.s.nd i.toNat with | some y => atM y p | none => none) else none
theorem Fo.nd_lt : ∀ {s : Fo} {j : Nat} {y : Dt}, s.nd j = some y → j < s.len
  | .nil, _, _, h => by cases h
  | .cons _ _ _ _ _ _, 0, _, _ => by simp [Fo.len]
  | .cons _ _ _ _ _ r, j + 1, _, h => by have := Fo.nd_lt (s := r) h; simp only [Fo.len]; omega
theorem Fo.nd_some : ∀ {s : Fo} {j : Nat}, j < s.len → ∃ y, s.nd j = some y
  | .nil, _, h => by simp [Fo.len] at h
  | .cons k n t s d _, 0, _ => ⟨⟨k, n, t, s, d⟩, rfl⟩
  | .cons _ _ _ _ _ r, j + 1, h => Fo.nd_some (s := r) (by simp only [Fo.len] at h; omega)
theorem Fo.nd_hd {s : Fo} (h : 0 < s.len) : s.nd 0 = some s.hd := by cases s with | nil => simp [Fo.len] at h | cons k n t s d r => rfl
theorem Fo.nd_tl (s : Fo) (j : Nat) : s.tl.nd j = s.nd (j + 1) := by cases s <;> rfl
theorem Fo.tl_len (s : Fo) : s.tl.len = s.len - 1 := by cases s <;> simp [Fo.tl, Fo.len]
theorem allD_tl {s : Fo} (h : allD s = true) : allD s.tl = true := by
  cases s with
  | nil => rfl
  | cons k n t s d r =>
    have hA : allD (.cons k n t s d r) = (isDat k n t s d && (allD s && allD r)) := rfl
    rw [hA] at h
    simp only [Bool.and_eq_true] at h
    exact h.2.2
/-- A datum that is one. -/
def okD (x : Dt) : Prop := isDat x.k x.n x.t x.s x.d = true ∧ allD x.s = true
theorem okD_of {x : Dt} (h : allD (x.fo .nil) = true) : okD x := by
  have hA : allD (x.fo .nil) = (isDat x.k x.n x.t x.s x.d && (allD x.s && allD .nil)) := rfl
  rw [hA] at h
  simp only [Bool.and_eq_true] at h
  exact ⟨h.1, h.2.1⟩
theorem nd_ok : ∀ {s : Fo} {j : Nat} {y : Dt}, allD s = true → s.nd j = some y → okD y
  | .nil, _, _, _, h => by cases h
  | .cons k n t s d r, 0, y, hA, h => by
    have e : allD (.cons k n t s d r) = (isDat k n t s d && (allD s && allD r)) := rfl
    rw [e] at hA
    simp only [Bool.and_eq_true] at hA
    cases h
    exact ⟨hA.1, hA.2.1⟩
  | .cons k n t s d r, j + 1, y, hA, h => nd_ok (s := r) (allD_tl hA) h
theorem canB_ok {x : Dt} (h : canB x = true) : okD x := by
  unfold canB at h
  have hc : chk (x.fo .nil) = 0 := by
    unfold writeOf at h
    by_cases h0 : chk (x.fo .nil) = 0
    · exact h0
    · rw [if_pos h0] at h
      exact absurd (by simpa using h) h0
  exact okD_of (chk_zero.1 hc).1
theorem symB_can {t : List UInt8} (h : symB t = true) : canB ⟨2, 0, t, .nil, false⟩ = true := by
  have hl := sym_len h
  have h1 : isDat 2 0 t .nil false = true := by
    unfold isDat
    rw [if_neg (by decide), if_pos rfl, h]
    simp [sameB, Fo.same]
  have hA : allD (Dt.fo ⟨2, 0, t, .nil, false⟩ .nil) = true := by
    show (isDat 2 0 t .nil false && (allD .nil && allD .nil)) = true
    rw [h1]; rfl
  have hc : chk (Dt.fo ⟨2, 0, t, .nil, false⟩ .nil) = 0 := chk_zero.2 ⟨hA, by simp [Dt.fo, dep], by simp [Dt.fo, Fo.size]⟩
  unfold canB writeOf
  rw [if_neg (by simp [hc]), if_neg]
  · rfl
  · have e : textsT (Dt.fo ⟨2, 0, t, .nil, false⟩ .nil) = [t] := by
      simp [Dt.fo, textsT, oneT]
    rw [e]
    simp only [linesT]
    omega
theorem ok_sym {x : Dt} (h : okD x) (hk : x.k = 2) : symB x.t = true := by
  have h1 := h.1
  unfold isDat at h1
  rw [if_neg (by rw [hk]; decide), if_pos hk] at h1
  simp only [Bool.and_eq_true] at h1
  exact h1.2

theorem within_bd {α : Type} {i e : Int} {p : List Int} {x : PR α} (h : x.within i = .bad e p) : ∃ q, x = .bad e q ∧ p = i :: q := by
  cases x with
  | ok a => cases h
  | bad e' q => cases h; exact ⟨q, rfl, rfl⟩
theorem then_bd {α β : Type} {e : Int} {p : List Int} {x : PR α} {K : α → PR β} (h : x.then K = .bad e p) : x = .bad e p ∨ ∃ a, x = .ok a ∧ K a = .bad e p := by
  cases x with
  | ok a => exact .inr ⟨a, rfl, h⟩
  | bad e' q => cases h; exact .inl rfl

/-- The error's path leads to a datum; what a name's error says of it. -/
def BadP (m : Nat) (x : Dt) (e : Int) (p : List Int) : Prop :=
  ∃ y, atM x p = some y ∧ (e = 72 → y.k = 2 ∧ m ≤ p.length) ∧ (e = 71 → y.k ≠ 2 ∨ (primOf y.t).isSome = true ∨ (kwOf y.t).isSome = true)
theorem BadP.kid {m j : Nat} {x y : Dt} {e : Int} {p : List Int} (h : BadP m y e p) (hj : x.s.nd j = some y) : BadP (m + 1) x e ((j : Int) :: p) := by
  obtain ⟨z, h1, h2, h3⟩ := h
  refine ⟨z, ?_, fun he => ⟨(h2 he).1, by have := (h2 he).2; simp only [List.length_cons]; omega⟩, h3⟩
  simp only [atM]
  rw [if_pos (by omega), Int.toNat_natCast, hj]
  exact h1
theorem BadP.less {m n : Nat} {x : Dt} {e : Int} {p : List Int} (h : BadP m x e p) (hn : n ≤ m) : BadP n x e p := by
  obtain ⟨z, h1, h2, h3⟩ := h
  exact ⟨z, h1, fun he => ⟨(h2 he).1, by have := (h2 he).2; omega⟩, h3⟩
theorem BadP.here {x : Dt} {e : Int} (m : Nat) (h2 : e ≠ 72) (h1 : e ≠ 71) : BadP m x e [] := ⟨x, rfl, fun h => absurd h h2, fun h => absurd h h1⟩

theorem vari_bd {x : Dt} (hx : okD x) (h : x.k ≠ 2 ∨ varB x.t = false) (m : Nat) : BadP m x 71 [] := by
  refine ⟨x, rfl, fun h => absurd h (by decide), fun _ => ?_⟩
  by_cases hk : x.k = 2
  · have hv := h.resolve_left (fun h => h hk)
    have hc := symB_can (ok_sym hx hk)
    unfold varB nameB at hv
    rw [hc] at hv
    cases hp : primOf x.t <;> cases hw : kwOf x.t <;> simp_all
  · exact .inl hk
theorem new_bd {ahead : List (List UInt8)} {x : Dt} {e : Int} {p : List Int} (hx : okD x) (h : newM ahead x.k x.t = .bad e p) : p = [] ∧ BadP 0 x e p := by
  unfold newM at h
  split at h
  · rename_i hc
    cases h
    exact ⟨rfl, vari_bd hx (by simpa using hc) 0⟩
  · rename_i hc
    split at h
    · cases h
      have hk : x.k = 2 := Decidable.not_not.1 fun h => hc (by simp [h])
      exact ⟨rfl, x, rfl, fun _ => ⟨hk, Nat.zero_le _⟩, fun h => absurd h (by decide)⟩
    · cases h
theorem varim_bd {x : Dt} {e : Int} {p : List Int} (hx : okD x) (h : variM x.k x.t = .bad e p) (m : Nat) : BadP m x e p := by
  unfold variM at h
  split at h
  · rename_i hc
    cases h
    exact vari_bd hx (by simpa using hc) m
  · cases h

theorem forms_bd {R : Dt → PR Frm} {m : Nat} (hR : ∀ y e p, okD y → R y = .bad e p → BadP m y e p) : ∀ {s : Fo} {i : Int} {e : Int} {p : List Int}, allD s = true → formsM R i s = .bad e p →
    ∃ (j : Nat) (y : Dt) (q : List Int), s.nd j = some y ∧ p = (i + j) :: q ∧ BadP m y e q
  | .nil, _, _, _, _, h => by cases h
  | .cons k n t s d r, i, e, p, hA, h => by
    rcases then_bd h with h | ⟨a, _, h⟩
    · obtain ⟨q, h1, rfl⟩ := within_bd h
      exact ⟨0, _, q, rfl, by simp, hR _ _ _ (nd_ok (j := 0) hA rfl) h1⟩
    · rcases then_bd h with h | ⟨a, _, h⟩
      · obtain ⟨j, y, q, h1, rfl, h3⟩ := forms_bd hR (allD_tl hA) h
        exact ⟨j + 1, y, q, h1, by congr 1; omega, h3⟩
      · cases h
theorem names_bd : ∀ {s : Fo} {ahead : List (List UInt8)} {i : Int} {e : Int} {p : List Int}, allD s = true → namesM ahead i s = .bad e p →
    ∃ (j : Nat) (y : Dt) (q : List Int), s.nd j = some y ∧ p = (i + j) :: q ∧ BadP 0 y e q
  | .nil, _, _, _, _, _, h => by cases h
  | .cons k n t s d r, ahead, i, e, p, hA, h => by
    rcases then_bd h with h | ⟨a, _, h⟩
    · obtain ⟨q, h1, rfl⟩ := within_bd h
      exact ⟨0, ⟨k, n, t, s, d⟩, q, rfl, by simp, (new_bd (x := ⟨k, n, t, s, d⟩) (nd_ok (j := 0) hA rfl) h1).2⟩
    · rcases then_bd h with h | ⟨a, _, h⟩
      · obtain ⟨j, y, q, h1, rfl, h3⟩ := names_bd (allD_tl hA) h
        exact ⟨j + 1, y, q, h1, by congr 1; omega, h3⟩
      · cases h
theorem bind_bd {R : Dt → PR Frm} (hR : ∀ y e p, okD y → R y = .bad e p → BadP 2 y e p) {ahead : List (List UInt8)} {x : Dt} {e : Int} {p : List Int} (hx : okD x) (h : bindM R ahead x = .bad e p) : BadP 1 x e p := by
  unfold bindM at h
  split at h
  · cases h
    exact .here _ (by decide) (by decide)
  · rename_i hc
    have hl : x.s.len = 2 := by
      simp only [Bool.or_eq_true, not_or] at hc
      simpa using hc.2
    have e0 : x.s.nd 0 = some x.s.hd := Fo.nd_hd (by omega)
    have e1 : x.s.nd 1 = some x.s.tl.hd := by rw [← Fo.nd_tl x.s 0]; exact Fo.nd_hd (by rw [Fo.tl_len]; omega)
    rcases then_bd h with h | ⟨a, _, h⟩
    · obtain ⟨q, h1, rfl⟩ := within_bd h
      exact ((new_bd (nd_ok hx.2 e0) h1).2.kid e0).less (by omega)
    · rcases then_bd h with h | ⟨a, _, h⟩
      · obtain ⟨q, h1, rfl⟩ := within_bd h
        exact ((hR _ _ _ (nd_ok hx.2 e1) h1).kid e1).less (by omega)
      · cases h
theorem binds_bd {R : Dt → PR Frm} (hR : ∀ y e p, okD y → R y = .bad e p → BadP 2 y e p) : ∀ {s : Fo} {ahead : List (List UInt8)} {i : Int} {e : Int} {p : List Int}, allD s = true → bindsM R ahead i s = .bad e p →
    ∃ (j : Nat) (y : Dt) (q : List Int), s.nd j = some y ∧ p = (i + j) :: q ∧ BadP 1 y e q
  | .nil, _, _, _, _, _, h => by cases h
  | .cons k n t s d r, ahead, i, e, p, hA, h => by
    rcases then_bd h with h | ⟨a, _, h⟩
    · obtain ⟨q, h1, rfl⟩ := within_bd h
      exact ⟨0, ⟨k, n, t, s, d⟩, q, rfl, by simp, bind_bd hR (nd_ok (j := 0) hA rfl) h1⟩
    · rcases then_bd h with h | ⟨a, _, h⟩
      · obtain ⟨j, y, q, h1, rfl, h3⟩ := binds_bd hR (allD_tl hA) h
        exact ⟨j + 1, y, q, h1, by congr 1; omega, h3⟩
      · cases h
theorem namesD_bd {x : Dt} {e : Int} {p : List Int} (hx : okD x) (h : namesD x = .bad e p) : BadP 1 x e p := by
  unfold namesD at h
  split at h
  · cases h
    exact .here _ (by decide) (by decide)
  · obtain ⟨j, y, q, h1, rfl, h3⟩ := names_bd hx.2 h
    rw [Int.zero_add]
    exact h3.kid h1
theorem bindsD_bd {R : Dt → PR Frm} (hR : ∀ y e p, okD y → R y = .bad e p → BadP 2 y e p) {x : Dt} {e : Int} {p : List Int} (hx : okD x) (h : bindsD R x = .bad e p) : BadP 1 x e p := by
  unfold bindsD at h
  split at h
  · cases h
    exact .here _ (by decide) (by decide)
  · obtain ⟨j, y, q, h1, rfl, h3⟩ := binds_bd hR hx.2 h
    rw [Int.zero_add]
    exact (h3.kid h1).less (by omega)

/-- Forms from a place on. -/
theorem from1 {R : Dt → PR Frm} (hR : ∀ y e p, okD y → R y = .bad e p → BadP 2 y e p) {x : Dt} {e : Int} {p : List Int} (hx : okD x) (h : formsM R 1 x.s.tl = .bad e p) : BadP 2 x e p := by
  obtain ⟨j, y, q, h1, rfl, h3⟩ := forms_bd hR (allD_tl hx.2) h
  rw [Fo.nd_tl] at h1
  have := (h3.kid h1).less (show 2 ≤ 3 by omega)
  rwa [show ((1 : Int) + (j : Int)) = ((j + 1 : Nat) : Int) by omega]
theorem from2 {R : Dt → PR Frm} (hR : ∀ y e p, okD y → R y = .bad e p → BadP 2 y e p) {x : Dt} {e : Int} {p : List Int} (hx : okD x) (h : formsM R 2 x.s.tl.tl = .bad e p) : BadP 2 x e p := by
  obtain ⟨j, y, q, h1, rfl, h3⟩ := forms_bd hR (allD_tl (allD_tl hx.2)) h
  rw [Fo.nd_tl, Fo.nd_tl] at h1
  have := (h3.kid h1).less (show 2 ≤ 3 by omega)
  rwa [show ((2 : Int) + (j : Int)) = ((j + 1 + 1 : Nat) : Int) by omega]
theorem shp_two {kd : Nat} (h : kd = 4 ∨ kd = 5 ∨ kd = 6 ∨ kd = 8) : (shpOf kd).2.1 = 1 ∧ (shpOf kd).2.2.1 = 1 := by
  rcases h with rfl | rfl | rfl | rfl <;> exact ⟨rfl, rfl⟩
theorem list_bd {R : Dt → PR Frm} (hR : ∀ y e p, okD y → R y = .bad e p → BadP 2 y e p) {within : Bool} {x : Dt} {e : Int} {p : List Int} (hx : okD x) (h : listM R within x = .bad e p) : BadP 2 x e p := by
  unfold listM at h
  split at h
  · cases h
    exact .here _ (by decide) (by decide)
  · split at h
    · unfold callM at h
      split at h
      · cases h
        exact .here _ (by decide) (by decide)
      · rcases then_bd h with h | ⟨a, _, h⟩
        · obtain ⟨j, y, q, h1, rfl, h3⟩ := forms_bd hR hx.2 h
          rw [Int.zero_add]
          exact (h3.kid h1).less (by omega)
        · cases h
    · rename_i kd _
      split at h
      · cases h
        exact .here _ (by decide) (by decide)
      · rename_i hc
        have hl : (kd = 4 ∨ kd = 5 ∨ kd = 6 ∨ kd = 8) → 3 ≤ x.s.len := fun hk => by
          obtain ⟨a1, a2⟩ := shp_two hk
          simp only [Bool.or_eq_true, not_or, Bool.not_eq_true', Bool.not_eq_false] at hc
          have := hc.1
          unfold takesB at this
          rw [a1, a2] at this
          simp only [Bool.and_eq_true, decide_eq_true_eq] at this
          omega
        have h : rowM R kd x = .bad e p := by
          rcases then_bd h with h | ⟨a, _, h⟩
          · exact h
          · cases h
        have e1 : 3 ≤ x.s.len → x.s.nd 1 = some x.s.tl.hd := fun h => by rw [← Fo.nd_tl x.s 0]; exact Fo.nd_hd (by rw [Fo.tl_len]; omega)
        unfold rowM at h
        split at h
        · cases h
        split at h
        · rename_i hk
          have e1 := e1 (hl (by omega))
          rcases then_bd h with h | ⟨a, _, h⟩
          · obtain ⟨q, h1, rfl⟩ := within_bd h
            exact (namesD_bd (nd_ok hx.2 e1) h1).kid e1
          · rcases then_bd h with h | ⟨a, _, h⟩
            · exact from2 hR hx h
            · cases h
        have hnamed : (kd = 5 ∨ kd = 6) → rowNamed R x = .bad e p → BadP 2 x e p := fun hk h => by
          have e1 := e1 (hl (by omega))
          rcases then_bd h with h | ⟨a, _, h⟩
          · obtain ⟨q, h1, rfl⟩ := within_bd h
            exact (varim_bd (nd_ok hx.2 e1) h1 1).kid e1
          · rcases then_bd h with h | ⟨a, _, h⟩
            · exact from2 hR hx h
            · cases h
        split at h
        · rename_i hk; exact hnamed (.inl hk) h
        split at h
        · rename_i hk; exact hnamed (.inr hk) h
        split at h
        · rename_i hk
          have e1 := e1 (hl (by omega))
          rcases then_bd h with h | ⟨a, _, h⟩
          · obtain ⟨q, h1, rfl⟩ := within_bd h
            exact (bindsD_bd hR (nd_ok hx.2 e1) h1).kid e1
          · rcases then_bd h with h | ⟨a, _, h⟩
            · exact from2 hR hx h
            · cases h
        · rcases then_bd h with h | ⟨a, _, h⟩
          · exact from1 hR hx h
          · cases h
theorem form_bd : ∀ (K : Nat) {within : Bool} {x : Dt} {e : Int} {p : List Int}, okD x → formM K within x = .bad e p → BadP 2 x e p
  | 0, _, _, _, _, _, h => by cases h; exact .here _ (by decide) (by decide)
  | K + 1, within, x, e, p, hx, h => by
    unfold formM at h
    split at h
    · exact list_bd (fun y e p hy h => form_bd K hy h) hx h
    split at h
    · rename_i hk
      split at h
      · cases h
      · rename_i hn
        cases h
        refine ⟨x, rfl, fun h => absurd h (by decide), fun _ => ?_⟩
        have hc := symB_can (ok_sym hx hk)
        unfold nameB at hn
        rw [hc] at hn
        cases hw : kwOf x.t <;> simp_all
    · cases h
/-- Of: its error's path leads to a datum of what was handed in. -/
theorem of_path (x : Dt) : BadP 2 x (ofM x).2.1 (ofM x).2.2 := by
  cases hc : canB x with
  | false =>
    have e : ofM x = (frm0, 70, []) := by unfold ofM; rw [hc]; rfl
    rw [e]
    exact .here 2 (show (70 : Int) ≠ 72 by decide) (show (70 : Int) ≠ 71 by decide)
  | true =>
    cases h : formM 200 false x with
    | ok f =>
      have e : ofM x = (f, 0, []) := by unfold ofM; rw [hc, if_pos rfl, h]
      rw [e]
      exact .here 2 (show (0 : Int) ≠ 72 by decide) (show (0 : Int) ≠ 71 by decide)
    | bad e p =>
      have e1 : ofM x = (frm0, e, p) := by unfold ofM; rw [hc, if_pos rfl, h]
      rw [e1]
      exact form_bd 200 (canB_ok hc) h
end Go.Proofs.YtkgnigloboajcaaGreatDoor
