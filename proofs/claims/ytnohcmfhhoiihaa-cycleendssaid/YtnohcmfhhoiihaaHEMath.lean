/- CycleEnds: threads, what is counted, what holds between two rounds. -/
import Derived.Test.YtnohcmfhhoiihaaHCStep0
namespace Go.Proofs.Ytnohcmfhhoiihaa
open Go.RowKit

/-- A thread: does it stand still, how late, does it bring up another one, what it shades; is it scanned, was it told, how many looks are left. -/
structure Th where
  st : Bool
  lt : Int
  bo : Bool
  sh : Int
  sc : Bool
  tl : Bool
  la : Nat
def sm (f : Th → Nat) : List Th → Nat
  | [] => 0
  | x :: r => f x + sm f r
theorem sm_set {f : Th → Nat} : ∀ {l : List Th} {k : Nat} {x : Th} (y : Th), l[k]? = some x → sm f (l.set k y) + f x = sm f l + f y
  | [], _, _, _, h => by simp at h
  | a :: r, 0, x, y, h => by
    have e : a = x := by simpa using h
    subst e
    simp only [List.set_cons_zero, sm]
    omega
  | a :: r, k + 1, x, y, h => by
    have := sm_set (f := f) (l := r) (k := k) (x := x) y (by simpa using h)
    simp only [List.set_cons_succ, sm]
    omega
theorem sm_app {f : Th → Nat} : ∀ (l : List Th) (y : Th), sm f (l ++ [y]) = sm f l + f y
  | [], y => by simp [sm]
  | a :: r, y => by
    have := sm_app (f := f) r y
    simp only [List.cons_append, sm]
    omega
theorem sm_le {f : Th → Nat} {c : Nat} : ∀ (l : List Th), (∀ x ∈ l, f x ≤ c) → sm f l ≤ c * l.length
  | [], _ => by simp [sm]
  | a :: r, h => by
    have h1 := h a (List.mem_cons_self ..)
    have h2 := sm_le r (fun x hx => h x (List.mem_cons_of_mem _ hx))
    simp only [List.length_cons, sm, Nat.mul_add]
    omega
/-- Was a step spent on it? -/
def fP (t : Th) : Nat := if t.tl = true ∨ (t.st = true ∧ t.sc = true) then 1 else 0
/-- How many looks it still takes. -/
def fL (t : Th) : Nat := t.la + if t.sc = true then 0 else 1
theorem fP_le (t : Th) : fP t ≤ 1 := by unfold fP; split <;> omega
theorem fL_le (t : Th) (h : t.la ≤ 3) : fL t ≤ 4 := by unfold fL; split <;> omega
def OkT (T : List Th) : Prop := T.length ≤ 8 ∧ ∀ t ∈ T, t.la ≤ 3 ∧ (t.tl = true → t.st = false) ∧ (-9223372036854775808 ≤ t.sh ∧ t.sh ≤ 9223372036854775807)
theorem OkT.set {T : List Th} (h : OkT T) {k : Nat} {y : Th} (hy : y.la ≤ 3 ∧ (y.tl = true → y.st = false) ∧ (-9223372036854775808 ≤ y.sh ∧ y.sh ≤ 9223372036854775807)) : OkT (T.set k y) := by
  refine ⟨by simpa using h.1, fun t ht => ?_⟩
  rcases List.mem_or_eq_of_mem_set ht with h1 | rfl
  · exact h.2 t h1
  · exact hy
theorem OkT.app {T : List Th} (h : OkT T) (hl : T.length < 8) {y : Th} (hy : y.la ≤ 3 ∧ (y.tl = true → y.st = false) ∧ (-9223372036854775808 ≤ y.sh ∧ y.sh ≤ 9223372036854775807)) : OkT (T ++ [y]) := by
  refine ⟨by simp; omega, fun t ht => ?_⟩
  rcases List.mem_append.1 ht with h1 | h1
  · exact h.2 t h1
  · have e : t = y := by simpa using h1
    subst e
    exact hy
theorem OkT.at {T : List Th} (h : OkT T) {k : Nat} {t : Th} (hk : T[k]? = some t) : t.la ≤ 3 ∧ (t.tl = true → t.st = false) ∧ (-9223372036854775808 ≤ t.sh ∧ t.sh ≤ 9223372036854775807) := h.2 t (List.mem_of_getElem? hk)
/-- What the collector sees of the threads. -/
def ArOk (T : List Th) (th : Int) (st tl : Bool) : Prop := (th = 0 ∧ ∀ t ∈ T, t.sc = true) ∨ ∃ (k : Nat) (t : Th), th = (k : Int) + 1 ∧ T[k]? = some t ∧ t.sc = false ∧ t.st = st ∧ t.tl = tl
/-- Where a cycle is between two rounds. -/
inductive Ps (n g : Nat) (T : List Th) (gr lf : Nat) : Nat → Nat → Nat → Nat → Nat → Nat → Cy → Prop
  | idle : gr + lf = n → sm fP T = 0 → Ps n g T gr lf 0 0 0 0 0 0 ⟨0, 0, 0, 0, 5, true⟩
  | roots (steps last root : Nat) : root ≤ g → last ≤ 2 → (root < g → last ≤ 1) → steps = 1 + root + sm fP T → gr + lf = n → Ps n g T gr lf steps last 0 root 0 0 ⟨1, root, 0, 0, 6, false⟩
  | mark (steps : Nat) : steps + gr + lf = 1 + g + sm fP T + n → 0 < steps → Ps n g T gr lf steps 3 0 g 0 0 ⟨2, 0, 0, 0, 6, false⟩
  | sweep (steps last swept freed : Nat) : swept ≤ n → freed ≤ swept → last = 4 ∨ last = 5 → steps ≤ 2 + g + sm fP T + n + swept → gr = 0 → 0 < steps → Ps n g T gr lf steps last 1 g swept freed ⟨3, 0, swept, freed, 6, false⟩
/-- What holds between two rounds. -/
structure Iv (n g : Nat) (T : List Th) (gr lf : Nat) (s : Cy) (i steps last checks root swept freed : Nat) : Prop where
  n300 : n < 300
  g65 : g < 65
  ok : OkT T
  gl : gr + lf ≤ n
  it : i + sm fL T + 4 * (8 - T.length) ≤ steps + 32
  ps : Ps n g T gr lf steps last checks root swept freed s
theorem Iv.small {n g : Nat} {T : List Th} {gr lf : Nat} {s : Cy} {i steps last checks root swept freed : Nat} (h : Iv n g T gr lf s i steps last checks root swept freed) : i < 2000 ∧ steps < 1000 ∧ checks ≤ 1 ∧ root ≤ 65 ∧ swept ≤ 300 ∧ freed ≤ 300 ∧ last ≤ 5 := by
  have h1 := sm_le (f := fP) (c := 1) T (fun x _ => fP_le x)
  have h2 := h.ok.1
  have h3 := h.it
  have h4 := h.n300
  have h5 := h.g65
  have h6 := h.gl
  have h7 := h.ps
  cases h7 <;> omega
variable {n g gr lf i steps last root swept freed : Nat} {T : List Th}
theorem iv_start (hn : n < 300) (hg : g < 65) (hT : OkT T) (h0 : ∀ t ∈ T, t.tl = false ∧ t.sc = false) : Iv n g T 0 n ⟨0, 0, 0, 0, 5, true⟩ 0 0 0 0 0 0 0 := by
  have h1 := sm_le (f := fL) (c := 4) T (fun x hx => fL_le x (hT.2 x hx).1)
  have h2 := hT.1
  have h3 := sm_le (f := fP) (c := 0) T (fun x hx => by
    obtain ⟨e1, e2⟩ := h0 x hx
    unfold fP
    rw [e1, e2]
    simp)
  exact ⟨hn, hg, hT, by omega, by omega, .idle (by omega) (by omega)⟩
theorem iv_begin (h : Iv n g T gr lf ⟨0, 0, 0, 0, 5, true⟩ i 0 0 0 0 0 0) (e1 : gr + lf = n) (e2 : sm fP T = 0) : Iv n g T gr lf ⟨1, ((0 : Nat) : Int), 0, 0, 6, false⟩ (i + 1) 1 0 0 0 0 0 := by
  have := h.it
  exact ⟨h.n300, h.g65, h.ok, h.gl, by omega, .roots 1 0 0 (by omega) (by omega) (by omega) (by omega) e1⟩
theorem iv_root {gr' lf' : Nat} {s : Cy} (h : Iv n g T gr lf s i steps last 0 root 0 0) (h1 : root < g) (e : steps = 1 + root + sm fP T) (e2 : gr' + lf' = gr + lf) (e1 : gr + lf = n) : Iv n g T gr' lf' ⟨1, ((root + 1 : Nat) : Int), 0, 0, 6, false⟩ (i + 1) (steps + 1) 1 0 (root + 1) 0 0 := by
  have := h.it
  exact ⟨h.n300, h.g65, h.ok, by omega, by omega, .roots _ _ _ (by omega) (by omega) (by omega) (by omega) (by omega)⟩
theorem iv_thread {gr' lf' k : Nat} {s : Cy} {t : Th} (h : Iv n g T gr lf s i steps last 0 g 0 0) (e : steps = 1 + g + sm fP T) (e1 : gr + lf = n) (e2 : gr' + lf' = gr + lf) (ht : T[k]? = some t) (hs : t.sc = false) (hst : t.st = true) : Iv n g (T.set k { t with sc := true }) gr' lf' ⟨1, (g : Int), 0, 0, 6, false⟩ (i + 1) (steps + 1) 2 0 g 0 0 := by
  have h3 := h.it
  have h4 := sm_set (f := fP) { t with sc := true } ht
  have h5 := sm_set (f := fL) { t with sc := true } ht
  obtain ⟨a1, a2, a3⟩ := h.ok.at ht
  have h6 : t.tl = false := by
    cases h : t.tl
    · rfl
    · rw [a2 h] at hst; cases hst
  have p1 : fP t = 0 := by unfold fP; rw [h6, hs]; simp
  have p2 : fP { t with sc := true } = 1 := by unfold fP; simp [hst]
  have p3 : fL t = t.la + 1 := by unfold fL; rw [hs]; simp
  have p4 : fL { t with sc := true } = t.la := by unfold fL; simp
  exact ⟨h.n300, h.g65, h.ok.set ⟨a1, a2, a3⟩, by omega, by rw [List.length_set]; omega, .roots _ _ _ (Nat.le_refl _) (by omega) (by omega) (by omega) (by omega)⟩
theorem iv_lays {k : Nat} {s : Cy} {t : Th} (h : Iv n g T gr lf s i steps last 0 g 0 0) (e : steps = 1 + g + sm fP T) (e1 : gr + lf = n) (hl : last ≤ 2) (ht : T[k]? = some t) (hla : 0 < t.la) : Iv n g (T.set k { t with la := t.la - 1 }) gr lf ⟨1, (g : Int), 0, 0, 6, false⟩ (i + 1) steps last 0 g 0 0 := by
  have h3 := h.it
  have h4 := sm_set (f := fP) { t with la := t.la - 1 } ht
  have h5 := sm_set (f := fL) { t with la := t.la - 1 } ht
  obtain ⟨a1, a2, a3⟩ := h.ok.at ht
  have p1 : fP { t with la := t.la - 1 } = fP t := rfl
  have p3 : fL { t with la := t.la - 1 } + 1 = fL t := by unfold fL; dsimp only; omega
  exact ⟨h.n300, h.g65, h.ok.set ⟨by dsimp only; omega, a2, a3⟩, by omega, by rw [List.length_set]; omega, .roots _ _ _ (Nat.le_refl _) (by omega) (by omega) (by omega) (by omega)⟩
theorem iv_laid {gr' lf' k : Nat} {s : Cy} {t : Th} (h : Iv n g T gr lf s i steps last 0 g 0 0) (e : steps = 1 + g + sm fP T) (e1 : gr + lf = n) (e2 : gr' + lf' = gr + lf) (hl : last ≤ 2) (ht : T[k]? = some t) (hs : t.sc = false) (htl : t.tl = true) : Iv n g (T.set k { t with sc := true }) gr' lf' ⟨1, (g : Int), 0, 0, 6, false⟩ (i + 1) steps last 0 g 0 0 := by
  have h3 := h.it
  have h4 := sm_set (f := fP) { t with sc := true } ht
  have h5 := sm_set (f := fL) { t with sc := true } ht
  obtain ⟨a1, a2, a3⟩ := h.ok.at ht
  have p1 : fP t = 1 := by unfold fP; rw [htl]; simp
  have p2 : fP { t with sc := true } = 1 := by unfold fP; simp [htl]
  have p3 : fL t = t.la + 1 := by unfold fL; rw [hs]; simp
  have p4 : fL { t with sc := true } = t.la := by unfold fL; simp
  exact ⟨h.n300, h.g65, h.ok.set ⟨a1, a2, a3⟩, by omega, by rw [List.length_set]; omega, .roots _ _ _ (Nat.le_refl _) (by omega) (by omega) (by omega) (by omega)⟩
def newT (sh : Int) : Th := ⟨false, 0, false, sh, false, false, 0⟩
def bornT (T : List Th) (k : Nat) (t : Th) : List Th := if t.bo = true ∧ T.length < 8 then T.set k { t with bo := false } ++ [newT t.sh] else T
/-- What a birth leaves of the thread. -/
def bornO (T : List Th) (t : Th) : Th := if t.bo = true ∧ T.length < 8 then { t with bo := false } else t
theorem bornT_at {k : Nat} {t : Th} (ht : T[k]? = some t) : (bornT T k t)[k]? = some (bornO T t) := by
  have hk := (List.getElem?_eq_some_iff.1 ht).1
  unfold bornT bornO
  split
  · rw [List.getElem?_append_left (by rw [List.length_set]; exact hk), List.getElem?_set_self hk]
  · exact ht
theorem iv_ask {k : Nat} {s : Cy} {t : Th} (h : Iv n g T gr lf s i steps last 0 g 0 0) (e : steps = 1 + g + sm fP T) (e1 : gr + lf = n) (ht : T[k]? = some t) (hs : t.sc = false) (hst : t.st = false) (htl : t.tl = false) : Iv n g ((bornT T k t).set k { bornO T t with tl := true }) gr lf ⟨1, (g : Int), 0, 0, 6, false⟩ (i + 1) (steps + 1) 2 0 g 0 0 := by
  have h3 := h.it
  have h8 := h.ok.1
  obtain ⟨a1, a2, a3⟩ := h.ok.at ht
  have hat := bornT_at ht
  have h4 := sm_set (f := fP) { bornO T t with tl := true } hat
  have h5 := sm_set (f := fL) { bornO T t with tl := true } hat
  have q : (bornO T t).sc = false ∧ (bornO T t).st = false ∧ (bornO T t).tl = false ∧ (bornO T t).la = t.la ∧ (bornO T t).sh = t.sh := by
    unfold bornO
    split
    · exact ⟨hs, hst, htl, rfl, rfl⟩
    · exact ⟨hs, hst, htl, rfl, rfl⟩
  obtain ⟨q1, q2, q3, q4, q5⟩ := q
  have p1 : fP (bornO T t) = 0 := by unfold fP; rw [q3, q1]; simp
  have p2 : fP { bornO T t with tl := true } = 1 := by unfold fP; simp
  have p3 : fL { bornO T t with tl := true } = fL (bornO T t) := rfl
  have key : OkT (bornT T k t) ∧ sm fP (bornT T k t) = sm fP T ∧ sm fL (bornT T k t) + 4 * (8 - (bornT T k t).length) ≤ sm fL T + 4 * (8 - T.length) := by
    unfold bornT
    split
    · rename_i hc
      have g4 := sm_set (f := fP) { t with bo := false } ht
      have g5 := sm_set (f := fL) { t with bo := false } ht
      have r1 : fP { t with bo := false } = fP t := rfl
      have r2 : fL { t with bo := false } = fL t := rfl
      have r3 : fP (newT t.sh) = 0 := rfl
      have r4 : fL (newT t.sh) = 1 := rfl
      refine ⟨(h.ok.set (k := k) (y := { t with bo := false }) ⟨a1, a2, a3⟩).app (by rw [List.length_set]; exact hc.2) ⟨Nat.zero_le _, fun _ => rfl, a3⟩, by rw [sm_app]; omega, ?_⟩
      rw [sm_app, List.length_append, List.length_set]
      simp only [List.length_cons, List.length_nil]
      omega
    · exact ⟨h.ok, rfl, Nat.le_refl _⟩
  obtain ⟨k1, k2, k3⟩ := key
  exact ⟨h.n300, h.g65, k1.set ⟨by dsimp only; omega, fun _ => q2, by dsimp only; rw [q5]; exact a3⟩, by omega, by rw [List.length_set]; omega, .roots _ _ _ (Nat.le_refl _) (by omega) (by omega) (by omega) (by omega)⟩
theorem iv_scan {gr' lf' : Nat} {s : Cy} (h : Iv n g T gr lf s i steps last 0 g 0 0) (e : steps + gr + lf = 1 + g + sm fP T + n) (_hg : 0 < gr) (e2 : gr' + lf' + 1 = gr + lf) : Iv n g T gr' lf' ⟨2, 0, 0, 0, 6, false⟩ (i + 1) (steps + 1) 3 0 g 0 0 := by
  have := h.it
  have := h.gl
  exact ⟨h.n300, h.g65, h.ok, by omega, by omega, .mark _ (by omega) (by omega)⟩
theorem iv_check {s : Cy} (h : Iv n g T 0 lf s i steps last 0 g 0 0) (e : steps + 0 + lf = 1 + g + sm fP T + n) : Iv n g T 0 lf ⟨3, 0, ((0 : Nat) : Int), ((0 : Nat) : Int), 6, false⟩ (i + 1) (steps + 1) 4 1 g 0 0 := by
  have := h.it
  have := h.gl
  exact ⟨h.n300, h.g65, h.ok, by omega, by omega, .sweep _ _ _ _ (by omega) (by omega) (.inl rfl) (by omega) rfl (by omega)⟩
theorem iv_sweep {s : Cy} {f' : Nat} (h : Iv n g T gr lf s i steps last 1 g swept freed) (h1 : swept < n) (h2 : freed ≤ swept) (h3 : steps ≤ 2 + g + sm fP T + n + swept) (h4 : gr = 0) (h5 : f' ≤ freed + 1) : Iv n g T gr lf ⟨3, 0, ((swept + 1 : Nat) : Int), (f' : Int), 6, false⟩ (i + 1) (steps + 1) 5 1 g (swept + 1) f' := by
  have := h.it
  have := h.gl
  exact ⟨h.n300, h.g65, h.ok, by omega, by omega, .sweep _ _ _ _ (by omega) (by omega) (.inr rfl) (by omega) h4 (by omega)⟩
theorem iv_end {s : Cy} (h : Iv n g T gr lf s i steps last 1 g n freed) (h3 : steps ≤ 2 + g + sm fP T + n + n) : steps + 1 ≤ 2 * n + g + T.length + 3 := by
  have h1 := sm_le (f := fP) (c := 1) T (fun x _ => fP_le x)
  have := h.n300
  omega
end Go.Proofs.Ytnohcmfhhoiihaa
