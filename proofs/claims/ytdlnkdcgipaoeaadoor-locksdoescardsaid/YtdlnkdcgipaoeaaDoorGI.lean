/- Who is stuck stays so: mathematics.; The document's book is the program's: what it is that they are the same, and each call but End keeps it.; The document's End as mathematics.; The document's book is the program's: Unlock and End keep it. -/
import Derived.Test.YtdlnkdcgipaoeaaDoorGD
import Derived.Test.YtdlnkdcgipaoeaaDoorGH
/- Who is stuck stays so: mathematics. -/
namespace Go.Proofs.YtdlnkdcgipaoeaaDoor
open Go.RowKit

/-- For whom one waits, as a relation. -/
def AW (B : Bk) (y v : Int) : Prop := (∃ (i : Nat) (x : Th), B.t[i]? = some x ∧ y ∈ x.row ∧ v = (i : Int) + 1) ∨ ∃ (j : Nat) (l : Lk), B.l[j]? = some l ∧ y ∈ l.row ∧ v = l.ho
theorem aw_of {B : Bk} (h : Iv B) {y v : Int} (ha : AW B y v) : awB B y = v := by
  unfold awB awM
  rcases ha with ⟨i, x, hx, hy, rfl⟩ | ⟨j, l, hl, hy, rfl⟩
  · have hlt := (List.getElem?_eq_some_iff.1 hx).1
    have : B.t.findIdx? (fun z => z.row.contains y) = some i := by
      rw [List.findIdx?_eq_some_iff_getElem]
      refine ⟨hlt, ?_, fun k hk hc => ?_⟩
      · rw [(List.getElem?_eq_some_iff.1 hx).2]
        simpa using hy
      · have := h.nd.inj _ _ _ _ y (rows_t (List.getElem?_eq_getElem (show k < B.t.length by omega))) (rows_t hx) (by simpa using hc) hy
        omega
    rw [this]
  · have h1 : B.t.findIdx? (fun z => z.row.contains y) = none := by
      rw [List.findIdx?_eq_none_iff]
      intro z hz
      obtain ⟨k, hk⟩ := List.getElem?_of_mem hz
      cases hc : z.row.contains y with
      | false => rfl
      | true =>
        have hlt := (List.getElem?_eq_some_iff.1 hk).1
        have := h.nd.inj _ _ _ _ y (rows_t hk) (rows_l hl) (by simpa using hc) hy
        omega
    have h2 : ∃ z, B.l.find? (fun z => z.row.contains y) = some z := by
      cases hf : B.l.find? (fun z => z.row.contains y) with
      | some z => exact ⟨z, rfl⟩
      | none =>
        have := List.find?_eq_none.1 hf l (List.mem_of_getElem? hl)
        simp [hy] at this
    obtain ⟨z, hz⟩ := h2
    have hzr := List.find?_some hz
    obtain ⟨k, hk⟩ := List.getElem?_of_mem (List.mem_of_find?_eq_some hz)
    have := h.nd.inj _ _ _ _ y (rows_l hk) (rows_l hl) (by simpa using hzr) hy
    have e : k = j := by omega
    subst e
    rw [hk] at hl
    cases hl
    rw [h1, hz]
theorem aw_ex {B : Bk} (h : Iv B) {y : Int} (hy : wtB B y = true) : AW B y (awB B y) := by
  obtain ⟨r, hr, hm⟩ := (h.wt y).1 hy
  rcases List.mem_append.1 hr with hr | hr
  · obtain ⟨x, hx, rfl⟩ := List.mem_map.1 hr
    obtain ⟨i, hi⟩ := List.getElem?_of_mem hx
    have ha : AW B y ((i : Int) + 1) := .inl ⟨i, x, hi, hm, rfl⟩
    rw [aw_of h ha]
    exact ha
  · obtain ⟨l, hl, rfl⟩ := List.mem_map.1 hr
    obtain ⟨j, hj⟩ := List.getElem?_of_mem hl
    have ha : AW B y l.ho := .inr ⟨j, l, hj, hm, rfl⟩
    rw [aw_of h ha]
    exact ha
theorem aw_wt {B : Bk} (h : Iv B) {y v : Int} (ha : AW B y v) : wtB B y = true := by
  rw [h.wt]
  rcases ha with ⟨i, x, hx, hy, _⟩ | ⟨j, l, hl, hy, _⟩
  · exact ⟨_, List.mem_of_getElem? (rows_t hx), hy⟩
  · exact ⟨_, List.mem_of_getElem? (rows_l hl), hy⟩
/-- What one does who goes turns nothing for those who wait for others. -/
def Kpt (B B' : Bk) (t : Int) : Prop := ∀ y v, AW B y v → v ≠ t → AW B' y v
theorem kpt_refl (B : Bk) (t : Int) : Kpt B B t := fun _ _ h _ => h
theorem lock_kpt {B : Bk} (h : Iv B) (t k : Int) : Kpt B (lockM B t k).2 t := by
  intro y v ha hv
  unfold lockM
  split
  · exact ha
  · split
    · exact ha
    · cases hx : B.l[k.toNat]? with
      | none => exact ha
      | some x =>
        have hlt := (List.getElem?_eq_some_iff.1 hx).1
        dsimp only
        split
        · exact ha
        · split
          · rename_i h0
            rcases ha with ⟨i, z, hz, hy, rfl⟩ | ⟨j, l, hl, hy, rfl⟩
            · exact .inl ⟨i, z, hz, hy, rfl⟩
            · refine .inr ⟨j, l, ?_, hy, rfl⟩
              dsimp only
              rw [List.getElem?_set_ne (fun e => ?_)]
              · exact hl
              · subst e
                rw [hx] at hl
                cases hl
                rw [h.fr x (List.mem_of_getElem? hx) h0] at hy
                cases hy
          · rcases ha with ⟨i, z, hz, hy, rfl⟩ | ⟨j, l, hl, hy, rfl⟩
            · exact .inl ⟨i, z, hz, hy, rfl⟩
            · by_cases e : k.toNat = j
              · subst e
                rw [hx] at hl
                cases hl
                exact .inr ⟨k.toNat, _, List.getElem?_set_self hlt, List.mem_append_left _ hy, rfl⟩
              · exact .inr ⟨j, l, by dsimp only; rw [List.getElem?_set_ne e]; exact hl, hy, rfl⟩
theorem join_kpt (B : Bk) (t o : Int) : Kpt B (joinM B t o).2 t := by
  intro y v ha hv
  unfold joinM
  split
  · exact ha
  · split
    · exact ha
    · split
      · exact ha
      · cases hx : B.t[(o - 1).toNat]? with
        | none => exact ha
        | some x =>
          have hlt := (List.getElem?_eq_some_iff.1 hx).1
          dsimp only
          split
          · exact ha
          · rcases ha with ⟨i, z, hz, hy, rfl⟩ | ⟨j, l, hl, hy, rfl⟩
            · by_cases e : (o - 1).toNat = i
              · subst e
                rw [hx] at hz
                cases hz
                exact .inl ⟨_, _, List.getElem?_set_self hlt, List.mem_append_left _ hy, rfl⟩
              · exact .inl ⟨i, z, by dsimp only; rw [List.getElem?_set_ne e]; exact hz, hy, rfl⟩
            · exact .inr ⟨j, l, hl, hy, rfl⟩
theorem unlock_kpt (B : Bk) (t k : Int) : Kpt B (unlockM B t k).2 t := by
  intro y v ha hv
  unfold unlockM
  split
  · exact ha
  · split
    · exact ha
    · cases hx : B.l[k.toNat]? with
      | none => exact ha
      | some x =>
        dsimp only
        split
        · exact ha
        · rename_i hh
          have hh' : x.ho = t := by simpa using hh
          rcases ha with ⟨i, z, hz, hy, rfl⟩ | ⟨j, l, hl, hy, rfl⟩
          · exact .inl ⟨i, z, hz, hy, rfl⟩
          · refine .inr ⟨j, l, ?_, hy, rfl⟩
            dsimp only
            rw [List.getElem?_set_ne (fun e => ?_)]
            · exact hl
            · subst e
              rw [hx] at hl
              cases hl
              exact hv hh'
theorem end_kpt (B : Bk) (t wd er : Int) : Kpt B (endM B t wd er).2 t := by
  intro y v ha hv
  by_cases hg : goB B t = 0
  · obtain ⟨i, x, rfl, hx, -, -⟩ := goB_at hg
    rw [end_is wd er hg hx]
    rcases ha with ⟨m, z, hz, hy, rfl⟩ | ⟨j, l, hl, hy, rfl⟩
    · refine .inl ⟨m, z, ?_, hy, rfl⟩
      show (B.t.set i _)[m]? = some z
      rw [List.getElem?_set_ne (fun e => hv (by rw [e]))]
      exact hz
    · refine .inr ⟨j, l, ?_, hy, rfl⟩
      show (B.l.map (hoL1 ((i : Int) + 1)))[j]? = some l
      rw [List.getElem?_map, hl]
      show some (hoL1 ((i : Int) + 1) l) = some l
      unfold hoL1
      rw [if_neg hv]
  · unfold endM
    rw [if_pos hg]
    exact ha
theorem start_kpt (B : Bk) (t : Int) : Kpt B (startM B).2 t := by
  intro y v ha hv
  unfold startM
  split
  · exact ha
  · rcases ha with ⟨m, z, hz, hy, rfl⟩ | ⟨j, l, hl, hy, rfl⟩
    · exact .inl ⟨m, z, by dsimp only; rw [List.getElem?_append_left (List.getElem?_eq_some_iff.1 hz).1]; exact hz, hy, rfl⟩
    · exact .inr ⟨j, l, hl, hy, rfl⟩
theorem set_kpt (B : Bk) (i u t : Int) : Kpt B (setM B i u).2 t := by
  intro y v ha hv
  unfold setM
  split <;> exact ha
/-- The way from one to the one it waits for. -/
def wayB (B : Bk) : Nat → Int → Int
  | 0, x => x
  | n + 1, x => wayB B n (awB B x)
theorem ring_iff {B : Bk} {x : Int} : ∀ {n : Nat} {a : Int}, ringB B x n a = true ↔ ∃ k, 1 ≤ k ∧ k ≤ n ∧ wayB B k a = x
  | 0, a => by
    constructor
    · intro h; cases h
    · rintro ⟨k, h1, h2, _⟩; omega
  | n + 1, a => by
    show (decide (awB B a = x) || ringB B x n (awB B a)) = true ↔ _
    rw [Bool.or_eq_true, decide_eq_true_iff, ring_iff (n := n)]
    constructor
    · rintro (h | ⟨k, h1, h2, h3⟩)
      · exact ⟨1, by omega, by omega, h⟩
      · exact ⟨k + 1, by omega, by omega, h3⟩
    · rintro ⟨k, h1, h2, h3⟩
      cases k with
      | zero => omega
      | succ k =>
        cases k with
        | zero => exact .inl h3
        | succ k => exact .inr ⟨k + 1, by omega, by omega, h3⟩
theorem way_add (B : Bk) : ∀ (a b : Nat) (x : Int), wayB B (a + b) x = wayB B b (wayB B a x)
  | 0, b, x => by rw [Nat.zero_add]; rfl
  | a + 1, b, x => by
    rw [show a + 1 + b = (a + b) + 1 by omega]
    exact way_add B a b (awB B x)
theorem aw_zero {B : Bk} {y : Int} (h : wtB B y = false) : awB B y = 0 := by
  unfold wtB at h
  by_cases e : awB B y = 0
  · exact e
  · rw [decide_eq_true e] at h
    cases h
theorem wt_zero {B : Bk} (h : Iv B) : wtB B 0 = false := by
  cases hw : wtB B 0 with
  | false => rfl
  | true =>
    obtain ⟨r, hr, h0⟩ := (h.wt 0).1 hw
    have := (h.rg r hr 0 h0).rng
    omega
theorem way_zero {B : Bk} (h : Iv B) : ∀ n, wayB B n 0 = 0
  | 0 => rfl
  | n + 1 => by
    show wayB B n (awB B 0) = 0
    rw [aw_zero (wt_zero h)]
    exact way_zero h n
theorem way_round {B : Bk} {x : Int} {k : Nat} (h : wayB B k x = x) : ∀ m, wayB B (m * k) x = x
  | 0 => by rw [Nat.zero_mul]; rfl
  | m + 1 => by rw [Nat.succ_mul, way_add, way_round h m, h]
/-- Who is on the way round waits. -/
theorem way_wt {B : Bk} (h : Iv B) {x : Int} (hx : 1 ≤ x) {k : Nat} (hk : 1 ≤ k) (hr : wayB B k x = x) (j : Nat) : wtB B (wayB B j x) = true := by
  cases hw : wtB B (wayB B j x) with
  | true => rfl
  | false =>
    have h1 : wayB B (j + 1) x = 0 := by
      rw [way_add]
      exact aw_zero hw
    have h2 := way_round hr (j + 1)
    have h3 : j + 1 ≤ (j + 1) * k := Nat.le_mul_of_pos_right _ hk
    obtain ⟨d, hd⟩ : ∃ d, (j + 1) * k = (j + 1) + d := ⟨(j + 1) * k - (j + 1), by omega⟩
    rw [hd, way_add, h1, way_zero h] at h2
    omega
/-- A ring stays where only others do something. -/
theorem ring_stays {B B' : Bk} (h : Iv B) (h' : Iv B') {t : Int} (hk : Kpt B B' t) (ht : wtB B t = false) {x : Int} (hx : 1 ≤ x) {n n' : Nat} (hn : n ≤ n') (hr : ringB B x n x = true) : ringB B' x n' x = true ∧ wtB B' x = true := by
  obtain ⟨k, k1, k2, k3⟩ := ring_iff.1 hr
  have step : ∀ j, AW B' (wayB B j x) (awB B (wayB B j x)) := fun j => by
    refine hk _ _ (aw_ex h (way_wt h hx k1 k3 j)) (fun e => ?_)
    have h1 := way_wt h hx k1 k3 (j + 1)
    rw [way_add] at h1
    have h2 : wtB B (awB B (wayB B j x)) = true := h1
    rw [e, ht] at h2
    cases h2
  have same : ∀ j, wayB B' j x = wayB B j x := fun j => by
    induction j with
    | zero => rfl
    | succ j ih =>
      rw [way_add, way_add, ih]
      exact aw_of h' (step j)
  refine ⟨ring_iff.2 ⟨k, k1, by omega, by rw [same]; exact k3⟩, ?_⟩
  exact aw_wt h' (step 0)
theorem go_not {B : Bk} {t : Int} (h : goB B t = 0) : wtB B t = false := by
  obtain ⟨_, _, _, _, _, hw⟩ := goB_at h
  exact hw
theorem lock_or (B : Bk) (t k : Int) : (lockM B t k).2 = B ∨ wtB B t = false := by
  by_cases hg : goB B t = 0
  · exact .inr (go_not hg)
  · left
    unfold lockM
    split
    · rfl
    · rfl
theorem join_or (B : Bk) (t o : Int) : (joinM B t o).2 = B ∨ wtB B t = false := by
  by_cases hg : goB B t = 0
  · exact .inr (go_not hg)
  · left
    unfold joinM
    split
    · rfl
    · rfl
theorem unlock_or (B : Bk) (t k : Int) : (unlockM B t k).2 = B ∨ wtB B t = false := by
  by_cases hg : goB B t = 0
  · exact .inr (go_not hg)
  · left
    unfold unlockM
    split
    · rfl
    · rfl
theorem end_or (B : Bk) (t wd er : Int) : (endM B t wd er).2 = B ∨ wtB B t = false := by
  by_cases hg : goB B t = 0
  · exact .inr (go_not hg)
  · left
    unfold endM
    rw [if_pos hg]
end Go.Proofs.YtdlnkdcgipaoeaaDoor

/- The document's book is the program's: what it is that they are the same, and each call but End keeps it. -/
namespace Go.Proofs.YtdlnkdcgipaoeaaDoor
open Go.RowKit

def dlOf (x : Lk) : Dl := ⟨x.ho, x.row⟩
structure Sim (B : Bk) (D : Dk) : Prop where
  tl : D.t.length = B.t.length
  l : D.l = B.l.map dlOf
  g : D.g = B.g
  en : ∀ (i : Nat) (x : Th) (y : Dt), B.t[i]? = some x → D.t[i]? = some y → y.en = x.en ∧ y.wd = x.wd ∧ y.er = x.er
  w0 : ∀ (i : Nat) (y : Dt), D.t[i]? = some y → y.w = 0 → ∀ r ∈ rowsM B, ((i : Int) + 1) ∉ r
  w1 : ∀ (i : Nat) (y : Dt), D.t[i]? = some y → y.w ≠ 0 → (y.w = 1 ∧ ∃ (j : Nat) (x : Th), y.f = (j : Int) + 1 ∧ B.t[j]? = some x ∧ ((i : Int) + 1) ∈ x.row) ∨ (y.w = 2 ∧ ∃ (j : Nat) (x : Lk), y.f = (j : Int) ∧ B.l[j]? = some x ∧ ((i : Int) + 1) ∈ x.row)
section
variable {B : Bk} {D : Dk}
theorem Sim.ll (h : Sim B D) : D.l.length = B.l.length := by rw [h.l, List.length_map]
theorem Sim.dt (h : Sim B D) {i : Nat} {x : Th} (hx : B.t[i]? = some x) : ∃ y, D.t[i]? = some y := ⟨_, List.getElem?_eq_getElem (by rw [h.tl]; exact (List.getElem?_eq_some_iff.1 hx).1)⟩
theorem Sim.bt (h : Sim B D) {i : Nat} {y : Dt} (hy : D.t[i]? = some y) : ∃ x, B.t[i]? = some x := ⟨_, List.getElem?_eq_getElem (by rw [← h.tl]; exact (List.getElem?_eq_some_iff.1 hy).1)⟩
theorem Sim.dl (h : Sim B D) {j : Nat} {x : Lk} (hx : B.l[j]? = some x) : D.l[j]? = some (dlOf x) := by rw [h.l, List.getElem?_map, hx]; rfl
theorem mem_rt {B : Bk} {i : Nat} {x : Th} (h : B.t[i]? = some x) : x.row ∈ rowsM B := List.mem_of_getElem? (rows_t h)
theorem mem_rl {B : Bk} {i : Nat} {x : Lk} (h : B.l[i]? = some x) : x.row ∈ rowsM B := List.mem_of_getElem? (rows_l h)
theorem Sim.wt (h : Sim B D) (hI : Iv B) {i : Nat} {y : Dt} (hy : D.t[i]? = some y) : (y.w != 0) = wtB B ((i : Int) + 1) := by
  by_cases e : y.w = 0
  · rw [show (y.w != 0) = false by simp [e]]
    cases hw : wtB B ((i : Int) + 1) with
    | false => rfl
    | true =>
      obtain ⟨r, hr, hm⟩ := (hI.wt _).1 hw
      exact absurd hm (h.w0 i y hy e r hr)
  · rw [show (y.w != 0) = true by simp [e]]
    symm
    rw [hI.wt]
    rcases h.w1 i y hy e with ⟨-, j, x, -, hx, hm⟩ | ⟨-, j, x, -, hx, hm⟩
    · exact ⟨_, mem_rt hx, hm⟩
    · exact ⟨_, mem_rl hx, hm⟩
theorem Sim.go (h : Sim B D) (hI : Iv B) {i : Nat} {y : Dt} (hy : D.t[i]? = some y) : goB B ((i : Int) + 1) = if (!y.en && y.w == 0) = true then 0 else 192 := by
  obtain ⟨x, hx⟩ := h.bt hy
  have hw := h.wt hI hy
  have he := (h.en i x y hx hy).1
  unfold goB
  have hb : isB B.t.length ((i : Int) + 1) = true := by
    have := (List.getElem?_eq_some_iff.1 hx).1
    simp [isB]
    omega
  rw [if_pos hb, show ((i : Int) + 1 - 1).toNat = i by omega, hx]
  dsimp only
  rw [← hw, ← he]
  cases y.en <;> by_cases e : y.w = 0 <;> simp [e]
theorem goB_none {B : Bk} {t : Int} (h : isB B.t.length t = false) : goB B t = 190 := by
  unfold goB
  rw [if_neg (by simp [h])]
theorem Sim.start (h : Sim B D) (hI : Iv B) : (dstartM D).1 = (startM B).1 ∧ Sim (startM B).2 (dstartM D).2 := by
  unfold dstartM startM
  rw [h.tl]
  have := hI.tn
  by_cases h8 : B.t.length = 8
  · rw [if_pos (by omega), if_pos h8]
    exact ⟨rfl, h⟩
  · rw [if_neg (by omega), if_neg h8]
    refine ⟨rfl, ?_, h.l, h.g, fun i x y hx hy => ?_, fun i y hy hw r hr => ?_, fun i y hy hw => ?_⟩
    · simp [h.tl]
    · dsimp only at hx hy
      by_cases hi : i < B.t.length
      · rw [List.getElem?_append_left hi] at hx
        rw [List.getElem?_append_left (by rw [h.tl]; exact hi)] at hy
        exact h.en i x y hx hy
      · rw [List.getElem?_append_right (by omega)] at hx
        rw [List.getElem?_append_right (by rw [h.tl]; omega)] at hy
        have e1 : i - B.t.length = 0 := by
          have := (List.getElem?_eq_some_iff.1 hx).1
          simpa using this
        rw [e1] at hx
        rw [h.tl, e1] at hy
        cases hx
        cases hy
        exact ⟨rfl, rfl, rfl⟩
    · dsimp only at hy
      rw [rows_add] at hr
      have hr' : r = [] ∨ r ∈ rowsM B := by
        unfold rowsM
        simp only [List.mem_append, List.mem_cons] at hr ⊢
        rcases hr with hr | hr | hr
        · exact .inr (.inl hr)
        · exact .inl hr
        · exact .inr (.inr hr)
      rcases hr' with rfl | hr'
      · simp
      · by_cases hi : i < D.t.length
        · rw [List.getElem?_append_left hi] at hy
          exact h.w0 i y hy hw r hr'
        · intro hm
          have := (hI.rg r hr' _ hm).rng
          rw [← h.tl] at this
          omega
    · dsimp only at hy
      by_cases hi : i < D.t.length
      · rw [List.getElem?_append_left hi] at hy
        rcases h.w1 i y hy hw with ⟨a, j, x, b, hx, c⟩ | ⟨a, j, x, b, hx, c⟩
        · exact .inl ⟨a, j, x, b, by dsimp only; rw [List.getElem?_append_left (List.getElem?_eq_some_iff.1 hx).1]; exact hx, c⟩
        · exact .inr ⟨a, j, x, b, hx, c⟩
      · rw [List.getElem?_append_right (by omega)] at hy
        have e1 : i - D.t.length = 0 := by
          have := (List.getElem?_eq_some_iff.1 hy).1
          simpa using this
        rw [e1] at hy
        cases hy
        exact absurd rfl hw
theorem Sim.set (h : Sim B D) (i y : Int) : (dsetM D i y).1 = (setM B i y).1 ∧ Sim (setM B i y).2 (dsetM D i y).2 := by
  unfold dsetM setM
  rw [h.g]
  by_cases e : isL B.g.length i = true
  · rw [if_pos e, if_pos e]
    exact ⟨rfl, h.tl, h.l, rfl, h.en, h.w0, h.w1⟩
  · rw [if_neg e, if_neg e]
    exact ⟨rfl, h⟩
/-- One that goes waits now: for a lock or an end. -/
theorem Sim.wait (h : Sim B D) (hI : Iv B) {i : Nat} {x : Th} {y' : Dt} {B' : Bk} {l' : List Dl} (hx : B.t[i]? = some x) (hen : x.en = false) (hy' : y'.en = false ∧ y'.wd = 0 ∧ y'.er = 0) (hw : y'.w ≠ 0)
    (hl : l' = B'.l.map dlOf) (hg : B'.g = B.g) (htl : B'.t.length = B.t.length) (ht : ∀ (k : Nat) (z : Th), B'.t[k]? = some z → ∃ z0, B.t[k]? = some z0 ∧ z.en = z0.en ∧ z.wd = z0.wd ∧ z.er = z0.er)
    (hr : ∀ r ∈ rowsM B', ∀ u ∈ r, u = (i : Int) + 1 ∨ ∃ r0 ∈ rowsM B, u ∈ r0) (hkt : ∀ (k : Nat) (z : Th), B.t[k]? = some z → ∃ z', B'.t[k]? = some z' ∧ ∀ u ∈ z.row, u ∈ z'.row) (hkl : ∀ (k : Nat) (z : Lk), B.l[k]? = some z → ∃ z', B'.l[k]? = some z' ∧ ∀ u ∈ z.row, u ∈ z'.row)
    (hme : (y'.w = 1 ∧ ∃ (j : Nat) (x : Th), y'.f = (j : Int) + 1 ∧ B'.t[j]? = some x ∧ ((i : Int) + 1) ∈ x.row) ∨ (y'.w = 2 ∧ ∃ (j : Nat) (x : Lk), y'.f = (j : Int) ∧ B'.l[j]? = some x ∧ ((i : Int) + 1) ∈ x.row)) :
    Sim B' ⟨D.t.set i y', l', D.g⟩ := by
  have hlt : i < D.t.length := by rw [h.tl]; exact (List.getElem?_eq_some_iff.1 hx).1
  refine ⟨by simp [h.tl, htl], hl, by rw [hg]; exact h.g, fun k z y hz hy => ?_, fun k y hy hw0 r hr' hm => ?_, fun k y hy hwn => ?_⟩
  · dsimp only at hy
    obtain ⟨z0, h0, e1, e2, e3⟩ := ht k z hz
    by_cases e : i = k
    · subst e
      rw [List.getElem?_set_self hlt] at hy
      cases hy
      rw [hx] at h0
      cases h0
      have := hI.nz x (List.mem_of_getElem? hx) hen
      rw [e1, e2, e3, hen, this.1, this.2]
      exact hy'
    · rw [List.getElem?_set_ne e] at hy
      rw [e1, e2, e3]
      exact h.en k z0 y h0 hy
  · dsimp only at hy
    by_cases e : i = k
    · subst e
      rw [List.getElem?_set_self hlt] at hy
      cases hy
      exact hw hw0
    · rw [List.getElem?_set_ne e] at hy
      rcases hr r hr' _ hm with hq | ⟨r0, h0, hm0⟩
      · omega
      · exact h.w0 k y hy hw0 r0 h0 hm0
  · dsimp only at hy
    by_cases e : i = k
    · subst e
      rw [List.getElem?_set_self hlt] at hy
      cases hy
      exact hme
    · rw [List.getElem?_set_ne e] at hy
      rcases h.w1 k y hy hwn with ⟨a, j, z, b, hz, c⟩ | ⟨a, j, z, b, hz, c⟩
      · obtain ⟨z', hz', hs⟩ := hkt j z hz
        exact .inl ⟨a, j, z', b, hz', hs _ c⟩
      · obtain ⟨z', hz', hs⟩ := hkl j z hz
        exact .inr ⟨a, j, z', b, hz', hs _ c⟩
theorem mem_rows {B : Bk} {r : List Int} (h : r ∈ rowsM B) : (∃ (k : Nat) (z : Th), B.t[k]? = some z ∧ z.row = r) ∨ ∃ (k : Nat) (z : Lk), B.l[k]? = some z ∧ z.row = r := by
  unfold rowsM at h
  simp only [List.mem_append, List.mem_map] at h
  rcases h with ⟨z, hz, rfl⟩ | ⟨z, hz, rfl⟩
  · obtain ⟨k, hk⟩ := List.getElem?_of_mem hz
    exact .inl ⟨k, z, hk, rfl⟩
  · obtain ⟨k, hk⟩ := List.getElem?_of_mem hz
    exact .inr ⟨k, z, hk, rfl⟩
theorem Sim.lock (h : Sim B D) (hI : Iv B) (t k : Int) : (dlockM D t k).1 = (lockM B t k).1 ∧ Sim (lockM B t k).2 (dlockM D t k).2 := by
  unfold dlockM lockM
  rw [h.tl, h.ll]
  cases hK : isL B.l.length k
  · rw [if_pos (.inr rfl), if_pos rfl]
    exact ⟨rfl, h⟩
  · cases hT : isB B.t.length t
    · rw [if_pos (.inl rfl), if_neg (by simp), if_pos (by rw [goB_none hT]; decide), goB_none hT]
      exact ⟨rfl, h⟩
    · rw [if_neg (by simp), if_neg (by simp)]
      obtain ⟨i, rfl, hi⟩ := isB_at hT
      obtain ⟨j, rfl, hj⟩ := isL_at hK
      obtain ⟨x, hx⟩ : ∃ x, B.t[i]? = some x := ⟨_, List.getElem?_eq_getElem hi⟩
      obtain ⟨y, hy⟩ := h.dt hx
      obtain ⟨z, hz⟩ : ∃ z, B.l[j]? = some z := ⟨_, List.getElem?_eq_getElem hj⟩
      have hgo := h.go hI hy
      have hdl : D.l[j]? = some ⟨z.ho, z.row⟩ := h.dl hz
      rw [show ((i : Int) + 1 - 1).toNat = i by omega, Int.toNat_natCast, hy, hz, hdl]
      dsimp only
      cases hg : (!y.en && y.w == 0)
      · rw [hg, if_neg (by decide)] at hgo
        rw [hgo, if_pos rfl, if_pos (show (192 : Int) ≠ 0 by decide)]
        exact ⟨rfl, h⟩
      · rw [hg, if_pos rfl] at hgo
        rw [hgo, if_neg (show ¬ (true = false) by decide), if_neg (show ¬ ((0 : Int) ≠ 0) by decide)]
        have hgl := hI.goes hgo
        obtain ⟨i', x', e', hx', hen⟩ := hgl.1
        have : i' = i := by omega
        subst this
        rw [hx] at hx'
        cases hx'
        by_cases e1 : z.ho = (i' : Int) + 1
        · rw [if_pos e1, if_pos e1]
          exact ⟨rfl, h⟩
        · rw [if_neg e1, if_neg e1]
          by_cases e2 : z.ho = 0
          · rw [if_pos e2, if_pos e2]
            refine ⟨rfl, h.tl, ?_, h.g, h.en, fun k y hy hw r hr => ?_, fun k y hy hw => ?_⟩
            · dsimp only
              rw [h.l, List.map_set]
              rfl
            · rw [rows_setL] at hr
              refine h.w0 k y hy hw r ?_
              rcases mem_set hr with hr | rfl
              · exact hr
              · exact (mem_rl hz : z.row ∈ rowsM B)
            · rcases h.w1 k y hy hw with a | ⟨a, m, q, b, hq, c⟩
              · exact .inl a
              · by_cases e : j = m
                · subst e
                  rw [hz] at hq
                  cases hq
                  exact .inr ⟨a, j, { z with ho := (i' : Int) + 1 }, b, by dsimp only; rw [List.getElem?_set_self hj], c⟩
                · exact .inr ⟨a, m, q, b, by dsimp only; rw [List.getElem?_set_ne e]; exact hq, c⟩
          · rw [if_neg e2, if_neg e2]
            refine ⟨rfl, h.wait hI hx hen ⟨rfl, rfl, rfl⟩ (by simp) ?_ rfl rfl (fun k z hz => ⟨z, hz, rfl, rfl, rfl⟩) ?_ (fun k z hz => ⟨z, hz, fun u hu => hu⟩) (fun k q hq => ?_) (.inr ⟨rfl, j, { z with row := z.row ++ [(i' : Int) + 1] }, rfl, by dsimp only; rw [List.getElem?_set_self hj], by simp⟩)⟩
            · dsimp only
              rw [h.l, List.map_set]
              rfl
            · intro r hr u hu
              rw [rows_setL] at hr
              rcases mem_set hr with hr | rfl
              · exact .inr ⟨r, hr, hu⟩
              · simp only [List.mem_append, List.mem_singleton] at hu
                rcases hu with hu | hu
                · exact .inr ⟨z.row, mem_rl hz, hu⟩
                · exact .inl hu
            · by_cases e : j = k
              · subst e
                rw [hz] at hq
                cases hq
                exact ⟨_, by dsimp only; rw [List.getElem?_set_self hj], fun u hu => List.mem_append_left _ hu⟩
              · exact ⟨q, by dsimp only; rw [List.getElem?_set_ne e]; exact hq, fun u hu => hu⟩
theorem Sim.join (h : Sim B D) (hI : Iv B) (t o : Int) : (djoinM D t o).1 = (joinM B t o).1 ∧ Sim (joinM B t o).2 (djoinM D t o).2 := by
  unfold djoinM joinM
  rw [h.tl]
  cases hK : isB B.t.length o
  · rw [if_pos (.inr rfl), if_pos rfl]
    exact ⟨rfl, h⟩
  · cases hT : isB B.t.length t
    · rw [if_pos (.inl rfl), if_neg (by simp), if_pos (by rw [goB_none hT]; decide), goB_none hT]
      exact ⟨rfl, h⟩
    · rw [if_neg (by simp), if_neg (by simp)]
      obtain ⟨i, rfl, hi⟩ := isB_at hT
      obtain ⟨j, rfl, hj⟩ := isB_at hK
      obtain ⟨x, hx⟩ : ∃ x, B.t[i]? = some x := ⟨_, List.getElem?_eq_getElem hi⟩
      obtain ⟨y, hy⟩ := h.dt hx
      obtain ⟨z, hz⟩ : ∃ z, B.t[j]? = some z := ⟨_, List.getElem?_eq_getElem hj⟩
      obtain ⟨q, hq⟩ := h.dt hz
      have hgo := h.go hI hy
      obtain ⟨n1, n2, n3⟩ := h.en j z q hz hq
      rw [show ((i : Int) + 1 - 1).toNat = i by omega, show ((j : Int) + 1 - 1).toNat = j by omega, hy, hz, hq]
      dsimp only
      cases hg : (!y.en && y.w == 0)
      · rw [hg, if_neg (by decide)] at hgo
        rw [hgo, if_pos rfl, if_pos (show (192 : Int) ≠ 0 by decide)]
        exact ⟨rfl, h⟩
      · rw [hg, if_pos rfl] at hgo
        rw [hgo, if_neg (show ¬ (true = false) by decide), if_neg (show ¬ ((0 : Int) ≠ 0) by decide)]
        have hgl := hI.goes hgo
        obtain ⟨i', x', e', hx', hen⟩ := hgl.1
        have : i' = i := by omega
        subst this
        rw [hx] at hx'
        cases hx'
        by_cases e1 : (i' : Int) + 1 = (j : Int) + 1
        · rw [if_pos e1, if_pos e1]
          exact ⟨rfl, h⟩
        · rw [if_neg e1, if_neg e1]
          rw [n1, n2, n3]
          cases hzn : z.en
          · rw [if_neg (by simp), if_neg (by simp)]
            refine ⟨rfl, h.wait hI hx hen ⟨rfl, rfl, rfl⟩ (by simp) h.l rfl (by simp) (fun k v hv => ?_) ?_ (fun k v hv => ?_) (fun k v hv => ⟨v, hv, fun u hu => hu⟩) (.inl ⟨rfl, j, { z with row := z.row ++ [(i' : Int) + 1] }, rfl, by dsimp only; rw [List.getElem?_set_self hj, hzn], by simp⟩)⟩
            · dsimp only at hv
              by_cases e : j = k
              · subst e
                rw [List.getElem?_set_self hj] at hv
                cases hv
                exact ⟨z, hz, hzn.symm, rfl, rfl⟩
              · rw [List.getElem?_set_ne e] at hv
                exact ⟨v, hv, rfl, rfl, rfl⟩
            · intro r hr u hu
              rw [rows_setT hj] at hr
              rcases mem_set hr with hr | rfl
              · exact .inr ⟨r, hr, hu⟩
              · simp only [List.mem_append, List.mem_singleton] at hu
                rcases hu with hu | hu
                · exact .inr ⟨z.row, mem_rt hz, hu⟩
                · exact .inl hu
            · by_cases e : j = k
              · subst e
                rw [hz] at hv
                cases hv
                exact ⟨_, by dsimp only; rw [List.getElem?_set_self hj], fun u hu => List.mem_append_left _ hu⟩
              · exact ⟨v, by dsimp only; rw [List.getElem?_set_ne e]; exact hv, fun u hu => hu⟩
          · rw [if_pos rfl, if_pos rfl]
            exact ⟨rfl, h⟩
end
end Go.Proofs.YtdlnkdcgipaoeaaDoor

/- The document's End as mathematics. -/
namespace Go.Proofs.YtdlnkdcgipaoeaaDoor
open Go.RowKit

def hd1 (t : Int) (y : Dl) : Dl := if y.ho = t then ⟨y.row.headD 0, y.row.tail⟩ else y
def hdS (t : Int) (y : Dl) : List Int := if y.ho = t then [y.row.headD 0] else []
def dS (t : Int) (L : List Dl) (j : Nat) : List Int := (L.take j).flatMap (hdS t)
def dLs (t : Int) (L : List Dl) (j : Nat) : List Dl := (L.take j).map (hd1 t) ++ L.drop j
def zr (x : Dt) : Dt := { x with w := 0 }
def zT (T : List Dt) (S : List Int) : List Dt := T.mapIdx (fun i x => if S.contains ((i : Int) + 1) = true then zr x else x)
def jn (t : Int) (x : Dt) : Bool := x.w == 1 && x.f == t
def dT2 (t : Int) (T : List Dt) (k : Nat) : List Dt := T.mapIdx (fun i x => if decide (i < k) && jn t x then zr x else x)
def jnT (t : Int) (T : List Dt) (v : Int) : Bool := match T[(v - 1).toNat]? with
  | some x => jn t x
  | none => false
def dO (t : Int) (S : List Int) (T : List Dt) (k : Nat) : List Int := ((List.range k).map (fun i : Nat => (i : Int) + 1)).filter (fun v => S.contains v || jnT t T v)
def dBl (S : List Int) (n : Nat) : List Bool := (List.range n).map (fun k : Nat => S.contains (k : Int))
def endD (D : Dk) (i : Nat) (x : Dt) (wd er : Int) : List Dt := D.t.set i ⟨x.w, x.f, true, wd, er⟩
def dendM (D : Dk) (t wd er : Int) : (List Int × Int) × Dk :=
  if isB D.t.length t = false then (([], 190), D) else
  match D.t[(t - 1).toNat]? with
  | some x => if (!x.en && x.w == 0) = false then (([], 192), D) else
    ((dO t (dS t D.l D.l.length) (zT (endD D (t - 1).toNat x (if er = 0 then wd else 0) er) (dS t D.l D.l.length)) D.t.length, 0), ⟨dT2 t (zT (endD D (t - 1).toNat x (if er = 0 then wd else 0) er) (dS t D.l D.l.length)) D.t.length, dLs t D.l D.l.length, D.g⟩)
  | none => (([], 190), D)
theorem zT_len (T : List Dt) (S : List Int) : (zT T S).length = T.length := by simp [zT]
theorem dT2_len (t : Int) (T : List Dt) (k : Nat) : (dT2 t T k).length = T.length := by simp [dT2]
theorem endD_len (D : Dk) (i : Nat) (x : Dt) (wd er : Int) : (endD D i x wd er).length = D.t.length := by simp [endD]
theorem zT_at {T : List Dt} {S : List Int} {i : Nat} {x : Dt} (h : T[i]? = some x) : (zT T S)[i]? = some (if S.contains ((i : Int) + 1) = true then zr x else x) := by
  simp [zT, List.getElem?_mapIdx, h]
theorem dT2_at {t : Int} {T : List Dt} {k i : Nat} {x : Dt} (h : T[i]? = some x) : (dT2 t T k)[i]? = some (if decide (i < k) && jn t x then zr x else x) := by
  simp [dT2, List.getElem?_mapIdx, h]
theorem zT_nil (T : List Dt) : zT T [] = T := by
  apply List.ext_getElem?
  intro i
  cases h : T[i]? with
  | none => simp [zT, List.getElem?_mapIdx, h]
  | some x => rw [zT_at h]; simp
theorem dT2_zero (t : Int) (T : List Dt) : dT2 t T 0 = T := by
  apply List.ext_getElem?
  intro i
  cases h : T[i]? with
  | none => simp [dT2, List.getElem?_mapIdx, h]
  | some x => rw [dT2_at h]; simp
theorem dT2_succ {t : Int} {T : List Dt} {k : Nat} {x : Dt} (h : T[k]? = some x) : dT2 t T (k + 1) = if jn t x then (dT2 t T k).set k (zr x) else dT2 t T k := by
  have hk : k < T.length := (List.getElem?_eq_some_iff.1 h).1
  apply List.ext_getElem?
  intro i
  cases hi : T[i]? with
  | none =>
    have h1 : (dT2 t T (k + 1))[i]? = none := by simp [dT2, List.getElem?_mapIdx, hi]
    have h2 : (dT2 t T k)[i]? = none := by simp [dT2, List.getElem?_mapIdx, hi]
    rw [h1]
    split
    · rw [List.getElem?_set_ne (fun e => by subst e; rw [h] at hi; cases hi), h2]
    · rw [h2]
  | some y =>
    rw [dT2_at hi]
    by_cases e : k = i
    · subst e
      rw [h] at hi
      cases hi
      cases hj : jn t x
      · simp only [Bool.and_false, Bool.false_eq_true, if_false]
        rw [dT2_at h, hj]
        simp
      · simp only [Bool.and_true, if_true, decide_eq_true_eq]
        rw [if_pos (by omega), List.getElem?_set_self (by rw [dT2_len]; exact hk)]
    · have e2 : decide (i < k + 1) = decide (i < k) := by
        by_cases hc : i < k
        · simp [hc]; omega
        · simp [hc]; omega
      rw [e2]
      split
      · split
        · rename_i h1 h2
          rw [List.getElem?_set_ne e, dT2_at hi, if_pos h1]
        · rename_i h1 h2
          rw [dT2_at hi, if_pos h1]
      · split
        · rename_i h1 h2
          rw [List.getElem?_set_ne e, dT2_at hi, if_neg h1]
        · rename_i h1 h2
          rw [dT2_at hi, if_neg h1]
theorem dO_succ {t : Int} {S : List Int} {T : List Dt} {k : Nat} {x : Dt} (h : T[k]? = some x) : dO t S T (k + 1) = if S.contains ((k : Int) + 1) || jn t x then dO t S T k ++ [(k : Int) + 1] else dO t S T k := by
  have e : jnT t T ((k : Int) + 1) = jn t x := by
    unfold jnT
    rw [show ((k : Int) + 1 - 1).toNat = k by omega, h]
  unfold dO
  rw [List.range_succ, List.map_append, List.filter_append]
  simp only [List.map_cons, List.map_nil, List.filter_cons, List.filter_nil]
  rw [e]
  split <;> simp
theorem dO_len (t : Int) (S : List Int) (T : List Dt) (k : Nat) : (dO t S T k).length ≤ k := by
  unfold dO
  refine Nat.le_trans (List.length_filter_le ..) ?_
  simp
theorem dLs_zero (t : Int) (L : List Dl) : dLs t L 0 = L := by simp [dLs]
theorem dLs_len (t : Int) (L : List Dl) (j : Nat) : (dLs t L j).length = L.length := by simp [dLs]; omega
theorem dLs_at {t : Int} {L : List Dl} {j : Nat} : (dLs t L j)[j]? = L[j]? := by
  unfold dLs
  by_cases h : j < L.length
  · rw [List.getElem?_append_right (by simp; omega)]
    simp only [List.length_map, List.length_take, List.getElem?_drop]
    rw [show j + (j - min j L.length) = j by omega]
  · rw [List.getElem?_eq_none (by simp; omega), List.getElem?_eq_none (by omega)]
theorem dLs_succ {t : Int} {L : List Dl} {j : Nat} {y : Dl} (h : L[j]? = some y) : dLs t L (j + 1) = (dLs t L j).set j (hd1 t y) := by
  have hlt := (List.getElem?_eq_some_iff.1 h).1
  unfold dLs
  rw [List.set_append_right _ _ (by simp; omega)]
  have e : j - ((L.take j).map (hd1 t)).length = 0 := by simp; omega
  rw [e, List.drop_eq_getElem_cons hlt, List.set_cons_zero, List.take_add_one, h]
  have hx : L[j] = y := (List.getElem?_eq_some_iff.1 h).2
  simp
theorem dLs_all (t : Int) (L : List Dl) : dLs t L L.length = L.map (hd1 t) := by simp [dLs]
theorem set_self {α : Type} {l : List α} {j : Nat} {x : α} (h : l[j]? = some x) : l.set j x = l := by
  apply List.ext_getElem?
  intro i
  by_cases e : j = i
  · subst e
    rw [List.getElem?_set_self (List.getElem?_eq_some_iff.1 h).1, h]
  · rw [List.getElem?_set_ne e]
theorem dLs_same {t : Int} {L : List Dl} {j : Nat} {y : Dl} (h : L[j]? = some y) (hn : y.ho ≠ t) : dLs t L (j + 1) = dLs t L j := by
  rw [dLs_succ h]
  unfold hd1
  rw [if_neg hn]
  exact set_self (by rw [dLs_at]; exact h)
theorem dS_succ {t : Int} {L : List Dl} {j : Nat} {y : Dl} (h : L[j]? = some y) : dS t L (j + 1) = dS t L j ++ hdS t y := by
  simp [dS, List.take_add_one, h]
theorem dS_same {t : Int} {L : List Dl} {j : Nat} {y : Dl} (h : L[j]? = some y) (hn : y.ho ≠ t) : dS t L (j + 1) = dS t L j := by
  rw [dS_succ h]
  unfold hdS
  rw [if_neg hn, List.append_nil]
theorem dBl_set {S : List Int} {n k : Nat} (h : k < n) : (dBl S n).set k true = dBl (S ++ [(k : Int)]) n := by
  apply List.ext_getElem?
  intro i
  by_cases hi : i < n
  · by_cases e : k = i
    · subst e
      rw [List.getElem?_set_self (by simp [dBl]; exact h)]
      simp [dBl, hi]
    · rw [List.getElem?_set_ne e]
      simp [dBl, hi]
      omega
  · rw [List.getElem?_eq_none (by simp [dBl]; omega), List.getElem?_eq_none (by simp [dBl]; omega)]
theorem zT_zero (T : List Dt) (S : List Int) : zT T (S ++ [0]) = zT T S := by
  apply List.ext_getElem?
  intro i
  cases h : T[i]? with
  | none => simp [zT, List.getElem?_mapIdx, h]
  | some x =>
    rw [zT_at h, zT_at h]
    have e : (S ++ [(0 : Int)]).contains ((i : Int) + 1) = S.contains ((i : Int) + 1) := by
      simp
      omega
    rw [e]
theorem zT_hand {T : List Dt} {S : List Int} {z : Int} (h1 : 1 ≤ z) (h2 : z ≤ T.length) : handT (zT T S) z = zT T (S ++ [z]) := by
  obtain ⟨m, rfl⟩ : ∃ m : Nat, z = (m : Int) + 1 := ⟨(z - 1).toNat, by omega⟩
  have hm : m < T.length := by omega
  obtain ⟨x, hx⟩ : ∃ x, T[m]? = some x := ⟨_, List.getElem?_eq_getElem hm⟩
  unfold handT
  rw [show ((m : Int) + 1 - 1).toNat = m by omega, zT_at hx]
  dsimp only
  apply List.ext_getElem?
  intro i
  cases hi : T[i]? with
  | none =>
    rw [List.getElem?_set_ne (fun e => by subst e; rw [hx] at hi; cases hi)]
    simp [zT, List.getElem?_mapIdx, hi]
  | some y =>
    rw [zT_at hi]
    by_cases e : m = i
    · subst e
      rw [hx] at hi
      cases hi
      rw [List.getElem?_set_self (by rw [zT_len]; exact hm)]
      have : (S ++ [(m : Int) + 1]).contains ((m : Int) + 1) = true := by simp
      rw [if_pos this]
      split <;> rfl
    · rw [List.getElem?_set_ne e, zT_at hi]
      have : (S ++ [(m : Int) + 1]).contains ((i : Int) + 1) = S.contains ((i : Int) + 1) := by
        simp
        intro h
        omega
      rw [this]
/-- A lock more is handed on. -/
theorem hand_step {T : List Dt} {L : List Dl} {G : List Int} {t : Int} {j : Nat} {y : Dl} (hy : L[j]? = some y) (hh : y.ho = t) (hr : ∀ z ∈ y.row, 1 ≤ z ∧ z ≤ (T.length : Int)) :
    handD ⟨zT T (dS t L j), dLs t L j, G⟩ j y = (y.row.headD 0, ⟨zT T (dS t L (j + 1)), dLs t L (j + 1), G⟩) := by
  rw [dS_succ hy, dLs_succ hy]
  unfold hdS hd1
  rw [if_pos hh, if_pos hh]
  obtain ⟨ho, row⟩ := y
  cases row with
  | nil =>
    show (_, _) = _
    simp only [List.headD_nil, List.tail_nil]
    rw [zT_zero]
  | cons z q =>
    show (_, _) = _
    simp only [List.headD_cons, List.tail_cons]
    rw [zT_hand (hr z List.mem_cons_self).1 (hr z List.mem_cons_self).2]
theorem sd_step {D : Dk} (h : Sd D) {T : List Dt} (hT : T.length = D.t.length) (t : Int) (j : Nat) (S : List Int) : Sd ⟨zT T S, dLs t D.l j, D.g⟩ := by
  intro y hy
  show y.row.length ≤ 900 ∧ ∀ z ∈ y.row, 1 ≤ z ∧ z ≤ ((zT T S).length : Int)
  rw [zT_len, hT]
  dsimp only at hy
  unfold dLs at hy
  rw [List.mem_append, List.mem_map] at hy
  rcases hy with ⟨x, hx, rfl⟩ | hy
  · have := h x (List.mem_of_mem_take hx)
    unfold hd1
    split
    · refine ⟨?_, fun z hz => this.2 z (List.mem_of_mem_tail hz)⟩
      dsimp only
      rw [List.length_tail]
      omega
    · exact this
  · exact h y (List.mem_of_mem_drop hy)
end Go.Proofs.YtdlnkdcgipaoeaaDoor

/- The document's book is the program's: Unlock and End keep it. -/
namespace Go.Proofs.YtdlnkdcgipaoeaaDoor
open Go.RowKit

section
variable {B : Bk} {D : Dk}
theorem Sim.unlock (h : Sim B D) (hI : Iv B) (t k : Int) : (dunlockM D t k).1 = (unlockM B t k).1 ∧ Sim (unlockM B t k).2 (dunlockM D t k).2 := by
  unfold dunlockM unlockM
  rw [h.tl, h.ll]
  cases hK : isL B.l.length k
  · rw [if_pos (.inr rfl), if_pos rfl]
    exact ⟨rfl, h⟩
  · cases hT : isB B.t.length t
    · rw [if_pos (.inl rfl), if_neg (by simp), if_pos (by rw [goB_none hT]; decide), goB_none hT]
      exact ⟨rfl, h⟩
    · rw [if_neg (by simp), if_neg (by simp)]
      obtain ⟨i, rfl, hi⟩ := isB_at hT
      obtain ⟨j, rfl, hj⟩ := isL_at hK
      obtain ⟨x, hx⟩ : ∃ x, B.t[i]? = some x := ⟨_, List.getElem?_eq_getElem hi⟩
      obtain ⟨y, hy⟩ := h.dt hx
      obtain ⟨z, hz⟩ : ∃ z, B.l[j]? = some z := ⟨_, List.getElem?_eq_getElem hj⟩
      have hgo := h.go hI hy
      have hdl : D.l[j]? = some ⟨z.ho, z.row⟩ := h.dl hz
      rw [show ((i : Int) + 1 - 1).toNat = i by omega, Int.toNat_natCast, hy, hz, hdl]
      dsimp only
      cases hg : (!y.en && y.w == 0)
      · rw [hg, if_neg (by decide)] at hgo
        rw [hgo, if_pos (.inl rfl), if_pos (show (192 : Int) ≠ 0 by decide)]
        exact ⟨rfl, h⟩
      · rw [hg, if_pos rfl] at hgo
        rw [hgo, if_neg (show ¬ ((0 : Int) ≠ 0) by decide)]
        by_cases e1 : z.ho = (i : Int) + 1
        · rw [if_neg (by simp [e1]), if_neg (by simp [e1])]
          cases hrow : z.row with
          | nil =>
            refine ⟨rfl, h.tl, ?_, h.g, h.en, fun m q hq hw r hr => ?_, fun m q hq hw => ?_⟩
            · show D.l.set j ⟨0, []⟩ = _
              rw [h.l, List.map_set]
              rfl
            · rw [rows_setL] at hr
              rcases mem_set hr with hr | rfl
              · exact h.w0 m q hq hw r hr
              · simp
            · rcases h.w1 m q hq hw with a | ⟨a, n, u, b, hu, c⟩
              · exact .inl a
              · refine .inr ⟨a, n, u, b, ?_, c⟩
                dsimp only
                rw [List.getElem?_set_ne (fun e => ?_)]
                · exact hu
                · subst e
                  rw [hz] at hu
                  cases hu
                  rw [hrow] at c
                  cases c
          | cons v q =>
            have hvm : v ∈ z.row := by rw [hrow]; exact List.mem_cons_self
            have hv := (hI.rg z.row (mem_rl hz) v hvm).rng
            have hnd : z.row.Nodup := hI.nd.nd _ _ (rows_l hz)
            rw [hrow, List.nodup_cons] at hnd
            obtain ⟨m0, hm0⟩ : ∃ m0 : Nat, v = (m0 : Int) + 1 := ⟨(v - 1).toNat, by omega⟩
            have hml : m0 < D.t.length := by rw [h.tl]; omega
            obtain ⟨q0, hq0⟩ : ∃ q0, D.t[m0]? = some q0 := ⟨_, List.getElem?_eq_getElem hml⟩
            have hHT : handT D.t v = D.t.set m0 { q0 with w := 0 } := by
              unfold handT
              rw [hm0, show ((m0 : Int) + 1 - 1).toNat = m0 by omega, hq0]
            refine ⟨rfl, ?_, ?_, h.g, fun m u p hu hp => ?_, fun m p hp hw r hr hmem => ?_, fun m p hp hw => ?_⟩
            · show (handT D.t v).length = _
              rw [hHT, List.length_set, h.tl]
            · show D.l.set j ⟨v, q⟩ = _
              rw [h.l, List.map_set]
              rfl
            · have hp : (handT D.t v)[m]? = some p := hp
              rw [hHT] at hp
              by_cases e : m0 = m
              · subst e
                rw [List.getElem?_set_self hml] at hp
                cases hp
                exact h.en m0 u q0 hu hq0
              · rw [List.getElem?_set_ne e] at hp
                exact h.en m u p hu hp
            · have hp : (handT D.t v)[m]? = some p := hp
              rw [hHT] at hp
              rw [rows_setL] at hr
              by_cases e : m0 = m
              · subst e
                rcases (List.mem_iff_getElem?.1 hr) with ⟨a, ha⟩
                by_cases ea : B.t.length + j = a
                · subst ea
                  rw [List.getElem?_set_self (by have := (List.getElem?_eq_some_iff.1 (rows_l hz)).1; exact this)] at ha
                  cases ha
                  rw [← hm0] at hmem
                  exact hnd.1 hmem
                · rw [List.getElem?_set_ne ea] at ha
                  exact ea (hI.nd.inj _ _ _ _ v (rows_l hz) ha hvm (by rw [hm0]; exact hmem))
              · rw [List.getElem?_set_ne e] at hp
                rcases mem_set hr with hr | hr
                · exact h.w0 m p hp hw r hr hmem
                · refine h.w0 m p hp hw z.row (mem_rl hz) ?_
                  rw [hr] at hmem
                  rw [hrow]
                  exact List.mem_cons_of_mem _ hmem
            · have hp : (handT D.t v)[m]? = some p := hp
              rw [hHT] at hp
              by_cases e : m0 = m
              · subst e
                rw [List.getElem?_set_self hml] at hp
                cases hp
                exact absurd rfl hw
              · rw [List.getElem?_set_ne e] at hp
                rcases h.w1 m p hp hw with a | ⟨a, n, u, b, hu, c⟩
                · exact .inl a
                · by_cases e2 : j = n
                  · subst e2
                    rw [hz] at hu
                    cases hu
                    rw [hrow] at c
                    rcases List.mem_cons.1 c with c | c
                    · omega
                    · exact .inr ⟨a, j, ⟨q, v⟩, b, by dsimp only; rw [List.getElem?_set_self hj]; rfl, c⟩
                  · exact .inr ⟨a, n, u, b, by dsimp only; rw [List.getElem?_set_ne e2]; exact hu, c⟩
        · rw [if_pos (.inr e1), if_pos e1]
          exact ⟨rfl, h⟩
theorem mem_dS {t v : Int} {L : List Lk} (hv : v ≠ 0) : v ∈ dS t (L.map dlOf) L.length ↔ v ∈ outs t L L.length := by
  unfold dS outs
  rw [List.take_of_length_le (by simp), List.take_length]
  simp only [List.mem_flatMap, List.mem_map]
  constructor
  · rintro ⟨_, ⟨y, hy, rfl⟩, hm⟩
    refine ⟨y, hy, ?_⟩
    unfold hdS dlOf at hm
    unfold hoO1
    dsimp only at hm
    split at hm
    · rename_i hh
      rw [if_pos hh]
      cases hr : y.row with
      | nil => rw [hr] at hm; simp at hm; exact absurd hm hv
      | cons a q => rw [hr] at hm; simpa using hm
    · cases hm
  · rintro ⟨y, hy, hm⟩
    refine ⟨dlOf y, ⟨y, hy, rfl⟩, ?_⟩
    unfold hoO1 at hm
    unfold hdS dlOf
    dsimp only
    split at hm
    · rename_i hh
      rw [if_pos hh]
      cases hr : y.row with
      | nil => rw [hr] at hm; simp at hm
      | cons a q => rw [hr] at hm; simpa using hm
    · cases hm
theorem dO_sorted (t : Int) (S : List Int) (T : List Dt) (k : Nat) : (dO t S T k).Pairwise (· < ·) := by
  unfold dO
  refine List.Pairwise.filter _ ?_
  rw [List.pairwise_map]
  exact List.Pairwise.imp (fun h => by omega) List.pairwise_lt_range
theorem Sim.ended (h : Sim B D) (hI : Iv B) (t wd er : Int) : (dendM D t wd er).1 = (endM B t wd er).1 ∧ Sim (endM B t wd er).2 (dendM D t wd er).2 := by
  by_cases hT : isB B.t.length t = false
  · have hgo := goB_none hT
    have e1 : endM B t wd er = (([], 190), B) := by unfold endM; rw [hgo, if_pos (by decide)]
    have e2 : dendM D t wd er = (([], 190), D) := by unfold dendM; rw [h.tl, if_pos hT]
    rw [e1, e2]
    exact ⟨rfl, h⟩
  · have hT' : isB B.t.length t = true := by simpa using hT
    obtain ⟨i, rfl, hi⟩ := isB_at hT'
    obtain ⟨x, hx⟩ : ∃ x, B.t[i]? = some x := ⟨_, List.getElem?_eq_getElem hi⟩
    obtain ⟨y, hy⟩ := h.dt hx
    have hgo := h.go hI hy
    cases hg : (!y.en && y.w == 0)
    · rw [hg, if_neg (by decide)] at hgo
      have e1 : endM B ((i : Int) + 1) wd er = (([], 192), B) := by unfold endM; rw [hgo, if_pos (by decide)]
      have e2 : dendM D ((i : Int) + 1) wd er = (([], 192), D) := by
        unfold dendM
        rw [h.tl, if_neg hT, show ((i : Int) + 1 - 1).toNat = i by omega, hy]
        dsimp only
        rw [if_pos hg]
      rw [e1, e2]
      exact ⟨rfl, h⟩
    · rw [hg, if_pos rfl] at hgo
      obtain ⟨S, hS⟩ : ∃ S, S = dS ((i : Int) + 1) D.l D.l.length := ⟨_, rfl⟩
      obtain ⟨T0, hT0⟩ : ∃ T0, T0 = endD D i y (if er = 0 then wd else 0) er := ⟨_, rfl⟩
      have e2 : dendM D ((i : Int) + 1) wd er = ((dO ((i : Int) + 1) S (zT T0 S) D.t.length, 0), ⟨dT2 ((i : Int) + 1) (zT T0 S) D.t.length, dLs ((i : Int) + 1) D.l D.l.length, D.g⟩) := by
        unfold dendM
        rw [if_neg (by rw [h.tl]; exact hT), show ((i : Int) + 1 - 1).toNat = i by omega, hy]
        dsimp only
        rw [if_neg (by rw [hg]; decide), hS, hT0]
      rw [e2, end_is wd er hgo hx]
      obtain ⟨-, hnr⟩ := hI.goes hgo
      have hmS : ∀ v : Int, v ≠ 0 → (v ∈ S ↔ v ∈ outs ((i : Int) + 1) B.l B.l.length) := fun v hv => by
        rw [hS, h.l, List.length_map]
        exact mem_dS hv
      have hT0l : T0.length = D.t.length := by rw [hT0, endD_len]
      have hT0a : ∀ (m : Nat) (q : Dt), D.t[m]? = some q → ∃ q', T0[m]? = some q' ∧ q'.w = q.w ∧ q'.f = q.f ∧ (m ≠ i → q' = q) := fun m q hq => by
        by_cases e : i = m
        · subst e
          rw [hy] at hq
          cases hq
          exact ⟨⟨y.w, y.f, true, if er = 0 then wd else 0, er⟩, by rw [hT0]; unfold endD; rw [List.getElem?_set_self (by rw [h.tl]; exact hi)], rfl, rfl, fun hn => absurd rfl hn⟩
        · exact ⟨q, by rw [hT0]; unfold endD; rw [List.getElem?_set_ne e]; exact hq, rfl, rfl, fun _ => rfl⟩
      -- who waits for the end of this one
      have hjn : ∀ (m : Nat) (q : Dt), D.t[m]? = some q → (jn ((i : Int) + 1) q = true ↔ ((m : Int) + 1) ∈ x.row) := fun m q hq => by
        constructor
        · intro hj
          simp [jn] at hj
          rcases h.w1 m q hq (by rw [hj.1]; decide) with ⟨-, j, u, b, hu, c⟩ | ⟨a, -⟩
          · have : j = i := by have := hj.2; omega
            subst this
            rw [hx] at hu
            cases hu
            exact c
          · rw [hj.1] at a; cases a
        · intro hm
          have hwn : q.w ≠ 0 := fun e => h.w0 m q hq e x.row (mem_rt hx) hm
          rcases h.w1 m q hq hwn with ⟨a, j, u, b, hu, c⟩ | ⟨a, j, u, b, hu, c⟩
          · have := hI.nd.inj _ _ _ _ _ (rows_t hx) (rows_t hu) hm c
            subst this
            simp [jn, a, b]
          · have := hI.nd.inj _ _ _ _ _ (rows_t hx) (rows_l hu) hm c
            omega
      have hO : ∀ v : Int, v ∈ dO ((i : Int) + 1) S (zT T0 S) D.t.length ↔ v ∈ outs ((i : Int) + 1) B.l B.l.length ++ x.row := fun v => by
        unfold dO
        rw [List.mem_filter, List.mem_map, List.mem_append]
        constructor
        · rintro ⟨⟨m, hm, rfl⟩, hv⟩
          rw [List.mem_range] at hm
          rw [Bool.or_eq_true] at hv
          rcases hv with hv | hv
          · exact .inl ((hmS _ (by omega)).1 (by simpa using hv))
          · obtain ⟨q, hq⟩ : ∃ q, D.t[m]? = some q := ⟨_, List.getElem?_eq_getElem hm⟩
            obtain ⟨q', hq', f1, f2, f3⟩ := hT0a m q hq
            unfold jnT at hv
            rw [show ((m : Int) + 1 - 1).toNat = m by omega, zT_at hq'] at hv
            dsimp only at hv
            split at hv
            · simp [jn, zr] at hv
            · refine .inr ((hjn m q hq).1 ?_)
              unfold jn at hv ⊢
              rw [← f1, ← f2]
              exact hv
        · intro hv
          have hv2 : 1 ≤ v ∧ v ≤ B.t.length := by
            rcases hv with hv | hv
            · obtain ⟨a, u, -, hu, -, hh⟩ := mem_outs.1 hv
              exact (hI.rg u.row (mem_rl hu) v (head_mem hh)).rng
            · exact (hI.rg x.row (mem_rt hx) v hv).rng
          obtain ⟨m, rfl⟩ : ∃ m : Nat, v = (m : Int) + 1 := ⟨(v - 1).toNat, by omega⟩
          have hm : m < D.t.length := by rw [h.tl]; omega
          refine ⟨⟨m, List.mem_range.2 hm, rfl⟩, ?_⟩
          rw [Bool.or_eq_true]
          by_cases hs : S.contains ((m : Int) + 1) = true
          · exact .inl hs
          · rcases hv with hv | hv
            · exact .inl (by simpa using (hmS _ (by omega)).2 hv)
            · right
              obtain ⟨q, hq⟩ : ∃ q, D.t[m]? = some q := ⟨_, List.getElem?_eq_getElem hm⟩
              obtain ⟨q', hq', f1, f2, f3⟩ := hT0a m q hq
              unfold jnT
              rw [show ((m : Int) + 1 - 1).toNat = m by omega, zT_at hq', if_neg hs]
              dsimp only
              have := (hjn m q hq).2 hv
              unfold jn at this ⊢
              rw [f1, f2]
              exact this
      have hfin : ∀ (m : Nat) (p : Dt), (dT2 ((i : Int) + 1) (zT T0 S) D.t.length)[m]? = some p → ∃ q q', D.t[m]? = some q ∧ T0[m]? = some q' ∧ p.en = q'.en ∧ p.wd = q'.wd ∧ p.er = q'.er ∧ p.f = q.f ∧ ((p.w = 0 ∧ (((m : Int) + 1) ∈ outs ((i : Int) + 1) B.l B.l.length ++ x.row ∨ q.w = 0)) ∨ (p.w = q.w ∧ ((m : Int) + 1) ∉ outs ((i : Int) + 1) B.l B.l.length ++ x.row)) := fun m p hp => by
        have hm : m < D.t.length := by
          have := (List.getElem?_eq_some_iff.1 hp).1
          rw [dT2_len, zT_len, hT0l] at this
          exact this
        obtain ⟨q, hq⟩ : ∃ q, D.t[m]? = some q := ⟨_, List.getElem?_eq_getElem hm⟩
        obtain ⟨q', hq', f1, f2, f3⟩ := hT0a m q hq
        have hmO := hO ((m : Int) + 1)
        have hmem : ((m : Int) + 1) ∈ dO ((i : Int) + 1) S (zT T0 S) D.t.length ↔ (S.contains ((m : Int) + 1) || jn ((i : Int) + 1) q) = true := by
          unfold dO
          rw [List.mem_filter, List.mem_map]
          unfold jnT
          rw [show ((m : Int) + 1 - 1).toNat = m by omega, zT_at hq']
          dsimp only
          have hjq : jn ((i : Int) + 1) q' = jn ((i : Int) + 1) q := by unfold jn; rw [f1, f2]
          constructor
          · rintro ⟨-, hv⟩
            cases hs : S.contains ((m : Int) + 1)
            · rw [hs, if_neg (by decide), hjq] at hv
              exact hv
            · rfl
          · intro hv
            refine ⟨⟨m, List.mem_range.2 hm, rfl⟩, ?_⟩
            cases hs : S.contains ((m : Int) + 1)
            · rw [hs] at hv
              rw [if_neg (by decide), hjq]
              exact hv
            · rfl
        refine ⟨q, q', hq, hq', ?_⟩
        rw [dT2_at (zT_at hq')] at hp
        cases hs : S.contains ((m : Int) + 1)
        · rw [hs] at hp
          rw [if_neg (show ¬ (false = true) by decide)] at hp
          rw [hs, Bool.false_or] at hmem
          have hjq : jn ((i : Int) + 1) q' = jn ((i : Int) + 1) q := by unfold jn; rw [f1, f2]
          cases hj : jn ((i : Int) + 1) q
          · rw [hjq, hj, Bool.and_false, if_neg (show ¬ (false = true) by decide)] at hp
            cases hp
            refine ⟨rfl, rfl, rfl, f2, .inr ⟨f1, fun hn => ?_⟩⟩
            rw [← hmO, hmem, hj] at hn
            cases hn
          · rw [hjq, hj, Bool.and_true, if_pos (by simpa using hm)] at hp
            cases hp
            exact ⟨rfl, rfl, rfl, f2, .inl ⟨rfl, .inl (hmO.1 (hmem.2 hj))⟩⟩
        · rw [hs] at hp
          rw [if_pos (show true = true from rfl)] at hp
          have hm2 : ((m : Int) + 1) ∈ outs ((i : Int) + 1) B.l B.l.length ++ x.row := hmO.1 (hmem.2 (by rw [hs]; rfl))
          have hz0 : jn ((i : Int) + 1) (zr q') = false := by simp [jn, zr]
          rw [hz0, Bool.and_false, if_neg (show ¬ (false = true) by decide)] at hp
          cases hp
          exact ⟨rfl, rfl, rfl, f2, .inl ⟨rfl, .inl hm2⟩⟩
      have hnd := goes_nd hI ((i : Int) + 1) hx
      refine ⟨?_, ?_, ?_, h.g, fun m u p hu hp => ?_, fun m p hp hw r hr hmem => ?_, fun m p hp hw => ?_⟩
      · show (_, _) = (_, _)
        rw [srt_is hnd (dO_sorted _ _ _ _) (fun v => (hO v).symm)]
      · show (dT2 _ _ _).length = (B.t.set _ _).length
        rw [dT2_len, zT_len, hT0l, List.length_set, h.tl]
      · show dLs _ _ _ = _
        rw [dLs_all, h.l, List.map_map, List.map_map]
        apply List.map_congr_left
        intro u hu
        show hd1 _ (dlOf u) = dlOf (hoL1 _ u)
        unfold hd1 hoL1 dlOf
        dsimp only
        split <;> rfl
      · obtain ⟨q, q', hq, hq', g1, g2, g3, -, -⟩ := hfin m p hp
        dsimp only at hu
        rw [g1, g2, g3]
        by_cases e : i = m
        · subst e
          rw [List.getElem?_set_self hi] at hu
          cases hu
          rw [hT0] at hq'
          unfold endD at hq'
          rw [List.getElem?_set_self (by rw [h.tl]; exact hi)] at hq'
          cases hq'
          exact ⟨rfl, rfl, rfl⟩
        · rw [List.getElem?_set_ne e] at hu
          obtain ⟨q2, hq2, -, -, f3⟩ := hT0a m q hq
          rw [hq'] at hq2
          cases hq2
          rw [f3 (fun e' => e e'.symm)]
          exact h.en m u q hu hq
      · obtain ⟨q, q', hq, hq', -, -, -, -, hc⟩ := hfin m p hp
        obtain ⟨a, ha⟩ := List.mem_iff_getElem?.1 hr
        obtain ⟨r0, hr0, hsub⟩ := rows_end ((i : Int) + 1) hx rfl B.g a r ha
        have hm0 := hsub.subset hmem
        have hq0 : q.w ≠ 0 := fun e => h.w0 m q hq e r0 (List.mem_of_getElem? hr0) hm0
        rcases hc with ⟨-, hc | hc⟩ | ⟨hc, -⟩
        · rw [List.mem_append] at hc
          rcases hc with hc | hc
          · obtain ⟨b, u, -, hu, hho, hh⟩ := mem_outs.1 hc
            have hub : a = B.t.length + b := hI.nd.inj _ _ _ _ _ hr0 (rows_l hu) hm0 (head_mem hh)
            subst hub
            have hrr : r = u.row.tail := by
              have hl : (⟨B.t.set i ⟨[], true, if er = 0 then wd else 0, er⟩, B.l.map (hoL1 ((i : Int) + 1)), B.g⟩ : Bk).l[b]? = some (hoL1 ((i : Int) + 1) u) := by
                dsimp only
                rw [List.getElem?_map, hu]
                rfl
              have := rows_l hl
              dsimp only at this
              rw [List.length_set, ha] at this
              have e3 := Option.some.inj this
              rw [e3]
              unfold hoL1
              rw [if_pos hho]
              rfl
            have hnu : u.row.Nodup := hI.nd.nd _ _ (rows_l hu)
            rw [hrr] at hmem
            cases hrw : u.row with
            | nil => rw [hrw] at hh; cases hh
            | cons c d =>
              rw [hrw] at hh hnu hmem
              rw [List.nodup_cons] at hnu
              simp at hh hmem
              subst hh
              exact hnu.1 hmem
          · have hub : a = i := hI.nd.inj _ _ _ _ _ hr0 (rows_t hx) hm0 hc
            subst hub
            have hl : (⟨B.t.set a ⟨[], true, if er = 0 then wd else 0, er⟩, B.l.map (hoL1 ((a : Int) + 1)), B.g⟩ : Bk).t[a]? = some ⟨[], true, if er = 0 then wd else 0, er⟩ := by
              dsimp only
              rw [List.getElem?_set_self hi]
            have := rows_t hl
            rw [ha] at this
            have e3 := Option.some.inj this
            rw [e3] at hmem
            cases hmem
        · exact hq0 hc
        · rw [hw] at hc
          exact hq0 hc.symm
      · obtain ⟨q, q', hq, hq', -, -, -, hf, hc⟩ := hfin m p hp
        rcases hc with ⟨hc, -⟩ | ⟨hc, hno⟩
        · exact absurd hc hw
        · rw [hc] at hw
          rw [List.mem_append, not_or] at hno
          rcases h.w1 m q hq hw with ⟨a, j, u, b, hu, c⟩ | ⟨a, j, u, b, hu, c⟩
          · refine .inl ⟨by rw [hc]; exact a, j, u, by rw [hf]; exact b, ?_, c⟩
            dsimp only
            rw [List.getElem?_set_ne (fun e => ?_)]
            · exact hu
            · subst e
              rw [hx] at hu
              cases hu
              exact hno.2 c
          · refine .inr ⟨by rw [hc]; exact a, j, hoL1 ((i : Int) + 1) u, by rw [hf]; exact b, ?_, ?_⟩
            · dsimp only
              rw [List.getElem?_map, hu]
              rfl
            · unfold hoL1
              split
              · rename_i hho
                show _ ∈ u.row.tail
                cases hrw : u.row with
                | nil => rw [hrw] at c; cases c
                | cons v d =>
                  rw [hrw] at c
                  rcases List.mem_cons.1 c with c | c
                  · exact absurd (mem_outs.2 ⟨j, u, (List.getElem?_eq_some_iff.1 hu).1, hu, hho, by rw [hrw, c]; rfl⟩) hno.1
                  · exact c
              · exact c
end
end Go.Proofs.YtdlnkdcgipaoeaaDoor
