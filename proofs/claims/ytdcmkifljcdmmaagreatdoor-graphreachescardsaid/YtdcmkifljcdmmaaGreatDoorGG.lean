/- A cell's lesser word first; who is ahead.; Who is ahead of whom: plain mathematics. -/
import Derived.Test.YtdcmkifljcdmmaaGreatDoorHGWalk
/- A cell's lesser word first; who is ahead. -/
namespace Go.Proofs.YtdcmkifljcdmmaaGreatDoor
open Go.RowKit

set_option maxRecDepth 100000 in
set_option maxHeartbeats 4000000 in
theorem least_lt (x : Cl) (w : World) (hle : x.a < x.b) :
    Calls Tryz.prog 76 #[cellV4 x] w fun e w' => e = .returned (.agg #[.int .u64 x.a, .int .u64 x.b]) ∧ Below w.heap.size w w' := by
  have hal : Below w.heap.size w ((w.alloc (KO x)).alloc Z2) := ((Below.refl _ w).alloc (Nat.le_refl _) _).alloc (by simp) _
  have hz : ((w.alloc (KO x)).alloc Z2).heap[w.heap.size + 1]? = some Z2 := by
    have := heap_alloc_new (w.alloc (KO x)) Z2
    rwa [World.size_alloc] at this
  have hb0 : ((w.alloc (KO x)).alloc Z2).heap[w.heap.size]? = some (KO x) := (Below.heap_alloc _ _ _ (by simp)).trans (heap_alloc_new _ _)
  have x0 := two_cells hz (.int .u64 x.a) (.int .u64 x.b) 0
  have x1 := two_cells hz (.int .u64 x.a) (.int .u64 x.b) 1
  have HX : Hid ((((((w.alloc (KO x)).alloc Z2).setCell ⟨w.heap.size + 1, 0, none⟩ (.int .u64 x.a)).setCell ⟨w.heap.size + 1, 1, none⟩ (.int .u64 x.b)).cell? ⟨w.heap.size + 1, 0, none⟩ = some (.int .u64 x.a)) ∧ (((((w.alloc (KO x)).alloc Z2).setCell ⟨w.heap.size + 1, 0, none⟩ (.int .u64 x.a)).setCell ⟨w.heap.size + 1, 1, none⟩ (.int .u64 x.b)).cell? ⟨w.heap.size + 1, 1, none⟩ = some (.int .u64 x.b))) := ⟨x0, x1⟩
  have HB : Hid (Below w.heap.size w ((((w.alloc (KO x)).alloc Z2).setCell ⟨w.heap.size + 1, 0, none⟩ (.int .u64 x.a)).setCell ⟨w.heap.size + 1, 1, none⟩ (.int .u64 x.b))) := (hal.setCell (p := ⟨w.heap.size + 1, 0, none⟩) (Nat.le_succ _) _).setCell (p := ⟨w.heap.size + 1, 1, none⟩) (Nat.le_succ _) _
  have a2 : ((w.alloc (KO x)).alloc Z2).cell? ⟨w.heap.size, 2, none⟩ = some (.int .u64 x.a) := heap_cell hb0 rfl
  have a3 : ((w.alloc (KO x)).alloc Z2).cell? ⟨w.heap.size, 3, none⟩ = some (.int .u64 x.b) := heap_cell hb0 rfl
  have z0 : ((w.alloc (KO x)).alloc Z2).cell? ⟨w.heap.size + 1, 0, none⟩ = some (.int .u64 0) := heap_cell hz rfl
  have z1 : ((w.alloc (KO x)).alloc Z2).cell? ⟨w.heap.size + 1, 1, none⟩ = some (.int .u64 0) := heap_cell hz rfl
  have f0 : ((w.alloc (KO x)).alloc Z2).frozen? ⟨w.heap.size + 1, 0, none⟩ = false := fz_of hz 0
  have f1 : ((w.alloc (KO x)).alloc Z2).frozen? ⟨w.heap.size + 1, 1, none⟩ = false := fz_of hz 1
  have hs : w.heap.size + 1 < ((w.alloc (KO x)).alloc Z2).heap.size := heap_lt hz
  clear hal hz hb0 x0 x1
  unfold cellV4
  go_enter Tryz.func76, Tryz.ntmps76
  go_upto_region 1 with fail
  generalize (w.alloc (KO x)).alloc Z2 = W at *
  go_wp2
  obtain ⟨x0, x1⟩ := HX.out
  generalize (W.setCell ⟨w.heap.size + 1, 0, none⟩ (.int .u64 x.a)).setCell ⟨w.heap.size + 1, 1, none⟩ (.int .u64 x.b) = wE at *
  exact bodyPost_ret (v := .agg #[.int .u64 x.a, .int .u64 x.b]) (by simp [results, Tryz.results76, go_sem, x0, x1]) rfl ⟨rfl, HB.out⟩
set_option maxRecDepth 100000 in
set_option maxHeartbeats 4000000 in
theorem least_gt (x : Cl) (w : World) (hle : x.b < x.a) :
    Calls Tryz.prog 76 #[cellV4 x] w fun e w' => e = .returned (.agg #[.int .u64 x.b, .int .u64 x.a]) ∧ Below w.heap.size w w' := by
  have hal : Below w.heap.size w ((w.alloc (KO x)).alloc Z2) := ((Below.refl _ w).alloc (Nat.le_refl _) _).alloc (by simp) _
  have hz : ((w.alloc (KO x)).alloc Z2).heap[w.heap.size + 1]? = some Z2 := by
    have := heap_alloc_new (w.alloc (KO x)) Z2
    rwa [World.size_alloc] at this
  have hb0 : ((w.alloc (KO x)).alloc Z2).heap[w.heap.size]? = some (KO x) := (Below.heap_alloc _ _ _ (by simp)).trans (heap_alloc_new _ _)
  have x0 := two_cells hz (.int .u64 x.b) (.int .u64 x.a) 0
  have x1 := two_cells hz (.int .u64 x.b) (.int .u64 x.a) 1
  have HX : Hid ((((((w.alloc (KO x)).alloc Z2).setCell ⟨w.heap.size + 1, 0, none⟩ (.int .u64 x.b)).setCell ⟨w.heap.size + 1, 1, none⟩ (.int .u64 x.a)).cell? ⟨w.heap.size + 1, 0, none⟩ = some (.int .u64 x.b)) ∧ (((((w.alloc (KO x)).alloc Z2).setCell ⟨w.heap.size + 1, 0, none⟩ (.int .u64 x.b)).setCell ⟨w.heap.size + 1, 1, none⟩ (.int .u64 x.a)).cell? ⟨w.heap.size + 1, 1, none⟩ = some (.int .u64 x.a))) := ⟨x0, x1⟩
  have HB : Hid (Below w.heap.size w ((((w.alloc (KO x)).alloc Z2).setCell ⟨w.heap.size + 1, 0, none⟩ (.int .u64 x.b)).setCell ⟨w.heap.size + 1, 1, none⟩ (.int .u64 x.a))) := (hal.setCell (p := ⟨w.heap.size + 1, 0, none⟩) (Nat.le_succ _) _).setCell (p := ⟨w.heap.size + 1, 1, none⟩) (Nat.le_succ _) _
  have a2 : ((w.alloc (KO x)).alloc Z2).cell? ⟨w.heap.size, 2, none⟩ = some (.int .u64 x.a) := heap_cell hb0 rfl
  have a3 : ((w.alloc (KO x)).alloc Z2).cell? ⟨w.heap.size, 3, none⟩ = some (.int .u64 x.b) := heap_cell hb0 rfl
  have z0 : ((w.alloc (KO x)).alloc Z2).cell? ⟨w.heap.size + 1, 0, none⟩ = some (.int .u64 0) := heap_cell hz rfl
  have z1 : ((w.alloc (KO x)).alloc Z2).cell? ⟨w.heap.size + 1, 1, none⟩ = some (.int .u64 0) := heap_cell hz rfl
  have f0 : ((w.alloc (KO x)).alloc Z2).frozen? ⟨w.heap.size + 1, 0, none⟩ = false := fz_of hz 0
  have f1 : ((w.alloc (KO x)).alloc Z2).frozen? ⟨w.heap.size + 1, 1, none⟩ = false := fz_of hz 1
  have hs : w.heap.size + 1 < ((w.alloc (KO x)).alloc Z2).heap.size := heap_lt hz
  clear hal hz hb0 x0 x1
  unfold cellV4
  go_enter Tryz.func76, Tryz.ntmps76
  go_upto_region 1 with fail
  generalize (w.alloc (KO x)).alloc Z2 = W at *
  go_wp2
  obtain ⟨x0, x1⟩ := HX.out
  generalize (W.setCell ⟨w.heap.size + 1, 0, none⟩ (.int .u64 x.b)).setCell ⟨w.heap.size + 1, 1, none⟩ (.int .u64 x.a) = wE at *
  exact bodyPost_ret (v := .agg #[.int .u64 x.b, .int .u64 x.a]) (by simp [results, Tryz.results76, go_sem, x0, x1]) rfl ⟨rfl, HB.out⟩
set_option maxRecDepth 100000 in
set_option maxHeartbeats 4000000 in
theorem least_eq (x : Cl) (w : World) (hle : x.a = x.b) :
    Calls Tryz.prog 76 #[cellV4 x] w fun e w' => e = .returned (.agg #[.int .u64 x.a, .int .u64 x.a]) ∧ Below w.heap.size w w' := by
  have hal : Below w.heap.size w ((w.alloc (KO x)).alloc Z2) := ((Below.refl _ w).alloc (Nat.le_refl _) _).alloc (by simp) _
  have hz : ((w.alloc (KO x)).alloc Z2).heap[w.heap.size + 1]? = some Z2 := by
    have := heap_alloc_new (w.alloc (KO x)) Z2
    rwa [World.size_alloc] at this
  have hb0 : ((w.alloc (KO x)).alloc Z2).heap[w.heap.size]? = some (KO x) := (Below.heap_alloc _ _ _ (by simp)).trans (heap_alloc_new _ _)
  have x0 := two_cells hz (.int .u64 x.a) (.int .u64 x.a) 0
  have x1 := two_cells hz (.int .u64 x.a) (.int .u64 x.a) 1
  have HX : Hid ((((((w.alloc (KO x)).alloc Z2).setCell ⟨w.heap.size + 1, 0, none⟩ (.int .u64 x.a)).setCell ⟨w.heap.size + 1, 1, none⟩ (.int .u64 x.a)).cell? ⟨w.heap.size + 1, 0, none⟩ = some (.int .u64 x.a)) ∧ (((((w.alloc (KO x)).alloc Z2).setCell ⟨w.heap.size + 1, 0, none⟩ (.int .u64 x.a)).setCell ⟨w.heap.size + 1, 1, none⟩ (.int .u64 x.a)).cell? ⟨w.heap.size + 1, 1, none⟩ = some (.int .u64 x.a))) := ⟨x0, x1⟩
  have HB : Hid (Below w.heap.size w ((((w.alloc (KO x)).alloc Z2).setCell ⟨w.heap.size + 1, 0, none⟩ (.int .u64 x.a)).setCell ⟨w.heap.size + 1, 1, none⟩ (.int .u64 x.a))) := (hal.setCell (p := ⟨w.heap.size + 1, 0, none⟩) (Nat.le_succ _) _).setCell (p := ⟨w.heap.size + 1, 1, none⟩) (Nat.le_succ _) _
  have a2 : ((w.alloc (KO x)).alloc Z2).cell? ⟨w.heap.size, 2, none⟩ = some (.int .u64 x.a) := heap_cell hb0 rfl
  have a3 : ((w.alloc (KO x)).alloc Z2).cell? ⟨w.heap.size, 3, none⟩ = some (.int .u64 x.b) := heap_cell hb0 rfl
  have z0 : ((w.alloc (KO x)).alloc Z2).cell? ⟨w.heap.size + 1, 0, none⟩ = some (.int .u64 0) := heap_cell hz rfl
  have z1 : ((w.alloc (KO x)).alloc Z2).cell? ⟨w.heap.size + 1, 1, none⟩ = some (.int .u64 0) := heap_cell hz rfl
  have f0 : ((w.alloc (KO x)).alloc Z2).frozen? ⟨w.heap.size + 1, 0, none⟩ = false := fz_of hz 0
  have f1 : ((w.alloc (KO x)).alloc Z2).frozen? ⟨w.heap.size + 1, 1, none⟩ = false := fz_of hz 1
  have hs : w.heap.size + 1 < ((w.alloc (KO x)).alloc Z2).heap.size := heap_lt hz
  clear hal hz hb0 x0 x1
  have h1 : ¬ x.b < x.a := by omega
  have h2 : x.b ≤ x.a := by omega
  have h3 : ¬ x.a < x.b := by omega
  have h4 : x.a ≤ x.b := by omega
  clear hle
  unfold cellV4
  go_enter Tryz.func76, Tryz.ntmps76
  go_upto_region 1 with fail
  generalize (w.alloc (KO x)).alloc Z2 = W at *
  go_wp2
  obtain ⟨x0, x1⟩ := HX.out
  generalize (W.setCell ⟨w.heap.size + 1, 0, none⟩ (.int .u64 x.a)).setCell ⟨w.heap.size + 1, 1, none⟩ (.int .u64 x.a) = wE at *
  exact bodyPost_ret (v := .agg #[.int .u64 x.a, .int .u64 x.a]) (by simp [results, Tryz.results76, go_sem, x0, x1]) rfl ⟨rfl, HB.out⟩
theorem leastFirst_any (x : Cl) (w : World) :
    Calls Tryz.prog 76 #[cellV4 x] w fun e w' => e = .returned (.agg #[.int .u64 (min x.a x.b), .int .u64 (max x.a x.b)]) ∧ Below w.heap.size w w' := by
  rcases Int.lt_trichotomy x.a x.b with h | h | h
  · rw [Int.min_eq_left (Int.le_of_lt h), Int.max_eq_right (Int.le_of_lt h)]; exact least_lt x w h
  · have := least_eq x w h
    rw [← h, Int.min_self, Int.max_self]; exact this
  · rw [Int.min_eq_right (Int.le_of_lt h), Int.max_eq_left (Int.le_of_lt h)]; exact least_gt x w h
theorem leastFirst_ok : OwnOk true 76 := ⟨fun args w => by go_simp, fun x w => leastFirst_any x w⟩
/-- Who is ahead of a cell: -1 nobody, -2 it is not met. -/
def aheadM (r : St) (k : Nat) : Int := r.foldl (fun a p => if p.1 = k then p.2 else a) (-2)
theorem ahead_snoc (r : St) (c k : Nat) (q : Int) : aheadM (r ++ [(c, q)]) k = if c = k then q else aheadM r k := by
  unfold aheadM
  rw [List.foldl_append]; rfl
def IA (n vb g : Nat) (r : St) (w : World) (A : Nat → Prop) : Prop :=
  w.heap[vb]? = some (.cells #[.slice (some ⟨g, 0, none⟩) n n] 59 (0, 0)) ∧ DR w 3 g n (fun k u => u = .int .i64 (aheadM r k)) ∧ ¬ A vb ∧ ¬ A g ∧ vb ≠ g
set_option maxRecDepth 100000 in
set_option maxHeartbeats 4000000 in
theorem ahead1_any {n vb g : Nat} (r : St) (c : Nat) (q : Int) (w : World) (A : Nat → Prop) (hI : IA n vb g r w A) (hc : c < n) :
    Calls Tryz.prog 77 #[.int .i64 c, .int .i64 q, .pointer (some ⟨vb, 0, none⟩)] w fun e w' => e = .returned (.tuple #[]) ∧ IA n vb g (r ++ [(c, q)]) w' A ∧ Fr A w w' := by
  obtain ⟨h1, h2, h3, h4, h5⟩ := hI
  have v0 : w.cell? ⟨vb, 0, none⟩ = some (.slice (some ⟨g, 0, none⟩) n n) := heap_cell h1 rfl
  have lv := heap_lt h1
  have lg := h2.lt
  obtain ⟨u, hu, _⟩ := h2.cell hc
  have hfz := h2.fz c
  have i1 : (c : Int) < (n : Int) := by omega
  have HE : Hid (IA n vb g (r ++ [(c, q)]) (w.setCell ⟨g, c, none⟩ (.int .i64 q)) A ∧ Fr A w (w.setCell ⟨g, c, none⟩ (.int .i64 q))) := by
    refine ⟨⟨(Below.heap_setCell _ _ _ _ h5).trans h1, h2.set (fun k u hk hh => ?_) ?_, h3, h4, h5⟩, (Below.refl 0 w).setCell (p := ⟨g, c, none⟩) (Nat.zero_le _) _, fun k hk _ => Below.heap_setCell _ _ _ _ (fun e => h4 (by have e2 : k = g := e; rw [← e2]; exact hk))⟩
    · rw [hh, ahead_snoc, if_neg (fun e => hk e.symm)]
    · rw [ahead_snoc, if_pos rfl]
  clear h1 h2 h3 h4 h5 hc
  go_enter Tryz.func77, Tryz.ntmps77
  go_wp2
  go_end0
  exact ⟨rfl, HE.out.1, HE.out.2⟩
theorem ahead_ok (n vb g : Nat) : MeetOk n 77 vb (IA n vb g) where
  enter := fun args w => by go_simp
  call := fun r c q w A hI hc _ _ => ahead1_any r c q w A hI hc
  stab := fun r w w' A A' ⟨h1, h2, h3, h4, h5⟩ hs hk hA _ => by
    have lv := heap_lt h1
    have lg := h2.lt
    exact ⟨(hk _ lv h3).trans h1, h2.kept (hk _ lg h4), fun h => by rcases hA _ h with h | h; exact h3 h; omega, fun h => by rcases hA _ h with h | h; exact h4 h; omega, h5⟩
end Go.Proofs.YtdcmkifljcdmmaaGreatDoor

/- Who is ahead of whom: plain mathematics. -/
namespace Go.Proofs.YtdcmkifljcdmmaaGreatDoor

theorem snoc_ind {α : Type} {P : List α → Prop} (h0 : P []) (h1 : ∀ l x, P l → P (l ++ [x])) (l : List α) : P l := by
  have h : ∀ m : List α, P m.reverse := fun m => by
    induction m with
    | nil => exact h0
    | cons x m ih => rw [List.reverse_cons]; exact h1 _ _ ih
  have := h l.reverse
  rwa [List.reverse_reverse] at this
theorem ahead_not {c : Nat} : ∀ (r : St) , (∀ q, (c, q) ∉ r) → aheadM r c = -2 := by
  refine snoc_ind (fun _ => rfl) (fun l p ih => ?_)
  · intro h
    obtain ⟨d, q⟩ := p
    rw [ahead_snoc, if_neg (fun e => h q (by rw [← e]; simp))]
    exact ih (fun q' hq => h q' (List.mem_append_left _ hq))
theorem ahead_in {n c : Nat} {q : Int} : ∀ (r : St), OkS n r → (c, q) ∈ r → aheadM r c = q := by
  refine snoc_ind (fun _ h => by cases h) (fun l p ih => ?_)
  · intro hok h
    obtain ⟨d, q'⟩ := p
    have hnd := hok.nd
    rw [List.map_append, List.nodup_append] at hnd
    rw [ahead_snoc]
    rcases List.mem_append.1 h with h | h
    · have : d ≠ c := fun e => hnd.2.2 c (List.mem_map_of_mem (f := (·.1)) h) d (by simp) e.symm
      rw [if_neg this]
      exact ih ⟨hnd.1, fun p hp => hok.lt p (List.mem_append_left _ hp)⟩ h
    · have e : (c, q) = (d, q') := by simpa using h
      cases e
      rw [if_pos rfl]
/-- Each cell that is met was named by a root or by one that was met ahead of it. -/
def Good (r : St) : Prop := ∀ (i : Nat) (c : Nat) (q : Int), r[i]? = some (c, q) → q = -1 ∨ ∃ (j d : Nat) (q' : Int), j < i ∧ r[j]? = some (d, q') ∧ q = d
theorem Good.nil : Good [] := fun i c q h => by simp at h
theorem Good.look {r : St} {x q : Int} (h : Good r) (hq : q = -1 ∨ ∃ (j d : Nat) (q' : Int), r[j]? = some (d, q') ∧ q = d) : Good (lookM r x q) := by
  unfold lookM
  split
  · exact h
  · split
    · exact h
    · rename_i c _ _
      intro i c' q' hi
      by_cases hl : i < r.length
      · rw [List.getElem?_append_left hl] at hi
        rcases h i c' q' hi with h1 | ⟨j, d, q2, hj, hr, he⟩
        · exact .inl h1
        · exact .inr ⟨j, d, q2, hj, by rw [List.getElem?_append_left (by omega)]; exact hr, he⟩
      · rw [List.getElem?_append_right (by omega)] at hi
        have h0 : i - r.length = 0 := by
          have := (List.getElem?_eq_some_iff.1 hi).1
          simp at this; omega
        rw [h0] at hi
        have e : (c, q) = (c', q') := by simpa using hi
        cases e
        rcases hq with h1 | ⟨j, d, q2, hr, he⟩
        · exact .inl h1
        · have hj := (List.getElem?_eq_some_iff.1 hr).1
          exact .inr ⟨j, d, q2, by omega, by rw [List.getElem?_append_left hj]; exact hr, he⟩
theorem Good.roots : ∀ (l : List Int) {r : St}, Good r → Good (rootsM l r)
  | [], _, h => h
  | x :: l, r, h => by
    show Good (rootsM l (lookM r x (-1)))
    exact Good.roots l (h.look (.inl rfl))
theorem look_at {r : St} {x q : Int} {a : Nat} {p : Nat × Int} (h : r[a]? = some p) : (lookM r x q)[a]? = some p := by
  unfold lookM
  split
  · exact h
  · split
    · exact h
    · rw [List.getElem?_append_left (List.getElem?_eq_some_iff.1 h).1]; exact h
theorem Good.go {h : List Cl} {s : Bool} : ∀ (f a : Nat) {r : St}, Good r → Good (goM h s f a r)
  | 0, _, _, hr => hr
  | f + 1, a, r, hr => by
    unfold goM
    split
    · exact hr
    · rename_i p hp
      split
      · exact hr
      · rename_i x hx
        refine Good.go f (a + 1) ?_
        split
        · exact hr
        · obtain ⟨d, q⟩ := p
          refine (hr.look (.inr ⟨a, d, q, hp, rfl⟩)).look (.inr ⟨a, d, q, look_at hp, rfl⟩)
theorem walk_good (h : List Cl) (s : Bool) (l : List Int) : Good (walkM h s l) := Good.go _ _ (Good.roots l Good.nil)
/-- The cells from one on, each with the one ahead of it. -/
def chain (r : St) : Nat → Int → List Int
  | 0, _ => []
  | f + 1, c => if c = -1 then [] else c :: chain r f (aheadM r c.toNat)
theorem chain_more {n : Nat} {r : St} (hg : Good r) (hok : OkS n r) : ∀ (f i c : Nat) (q : Int), r[i]? = some (c, q) → i < f → chain r f c = chain r (i + 1) c
  | 0, _, _, _, _, h => by omega
  | f + 1, i, c, q, hi, hf => by
    have e : ∀ k, chain r (k + 1) (c : Int) = (c : Int) :: chain r k (aheadM r c) := fun k => by
      show (if (c : Int) = -1 then _ else _) = _
      rw [if_neg (by omega)]; rfl
    rw [e, e, ahead_in r hok (List.mem_of_getElem? hi)]
    rcases hg i c q hi with rfl | ⟨j, d, q', hj, hr, rfl⟩
    · cases f <;> cases i <;> rfl
    · rw [chain_more hg hok f j d q' hr (by omega), chain_more hg hok i j d q' hr hj]
end Go.Proofs.YtdcmkifljcdmmaaGreatDoor
