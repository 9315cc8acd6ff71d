/- A row of ints that is cut ahead and grows behind. -/
import Derived.Test.YtiglmffnhbegiaaDoorHMSnap
import Derived.Deep.AppendSrc
namespace Go.Proofs.YtiglmffnhbegiaaDoor
open Go.RowKit

theorem run_append_nil0 {P : Program} (w : World) (base : Nat) (t ty e : TypeId) (i : TypeInfo) (size : Nat) (ht : P.underlying t = some (.slice e)) (hi : P.info? e = some i)
    (v : Value) (n c : Nat) (xs : List Value) (hown : w.ownsRow base e size v n xs) :
    (Builtin.append_ #[t, t] ty #[v, .slice none 0 c]).run P w = .ok v w := by
  rcases hown.2 with ⟨rfl, rfl⟩ | ⟨g, cap, cur, rfl, _, _, hnc, _⟩
  · simp [Builtin.append_, run_underlying ht, sizeOf, typeInfo, hi, Builtin.lenOf, Builtin.firstCells]
  · simp [Builtin.append_, run_underlying ht, sizeOf, typeInfo, hi, Builtin.lenOf, Builtin.firstCells, hnc, storeCells]
theorem run_append_zero {P : Program} (w : World) (base : Nat) (t ty e : TypeId) (i : TypeInfo) (size : Nat) (ht : P.underlying t = some (.slice e)) (hi : P.info? e = some i)
    (v : Value) (n c : Nat) (xs : List Value) (hown : w.ownsRow base e size v n xs) (ao : Option Addr) :
    (Builtin.append_ #[t, t] ty #[v, .slice ao 0 c]).run P w = .ok v w := by
  cases ao with
  | none => exact run_append_nil0 w base t ty e i size ht hi v n c xs hown
  | some ad =>
    have hl0 : (loadCellsFrom ad 0 0 #[]).run P w = .ok #[] w := by simp [loadCellsFrom, Sem.run_pure]
    rcases hown.2 with ⟨rfl, rfl⟩ | ⟨g, cap, cur, rfl, _, _, hnc, _⟩
    · simp [Builtin.append_, run_underlying ht, sizeOf, typeInfo, hi, Builtin.lenOf, Builtin.firstCells, loadCells, hl0, Result.andThen]
    · simp [Builtin.append_, run_underlying ht, sizeOf, typeInfo, hi, Builtin.lenOf, Builtin.firstCells, hnc, storeCells, loadCells, hl0, Result.andThen]
theorem own_slice' {w : World} {base e size n : Nat} {v : Value} {xs : List Value} (h : w.ownsRow base e size v n xs) : ∃ ra cap, v = .slice ra n cap := by
  rcases h.2 with ⟨h', h0⟩ | ⟨g, cap, cur, hv, _⟩
  · subst h0; exact ⟨none, 0, h'⟩
  · exact ⟨_, _, hv⟩
abbrev iL (l : List Int) : List Value := l.map (Value.int .i64)
theorem iL_at {l : List Int} {k : Nat} {u : Value} (h : (iL l)[k]? = some u) : ∃ x, l[k]? = some x ∧ u = .int .i64 x := by
  rw [List.getElem?_map] at h
  cases hx : l[k]? with
  | none => rw [hx] at h; cases h
  | some x => rw [hx] at h; cases h; exact ⟨x, rfl, rfl⟩
def RQ (w : World) (v : Value) (l : List Int) : Prop := (l = [] ∧ v = .slice none 0 0) ∨ ∃ (g off cap : Nat) (cs : Array Value), v = .slice (some ⟨g, off, none⟩) l.length cap ∧ w.heap[g]? = some (.cells cs 3 (0, 0)) ∧ l.length ≤ cap ∧ off + cap ≤ cs.size ∧ ∀ (k : Nat) (u : Value), (iL l)[k]? = some u → cs[off + k]? = some u
theorem RQ.sl {w : World} {v : Value} {l : List Int} (h : RQ w v l) : ∃ ra c, v = .slice ra l.length c := by
  rcases h with ⟨rfl, rfl⟩ | ⟨g, off, cap, cs, rfl, _⟩
  · exact ⟨none, 0, rfl⟩
  · exact ⟨_, _, rfl⟩
theorem RQ.blk {w : World} {v : Value} {l : List Int} (h : RQ w v l) {g : Nat} (hg : v.ownBlock = some g) : ∃ cs, w.heap[g]? = some (.cells cs 3 (0, 0)) := by
  rcases h with ⟨_, rfl⟩ | ⟨g', off, cap, cs, rfl, h1, _⟩
  · cases hg
  · cases hg
    exact ⟨cs, h1⟩
theorem RQ.kept {w w' : World} {v : Value} {l : List Int} (h : RQ w v l) (hk : ∀ g, v.ownBlock = some g → w'.heap[g]? = w.heap[g]?) : RQ w' v l := by
  rcases h with h | ⟨g, off, cap, cs, rfl, h1, h2⟩
  · exact .inl h
  · exact .inr ⟨g, off, cap, cs, rfl, (hk g rfl).trans h1, h2⟩
theorem RQ.of {w : World} {base : Nat} {v : Value} {l : List Int} (h : w.ownsRow base 3 1 v l.length (iL l)) : RQ w v l := by
  rcases h.2 with ⟨h1, h0⟩ | ⟨g, cap, cur, hv, _⟩
  · exact .inl ⟨List.eq_nil_of_length_eq_zero h0, h1⟩
  · subst hv
    obtain ⟨cs, q1, q2, q3, _, _, _, q4⟩ := own_out h
    exact .inr ⟨g, 0, cap, cs, rfl, q1, q3, by omega, fun k u hk => by rw [Nat.zero_add]; exact q4 k u hk⟩
theorem RQ.rx {w : World} {ra : Option Addr} {c : Nat} {l : List Int} (h : RQ w (.slice ra l.length c) l) : RX (Value.int .i64) w ra l := by
  rcases h with ⟨rfl, _⟩ | ⟨g, off, cap, cs, hv, h1, _, _, h2⟩
  · exact ⟨0, 0, .inl rfl, fun j x hx => by simp at hx⟩
  · cases hv
    exact ⟨g, off, .inr rfl, fun j x hx => ⟨heap_lt h1, heap_cell h1 (h2 j _ (by rw [List.getElem?_map, hx]; rfl))⟩⟩
/-- The first is cut off. -/
theorem RQ.tail {w : World} {ra : Option Addr} {c : Nat} {p : Int} {l : List Int} (h : RQ w (.slice ra (l.length + 1) c) (p :: l)) : ∃ g off, ra = some ⟨g, off, none⟩ ∧ l.length + 1 ≤ c ∧ g < w.heap.size ∧ w.cell? ⟨g, off, none⟩ = some (.int .i64 p) ∧ (c ≠ 1 → RQ w (.slice (some ⟨g, off + 1, none⟩) l.length (c - 1)) l) ∧ (c = 1 → RQ w (.slice (some ⟨g, off, none⟩) 0 0) []) := by
  rcases h with ⟨h, _⟩ | ⟨g, off, cap, cs, hv, h1, h2, h3, h4⟩
  · cases h
  · cases hv
    simp only [List.length_cons] at h2
    refine ⟨g, off, rfl, h2, heap_lt h1, heap_cell h1 (h4 0 _ rfl), fun _ => .inr ⟨g, off + 1, c - 1, cs, rfl, h1, by omega, by omega, fun k u hk => ?_⟩, fun _ => .inr ⟨g, off, 0, cs, rfl, h1, Nat.le_refl _, by omega, fun k u hk => by simp at hk⟩⟩
    have := h4 (k + 1) u (by simpa using hk)
    rw [show off + 1 + k = off + (k + 1) by omega]
    exact this
set_option maxRecDepth 100000 in
/-- A list is laid behind. -/
theorem RQ.app {w : World} {v : Value} {l l' : List Int} (h : RQ w v l) (hl : l.length + l'.length ≤ 1000000) {ao : Option Addr} {c : Nat} (hs : RX (Value.int .i64) w ao l') :
    ∃ v' w', (∀ ty, (Builtin.append_ #[26, 26] ty #[v, .slice ao l'.length c]).run Tryd.prog w = .ok v' w') ∧ RQ w' v' (l ++ l') ∧ (∀ g, g < w.heap.size → v.ownBlock ≠ some g → w'.heap[g]? = w.heap[g]?) ∧ Below 0 w w' ∧ (v'.ownBlock = v.ownBlock ∨ v'.ownBlock = some w.heap.size) := by
  obtain ⟨i0, hi0, hz0, hz1, hz2⟩ := info_parts infoI
  obtain ⟨b, o, hao, hcs⟩ := hs
  have hone : ∀ u ∈ iL l', u.oneCell' = true := fun u hu => by
    obtain ⟨x, _, rfl⟩ := List.mem_map.1 hu
    rfl
  have hn : ∀ (j : Nat) (u : Value), (iL l')[j]? = some u → w.cell? ((⟨b, o, none⟩ : Addr).add j) = some u := fun j u hj => by
    obtain ⟨x, hx, rfl⟩ := iL_at hj
    rw [ad_add]
    exact (hcs j x hx).2
  have hll : (iL l').length = l'.length * i0.size := by rw [hz1]; simp
  have happ : iL (l ++ l') = iL l ++ iL l' := by simp
  by_cases hm : l' = []
  · subst hm
    rcases h with ⟨rfl, rfl⟩ | ⟨g, off, cap, cs, rfl, h1, h2, h3, h4⟩
    · refine ⟨_, _, fun ty => run_append_zero (P := Tryd.prog) w 0 26 ty 3 i0 1 Tryd.underlying26 hi0 (.slice none 0 0) 0 c [] ⟨rfl, .inl ⟨rfl, rfl⟩⟩ ao, .inl ⟨rfl, rfl⟩, fun g _ _ => rfl, Below.refl _ _, .inl rfl⟩
    · have hsrc : Src Tryd.prog i0.size 26 (.slice ao ([] : List Int).length c) 0 [] w := by
        cases ao with
        | none => exact Src.ofNil w Tryd.underlying26 c
        | some a => exact Src.ofSlice w Tryd.underlying26 a 0 c [] (by simp) (fun j u hj => by simp at hj) (fun u hu => by cases hu)
      refine ⟨_, _, fun ty => run_append_room_src (P := Tryd.prog) w 26 26 ty 3 i0 Tryd.underlying26 hi0 g off l.length cap _ 0 [] hsrc (by omega) (fun j hj => by simp at hj) (fun j hj => by simp at hj), ?_, fun g _ _ => rfl, Below.refl _ _, .inl rfl⟩
      rw [List.append_nil]
      exact .inr ⟨g, off, cap, cs, rfl, h1, h2, h3, h4⟩
  · have hpos : 0 < l'.length := List.length_pos_iff.2 hm
    have ha : ao = some ⟨b, o, none⟩ := hao.resolve_left (by omega)
    subst ha
    have hnew : ∀ (W : World) (olds : List Value) (cap : Nat), W.heap = w.heap → olds = iL l → l.length + l'.length ≤ cap → RQ (W.alloc (.cells (olds.toArray ++ (iL l').toArray ++ Builtin.zeroCells (Value.int .i64 0).cells (cap - (l.length + l'.length))) 3)) (.slice (some ⟨w.heap.size, 0, none⟩) (l.length + l'.length) cap) (l ++ l') := fun W olds cap hW ho hc => by
      refine .inr ⟨w.heap.size, 0, cap, olds.toArray ++ (iL l').toArray ++ Builtin.zeroCells (Value.int .i64 0).cells (cap - (l.length + l'.length)), by rw [List.length_append], ?_, by simpa using hc, ?_, fun k u hk => ?_⟩
      · have := heap_alloc_new W (.cells (olds.toArray ++ (iL l').toArray ++ Builtin.zeroCells (Value.int .i64 0).cells (cap - (l.length + l'.length))) 3)
        rw [show W.heap.size = w.heap.size by rw [hW]] at this
        exact this
      · have h2 : (Value.int .i64 0).cells.size = 1 := by kernel_rfl
        simp only [Array.size_append, List.size_toArray, size_zeroCells, h2, ho]
        simp
        omega
      · have hlk := (List.getElem?_eq_some_iff.1 hk).1
        rw [happ] at hk hlk
        rw [Nat.zero_add, Array.getElem?_append_left (by simp [ho] at hlk ⊢; omega), ho, ← hk]
        simp
    rcases h with ⟨rfl, rfl⟩ | ⟨g, off, cap, cs, rfl, h1, h2, h3, h4⟩
    · have hr := fun ty => run_append_nil (P := Tryd.prog) w 26 ty 3 i0 _ Tryd.underlying26 hi0 hz0 ⟨b, o, none⟩ l'.length c _ hll hn hpos (by simp at hl; omega) (by rw [hz2]; simp at hl; omega)
      have hge := grownCap_ge w l'.length 0 3
      have e := hnew w.drew [] (grownCap w l'.length 0 3) rfl rfl (by simpa using hge)
      refine ⟨_, _, hr, ?_, fun k hk _ => Below.heap_alloc _ _ _ hk, (Below.refl 0 w).drew.alloc (Nat.zero_le _) _, .inr rfl⟩
      simpa using e
    · by_cases hroom : l.length + l'.length ≤ cap
      · have hc : ∀ j, j < (iL l').length → (w.cell? ⟨g, off + l.length * i0.size + j, none⟩).isSome = true := fun j hj => by
          rw [heap_cell h1 (Array.getElem?_eq_getElem (by simp at hj; rw [hz1]; omega))]; rfl
        have hf : ∀ j, j < (iL l').length → w.frozen? ⟨g, off + l.length * i0.size + j, none⟩ = false := fun j _ => by simp [World.frozen?, h1]
        have hr := fun ty => run_append_room_src (P := Tryd.prog) w 26 26 ty 3 i0 Tryd.underlying26 hi0 g off l.length cap (.slice (some ⟨b, o, none⟩) l'.length c) l'.length _ (Src.ofSlice w Tryd.underlying26 ⟨b, o, none⟩ l'.length c _ hll hn hone) hroom hc hf
        rw [hz1] at hr
        obtain ⟨c2, f1, f2, f3⟩ := setCells_at (iL l') (off + l.length * 1) w cs h1
        refine ⟨_, _, hr, .inr ⟨g, off, cap, c2, by rw [List.length_append], f1, by simpa using hroom, by omega, fun k u hk => ?_⟩, fun k _ hn => setCells_far _ _ _ _ (fun e => hn (by rw [e]; rfl)), setCells_below _ _ _ _ (Below.refl _ _), .inl rfl⟩
        have hlk := (List.getElem?_eq_some_iff.1 hk).1
        rw [happ] at hk hlk
        simp at hlk
        rw [f3 (off + k) (by omega)]
        by_cases e : k < l.length
        · rw [if_neg (by omega)]
          rw [List.getElem?_append_left (by simpa using e)] at hk
          exact h4 k u hk
        · rw [if_pos (by simp; omega)]
          rw [List.getElem?_append_right (by simp; omega)] at hk
          rw [← hk]
          congr 1
          simp
          omega
      · have hold : ∀ (j : Nat) (u : Value), (iL l)[j]? = some u → w.cell? ((⟨g, off, none⟩ : Addr).add j) = some u := fun j u hj => by rw [ad_add]; exact heap_cell h1 (h4 j u hj)
        have hfit : Builtin.nextslicecap (l.length + l'.length) cap * i0.bytes ≤ 281474976710656 := by
          exact growslice_fits (by omega) (by rw [hz2]; omega)
        have hr := fun ty => run_append_grow (P := Tryd.prog) w 26 ty 3 i0 _ Tryd.underlying26 hi0 hz0 ⟨g, off, none⟩ l.length cap (iL l) (by rw [hz1]; simp) hold ⟨b, o, none⟩ l'.length c _ hll hn (by omega) (by omega) hfit
        have hge := grownCap_ge w (l.length + l'.length) cap 3
        refine ⟨_, _, hr, ?_, fun k hk _ => Below.heap_alloc _ _ _ hk, (Below.refl 0 w).drew.alloc (Nat.zero_le _) _, .inr rfl⟩
        have e := hnew w.drew (iL l) (grownCap w (l.length + l'.length) cap 3) rfl rfl hge
        simpa using e
end Go.Proofs.YtiglmffnhbegiaaDoor
