/- A heap that is lent: laid once more, with two cells behind.; The document's Order: mathematics; append of whatever comes.; What is met is closed; where nothing is grey: mathematics. -/
import Derived.Test.YtomdbcddokaagaaDoorGH
import Derived.Test.YtomdbcddokaagaaDoorHBKnown
import Derived.OwnWalk
/- A heap that is lent: laid once more, with two cells behind. -/
namespace Go.Proofs.YtomdbcddokaagaaDoor
open Go.RowKit

theorem run_append_nil0 {P : Program} (w : World) (base : Nat) (t ty e : TypeId) (i : TypeInfo) (size : Nat) (ht : P.underlying t = some (.slice e)) (hi : P.info? e = some i)
    (v : Value) (n c : Nat) (xs : List Value) (hown : w.ownsRow base e size v n xs) :
    (Builtin.append_ #[t, t] ty #[v, .slice none 0 c]).run P w = .ok v w := by
  rcases hown.2 with ⟨rfl, rfl⟩ | ⟨g, cap, cur, rfl, _, _, hnc, _⟩
  · simp [Builtin.append_, run_underlying ht, sizeOf, typeInfo, hi, Builtin.lenOf, Builtin.firstCells]
  · simp [Builtin.append_, run_underlying ht, sizeOf, typeInfo, hi, Builtin.lenOf, Builtin.firstCells, hnc, storeCells]
/-- append within the capacity, whatever is appended. -/
theorem wpList_append_room0 {P : Program} (w : World) {ops : Array Oper} {rest : List Oper} {o : Oper} {a : Act} {Q : Exit → Act → World → Prop}
    (hg : o.guard = none) (s x : Operand) (t : TypeId) (hop : o.op = Op.call { callee := Callee.builtin Builtin.append, args := #[s, x], argTypes := #[t, t] })
    (base : Nat) (e : TypeId) (i : TypeInfo) (size : Nat) (h1 : P.underlying t = some (.slice e)) (h2 : P.info? e = some i) (h4 : i.size = size)
    (g k cap : Nat) (xs : List Value) (hs : a.eval s = .slice (some ⟨g, 0, none⟩) k cap) (hown : w.ownsRow base e size (.slice (some ⟨g, 0, none⟩) k cap) k xs) (ao : Option Addr) (m c : Nat) (news : List Value) (hx : a.eval x = .slice ao m c) (hn : news.length = m * size)
    (hnone : ao = none → m = 0) (hc : ∀ ad, ao = some ad → ∀ j u, news[j]? = some u → w.cell? (ad.add j) = some u) (h1c : ∀ u ∈ news, u.oneCell' = true) (b1 : k + m ≤ cap)
    (hK : ∀ w', w'.ownsRow base e size (.slice (some ⟨g, 0, none⟩) (k + m) cap) (k + m) (xs ++ news) → w.grownBy w' (some g) → wpList P ops Q rest (a.put o.dst (.slice (some ⟨g, 0, none⟩) (k + m) cap)) w') :
    wpList P ops Q (o :: rest) a w := by
  cases ao with
  | some ad => exact wpList_append_fits w hg s x t hop base e i size h1 h2 h4 g k cap xs hs hown ad m c news hx hn (hc ad rfl) h1c b1 hK
  | none =>
    obtain rfl := hnone rfl
    have hnews : news = [] := List.eq_nil_of_length_eq_zero (by simpa using hn)
    subst hnews
    refine wpList_plain hg fun K hK' => ?_
    have hrun := run_append_nil0 (P := P) w base t o.type e i size h1 h2 _ k c xs hown
    unfold Oper.wp
    simp [execOp, hop, resolve, invoke, builtin, hs, hx, hrun, Result.andThen]
    exact hK' _ _ (by simpa using hK w (by simpa using hown) (World.grownBy.refl _ _))

theorem grown_below {w w' : World} {row B : Nat} (h : w.grownBy w' (some row)) (hB : B ≤ row) (hs : B ≤ w.heap.size) : Below B w w' := (Below.refl B w).grown h hs (fun k hk => by cases hk; exact hB)
/-- A lent list. -/
def LentR (T sz n : Nat) (cells : List Value) (B : Nat) (e : Ending) (w' : World) : Prop := ∃ g, e = .returned (.slice (some ⟨g, 0, none⟩) n (n + 2)) ∧ w'.ownsRow B T sz (.slice (some ⟨g, 0, none⟩) (n + 2) (n + 2)) (n + 2) cells
theorem infoCl : (Tryd.prog.info? 59).map (fun i => (i.zero, i.size, i.bytes)) = some (some (.agg #[.int .u8 0, .int .u8 0, .int .u64 0, .int .u64 0]), 4, 24) := by kernel_rfl
theorem cl4_len : ∀ l : List Cl, (cl4 l).length = l.length * 4
  | [] => rfl
  | x :: l => by
    have e : cl4 (x :: l) = .int .u8 x.k :: .int .u8 x.c :: .int .u64 x.a :: .int .u64 x.b :: cl4 l := rfl
    rw [e]
    simp [cl4_len l]; omega
theorem cl4_get : ∀ (l : List Cl) (j : Nat) (u : Value), (cl4 l)[j]? = some u → ∃ i x, l[i]? = some x ∧ ((j = i * 4 ∧ u = .int .u8 x.k) ∨ (j = i * 4 + 1 ∧ u = .int .u8 x.c) ∨ (j = i * 4 + 1 + 1 ∧ u = .int .u64 x.a) ∨ (j = i * 4 + 1 + 1 + 1 ∧ u = .int .u64 x.b))
  | [], j, u, h => by simp [cl4] at h
  | x :: l, 0, u, h => ⟨0, x, rfl, .inl ⟨rfl, (Option.some.inj h).symm⟩⟩
  | x :: l, 1, u, h => ⟨0, x, rfl, .inr (.inl ⟨rfl, (Option.some.inj h).symm⟩)⟩
  | x :: l, 2, u, h => ⟨0, x, rfl, .inr (.inr (.inl ⟨rfl, (Option.some.inj h).symm⟩))⟩
  | x :: l, 3, u, h => ⟨0, x, rfl, .inr (.inr (.inr ⟨rfl, (Option.some.inj h).symm⟩))⟩
  | x :: l, j + 4, u, h => by
    obtain ⟨i, y, h1, h2⟩ := cl4_get l j u h
    exact ⟨i + 1, y, by simpa using h1, by
      rcases h2 with ⟨h, h'⟩ | ⟨h, h'⟩ | ⟨h, h'⟩ | ⟨h, h'⟩
      · exact .inl ⟨by omega, h'⟩
      · exact .inr (.inl ⟨by omega, h'⟩)
      · exact .inr (.inr (.inl ⟨by omega, h'⟩))
      · exact .inr (.inr (.inr ⟨by omega, h'⟩))⟩
/-- The two behind. -/
def mkC : List Value := [.int .u8 0, .int .u8 0, .int .u64 77777771, .int .u64 0, .int .u8 0, .int .u8 0, .int .u64 77777772, .int .u64 0]
set_option maxRecDepth 100000 in
set_option maxHeartbeats 4000000 in
theorem lentK_any (l : List Cl) (ra : Option Addr) (ca : Nat) (w : World) (hR : HR w ra l) (hl : l.length ≤ 1000000000) :
    Calls Tryd.prog 25 #[.slice ra l.length ca] w fun e w' => LentR 59 4 l.length (cl4 l ++ mkC) w.heap.size e w' ∧ Below w.heap.size w w' := by
  obtain ⟨i0, hi0, hz0, hz1, hz2⟩ := info_parts infoCl
  obtain ⟨b, o, h1', h2⟩ := hR
  have h1 : l.length ≠ 0 → ra = some ⟨b, o, none⟩ := fun q => h1'.resolve_left q
  have HN : Hid (ra = none → l.length = 0) := fun h => by
    rcases Nat.eq_zero_or_pos l.length with h0 | h0
    · exact h0
    · rw [h1 (by omega)] at h; cases h
  have HC : Hid (∀ w5 : World, Below w.heap.size w w5 → ∀ ad, ra = some ad → ∀ j u, (cl4 l)[j]? = some u → w5.cell? (ad.add j) = some u) := fun w5 h5 ad had j u hu => by
    obtain ⟨i, x, hx, hu'⟩ := cl4_get _ _ _ hu
    obtain ⟨g1, ⟨g2, g3, g4, g5⟩, _⟩ := h2 i x hx
    have := h1 (by have := (List.getElem?_eq_some_iff.1 hx).1; omega)
    rw [this] at had
    cases had
    rw [ad_add]
    rcases hu' with ⟨rfl, rfl⟩ | ⟨rfl, rfl⟩ | ⟨rfl, rfl⟩ | ⟨rfl, rfl⟩
    · exact (h5.cell (p := ⟨b, o + i * 4, none⟩) g1).trans g2
    · exact (h5.cell (p := ⟨b, o + i * 4 + 1, none⟩) g1).trans g3
    · exact (h5.cell (p := ⟨b, o + i * 4 + 1 + 1, none⟩) g1).trans g4
    · exact (h5.cell (p := ⟨b, o + i * 4 + 1 + 1 + 1, none⟩) g1).trans g5
  have HU : Hid (∀ u ∈ cl4 l, u.oneCell' = true) := fun u hu => by
    obtain ⟨j, hj⟩ := List.getElem?_of_mem hu
    obtain ⟨i, x, _, ⟨_, rfl⟩ | ⟨_, rfl⟩ | ⟨_, rfl⟩ | ⟨_, rfl⟩⟩ := cl4_get _ _ _ hj <;> rfl
  have HLn : Hid ((cl4 l).length = l.length * 4) := by show _ = _; exact cl4_len l
  clear h1 h1' h2
  go_enter Tryd.func25, Tryd.ntmps25
  go_wp2_with (first | (at_make; refine wpList_make_own _ rfl _ _ 22 rfl w.heap.size 59 i0 (.agg #[.int .u8 0, .int .u8 0, .int .u64 0, .int .u64 0]) 4 Tryd.underlying22 hi0 hz0 hz1 .i64 .i64 _ (l.length + 2) rfl rfl (by first | rfl | omega) (by rw [hz2]; omega) (by unfold maxLen; omega) (Nat.le_refl _) ?_; intro w0 hown0 hgrow0; have HB0 : Hid (Below w.heap.size w w0) := (Below.refl _ w).grown hgrow0 (Nat.le_refl _) (fun k hk => by cases hk); have HO0 : Hid (w0.ownsRow w.heap.size 59 4 (.slice (some ⟨w.heap.size, 0, none⟩) 0 (l.length + 2)) 0 []) := hown0; clear hown0 hgrow0) | (at_builtin; refine stop_of ?_))
  unfold Hid
  refine wpList_append_room0 _ rfl _ _ 22 rfl w.heap.size 59 i0 4 Tryd.underlying22 hi0 hz1 w.heap.size 0 (l.length + 2) [] rfl HO0.out ra l.length ca (cl4 l) rfl HLn.out HN.out (HC.out w0 HB0.out) HU.out (by omega) ?_
  intro w1 hown1 hgr1
  rw [Nat.zero_add, List.nil_append] at hown1
  have HB1 : Hid (Below w.heap.size w w1) := HB0.out.trans (grown_below hgr1 (Nat.le_refl _) HB0.out.size)
  have HO1 : Hid (w1.ownsRow w.heap.size 59 4 (.slice (some ⟨w.heap.size, 0, none⟩) l.length (l.length + 2)) l.length (cl4 l)) := hown1
  clear hown1 hgr1 HO0 HB0
  rw [Nat.zero_add]
  go_wp2_with (at_builtin; refine stop_of ?_)
  unfold Hid
  refine wpList_append_room0 _ rfl _ _ 22 rfl w.heap.size 59 i0 4 Tryd.underlying22 hi0 hz1 w.heap.size l.length (l.length + 2) (cl4 l) rfl (HO1.out.alloc _) (some ⟨w1.heap.size, 0, none⟩) 2 2 mkC rfl rfl (fun h => by cases h) (fun ad had j u hu => ?_) (fun u hu => ?_) (Nat.le_refl _) ?_
  · cases had
    rw [ad_add, Nat.zero_add]
    exact new_cell _ mkC.toArray _ j u hu
  · simp only [mkC, List.mem_cons, List.not_mem_nil, or_false] at hu
    rcases hu with rfl | rfl | rfl | rfl | rfl | rfl | rfl | rfl <;> rfl
  intro w2 hown2 hgr2
  have HB2 : Hid (Below w.heap.size w w2) := HB1.out.trans (((Below.refl _ w1).alloc HB1.out.size _).trans (grown_below hgr2 (Nat.le_refl _) (by rw [World.size_alloc]; have := HB1.out.size; omega)))
  have HO2 : Hid (w2.ownsRow w.heap.size 59 4 (.slice (some ⟨w.heap.size, 0, none⟩) (l.length + 2) (l.length + 2)) (l.length + 2) (cl4 l ++ mkC)) := hown2
  clear hown2 hgr2 HO1 HB1
  go_wp2
  go_ret
  exact ⟨⟨w.heap.size, rfl, HO2.out⟩, HB2.out⟩
end Go.Proofs.YtomdbcddokaagaaDoor

/- The document's Order: mathematics; append of whatever comes. -/
namespace Go.Proofs.YtomdbcddokaagaaDoor
open Go.RowKit

theorem run_append_zero {P : Program} (w : World) (base : Nat) (t ty e : TypeId) (i : TypeInfo) (size : Nat) (ht : P.underlying t = some (.slice e)) (hi : P.info? e = some i)
    (v : Value) (n c : Nat) (xs : List Value) (hown : w.ownsRow base e size v n xs) (ao : Option Addr) :
    (Builtin.append_ #[t, t] ty #[v, .slice ao 0 c]).run P w = .ok v w := by
  cases ao with
  | none => exact run_append_nil0 w base t ty e i size ht hi v n c xs hown
  | some ad =>
    have hl0 : (loadCellsFrom ad 0 0 #[]).run P w = .ok #[] w := by simp [loadCellsFrom, Sem.run_pure]
    rcases hown.2 with ⟨rfl, rfl⟩ | ⟨g, cap, cur, rfl, _, _, hnc, _⟩
    · simp [Builtin.append_, run_underlying ht, sizeOf, typeInfo, hi, Builtin.lenOf, Builtin.firstCells, loadCells, hl0, Result.andThen]
    · simp [Builtin.append_, run_underlying ht, sizeOf, typeInfo, hi, Builtin.lenOf, Builtin.firstCells, hnc, storeCells, loadCells, hl0, Result.andThen]
theorem own_slice' {w : World} {base e size n : Nat} {v : Value} {xs : List Value} (h : w.ownsRow base e size v n xs) : ∃ ra cap, v = .slice ra n cap := by
  rcases h.2 with ⟨h', h0⟩ | ⟨g, cap, cur, hv, _⟩
  · subst h0; exact ⟨none, 0, h'⟩
  · exact ⟨_, _, hv⟩
theorem wpList_append_all {P : Program} (w : World) {ops : Array Oper} {rest : List Oper} {o : Oper} {a : Act} {Q : Exit → Act → World → Prop} (hgd : o.guard = none) (s x : Operand) (t : TypeId)
    (ho : o.op = .call { callee := .builtin .append, args := #[s, x], argTypes := #[t, t] })
    (base : Nat) (e : TypeId) (i : TypeInfo) (z : Value) (size bytes : Nat) (ht : P.underlying t = some (.slice e)) (hi : P.info? e = some i) (hz : i.zero = some z)
    (hsize : i.size = size) (hby : i.bytes = bytes) (hzs : z.cells.size = size) (hsz : 0 < size)
    (v : Value) (n : Nat) (xs : List Value) (hs : a.eval s = v) (hown : w.ownsRow base e size v n xs)
    (ao : Option Addr) (m c : Nat) (news : List Value) (hx : a.eval x = .slice ao m c) (hl : news.length = m * size) (hnone : ao = none → m = 0) (hnews : ∀ ad, ao = some ad → ∀ j u, news[j]? = some u → w.cell? (ad.add j) = some u) (h1 : ∀ u ∈ news, u.oneCell' = true)
    (h63 : n + m ≤ maxLen) (hbytes : (n + m) * bytes ≤ 140737488355328) (hbase : base ≤ w.heap.size)
    (h : ∀ ra cap w', w'.ownsRow base e size (.slice ra (n + m) cap) (n + m) (xs ++ news) → w.grownBy w' v.ownBlock → (∀ g, (Value.slice ra (n + m) cap).ownBlock = some g → v.ownBlock = some g ∨ w.heap.size ≤ g) → wpList P ops Q rest (a.put o.dst (.slice ra (n + m) cap)) w') : wpList P ops Q (o :: rest) a w := by
  by_cases hm : m = 0
  · subst hm
    have hnews0 : news = [] := List.eq_nil_of_length_eq_zero (by simpa using hl)
    subst hnews0
    obtain ⟨ra, cap, rfl⟩ := own_slice' hown
    refine wpList_plain hgd fun K hK' => ?_
    have hrun := run_append_zero (P := P) w base t o.type e i size ht hi _ n c xs hown ao
    unfold Oper.wp
    simp [execOp, ho, resolve, invoke, builtin, hs, hx, hrun, Result.andThen]
    exact hK' _ _ (by simpa using h ra cap w (by simpa using hown) (World.grownBy.refl _ _) (fun g hg => .inl hg))
  · cases ao with
    | none => exact absurd (hnone rfl) hm
    | some ad =>
      refine wpList_append_lies (w := w) hgd s x t ho base e i z size bytes ht hi hz hsize hby hzs hsz v n xs hs hown ad m c news hx hl (hnews ad rfl) h1 (by omega) h63 hbytes hbase _ rfl ?_
      intro g cap w' h2 h3 h4 _
      refine h _ cap w' h2 h3 (fun g' hg' => ?_)
      have : g = g' := by simpa [Value.ownBlock] using hg'
      subst this
      rcases h4 with h4 | h4
      · exact .inl h4
      · exact .inr (by omega)
/-- One word is looked at: what is met, and what is still to be looked at. -/
def ordS (h : List Cl) (out : List Nat) (l : List Int) (w : Int) : List Nat × List Int := match refN w with
  | none => (out, l)
  | some c => if out.contains c then (out, l) else match h[c]? with
    | none => (out, l)
    | some x => (out ++ [c], if x.k = 0 then l else l ++ [x.a, x.b])
def ordM (h : List Cl) : Nat → Nat → List Nat → List Int → List Nat
  | 0, _, out, _ => out
  | f + 1, i, out, l => match l[i]? with
    | none => out
    | some w => ordM h f (i + 1) (ordS h out l w).1 (ordS h out l w).2
def orderM (h : List Cl) (roots : List Int) : List Nat := ordM h (roots.length + 2 * h.length) 0 [] roots
/-- A heap whose words fit. -/
def OkH (h : List Cl) : Prop := ∀ x ∈ h, x.k ≠ 0 → (fitsW h.length x.a = true ∧ Rng x.a) ∧ fitsW h.length x.b = true ∧ Rng x.b
structure OrdOk (h : List Cl) (roots : List Int) (out : List Nat) (l : List Int) : Prop where
  nd : out.Nodup
  lt : ∀ c ∈ out, c < h.length
  len : l.length ≤ roots.length + 2 * out.length
  fit : ∀ w ∈ l, fitsW h.length w = true ∧ Rng w
theorem OrdOk.out_le {h : List Cl} {roots : List Int} {out : List Nat} {l : List Int} (o : OrdOk h roots out l) : out.length ≤ h.length := by
  have h1 : out.length ≤ (List.range h.length).length := List.Nodup.length_le_of_subset o.nd (fun c hc => List.mem_range.2 (o.lt c hc))
  simpa using h1
theorem OrdOk.all {h : List Cl} {roots : List Int} {out : List Nat} {l : List Int} (o : OrdOk h roots out l) : l.length ≤ roots.length + 2 * h.length := by
  have := o.out_le
  have := o.len
  omega
theorem OrdOk.step {h : List Cl} {roots : List Int} {out : List Nat} {l : List Int} (o : OrdOk h roots out l) (hk : OkH h) {c : Nat} {x : Cl} (hx : h[c]? = some x) (hc : out.contains c = false) : OrdOk h roots (out ++ [c]) (if x.k = 0 then l else l ++ [x.a, x.b]) := by
  refine ⟨?_, fun d hd => ?_, ?_, fun w hw => ?_⟩
  · rw [List.nodup_append]
    refine ⟨o.nd, by simp, fun a ha b hb => ?_⟩
    have e : b = c := by simpa using hb
    subst e
    intro e
    subst e
    have : out.contains a = true := by simpa using ha
    rw [hc] at this; cases this
  · rcases List.mem_append.1 hd with hd | hd
    · exact o.lt d hd
    · rw [List.mem_singleton.1 hd]; exact (List.getElem?_eq_some_iff.1 hx).1
  · have := o.len
    rw [List.length_append]
    split
    · simp; omega
    · simp; omega
  · by_cases h0 : x.k = 0
    · rw [if_pos h0] at hw; exact o.fit w hw
    · rw [if_neg h0] at hw
      rcases List.mem_append.1 hw with hw | hw
      · exact o.fit w hw
      · have := hk x (List.mem_of_getElem? hx) h0
        simp only [List.mem_cons, List.not_mem_nil, or_false] at hw
        rcases hw with rfl | rfl
        · exact this.1
        · exact this.2
theorem ordM_step {h : List Cl} {f i : Nat} {out : List Nat} {l : List Int} {w : Int} (hw : l[i]? = some w) : ordM h (f + 1) i out l = ordM h f (i + 1) (ordS h out l w).1 (ordS h out l w).2 := by
  rw [ordM, hw]
theorem ordM_end {h : List Cl} {f i : Nat} {out : List Nat} {l : List Int} (hi : l.length ≤ i) : ordM h f i out l = out := by
  cases f with
  | zero => rfl
  | succ f => rw [ordM, List.getElem?_eq_none hi]
theorem ordS_none {h : List Cl} {out : List Nat} {l : List Int} {w : Int} (hr : refN w = none) : ordS h out l w = (out, l) := by unfold ordS; rw [hr]
theorem ordS_met {h : List Cl} {out : List Nat} {l : List Int} {w : Int} {c : Nat} (hr : refN w = some c) (hc : out.contains c = true) : ordS h out l w = (out, l) := by unfold ordS; rw [hr]; dsimp only; rw [hc]; rfl
theorem ordS_new {h : List Cl} {out : List Nat} {l : List Int} {w : Int} {c : Nat} {x : Cl} (hr : refN w = some c) (hc : out.contains c = false) (hx : h[c]? = some x) : ordS h out l w = (out ++ [c], if x.k = 0 then l else l ++ [x.a, x.b]) := by
  unfold ordS; rw [hr]; dsimp only; rw [hc, hx]; rfl
end Go.Proofs.YtomdbcddokaagaaDoor

/- What is met is closed; where nothing is grey: mathematics. -/
namespace Go.Proofs.YtomdbcddokaagaaDoor
open Go.RowKit

theorem meet_mem {v : Vw} {mf : Cl → Bool} {r : List Nat} {c d : Nat} (h : d ∈ r) : d ∈ meetM v mf r c := by
  unfold meetM
  split
  · exact h
  · split
    · split
      · exact List.mem_append_left _ h
      · exact h
    · exact h
theorem meet_in {v : Vw} {mf : Cl → Bool} {r : List Nat} {c : Nat} {x : Cl} (hx : v.h[c]? = some x) (hm : mf x = true) : c ∈ meetM v mf r c := by
  unfold meetM
  split
  · rename_i h; simpa using h
  · rw [hx]; dsimp only; rw [if_pos hm]; exact List.mem_append_right _ (List.mem_singleton.2 rfl)
theorem meetW_mem {v : Vw} {mf : Cl → Bool} {r : List Nat} {w : Int} {d : Nat} (h : d ∈ r) : d ∈ meetW v mf r w := by
  unfold meetW
  split
  · exact meet_mem h
  · exact h
theorem meetW_in {v : Vw} {mf : Cl → Bool} {r : List Nat} {w : Int} {d : Nat} {x : Cl} (hr : refN w = some d) (hx : v.h[d]? = some x) (hm : mf x = true) : d ∈ meetW v mf r w := by
  rw [meetW_ref hr]; exact meet_in hx hm
/-- What a cell names is met. -/
def Subs (v : Vw) (mf : Cl → Bool) (r : List Nat) (x : Cl) : Prop := ∀ d y, (refN x.a = some d ∨ refN x.b = some d) → v.h[d]? = some y → mf y = true → d ∈ r
theorem goW_mem {v : Vw} {mf : Cl → Bool} {d : Nat} : ∀ (f a : Nat) (r : List Nat), d ∈ r → d ∈ goW v mf f a r
  | 0, _, _, h => h
  | f + 1, a, r, h => by
    unfold goW
    split
    · exact h
    · split
      · exact h
      · exact goW_mem f (a + 1) _ (meetW_mem (meetW_mem h))
theorem goW_closed {v : Vw} {mf : Cl → Bool} : ∀ (f a : Nat) (r : List Nat), OkR v mf r → v.h.length ≤ f + a → (∀ (i c : Nat) x, i < a → r[i]? = some c → v.h[c]? = some x → Subs v mf r x) → ∀ (c : Nat) x, c ∈ goW v mf f a r → v.h[c]? = some x → Subs v mf (goW v mf f a r) x
  | 0, a, r, ho, hn, hs, c, x, hc, hx => by
    obtain ⟨i, hi, he⟩ := List.getElem_of_mem hc
    have := ho.len
    exact hs i c x (by have hi' : i < r.length := hi; omega) (by rw [← he]; exact List.getElem?_eq_getElem hi) hx
  | f + 1, a, r, ho, hn, hs, c, x, hc, hx => by
    by_cases ha : a < r.length
    · obtain ⟨d, hd⟩ : ∃ d, r[a]? = some d := ⟨_, List.getElem?_eq_getElem ha⟩
      obtain ⟨y, hy, _⟩ := ho.lt d (List.mem_of_getElem? hd)
      rw [goW_step hd hy] at hc ⊢
      refine goW_closed f (a + 1) _ ((ho.meetW _).meetW _) (by omega) (fun i c' x' hi hc' hx' => ?_) c x hc hx
      by_cases hia : i = a
      · subst hia
        rw [meetW_pre (meetW_pre hd)] at hc'
        cases hc'
        rw [hy] at hx'
        cases hx'
        intro e z hz h1 h2
        rcases hz with hz | hz
        · exact meetW_mem (meetW_in hz h1 h2)
        · exact meetW_in hz h1 h2
      · have hi2 : i < r.length := by omega
        have h3 : r[i]? = some r[i] := List.getElem?_eq_getElem hi2
        rw [meetW_pre (meetW_pre h3)] at hc'
        intro e z hz h1 h2
        exact meetW_mem (meetW_mem (hs i c' x' (by omega) (h3.trans hc') hx' e z hz h1 h2))
    · rw [goW_end (by omega)] at hc ⊢
      obtain ⟨i, hi, he⟩ := List.getElem_of_mem hc
      exact hs i c x (by omega) (by rw [← he]; exact List.getElem?_eq_getElem hi) hx
theorem seed_in {v : Vw} {mf : Cl → Bool} {nf : Nat → Bool} {j : Nat} {x : Cl} (hx : v.h[j]? = some x) (hm : mf x = true) (hn : nf j = true) : ∀ n, j < n → j ∈ seedM v mf nf n
  | 0, h => by omega
  | n + 1, h => by
    unfold seedM
    by_cases hj : j = n
    · subst hj; rw [if_pos hn]; exact meet_in hx hm
    · have := seed_in hx hm hn n (by omega)
      split
      · exact meet_mem this
      · exact this
theorem walk_seed {v : Vw} {mf : Cl → Bool} {nf : Nat → Bool} {j : Nat} {x : Cl} (hx : v.h[j]? = some x) (hm : mf x = true) (hn : nf j = true) : metW v mf nf j = true := by
  unfold metW walkB
  simpa using goW_mem _ _ _ (seed_in hx hm hn _ (List.getElem?_eq_some_iff.1 hx).1)
theorem walk_next {v : Vw} {mf : Cl → Bool} {nf : Nat → Bool} {c d : Nat} {x y : Cl} (hc : metW v mf nf c = true) (hx : v.h[c]? = some x) (hd : refN x.a = some d ∨ refN x.b = some d) (hy : v.h[d]? = some y) (hm : mf y = true) : metW v mf nf d = true := by
  unfold metW walkB at hc ⊢
  have hc' : c ∈ goW v mf v.h.length 0 (seedM v mf nf v.h.length) := by simpa using hc
  simpa using goW_closed v.h.length 0 _ (OkR.seed v mf nf _) (by omega) (fun i c x hi => by omega) c x hc' hx d y hd hy hm
theorem walk_none {v : Vw} {mf : Cl → Bool} {nf : Nat → Bool} (hn : ∀ j, nf j = false) (k : Nat) : metW v mf nf k = false := by
  have h1 : ∀ n, seedM v mf nf n = [] := by
    intro n
    induction n with
    | zero => rfl
    | succ n ih => unfold seedM; rw [if_neg (by rw [hn n]; decide)]; exact ih
  unfold metW walkB
  rw [h1, goW_end (by simp)]
  rfl
theorem ord_in {h : List Cl} (P : Nat → Prop) (hc : ∀ (c : Nat) x, P c → h[c]? = some x → x.k ≠ 0 → ∀ d y, (refN x.a = some d ∨ refN x.b = some d) → h[d]? = some y → y.k ≠ 0 → P d) :
    ∀ (f i : Nat) (out : List Nat) (l : List Int), (∀ w ∈ l, ∀ d y, refN w = some d → h[d]? = some y → y.k ≠ 0 → P d) → (∀ c ∈ out, ∀ y, h[c]? = some y → y.k ≠ 0 → P c) → ∀ c ∈ ordM h f i out l, ∀ y, h[c]? = some y → y.k ≠ 0 → P c
  | 0, _, _, _, _, ho => ho
  | f + 1, i, out, l, hl, ho => by
    cases hw : l[i]? with
    | none => unfold ordM; rw [hw]; exact ho
    | some w =>
      rw [ordM_step hw]
      have hwl := List.mem_of_getElem? hw
      cases hr : refN w with
      | none => rw [ordS_none hr]; exact ord_in P hc f (i + 1) out l hl ho
      | some c =>
        cases hct : out.contains c with
        | true => rw [ordS_met hr hct]; exact ord_in P hc f (i + 1) out l hl ho
        | false =>
          cases hx : h[c]? with
          | none =>
            have e : ordS h out l w = (out, l) := by unfold ordS; rw [hr]; dsimp only; rw [hct, hx]; rfl
            rw [e]; exact ord_in P hc f (i + 1) out l hl ho
          | some x =>
            rw [ordS_new hr hct hx]
            refine ord_in P hc f (i + 1) _ _ (fun w' hw' d y h1 h2 h3 => ?_) (fun c' hc' y h1 h2 => ?_)
            · by_cases hk : x.k = 0
              · rw [if_pos hk] at hw'; exact hl w' hw' d y h1 h2 h3
              · rw [if_neg hk] at hw'
                rcases List.mem_append.1 hw' with hw' | hw'
                · exact hl w' hw' d y h1 h2 h3
                · refine hc c x (hl w hwl c x hr hx hk) hx hk d y ?_ h2 h3
                  simp only [List.mem_cons, List.not_mem_nil, or_false] at hw'
                  rcases hw' with rfl | rfl
                  · exact .inl h1
                  · exact .inr h1
            · rcases List.mem_append.1 hc' with hc' | hc'
              · exact ho c' hc' y h1 h2
              · rw [List.mem_singleton.1 hc'] at h1 ⊢
                exact hl w hwl c y hr h1 h2
def rootsV (v : Vw) : List Int := v.gl ++ (v.lanes.map Ln.roots).flatten
theorem mem_globs : ∀ (l : List Int) (i : Nat) {w : Int}, w ∈ l → ∃ j, (⟨1, j, [w]⟩ : Hd) ∈ globsH l i
  | y :: r, i, w, h => by
    rcases List.mem_cons.1 h with h | h
    · subst h; exact ⟨i, by unfold globsH; exact List.mem_cons_self ..⟩
    · obtain ⟨j, hj⟩ := mem_globs r (i + 1) h
      exact ⟨j, by unfold globsH; exact List.mem_cons_of_mem _ hj⟩
theorem mem_lanes : ∀ (l : List Ln) (i : Nat) {x : Ln}, x ∈ l → ∃ j, (⟨2, j, x.roots⟩ : Hd) ∈ lanesH l i
  | y :: r, i, x, h => by
    rcases List.mem_cons.1 h with h | h
    · subst h; exact ⟨i, by unfold lanesH; exact List.mem_cons_self ..⟩
    · obtain ⟨j, hj⟩ := mem_lanes r (i + 1) h
      exact ⟨j, by unfold lanesH; exact List.mem_cons_of_mem _ hj⟩
theorem root_holder {v : Vw} {w : Int} (h : w ∈ rootsV v) : ∃ x ∈ holdersM v, x.s ≠ 0 ∧ w ∈ x.ws := by
  unfold rootsV at h
  rcases List.mem_append.1 h with h | h
  · obtain ⟨j, hj⟩ := mem_globs v.gl 0 h
    exact ⟨_, List.mem_append_right _ (List.mem_append_left _ hj), by show (1 : Nat) ≠ 0; decide, List.mem_singleton.2 rfl⟩
  · obtain ⟨l, hl, hw⟩ := List.mem_flatten.1 h
    obtain ⟨x, hx, rfl⟩ := List.mem_map.1 hl
    obtain ⟨j, hj⟩ := mem_lanes v.lanes 0 hx
    exact ⟨_, List.mem_append_right _ (List.mem_append_right _ hj), by show (2 : Nat) ≠ 0; decide, hw⟩
theorem roots_fit {v : Vw} (h : wordsOk v = true) {w : Int} (hw : w ∈ rootsV v) : fitsW v.h.length w = true := by
  obtain ⟨x, hx, _, hm⟩ := root_holder hw
  exact List.all_eq_true.1 (List.all_eq_true.1 h x hx) w hm
/-- What the document's walk reaches is live. -/
theorem ends_live {v : Vw} {c : Nat} {y : Cl} (hc : c ∈ orderM v.h (rootsV v)) (hy : v.h[c]? = some y) (hk : y.k ≠ 0) : liveM v c = true := by
  have hu : ∀ z : Cl, z.k ≠ 0 → usedB z = true := fun z hz => by simp [usedB, hz]
  refine ord_in (h := v.h) (fun c => liveM v c = true) (fun c x hp hx _ d y hd hy hk => walk_next hp hx hd hy (hu y hk)) _ 0 [] (rootsV v) (fun w hw d y hr hy hk => ?_) (fun c hc => by cases hc) c hc y hy hk
  obtain ⟨x, hx, hs, hm⟩ := root_holder hw
  refine walk_seed hy (hu y hk) (List.any_eq_true.2 ⟨x, hx, ?_⟩)
  rw [Bool.and_eq_true]
  refine ⟨?_, List.any_eq_true.2 ⟨w, hm, by rw [hr]; exact beq_self_eq_true _⟩⟩
  have : (x.s : Int) ≠ 0 := by omega
  simpa using this
theorem globs_lt : ∀ (l : List Int) (i : Nat) {x : Hd}, x ∈ globsH l i → x.s = 1 ∧ x.i < i + l.length
  | y :: r, i, x, h => by
    unfold globsH at h
    rcases List.mem_cons.1 h with h | h
    · subst h; exact ⟨rfl, by simp⟩
    · have := globs_lt r (i + 1) h
      refine ⟨this.1, ?_⟩
      have := this.2
      simp only [List.length_cons]; omega
theorem cells_s : ∀ (l : List Cl) (i : Nat) {x : Hd}, x ∈ cellsH l i → x.s = 0
  | y :: r, i, x, h => by
    unfold cellsH at h
    split at h
    · exact cells_s r (i + 1) h
    · rcases List.mem_cons.1 h with h | h
      · subst h; rfl
      · exact cells_s r (i + 1) h
theorem lanes_s : ∀ (l : List Ln) (i : Nat) {x : Hd}, x ∈ lanesH l i → x.s = 2
  | y :: r, i, x, h => by
    unfold lanesH at h
    rcases List.mem_cons.1 h with h | h
    · subst h; rfl
    · exact lanes_s r (i + 1) h
/-- Nothing is left to look into. -/
structure Still (v : Vw) : Prop where
  laid : v.laid = v.gl.length
  cells : ∀ x ∈ v.h, x.c ≠ 1
  lanes : ∀ x ∈ v.lanes, x.sc = true
theorem Still.col {v : Vw} (h : Still v) {x : Hd} (hx : x ∈ holdersM v) : colM v x ≠ 1 := by
  unfold holdersM at hx
  rcases List.mem_append.1 hx with hx | hx
  · have hs := cells_s _ _ hx
    unfold colM
    rw [if_pos hs]
    split
    · rename_i c hc; exact h.cells c (List.mem_of_getElem? hc)
    · decide
  · rcases List.mem_append.1 hx with hx | hx
    · obtain ⟨hs, hl⟩ := globs_lt _ _ hx
      have := h.laid
      unfold colM
      rw [if_neg (by omega), if_neg (by omega), if_neg (by omega)]
      decide
    · have hs := lanes_s _ _ hx
      unfold colM
      rw [if_neg (by omega), if_neg (by omega), if_neg ?_]
      · decide
      · rintro ⟨_, h2⟩
        split at h2
        · rename_i l hl; rw [h.lanes l (List.mem_of_getElem? hl)] at h2; cases h2
        · cases h2
theorem Still.by {v : Vw} (h : Still v) (k : Nat) : byM v k = false := by
  refine walk_none (fun j => ?_) k
  unfold namedM
  rw [List.any_eq_false]
  intro x hx
  have := h.col hx
  simp [this]
theorem loss_white {v : Vw} : ∀ (l : List Cl) (i c : Nat), lossAt v l i = some c → ∃ x, i ≤ c ∧ l[c - i]? = some x ∧ whiteB x = true
  | [], i, c, h => by simp [lossAt] at h
  | y :: r, i, c, h => by
    unfold lossAt at h
    split at h
    · rename_i hl
      cases h
      unfold lossB at hl
      rw [Bool.and_eq_true] at hl
      exact ⟨y, Nat.le_refl _, by simp, hl.1⟩
    · obtain ⟨x, h1, h2, h3⟩ := loss_white r (i + 1) c h
      exact ⟨x, by omega, by rw [show c - i = (c - (i + 1)) + 1 by omega]; simpa using h2, h3⟩
theorem loss_not {v : Vw} : ∀ (l : List Cl) (i j : Nat) (x : Cl), lossAt v l i = none → l[j]? = some x → lossB v (i + j) x = false
  | y :: r, i, 0, x, h, hx => by
    have e : y = x := by simpa using hx
    subst e
    unfold lossAt at h
    split at h
    · cases h
    · rename_i hl; simpa using hl
  | y :: r, i, j + 1, x, h, hx => by
    unfold lossAt at h
    split at h
    · cases h
    · have := loss_not r (i + 1) j x h (by simpa using hx)
      rw [show i + 1 + j = i + (j + 1) by omega] at this
      exact this
/-- A still view that Holds: no cell that is reached is white. -/
theorem ends_white {v : Vw} (hs : Still v) (hl : lossM v = none) {c : Nat} {y : Cl} (hc : c ∈ orderM v.h (rootsV v)) (hy : v.h[c]? = some y) : whiteB y = false := by
  cases hw : whiteB y with
  | false => rfl
  | true =>
    have hk : y.k ≠ 0 := by
      intro e; simp [whiteB, usedB, e] at hw
    have h1 := loss_not v.h 0 c y hl hy
    rw [Nat.zero_add] at h1
    unfold lossB at h1
    rw [hw, ends_live hc hy hk, hs.by c] at h1
    simp at h1
end Go.Proofs.YtomdbcddokaagaaDoor
