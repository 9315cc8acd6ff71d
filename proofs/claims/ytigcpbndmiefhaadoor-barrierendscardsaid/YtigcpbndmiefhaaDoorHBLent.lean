/- A heap that is lent: laid once more, with two cells behind. -/
import Derived.Test.YtigcpbndmiefhaaDoorHBKnown
import Derived.OwnWalk
namespace Go.Proofs.YtigcpbndmiefhaaDoor
open Go.RowKit

theorem run_append_nil0 {P : Program} (w : World) (base : Nat) (t ty e : TypeId) (i : TypeInfo) (size : Nat) (ht : P.underlying t = some (.slice e)) (hi : P.info? e = some i)
    (v : Value) (n c : Nat) (xs : List Value) (hown : w.ownsRow base e size v n xs) :
    (Builtin.append_ #[t, t] ty #[v, .slice none 0 c]).run P w = .ok v w := by
  rcases hown.2 with ⟨rfl, rfl⟩ | ⟨g, cap, cur, rfl, _, _, hnc, _⟩
  · simp [Builtin.append_, run_underlying ht, sizeOf, typeInfo, hi, Builtin.lenOf, Builtin.firstCells]
  · simp [Builtin.append_, run_underlying ht, sizeOf, typeInfo, hi, Builtin.lenOf, Builtin.firstCells, hnc, storeCells]
/-- append within the capacity, whatever is appended. -/
theorem wpList_append_room0 {P : Program} (w : World) {ops : Array Oper} {rest : List Oper} {o : Oper} {a : Act} {Q : Exit → Act → World → Prop}
    (hg : o.guard = none) (s x : Operand) (t : TypeId) (hop : o.op = Op.call { callee := Callee.builtin Builtin.append, args := #[s, x], argTypes := #[t, t] })
    (base : Nat) (e : TypeId) (i : TypeInfo) (size : Nat) (h1 : P.underlying t = some (.slice e)) (h2 : P.info? e = some i) (h4 : i.size = size)
    (g k cap : Nat) (xs : List Value) (hs : a.eval s = .slice (some ⟨g, 0, none⟩) k cap) (hown : w.ownsRow base e size (.slice (some ⟨g, 0, none⟩) k cap) k xs) (ao : Option Addr) (m c : Nat) (news : List Value) (hx : a.eval x = .slice ao m c) (hn : news.length = m * size)
    (hnone : ao = none → m = 0) (hc : ∀ ad, ao = some ad → ∀ j u, news[j]? = some u → w.cell? (ad.add j) = some u) (h1c : ∀ u ∈ news, u.oneCell' = true) (b1 : k + m ≤ cap)
    (hK : ∀ w', w'.ownsRow base e size (.slice (some ⟨g, 0, none⟩) (k + m) cap) (k + m) (xs ++ news) → w.grownBy w' (some g) → wpList P ops Q rest (a.put o.dst (.slice (some ⟨g, 0, none⟩) (k + m) cap)) w') :
    wpList P ops Q (o :: rest) a w := by
  cases ao with
  | some ad => exact wpList_append_fits w hg s x t hop base e i size h1 h2 h4 g k cap xs hs hown ad m c news hx hn (hc ad rfl) h1c b1 hK
  | none =>
    obtain rfl := hnone rfl
    have hnews : news = [] := List.eq_nil_of_length_eq_zero (by simpa using hn)
    subst hnews
    refine wpList_plain hg fun K hK' => ?_
    have hrun := run_append_nil0 (P := P) w base t o.type e i size h1 h2 _ k c xs hown
    unfold Oper.wp
    simp [execOp, hop, resolve, invoke, builtin, hs, hx, hrun, Result.andThen]
    exact hK' _ _ (by simpa using hK w (by simpa using hown) (World.grownBy.refl _ _))

theorem grown_below {w w' : World} {row B : Nat} (h : w.grownBy w' (some row)) (hB : B ≤ row) (hs : B ≤ w.heap.size) : Below B w w' := (Below.refl B w).grown h hs (fun k hk => by cases hk; exact hB)
/-- A lent list. -/
def LentR (T sz n : Nat) (cells : List Value) (B : Nat) (e : Ending) (w' : World) : Prop := ∃ g, e = .returned (.slice (some ⟨g, 0, none⟩) n (n + 2)) ∧ w'.ownsRow B T sz (.slice (some ⟨g, 0, none⟩) (n + 2) (n + 2)) (n + 2) cells
theorem infoCl : (Tryd.prog.info? 58).map (fun i => (i.zero, i.size, i.bytes)) = some (some (.agg #[.int .u8 0, .int .u8 0, .int .u64 0, .int .u64 0]), 4, 24) := by kernel_rfl
theorem cl4_len : ∀ l : List Cl, (cl4 l).length = l.length * 4
  | [] => rfl
  | x :: l => by
    have e : cl4 (x :: l) = .int .u8 x.k :: .int .u8 x.c :: .int .u64 x.a :: .int .u64 x.b :: cl4 l := rfl
    rw [e]
    simp [cl4_len l]; omega
theorem cl4_get : ∀ (l : List Cl) (j : Nat) (u : Value), (cl4 l)[j]? = some u → ∃ i x, l[i]? = some x ∧ ((j = i * 4 ∧ u = .int .u8 x.k) ∨ (j = i * 4 + 1 ∧ u = .int .u8 x.c) ∨ (j = i * 4 + 1 + 1 ∧ u = .int .u64 x.a) ∨ (j = i * 4 + 1 + 1 + 1 ∧ u = .int .u64 x.b))
  | [], j, u, h => by simp [cl4] at h
  | x :: l, 0, u, h => ⟨0, x, rfl, .inl ⟨rfl, (Option.some.inj h).symm⟩⟩
  | x :: l, 1, u, h => ⟨0, x, rfl, .inr (.inl ⟨rfl, (Option.some.inj h).symm⟩)⟩
  | x :: l, 2, u, h => ⟨0, x, rfl, .inr (.inr (.inl ⟨rfl, (Option.some.inj h).symm⟩))⟩
  | x :: l, 3, u, h => ⟨0, x, rfl, .inr (.inr (.inr ⟨rfl, (Option.some.inj h).symm⟩))⟩
  | x :: l, j + 4, u, h => by
    obtain ⟨i, y, h1, h2⟩ := cl4_get l j u h
    exact ⟨i + 1, y, by simpa using h1, by
      rcases h2 with ⟨h, h'⟩ | ⟨h, h'⟩ | ⟨h, h'⟩ | ⟨h, h'⟩
      · exact .inl ⟨by omega, h'⟩
      · exact .inr (.inl ⟨by omega, h'⟩)
      · exact .inr (.inr (.inl ⟨by omega, h'⟩))
      · exact .inr (.inr (.inr ⟨by omega, h'⟩))⟩
/-- The two behind. -/
def mkC : List Value := [.int .u8 0, .int .u8 0, .int .u64 77777771, .int .u64 0, .int .u8 0, .int .u8 0, .int .u64 77777772, .int .u64 0]
set_option maxRecDepth 100000 in
set_option maxHeartbeats 4000000 in
theorem lentK_any (l : List Cl) (ra : Option Addr) (ca : Nat) (w : World) (hR : HR w ra l) (hl : l.length ≤ 1000000000) :
    Calls Tryd.prog 10 #[.slice ra l.length ca] w fun e w' => LentR 58 4 l.length (cl4 l ++ mkC) w.heap.size e w' ∧ Below w.heap.size w w' := by
  obtain ⟨i0, hi0, hz0, hz1, hz2⟩ := info_parts infoCl
  obtain ⟨b, o, h1', h2⟩ := hR
  have h1 : l.length ≠ 0 → ra = some ⟨b, o, none⟩ := fun q => h1'.resolve_left q
  have HN : Hid (ra = none → l.length = 0) := fun h => by
    rcases Nat.eq_zero_or_pos l.length with h0 | h0
    · exact h0
    · rw [h1 (by omega)] at h; cases h
  have HC : Hid (∀ w5 : World, Below w.heap.size w w5 → ∀ ad, ra = some ad → ∀ j u, (cl4 l)[j]? = some u → w5.cell? (ad.add j) = some u) := fun w5 h5 ad had j u hu => by
    obtain ⟨i, x, hx, hu'⟩ := cl4_get _ _ _ hu
    obtain ⟨g1, ⟨g2, g3, g4, g5⟩, _⟩ := h2 i x hx
    have := h1 (by have := (List.getElem?_eq_some_iff.1 hx).1; omega)
    rw [this] at had
    cases had
    rw [ad_add]
    rcases hu' with ⟨rfl, rfl⟩ | ⟨rfl, rfl⟩ | ⟨rfl, rfl⟩ | ⟨rfl, rfl⟩
    · exact (h5.cell (p := ⟨b, o + i * 4, none⟩) g1).trans g2
    · exact (h5.cell (p := ⟨b, o + i * 4 + 1, none⟩) g1).trans g3
    · exact (h5.cell (p := ⟨b, o + i * 4 + 1 + 1, none⟩) g1).trans g4
    · exact (h5.cell (p := ⟨b, o + i * 4 + 1 + 1 + 1, none⟩) g1).trans g5
  have HU : Hid (∀ u ∈ cl4 l, u.oneCell' = true) := fun u hu => by
    obtain ⟨j, hj⟩ := List.getElem?_of_mem hu
    obtain ⟨i, x, _, ⟨_, rfl⟩ | ⟨_, rfl⟩ | ⟨_, rfl⟩ | ⟨_, rfl⟩⟩ := cl4_get _ _ _ hj <;> rfl
  have HLn : Hid ((cl4 l).length = l.length * 4) := by show _ = _; exact cl4_len l
  clear h1 h1' h2
  go_enter Tryd.func10, Tryd.ntmps10
  go_wp2_with (first | (at_make; refine wpList_make_own _ rfl _ _ 25 rfl w.heap.size 58 i0 (.agg #[.int .u8 0, .int .u8 0, .int .u64 0, .int .u64 0]) 4 Tryd.underlying25 hi0 hz0 hz1 .i64 .i64 _ (l.length + 2) rfl rfl (by first | rfl | omega) (by rw [hz2]; omega) (by unfold maxLen; omega) (Nat.le_refl _) ?_; intro w0 hown0 hgrow0; have HB0 : Hid (Below w.heap.size w w0) := (Below.refl _ w).grown hgrow0 (Nat.le_refl _) (fun k hk => by cases hk); have HO0 : Hid (w0.ownsRow w.heap.size 58 4 (.slice (some ⟨w.heap.size, 0, none⟩) 0 (l.length + 2)) 0 []) := hown0; clear hown0 hgrow0) | (at_builtin; refine stop_of ?_))
  unfold Hid
  refine wpList_append_room0 _ rfl _ _ 25 rfl w.heap.size 58 i0 4 Tryd.underlying25 hi0 hz1 w.heap.size 0 (l.length + 2) [] rfl HO0.out ra l.length ca (cl4 l) rfl HLn.out HN.out (HC.out w0 HB0.out) HU.out (by omega) ?_
  intro w1 hown1 hgr1
  rw [Nat.zero_add, List.nil_append] at hown1
  have HB1 : Hid (Below w.heap.size w w1) := HB0.out.trans (grown_below hgr1 (Nat.le_refl _) HB0.out.size)
  have HO1 : Hid (w1.ownsRow w.heap.size 58 4 (.slice (some ⟨w.heap.size, 0, none⟩) l.length (l.length + 2)) l.length (cl4 l)) := hown1
  clear hown1 hgr1 HO0 HB0
  rw [Nat.zero_add]
  go_wp2_with (at_builtin; refine stop_of ?_)
  unfold Hid
  refine wpList_append_room0 _ rfl _ _ 25 rfl w.heap.size 58 i0 4 Tryd.underlying25 hi0 hz1 w.heap.size l.length (l.length + 2) (cl4 l) rfl (HO1.out.alloc _) (some ⟨w1.heap.size, 0, none⟩) 2 2 mkC rfl rfl (fun h => by cases h) (fun ad had j u hu => ?_) (fun u hu => ?_) (Nat.le_refl _) ?_
  · cases had
    rw [ad_add, Nat.zero_add]
    exact new_cell _ mkC.toArray _ j u hu
  · simp only [mkC, List.mem_cons, List.not_mem_nil, or_false] at hu
    rcases hu with rfl | rfl | rfl | rfl | rfl | rfl | rfl | rfl <;> rfl
  intro w2 hown2 hgr2
  have HB2 : Hid (Below w.heap.size w w2) := HB1.out.trans (((Below.refl _ w1).alloc HB1.out.size _).trans (grown_below hgr2 (Nat.le_refl _) (by rw [World.size_alloc]; have := HB1.out.size; omega)))
  have HO2 : Hid (w2.ownsRow w.heap.size 58 4 (.slice (some ⟨w.heap.size, 0, none⟩) (l.length + 2) (l.length + 2)) (l.length + 2) (cl4 l ++ mkC)) := hown2
  clear hown2 hgr2 HO1 HB1
  go_wp2
  go_ret
  exact ⟨⟨w.heap.size, rfl, HO2.out⟩, HB2.out⟩
end Go.Proofs.YtigcpbndmiefhaaDoor
