/- Laws of append.; Lent lists: laid once more, with two behind.; LentCode: code that is handed in, laid once more.; LentCode's walk. -/
import Derived.Test.YtpkohocjgnodnaaGreatDoorGAP
import Derived.Test.YtpkohocjgnodnaaGreatDoorGAR
import Derived.OwnWalk
import Derived.Deep.RegionHeld3
/- Laws of append. -/
namespace Go.Proofs.YtpkohocjgnodnaaGreatDoor
open Go.RowKit

theorem run_append_nil0 {P : Program} (w : World) (base : Nat) (t ty e : TypeId) (i : TypeInfo) (size : Nat) (ht : P.underlying t = some (.slice e)) (hi : P.info? e = some i)
    (v : Value) (n c : Nat) (xs : List Value) (hown : w.ownsRow base e size v n xs) :
    (Builtin.append_ #[t, t] ty #[v, .slice none 0 c]).run P w = .ok v w := by
  rcases hown.2 with ⟨rfl, rfl⟩ | ⟨g, cap, cur, rfl, _, _, hnc, _⟩
  · simp [Builtin.append_, run_underlying ht, sizeOf, typeInfo, hi, Builtin.lenOf, Builtin.firstCells]
  · simp [Builtin.append_, run_underlying ht, sizeOf, typeInfo, hi, Builtin.lenOf, Builtin.firstCells, hnc, storeCells]
/-- append within the capacity, whatever is appended. -/
theorem wpList_append_room0 {P : Program} (w : World) {ops : Array Oper} {rest : List Oper} {o : Oper} {a : Act} {Q : Exit → Act → World → Prop}
    (hg : o.guard = none) (s x : Operand) (t : TypeId) (hop : o.op = Op.call { callee := Callee.builtin Builtin.append, args := #[s, x], argTypes := #[t, t] })
    (base : Nat) (e : TypeId) (i : TypeInfo) (size : Nat) (h1 : P.underlying t = some (.slice e)) (h2 : P.info? e = some i) (h4 : i.size = size)
    (g k cap : Nat) (xs : List Value) (hs : a.eval s = .slice (some ⟨g, 0, none⟩) k cap) (hown : w.ownsRow base e size (.slice (some ⟨g, 0, none⟩) k cap) k xs) (ao : Option Addr) (m c : Nat) (news : List Value) (hx : a.eval x = .slice ao m c) (hn : news.length = m * size)
    (hnone : ao = none → m = 0) (hc : ∀ ad, ao = some ad → ∀ j u, news[j]? = some u → w.cell? (ad.add j) = some u) (h1c : ∀ u ∈ news, u.oneCell' = true) (b1 : k + m ≤ cap)
    (hK : ∀ w', w'.ownsRow base e size (.slice (some ⟨g, 0, none⟩) (k + m) cap) (k + m) (xs ++ news) → w.grownBy w' (some g) → wpList P ops Q rest (a.put o.dst (.slice (some ⟨g, 0, none⟩) (k + m) cap)) w') :
    wpList P ops Q (o :: rest) a w := by
  cases ao with
  | some ad => exact wpList_append_fits w hg s x t hop base e i size h1 h2 h4 g k cap xs hs hown ad m c news hx hn (hc ad rfl) h1c b1 hK
  | none =>
    obtain rfl := hnone rfl
    have hnews : news = [] := List.eq_nil_of_length_eq_zero (by simpa using hn)
    subst hnews
    refine wpList_plain hg fun K hK' => ?_
    have hrun := run_append_nil0 (P := P) w base t o.type e i size h1 h2 _ k c xs hown
    unfold Oper.wp
    simp [execOp, hop, resolve, invoke, builtin, hs, hx, hrun, Result.andThen]
    exact hK' _ _ (by simpa using hK w (by simpa using hown) (World.grownBy.refl _ _))

theorem grown_below {w w' : World} {row B : Nat} (h : w.grownBy w' (some row)) (hB : B ≤ row) (hs : B ≤ w.heap.size) : Below B w w' := (Below.refl B w).grown h hs (fun k hk => by cases hk; exact hB)
theorem row_get : ∀ (l : List Int) (j : Nat) (u : Value), (wordCells l)[j]? = some u → ∃ x, l[j]? = some x ∧ u = .int .u64 x := fun l j u h => by
  unfold wordCells at h
  rw [List.getElem?_map] at h
  obtain ⟨x, h1, h2⟩ := Option.map_eq_some_iff.1 h
  exact ⟨x, h1, h2.symm⟩
theorem ins_get : ∀ (l : List Ins) (j : Nat) (u : Value), (insCells l)[j]? = some u → ∃ i x, l[i]? = some x ∧ ((j = i * 2 ∧ u = .int .u8 x.op) ∨ (j = i * 2 + 1 ∧ u = .int .i64 x.a))
  | [], j, u, h => by simp [insCells] at h
  | x :: l, 0, u, h => ⟨0, x, rfl, .inl ⟨rfl, by simpa [insCells] using h.symm⟩⟩
  | x :: l, 1, u, h => ⟨0, x, rfl, .inr ⟨rfl, by simpa [insCells] using h.symm⟩⟩
  | x :: l, j + 2, u, h => by
    obtain ⟨i, y, h1, h2⟩ := ins_get l j u (by simpa [insCells] using h)
    exact ⟨i + 1, y, by simpa using h1, by
      rcases h2 with ⟨h, h'⟩ | ⟨h, h'⟩
      · exact .inl ⟨by omega, h'⟩
      · exact .inr ⟨by omega, h'⟩⟩
theorem insCells_len : ∀ l : List Ins, (insCells l).length = l.length * 2
  | [] => rfl
  | x :: l => by simp [insCells, insCells_len l]; omega
theorem new_cell (W : World) (cs : Array Value) (t : TypeId) (j : Nat) (u : Value) (h : cs.toList[j]? = some u) : (W.alloc (.cells cs t)).cell? ⟨W.heap.size, j, none⟩ = some u := by
  have hn := heap_alloc_new W (.cells cs t)
  simp only [World.cell?, hn]
  simpa using h
/-- A lent list. -/
def LentR (T sz n : Nat) (cells : List Value) (B : Nat) (e : Ending) (w' : World) : Prop := ∃ g, e = .returned (.slice (some ⟨g, 0, none⟩) n (n + 2)) ∧ w'.ownsRow B T sz (.slice (some ⟨g, 0, none⟩) (n + 2) (n + 2)) (n + 2) cells
theorem ad_add (b o j : Nat) : (⟨b, o, none⟩ : Addr).add j = ⟨b, o + j, none⟩ := by
  simp [Addr.add]
end Go.Proofs.YtpkohocjgnodnaaGreatDoor

/- Lent lists: laid once more, with two behind. -/
namespace Go.Proofs.YtpkohocjgnodnaaGreatDoor
open Go.RowKit

set_option maxRecDepth 100000 in
set_option maxHeartbeats 4000000 in
theorem lentW_any (l : List Int) (ra : Option Addr) (ca : Nat) (w : World) (hR : WR w ra l) (hl : l.length ≤ 1000000000) :
    Calls Tryz.prog 30 #[.slice ra l.length ca] w fun e w' => LentR 70 1 l.length (wordCells l ++ [.int .u64 77777771, .int .u64 77777772]) w.heap.size e w' ∧ Below w.heap.size w w' := by
  obtain ⟨i0, hi0, hz0, hz1, hz2⟩ := info_parts infoW
  obtain ⟨b, o, h1, h2⟩ := hR.at
  have HN : Hid (ra = none → l.length = 0) := fun h => by
    rcases Nat.eq_zero_or_pos l.length with h0 | h0
    · exact h0
    · rw [h1 (by omega)] at h; cases h
  have HC : Hid (∀ w5 : World, Below w.heap.size w w5 → ∀ ad, ra = some ad → ∀ j u, (wordCells l)[j]? = some u → w5.cell? (ad.add j) = some u) := fun w5 h5 ad had j u hu => by
    obtain ⟨x, hx, rfl⟩ := row_get _ _ _ hu
    obtain ⟨g1, g2, _⟩ := h2 j x hx
    have := h1 (by have := (List.getElem?_eq_some_iff.1 hx).1; omega)
    rw [this] at had
    cases had
    rw [ad_add]
    exact (h5.cell (p := ⟨b, o + j, none⟩) g1).trans g2
  have HU : Hid (∀ u ∈ wordCells l, u.oneCell' = true) := fun u hu => by
    obtain ⟨j, hj⟩ := List.getElem?_of_mem hu
    obtain ⟨x, _, rfl⟩ := row_get _ _ _ hj; rfl
  have HLn : Hid ((wordCells l).length = l.length * 1) := by show _ = _; simp [wordCells]
  clear hR h1 h2
  go_enter Tryz.func30, Tryz.ntmps30
  go_wp2_with (first | (at_make; refine wpList_make_own _ rfl _ _ 22 rfl w.heap.size 70 i0 (.int .u64 0) 1 Tryz.underlying22 hi0 hz0 hz1 .i64 .i64 _ (l.length + 2) rfl rfl (by first | rfl | omega) (by rw [hz2]; omega) (by unfold maxLen; omega) (Nat.le_refl _) ?_; intro w0 hown0 hgrow0; have HB0 : Hid (Below w.heap.size w w0) := (Below.refl _ w).grown hgrow0 (Nat.le_refl _) (fun k hk => by cases hk); have HO0 : Hid (w0.ownsRow w.heap.size 70 1 (.slice (some ⟨w.heap.size, 0, none⟩) 0 (l.length + 2)) 0 []) := hown0; clear hown0 hgrow0) | (at_builtin; refine stop_of ?_))
  unfold Hid
  refine wpList_append_room0 _ rfl _ _ 22 rfl w.heap.size 70 i0 1 Tryz.underlying22 hi0 hz1 w.heap.size 0 (l.length + 2) [] rfl HO0.out ra l.length ca (wordCells l) rfl HLn.out HN.out (HC.out w0 HB0.out) HU.out (by omega) ?_
  intro w1 hown1 hgr1
  rw [Nat.zero_add, List.nil_append] at hown1
  have HB1 : Hid (Below w.heap.size w w1) := HB0.out.trans (grown_below hgr1 (Nat.le_refl _) HB0.out.size)
  have HO1 : Hid (w1.ownsRow w.heap.size 70 1 (.slice (some ⟨w.heap.size, 0, none⟩) l.length (l.length + 2)) l.length (wordCells l)) := hown1
  clear hown1 hgr1 HO0 HB0
  rw [Nat.zero_add]
  go_wp2_with (at_builtin; refine stop_of ?_)
  unfold Hid
  refine wpList_append_room0 _ rfl _ _ 22 rfl w.heap.size 70 i0 1 Tryz.underlying22 hi0 hz1 w.heap.size l.length (l.length + 2) (wordCells l) rfl (HO1.out.alloc _) (some ⟨w1.heap.size, 0, none⟩) 2 2 [.int .u64 77777771, .int .u64 77777772] rfl rfl (fun h => by cases h) (fun ad had j u hu => ?_) (fun u hu => ?_) (Nat.le_refl _) ?_
  · cases had
    rw [ad_add, Nat.zero_add]
    exact new_cell _ (List.toArray [.int .u64 77777771, .int .u64 77777772]) _ j u hu
  · simp at hu
    rcases hu with rfl | rfl <;> rfl
  intro w2 hown2 hgr2
  have HB2 : Hid (Below w.heap.size w w2) := HB1.out.trans (((Below.refl _ w1).alloc HB1.out.size _).trans (grown_below hgr2 (Nat.le_refl _) (by rw [World.size_alloc]; have := HB1.out.size; omega)))
  have HO2 : Hid (w2.ownsRow w.heap.size 70 1 (.slice (some ⟨w.heap.size, 0, none⟩) (l.length + 2) (l.length + 2)) (l.length + 2) (wordCells l ++ [.int .u64 77777771, .int .u64 77777772])) := hown2
  clear hown2 hgr2 HO1 HB1
  go_wp2
  go_ret
  exact ⟨⟨w.heap.size, rfl, HO2.out⟩, HB2.out⟩
def ownT : List UInt8 := [116, 104, 101, 32, 111, 119, 110, 101, 114, 39, 115]
set_option maxRecDepth 100000 in
set_option maxHeartbeats 4000000 in
theorem lentX_any (l : List (List UInt8)) (ra : Option Addr) (ca : Nat) (w : World) (hR : XR w ra l) (hl : l.length ≤ 1000000000) :
    Calls Tryz.prog 31 #[.slice ra l.length ca] w fun e w' => LentR 9 1 l.length (l.map S ++ [S ownT, S ownT]) w.heap.size e w' ∧ Below w.heap.size w w' := by
  obtain ⟨i0, hi0, hz0, hz1, hz2⟩ := info_parts infoSt
  obtain ⟨b, o, h1, h2⟩ := hR.at
  have HN : Hid (ra = none → l.length = 0) := fun h => by
    rcases Nat.eq_zero_or_pos l.length with h0 | h0
    · exact h0
    · rw [h1 (by omega)] at h; cases h
  have HC : Hid (∀ w5 : World, Below w.heap.size w w5 → ∀ ad, ra = some ad → ∀ j u, (l.map S)[j]? = some u → w5.cell? (ad.add j) = some u) := fun w5 h5 ad had j u hu => by
    rw [List.getElem?_map] at hu
    obtain ⟨x, hx, rfl⟩ := Option.map_eq_some_iff.1 hu
    obtain ⟨g1, g2, _⟩ := h2 j x hx
    have := h1 (by have := (List.getElem?_eq_some_iff.1 hx).1; omega)
    rw [this] at had
    cases had
    rw [ad_add]
    exact (h5.cell (p := ⟨b, o + j, none⟩) g1).trans g2
  have HU : Hid (∀ u ∈ l.map S, u.oneCell' = true) := fun u hu => by
    obtain ⟨j, hj⟩ := List.getElem?_of_mem hu
    rw [List.getElem?_map] at hj; obtain ⟨x, _, rfl⟩ := Option.map_eq_some_iff.1 hj; rfl
  have HLn : Hid ((l.map S).length = l.length * 1) := by show _ = _; simp
  clear hR h1 h2
  go_enter Tryz.func31, Tryz.ntmps31
  go_wp2_with (first | (at_make; refine wpList_make_own _ rfl _ _ 24 rfl w.heap.size 9 i0 (.string ⟨#[]⟩) 1 Tryz.underlying24 hi0 hz0 hz1 .i64 .i64 _ (l.length + 2) rfl rfl (by first | rfl | omega) (by rw [hz2]; omega) (by unfold maxLen; omega) (Nat.le_refl _) ?_; intro w0 hown0 hgrow0; have HB0 : Hid (Below w.heap.size w w0) := (Below.refl _ w).grown hgrow0 (Nat.le_refl _) (fun k hk => by cases hk); have HO0 : Hid (w0.ownsRow w.heap.size 9 1 (.slice (some ⟨w.heap.size, 0, none⟩) 0 (l.length + 2)) 0 []) := hown0; clear hown0 hgrow0) | (at_builtin; refine stop_of ?_))
  unfold Hid
  refine wpList_append_room0 _ rfl _ _ 24 rfl w.heap.size 9 i0 1 Tryz.underlying24 hi0 hz1 w.heap.size 0 (l.length + 2) [] rfl HO0.out ra l.length ca (l.map S) rfl HLn.out HN.out (HC.out w0 HB0.out) HU.out (by omega) ?_
  intro w1 hown1 hgr1
  rw [Nat.zero_add, List.nil_append] at hown1
  have HB1 : Hid (Below w.heap.size w w1) := HB0.out.trans (grown_below hgr1 (Nat.le_refl _) HB0.out.size)
  have HO1 : Hid (w1.ownsRow w.heap.size 9 1 (.slice (some ⟨w.heap.size, 0, none⟩) l.length (l.length + 2)) l.length (l.map S)) := hown1
  clear hown1 hgr1 HO0 HB0
  rw [Nat.zero_add]
  go_wp2_with (at_builtin; refine stop_of ?_)
  unfold Hid
  refine wpList_append_room0 _ rfl _ _ 24 rfl w.heap.size 9 i0 1 Tryz.underlying24 hi0 hz1 w.heap.size l.length (l.length + 2) (l.map S) rfl (HO1.out.alloc _) (some ⟨w1.heap.size, 0, none⟩) 2 2 [S ownT, S ownT] rfl rfl (fun h => by cases h) (fun ad had j u hu => ?_) (fun u hu => ?_) (Nat.le_refl _) ?_
  · cases had
    rw [ad_add, Nat.zero_add]
    exact new_cell _ (List.toArray [S ownT, S ownT]) _ j u hu
  · simp at hu
    rcases hu with rfl <;> rfl
  intro w2 hown2 hgr2
  have HB2 : Hid (Below w.heap.size w w2) := HB1.out.trans (((Below.refl _ w1).alloc HB1.out.size _).trans (grown_below hgr2 (Nat.le_refl _) (by rw [World.size_alloc]; have := HB1.out.size; omega)))
  have HO2 : Hid (w2.ownsRow w.heap.size 9 1 (.slice (some ⟨w.heap.size, 0, none⟩) (l.length + 2) (l.length + 2)) (l.length + 2) (l.map S ++ [S ownT, S ownT])) := hown2
  clear hown2 hgr2 HO1 HB1
  go_wp2
  go_ret
  exact ⟨⟨w.heap.size, rfl, HO2.out⟩, HB2.out⟩
set_option maxRecDepth 100000 in
set_option maxHeartbeats 4000000 in
theorem lentN_any (l : List Ins) (ra : Option Addr) (ca : Nat) (w : World) (hR : NR w ra l) (hl : l.length ≤ 1000000000) :
    Calls Tryz.prog 29 #[.slice ra l.length ca] w fun e w' => LentR 79 2 l.length (insCells l ++ [.int .u8 0, .int .i64 (-71), .int .u8 0, .int .i64 (-72)]) w.heap.size e w' ∧ Below w.heap.size w w' := by
  obtain ⟨i0, hi0, hz0, hz1, hz2⟩ := info_parts infoIn
  obtain ⟨b, o, h1, h2⟩ := hR.at
  have HN : Hid (ra = none → l.length = 0) := fun h => by
    rcases Nat.eq_zero_or_pos l.length with h0 | h0
    · exact h0
    · rw [h1 (by omega)] at h; cases h
  have HC : Hid (∀ w5 : World, Below w.heap.size w w5 → ∀ ad, ra = some ad → ∀ j u, (insCells l)[j]? = some u → w5.cell? (ad.add j) = some u) := fun w5 h5 ad had j u hu => by
    obtain ⟨i, x, hx, hu'⟩ := ins_get _ _ _ hu
    obtain ⟨g1, g2, g3⟩ := h2 i x hx
    have := h1 (by have := (List.getElem?_eq_some_iff.1 hx).1; omega)
    rw [this] at had
    cases had
    rw [ad_add]
    rcases hu' with ⟨rfl, rfl⟩ | ⟨rfl, rfl⟩
    · exact (h5.cell (p := ⟨b, o + i * 2, none⟩) g1).trans g2
    · exact (h5.cell (p := ⟨b, o + i * 2 + 1, none⟩) g1).trans g3
  have HU : Hid (∀ u ∈ insCells l, u.oneCell' = true) := fun u hu => by
    obtain ⟨j, hj⟩ := List.getElem?_of_mem hu
    obtain ⟨i, x, _, ⟨_, rfl⟩ | ⟨_, rfl⟩⟩ := ins_get _ _ _ hj <;> rfl
  have HLn : Hid ((insCells l).length = l.length * 2) := by show _ = _; exact insCells_len l
  clear hR h1 h2
  go_enter Tryz.func29, Tryz.ntmps29
  go_wp2_with (first | (at_make; refine wpList_make_own _ rfl _ _ 62 rfl w.heap.size 79 i0 (.agg #[.int .u8 0, .int .i64 0]) 2 Tryz.underlying62 hi0 hz0 hz1 .i64 .i64 _ (l.length + 2) rfl rfl (by first | rfl | omega) (by rw [hz2]; omega) (by unfold maxLen; omega) (Nat.le_refl _) ?_; intro w0 hown0 hgrow0; have HB0 : Hid (Below w.heap.size w w0) := (Below.refl _ w).grown hgrow0 (Nat.le_refl _) (fun k hk => by cases hk); have HO0 : Hid (w0.ownsRow w.heap.size 79 2 (.slice (some ⟨w.heap.size, 0, none⟩) 0 (l.length + 2)) 0 []) := hown0; clear hown0 hgrow0) | (at_builtin; refine stop_of ?_))
  unfold Hid
  refine wpList_append_room0 _ rfl _ _ 62 rfl w.heap.size 79 i0 2 Tryz.underlying62 hi0 hz1 w.heap.size 0 (l.length + 2) [] rfl HO0.out ra l.length ca (insCells l) rfl HLn.out HN.out (HC.out w0 HB0.out) HU.out (by omega) ?_
  intro w1 hown1 hgr1
  rw [Nat.zero_add, List.nil_append] at hown1
  have HB1 : Hid (Below w.heap.size w w1) := HB0.out.trans (grown_below hgr1 (Nat.le_refl _) HB0.out.size)
  have HO1 : Hid (w1.ownsRow w.heap.size 79 2 (.slice (some ⟨w.heap.size, 0, none⟩) l.length (l.length + 2)) l.length (insCells l)) := hown1
  clear hown1 hgr1 HO0 HB0
  rw [Nat.zero_add]
  go_wp2_with (at_builtin; refine stop_of ?_)
  unfold Hid
  refine wpList_append_room0 _ rfl _ _ 62 rfl w.heap.size 79 i0 2 Tryz.underlying62 hi0 hz1 w.heap.size l.length (l.length + 2) (insCells l) rfl (HO1.out.alloc _) (some ⟨w1.heap.size, 0, none⟩) 2 2 [.int .u8 0, .int .i64 (-71), .int .u8 0, .int .i64 (-72)] rfl rfl (fun h => by cases h) (fun ad had j u hu => ?_) (fun u hu => ?_) (Nat.le_refl _) ?_
  · cases had
    rw [ad_add, Nat.zero_add]
    exact new_cell _ (List.toArray [.int .u8 0, .int .i64 (-71), .int .u8 0, .int .i64 (-72)]) _ j u hu
  · simp at hu
    rcases hu with rfl | rfl | rfl | rfl <;> rfl
  intro w2 hown2 hgr2
  have HB2 : Hid (Below w.heap.size w w2) := HB1.out.trans (((Below.refl _ w1).alloc HB1.out.size _).trans (grown_below hgr2 (Nat.le_refl _) (by rw [World.size_alloc]; have := HB1.out.size; omega)))
  have HO2 : Hid (w2.ownsRow w.heap.size 79 2 (.slice (some ⟨w.heap.size, 0, none⟩) (l.length + 2) (l.length + 2)) (l.length + 2) (insCells l ++ [.int .u8 0, .int .i64 (-71), .int .u8 0, .int .i64 (-72)])) := hown2
  clear hown2 hgr2 HO1 HB1
  go_wp2
  go_ret
  exact ⟨⟨w.heap.size, rfl, HO2.out⟩, HB2.out⟩
end Go.Proofs.YtpkohocjgnodnaaGreatDoor

/- LentCode: code that is handed in, laid once more. -/
namespace Go.Proofs.YtpkohocjgnodnaaGreatDoor
open Go.RowKit

abbrev insM : List Value := [.int .u8 0, .int .i64 (-71), .int .u8 0, .int .i64 (-72)]
/-- The code of lent procedures. -/
structure LP (w : World) (B : Nat) (ps : List Prc) (vs : List Value) : Prop where
  len : vs.length = ps.length
  row : ∀ (j : Nat) (p : Prc) (v : Value), ps[j]? = some p → vs[j]? = some v → ∃ g, v = .slice (some ⟨g, 0, none⟩) p.code.length (p.code.length + 2) ∧ w.ownsRow B 79 2 (.slice (some ⟨g, 0, none⟩) (p.code.length + 2) (p.code.length + 2)) (p.code.length + 2) (insCells p.code ++ insM)
theorem LP.kept {w w' : World} {B : Nat} {ps : List Prc} {vs : List Value} (h : LP w B ps vs) (hk : ∀ g, B ≤ g → g < w.heap.size → w'.heap[g]? = w.heap[g]?) : LP w' B ps vs :=
  ⟨h.len, fun j p v hp hv => by
    obtain ⟨g, e, ho⟩ := h.row j p v hp hv
    exact ⟨g, e, own_same ho (fun g' hg' => hk g' (ho.lt g' hg').1 (ho.lt g' hg').2)⟩⟩
theorem own_mono {w : World} {base base' e size n : Nat} {v : Value} {xs : List Value} (h : w.ownsRow base e size v n xs) (hb : base' ≤ base) : w.ownsRow base' e size v n xs := by
  refine ⟨h.1, ?_⟩
  rcases h.2 with h' | ⟨g, cap, cur, hv, hg, hh, r⟩
  · exact .inl h'
  · exact .inr ⟨g, cap, cur, hv, Nat.le_trans hb hg, hh, r⟩
theorem LP.mono {w : World} {B B' : Nat} {ps : List Prc} {vs : List Value} (h : LP w B ps vs) (hb : B' ≤ B) : LP w B' ps vs :=
  ⟨h.len, fun j p v hp hv => by
    obtain ⟨g, e, ho⟩ := h.row j p v hp hv
    exact ⟨g, e, own_mono ho hb⟩⟩
theorem LP.snoc {w : World} {B g : Nat} {ps : List Prc} {vs : List Value} {p : Prc} (h : LP w B ps vs) (ho : w.ownsRow B 79 2 (.slice (some ⟨g, 0, none⟩) (p.code.length + 2) (p.code.length + 2)) (p.code.length + 2) (insCells p.code ++ insM)) : LP w B (ps ++ [p]) (vs ++ [.slice (some ⟨g, 0, none⟩) p.code.length (p.code.length + 2)]) := by
  refine ⟨by simp [h.len], fun j q v hq hv => ?_⟩
  have hl := h.len
  rcases get_snoc hq with h1 | ⟨h1, rfl⟩
  · have hj := (List.getElem?_eq_some_iff.1 h1).1
    rw [List.getElem?_append_left (by omega)] at hv
    exact h.row j q v h1 hv
  · subst h1
    rw [← hl, List.getElem?_append_right (Nat.le_refl _)] at hv
    simp at hv
    exact ⟨g, hv.symm, ho⟩
/-- Lent code. -/
def LCd (w : World) (B : Nat) (v : Value) (c : Cd) : Prop := ∃ g1 g2 g3 vs,
  v = .agg #[.slice (some ⟨g1, 0, none⟩) c.consts.length (c.consts.length + 2), .slice (some ⟨g2, 0, none⟩) c.procs.length (c.procs.length + 1), .slice (some ⟨g3, 0, none⟩) c.globals.length (c.globals.length + 2)]
  ∧ w.ownsRow B 70 1 (.slice (some ⟨g1, 0, none⟩) (c.consts.length + 2) (c.consts.length + 2)) (c.consts.length + 2) (wordCells c.consts ++ [.int .u64 77777771, .int .u64 77777772])
  ∧ w.ownsRow B 64 2 (.slice (some ⟨g2, 0, none⟩) (c.procs.length + 1) (c.procs.length + 1)) (c.procs.length + 1) (prcCells c.procs vs ++ [.int .i64 (-77), .slice none 0 0])
  ∧ w.ownsRow B 9 1 (.slice (some ⟨g3, 0, none⟩) (c.globals.length + 2) (c.globals.length + 2)) (c.globals.length + 2) (c.globals.map S ++ [S ownT, S ownT])
  ∧ LP w B c.procs vs
theorem own_at {w : World} {base e c g n cap : Nat} {xs : List Value} (h : w.ownsRow base e c (.slice (some ⟨g, 0, none⟩) n cap) n xs) (j : Nat) (u : Value) (hj : xs[j]? = some u) : w.cell? ⟨g, j, none⟩ = some u := by
  have := h.cells rfl j u hj
  rwa [ad_add, Nat.zero_add] at this
theorem get_app {l r : List Value} {j : Nat} {u : Value} (h : l[j]? = some u) : (l ++ r)[j]? = some u := by
  rw [List.getElem?_append_left (List.getElem?_eq_some_iff.1 h).1]; exact h
/-- Lent code is read as what it is. -/
theorem LCd.cv {w w0 : World} {B : Nat} {v v0 : Value} {c : Cd} (h : LCd w B v c) (h0 : CV w0 v0 c) : CV w v c := by
  obtain ⟨g1, g2, g3, vs, rfl, o1, o2, o3, hp⟩ := h
  obtain ⟨⟨r1, c1, r2, c2, r3, c3, -, ⟨_, _, _, a1⟩, ⟨_, _, _, a2⟩, ⟨_, _, _, a3⟩, -⟩, hl⟩ := h0
  refine ⟨⟨_, _, _, _, _, _, rfl, ⟨g1, 0, .inr rfl, fun j x hx => ⟨(o1.lt g1 rfl).2, ?_, (a1 j x hx).2.2⟩⟩, ⟨g2, 0, .inr rfl, fun j x hx => ?_⟩, ⟨g3, 0, .inr rfl, fun j x hx => ⟨(o3.lt g3 rfl).2, ?_, (a3 j x hx).2.2⟩⟩, by omega⟩, hl⟩
  · rw [Nat.zero_add]
    exact own_at o1 j _ (get_app (by unfold wordCells; rw [List.getElem?_map, hx]; rfl))
  · have hjl := (List.getElem?_eq_some_iff.1 hx).1
    have hv : vs[j]? = some (vs[j]'(by rw [hp.len]; exact hjl)) := List.getElem?_eq_getElem _
    obtain ⟨q1, q2⟩ := prcCells_at _ _ j x _ hx hv
    obtain ⟨g, e, ho⟩ := hp.row j x _ hx hv
    obtain ⟨_, _, ⟨_, _, _, ⟨_, _, _, a4⟩⟩, a5⟩ := a2 j x hx
    refine ⟨(o2.lt g2 rfl).2, by rw [Nat.zero_add]; exact own_at o2 _ _ (get_app q1), ⟨_, _, by rw [Nat.zero_add, ← e]; exact own_at o2 _ _ (get_app q2), g, 0, .inr rfl, fun i y hy => ?_⟩, a5⟩
    obtain ⟨i1, i2⟩ := insCells_at _ i y hy
    exact ⟨(ho.lt g rfl).2, by rw [Nat.zero_add]; exact own_at ho _ _ (get_app i1), by rw [Nat.zero_add]; exact own_at ho _ _ (get_app i2), (a4 i y hy).2.2.2⟩
  · rw [Nat.zero_add]
    exact own_at o3 j _ (get_app (by rw [List.getElem?_map, hx]; rfl))
theorem step_append_fits {P : Program} (w : World) {ops : Array Oper} {o : Oper} {a : Act} {K : Act → World → Prop} {Q : Exit → Act → World → Prop} {E : Prop}
    (hg : o.guard = none) (s x : Operand) (t : TypeId) (hop : o.op = Op.call { callee := Callee.builtin Builtin.append, args := #[s, x], argTypes := #[t, t] })
    (base : Nat) (e : TypeId) (i : TypeInfo) (size : Nat) (h1 : P.underlying t = some (.slice e)) (h2 : P.info? e = some i) (h4 : i.size = size)
    (g k cap : Nat) (xs : List Value) (hs : a.eval s = .slice (some ⟨g, 0, none⟩) k cap) (hown : w.ownsRow base e size (.slice (some ⟨g, 0, none⟩) k cap) k xs) (ad : Addr) (m c : Nat) (news : List Value) (hx : a.eval x = .slice (some ad) m c) (hn : news.length = m * size)
    (hc : ∀ j u, news[j]? = some u → w.cell? (ad.add j) = some u) (h1c : ∀ u ∈ news, u.oneCell' = true) (b1 : k + m ≤ cap)
    (hK : ∀ w', w'.ownsRow base e size (.slice (some ⟨g, 0, none⟩) (k + m) cap) (k + m) (xs ++ news) → w.grownBy w' (some g) → K (a.put o.dst (.slice (some ⟨g, 0, none⟩) (k + m) cap)) w') :
    if Region.wanted o (yielded ops a.tmps) = true then Oper.wp P o a w K Q else E := by
  rw [if_pos (by simp [Region.wanted, hg])]
  obtain ⟨w', hrun, r1, r2⟩ := run_append_fits (P := P) w base t o.type e i size h1 h2 h4 g k cap xs hown ad m c news hn hc h1c b1
  unfold Oper.wp
  simp [execOp, hop, resolve, invoke, builtin, hs, hx, hrun, Result.andThen]
  exact hK w' r1 r2
end Go.Proofs.YtpkohocjgnodnaaGreatDoor

/- LentCode's walk. -/
namespace Go.Proofs.YtpkohocjgnodnaaGreatDoor
open Go.RowKit

theorem keepLC {W W' : World} {g b k : Nat} {v0 v1 v2 : Value} (hb : Below W.heap.size W W')
    (h : W.cell? ⟨g, 1, none⟩ = some v0 ∧ W.cell? ⟨b, k, none⟩ = some v1 ∧ W.cell? ⟨b, k + 1, none⟩ = some v2 ∧ g < W.heap.size ∧ b < W.heap.size) :
    W'.cell? ⟨g, 1, none⟩ = some v0 ∧ W'.cell? ⟨b, k, none⟩ = some v1 ∧ W'.cell? ⟨b, k + 1, none⟩ = some v2 ∧ g < W'.heap.size ∧ b < W'.heap.size := by
  obtain ⟨a0, a1, a2, l0, l1⟩ := h
  exact ⟨(hb.cell (p := ⟨g, 1, none⟩) l0).trans a0, (hb.cell (p := ⟨b, k, none⟩) l1).trans a1, (hb.cell (p := ⟨b, k + 1, none⟩) l1).trans a2, Nat.lt_of_lt_of_le l0 hb.size, Nat.lt_of_lt_of_le l1 hb.size⟩
theorem cells3z {w0 : World} {b : Nat} (h : w0.heap[b]? = some ZC) : w0.cell? ⟨b, 0, none⟩ = some (.slice none 0 0) ∧ w0.cell? ⟨b, 1, none⟩ = some (.slice none 0 0) ∧ w0.cell? ⟨b, 2, none⟩ = some (.slice none 0 0) ∧ ∀ k, w0.frozen? ⟨b, k, none⟩ = false :=
  ⟨heap_cell h rfl, heap_cell h rfl, heap_cell h rfl, fun k => by simp [World.frozen?, h]⟩
theorem set3_cells {w : World} {b : Nat} (h : w.heap[b]? = some ZC) (u0 u1 u2 : Value) (k : Nat) : (((w.setCell ⟨b, 0, none⟩ u0).setCell ⟨b, 1, none⟩ u1).setCell ⟨b, 2, none⟩ u2).cell? ⟨b, k, none⟩ = [u0, u1, u2][k]? := by
  have h3 := set_atC (j := 2) (set_atC (j := 1) (set_atC (j := 0) h u0) u1) u2
  simp only [World.cell?, h3]
  simp
theorem lent_end {c : Cd} {vs : List Value} {w0 wz : World} {ga gb b1 b3 : Nat} (hR : wz.heap[w0.heap.size + 1]? = some ZC)
    (o1 : wz.ownsRow b1 70 1 (.slice (some ⟨ga, 0, none⟩) (c.consts.length + 2) (c.consts.length + 2)) (c.consts.length + 2) (wordCells c.consts ++ [.int .u64 77777771, .int .u64 77777772]))
    (o2 : wz.ownsRow (w0.heap.size + 2) 64 2 (.slice (some ⟨w0.heap.size + 2, 0, none⟩) (c.procs.length + 1) (c.procs.length + 1)) (c.procs.length + 1) (prcCells c.procs vs ++ [.int .i64 (-77), .slice none 0 0]))
    (o3 : wz.ownsRow b3 9 1 (.slice (some ⟨gb, 0, none⟩) (c.globals.length + 2) (c.globals.length + 2)) (c.globals.length + 2) (c.globals.map S ++ [S ownT, S ownT]))
    (hp : LP wz (w0.heap.size + 3) c.procs vs) (hE : Below w0.heap.size w0 wz) (l1 : w0.heap.size + 2 ≤ b1) (l3 : w0.heap.size + 2 ≤ b3) :
    (((wz.setCell ⟨w0.heap.size + 1, 0, none⟩ (.slice (some ⟨ga, 0, none⟩) c.consts.length (c.consts.length + 2))).setCell ⟨w0.heap.size + 1, 1, none⟩ (.slice (some ⟨w0.heap.size + 2, 0, none⟩) c.procs.length (c.procs.length + 1))).setCell ⟨w0.heap.size + 1, 2, none⟩ (.slice (some ⟨gb, 0, none⟩) c.globals.length (c.globals.length + 2))).cell? ⟨w0.heap.size + 1, 0, none⟩ = some (.slice (some ⟨ga, 0, none⟩) c.consts.length (c.consts.length + 2))
    ∧ (((wz.setCell ⟨w0.heap.size + 1, 0, none⟩ (.slice (some ⟨ga, 0, none⟩) c.consts.length (c.consts.length + 2))).setCell ⟨w0.heap.size + 1, 1, none⟩ (.slice (some ⟨w0.heap.size + 2, 0, none⟩) c.procs.length (c.procs.length + 1))).setCell ⟨w0.heap.size + 1, 2, none⟩ (.slice (some ⟨gb, 0, none⟩) c.globals.length (c.globals.length + 2))).cell? ⟨w0.heap.size + 1, 1, none⟩ = some (.slice (some ⟨w0.heap.size + 2, 0, none⟩) c.procs.length (c.procs.length + 1))
    ∧ (((wz.setCell ⟨w0.heap.size + 1, 0, none⟩ (.slice (some ⟨ga, 0, none⟩) c.consts.length (c.consts.length + 2))).setCell ⟨w0.heap.size + 1, 1, none⟩ (.slice (some ⟨w0.heap.size + 2, 0, none⟩) c.procs.length (c.procs.length + 1))).setCell ⟨w0.heap.size + 1, 2, none⟩ (.slice (some ⟨gb, 0, none⟩) c.globals.length (c.globals.length + 2))).cell? ⟨w0.heap.size + 1, 2, none⟩ = some (.slice (some ⟨gb, 0, none⟩) c.globals.length (c.globals.length + 2))
    ∧ LCd (((wz.setCell ⟨w0.heap.size + 1, 0, none⟩ (.slice (some ⟨ga, 0, none⟩) c.consts.length (c.consts.length + 2))).setCell ⟨w0.heap.size + 1, 1, none⟩ (.slice (some ⟨w0.heap.size + 2, 0, none⟩) c.procs.length (c.procs.length + 1))).setCell ⟨w0.heap.size + 1, 2, none⟩ (.slice (some ⟨gb, 0, none⟩) c.globals.length (c.globals.length + 2))) w0.heap.size (.agg #[.slice (some ⟨ga, 0, none⟩) c.consts.length (c.consts.length + 2), .slice (some ⟨w0.heap.size + 2, 0, none⟩) c.procs.length (c.procs.length + 1), .slice (some ⟨gb, 0, none⟩) c.globals.length (c.globals.length + 2)]) c
    ∧ Below w0.heap.size w0 (((wz.setCell ⟨w0.heap.size + 1, 0, none⟩ (.slice (some ⟨ga, 0, none⟩) c.consts.length (c.consts.length + 2))).setCell ⟨w0.heap.size + 1, 1, none⟩ (.slice (some ⟨w0.heap.size + 2, 0, none⟩) c.procs.length (c.procs.length + 1))).setCell ⟨w0.heap.size + 1, 2, none⟩ (.slice (some ⟨gb, 0, none⟩) c.globals.length (c.globals.length + 2))) := by
  have hs := fun (u0 u1 u2 : Value) (g : Nat) (hg : w0.heap.size + 2 ≤ g) => same3 wz (w0.heap.size + 1) u0 u1 u2 (g := g) (by omega)
  refine ⟨set3_cells hR _ _ _ 0, set3_cells hR _ _ _ 1, set3_cells hR _ _ _ 2, ⟨ga, w0.heap.size + 2, gb, vs, rfl, ?_, ?_, ?_, ?_⟩, below3 hE (by omega) _ _ _⟩
  · exact own_mono (own_same o1 (fun g hg => hs _ _ _ g (by have := (o1.lt g hg).1; omega))) (by omega)
  · exact own_mono (own_same o2 (fun g hg => hs _ _ _ g (by have := (o2.lt g hg).1; omega))) (by omega)
  · exact own_mono (own_same o3 (fun g hg => hs _ _ _ g (by have := (o3.lt g hg).1; omega))) (by omega)
  · exact (hp.kept (fun g h1 _ => hs _ _ _ g (by omega))).mono (by omega)
theorem keepLG {W W' : World} {g b k row : Nat} {v0 v1 v2 : Value} (hb : W.grownBy W' (some row)) (hg : g ≠ row) (hr : b ≠ row)
    (h : W.cell? ⟨g, 1, none⟩ = some v0 ∧ W.cell? ⟨b, k, none⟩ = some v1 ∧ W.cell? ⟨b, k + 1, none⟩ = some v2 ∧ g < W.heap.size ∧ b < W.heap.size) :
    W'.cell? ⟨g, 1, none⟩ = some v0 ∧ W'.cell? ⟨b, k, none⟩ = some v1 ∧ W'.cell? ⟨b, k + 1, none⟩ = some v2 ∧ g < W'.heap.size ∧ b < W'.heap.size := by
  obtain ⟨a0, a1, a2, l0, l1⟩ := h
  have e : ∀ x o, x < W.heap.size → x ≠ row → W'.cell? ⟨x, o, none⟩ = W.cell? ⟨x, o, none⟩ := fun x o hx hn => by
    simp only [World.cell?, hb.block x hx (fun e => hn (Option.some.inj e))]
  exact ⟨(e _ _ l0 hg).trans a0, (e _ _ l1 hr).trans a1, (e _ _ l1 hr).trans a2, Nat.lt_of_lt_of_le l0 hb.size, Nat.lt_of_lt_of_le l1 hb.size⟩
set_option maxRecDepth 100000 in
set_option maxHeartbeats 8000000 in
theorem lentCode_any (c : Cd) (v : Value) (w : World) (hv : CV w v c) (hz : c.consts.length ≤ 1000000000 ∧ c.procs.length ≤ 1000000000 ∧ c.globals.length ≤ 1000000000) (hk : ∀ p ∈ c.procs, p.code.length ≤ 1000000000) :
    Calls Tryz.prog 9 #[v] w fun e w' => ∃ v', e = .returned v' ∧ LCd w' w.heap.size v' c ∧ Below w.heap.size w w' := by
  obtain ⟨⟨r1, c1, r2, c2, r3, c3, rfl, hw1, hp1, hx1, _⟩, hl1⟩ := hv
  obtain ⟨z1, z2, z3⟩ := hz
  obtain ⟨i0, hi0, hz0, hz1, hz2⟩ := info_parts infoPr
  have HB2 : Hid (Below w.heap.size w ((w.alloc (CO (.slice r1 c.consts.length c1) (.slice r2 c.procs.length c2) (.slice r3 c.globals.length c3))).alloc ZC)) := ((Below.refl _ w).alloc (Nat.le_refl _) _).alloc (by simp) _
  have HQ0 : Hid (((w.alloc (CO (.slice r1 c.consts.length c1) (.slice r2 c.procs.length c2) (.slice r3 c.globals.length c3))).alloc ZC).heap[w.heap.size]? = some (CO (.slice r1 c.consts.length c1) (.slice r2 c.procs.length c2) (.slice r3 c.globals.length c3))) := (Below.heap_alloc _ _ _ (by simp)).trans (heap_alloc_new _ _)
  have HQ1 : Hid (((w.alloc (CO (.slice r1 c.consts.length c1) (.slice r2 c.procs.length c2) (.slice r3 c.globals.length c3))).alloc ZC).heap[w.heap.size + 1]? = some ZC) := by
    have := heap_alloc_new (w.alloc (CO (.slice r1 c.consts.length c1) (.slice r2 c.procs.length c2) (.slice r3 c.globals.length c3))) ZC
    rwa [World.size_alloc] at this
  have HS : Hid (((w.alloc (CO (.slice r1 c.consts.length c1) (.slice r2 c.procs.length c2) (.slice r3 c.globals.length c3))).alloc ZC).heap.size = w.heap.size + 2) := by show _ = _; rw [World.size_alloc, World.size_alloc]
  have HLw : Hid (∀ w5 : World, Below w.heap.size w w5 → Calls Tryz.prog 30 #[.slice r1 c.consts.length c1] w5 fun e w' => LentR 70 1 c.consts.length (wordCells c.consts ++ [.int .u64 77777771, .int .u64 77777772]) w5.heap.size e w' ∧ Below w5.heap.size w5 w') := fun w5 h5 => lentW_any _ _ _ w5 (hw1.below h5) z1
  have HLx : Hid (∀ w5 : World, Below w.heap.size w w5 → Calls Tryz.prog 31 #[.slice r3 c.globals.length c3] w5 fun e w' => LentR 9 1 c.globals.length (c.globals.map S ++ [S ownT, S ownT]) w5.heap.size e w' ∧ Below w5.heap.size w5 w') := fun w5 h5 => lentX_any _ _ _ w5 (hx1.below h5) z3
  obtain ⟨b, o, h1, h2⟩ := PR.at hp1
  have H1 : Hid (c.procs.length ≠ 0 → r2 = some ⟨b, o, none⟩) := h1
  have H2 : Hid (∀ (j : Nat) (x : Prc), c.procs[j]? = some x → b < w.heap.size ∧ w.cell? ⟨b, o + j * 2, none⟩ = some (.int .i64 x.params) ∧ (∃ rc cc, w.cell? ⟨b, o + j * 2 + 1, none⟩ = some (.slice rc x.code.length cc) ∧ NR w rc x.code) ∧ x.code.length ≤ maxLen) := h2
  have HK : Hid (∀ p ∈ c.procs, p.code.length ≤ 1000000000) := hk
  clear h1 h2 hw1 hp1 hx1 hl1 hk
  go_enter Tryz.func9, Tryz.ntmps9
  go_wp2_with (at_make; refine stop_of ?_)
  unfold Hid
  generalize ((w.alloc (CO (.slice r1 c.consts.length c1) (.slice r2 c.procs.length c2) (.slice r3 c.globals.length c3))).alloc ZC) = W2 at *
  have hws : W2.heap.size = w.heap.size + 2 := HS.out
  refine wpList_make_own _ rfl _ _ 23 rfl (w.heap.size + 2) 64 i0 (.agg #[.int .i64 0, .slice none 0 0]) 2 Tryz.underlying23 hi0 hz0 hz1 .i64 .i64 _ (c.procs.length + 1) rfl rfl (by first | rfl | omega) (by rw [hz2]; omega) (by unfold maxLen; omega) (by omega) ?_
  intro w0 hown0 hgrow0
  rw [hws] at hown0 ⊢
  have HB0 : Hid (Below (w.heap.size + 2) W2 w0) := (Below.refl _ W2).grown hgrow0 (by omega) (fun k hk => by cases hk)
  have HO0 : Hid (w0.ownsRow (w.heap.size + 2) 64 2 (.slice (some ⟨w.heap.size + 2, 0, none⟩) 0 (c.procs.length + 1)) 0 []) := hown0
  clear hown0 hgrow0 hws
  go_wp2
  go_loopw [3, 4] (fun x i wr => ∃ (j : Nat) (vs : List Value), x = .slice (some ⟨w.heap.size + 2, 0, none⟩) j (c.procs.length + 1) ∧ i = .int .i64 j ∧ j ≤ c.procs.length ∧ Hid (wr.ownsRow (w.heap.size + 2) 64 2 (.slice (some ⟨w.heap.size + 2, 0, none⟩) j (c.procs.length + 1)) j (prcCells (c.procs.take j) vs)) ∧ Hid (LP wr (w.heap.size + 3) (c.procs.take j) vs) ∧ Hid (Below (w.heap.size + 2) W2 wr)) (fun _ i _ => c.procs.length - (intOf i).toNat)
  case atStart => exact ⟨0, [], rfl, rfl, Nat.zero_le _, HO0, ⟨rfl, fun j p v h _ => by simp at h⟩, HB0⟩
  case round =>
    obtain ⟨j, vs, rfl, rfl, hj, HO, HP, HB⟩ := hrel
    have hs2 : w.heap.size + 2 ≤ wr.heap.size := by have := HB.out.size; have := HS.out; omega
    have hq0 : wr.heap[w.heap.size]? = some (CO (.slice r1 c.consts.length c1) (.slice r2 c.procs.length c2) (.slice r3 c.globals.length c3)) := (HB.out.block _ (by omega)).trans HQ0.out
    have y1 : wr.cell? ⟨w.heap.size, 1, none⟩ = some (.slice r2 c.procs.length c2) := heap_cell hq0 rfl
    have HBw : Hid (Below w.heap.size w wr) := HB2.out.trans (HB.out.mono (by omega))
    have y2 : w.heap.size < wr.heap.size := by omega
    have lt0 := (HO.out.lt (w.heap.size + 2) rfl).2
    by_cases hlt : j < c.procs.length
    · have i1 : (j : Int) < (c.procs.length : Int) := by omega
      have hra := H1.out (by omega)
      subst hra
      obtain ⟨x, hx⟩ : ∃ x, c.procs[j]? = some x := ⟨_, List.getElem?_eq_getElem hlt⟩
      obtain ⟨hb0, hc0, ⟨rc, cc, hc1, hnr⟩, _⟩ := H2.out j x hx
      have f0 := (HBw.out.cell (p := ⟨b, o + j * 2, none⟩) hb0).trans hc0
      have f1 := (HBw.out.cell (p := ⟨b, o + j * 2 + 1, none⟩) hb0).trans hc1
      have f2 : b < wr.heap.size := Nat.lt_of_lt_of_le hb0 HBw.out.size
      have hxl := HK.out x (List.mem_of_getElem? hx)
      have HLn : Hid (∀ w5 : World, Below w.heap.size w w5 → Calls Tryz.prog 29 #[.slice rc x.code.length cc] w5 fun e w' => LentR 79 2 x.code.length (insCells x.code ++ insM) w5.heap.size e w' ∧ Below w5.heap.size w5 w') := fun w5 h5 => lentN_any _ _ _ w5 (hnr.below h5) hxl
      have HX : Hid (c.procs[j]? = some x) := hx
      have hbn : b < w.heap.size := hb0
      clear hx hb0 hc0 hc1 hnr hq0
      have hmx : Tryz.prog.follows .mixedOrders = true := by kernel_rfl
      go_wp2_with fail
      go_region_held3 (fun wx => wx.cell? ⟨w.heap.size, 1, none⟩ = some (.slice (some ⟨b, o, none⟩) c.procs.length c2) ∧ wx.cell? ⟨b, o + j * 2, none⟩ = some (.int .i64 x.params) ∧ wx.cell? ⟨b, o + j * 2 + 1, none⟩ = some (.slice rc x.code.length cc)) (first | go_keep | exact ⟨hS1.1, hS1.2.1, hS1.2.2.1⟩ | exact ⟨hS2.1, hS2.2.1, hS2.2.2.1⟩)
        (first | (go_at_call 29; refine (HLn.out _ HBw.out.drew).mono ?_; rintro e w1 ⟨⟨g, rfl, ho⟩, hb1⟩; have hb1' : Below wr.heap.size wr w1 := (Below.refl _ wr).drew.trans hb1; have hS1 := keepLC hb1' ⟨y1, f0, f1, y2, f2⟩) | (refine step_append_fits _ rfl _ _ 23 rfl (w.heap.size + 2) 64 i0 2 Tryz.underlying23 hi0 hz1 (w.heap.size + 2) j (c.procs.length + 1) (prcCells (c.procs.take j) vs) rfl ((own_same HO.out (fun g hg => hb1'.block g (HO.out.lt g hg).2)).alloc _) ⟨w1.heap.size, 0, none⟩ 1 1 [.int .i64 x.params, .slice (some ⟨g, 0, none⟩) x.code.length (x.code.length + 2)] rfl rfl (fun j u hu => by rw [ad_add, Nat.zero_add]; exact new_cell _ #[.int .i64 x.params, .slice (some ⟨g, 0, none⟩) x.code.length (x.code.length + 2)] _ j u hu) (fun u hu => by simp at hu; rcases hu with rfl | rfl <;> rfl) (by omega) ?_; intro w2 hown2 hgr2; have hS2 := keepLG hgr2 (by omega) (by omega) (keepLC ((Below.refl _ w1).alloc (Nat.le_refl _) _) hS1)))
      all_goals
        have hk12 : ∀ g', w.heap.size + 3 ≤ g' → g' < w1.heap.size → w2.heap[g']? = w1.heap[g']? := fun g' h1 h2 => (hgr2.block g' (by rw [World.size_alloc]; omega) (fun e => by have := Option.some.inj e; omega)).trans (Below.heap_alloc _ _ _ h2)
        have e1 : c.procs.take (j + 1) = c.procs.take j ++ [x] := by rw [List.take_add_one, HX.out]; rfl
        have ho' : w1.ownsRow (w.heap.size + 3) 79 2 (.slice (some ⟨g, 0, none⟩) (x.code.length + 2) (x.code.length + 2)) (x.code.length + 2) (insCells x.code ++ insM) := own_mono ho lt0
        have hP1 : LP w1 (w.heap.size + 3) (c.procs.take j) vs := HP.out.kept (fun g' _ h2 => hb1'.block g' h2)
        have HP2 : Hid (LP w2 (w.heap.size + 3) (c.procs.take (j + 1)) (vs ++ [.slice (some ⟨g, 0, none⟩) x.code.length (x.code.length + 2)])) := by
          show LP _ _ _ _
          rw [e1]
          exact (hP1.snoc ho').kept hk12
        have HO2 : Hid (w2.ownsRow (w.heap.size + 2) 64 2 (.slice (some ⟨w.heap.size + 2, 0, none⟩) (j + 1) (c.procs.length + 1)) (j + 1) (prcCells (c.procs.take (j + 1)) (vs ++ [.slice (some ⟨g, 0, none⟩) x.code.length (x.code.length + 2)]))) := by
          show World.ownsRow ..
          rw [e1, prcCells_snoc _ _ _ _ HP.out.len]
          exact hown2
        have HBf : Hid (Below (w.heap.size + 2) W2 w2) := HB.out.trans ((hb1'.mono hs2).trans (((Below.refl _ w1).alloc (by have := hb1'.size; omega) _).trans (grown_below hgr2 (Nat.le_refl _) (by rw [World.size_alloc]; have := hb1'.size; omega))))
        clear hS1 hS2 hown2 hgr2 ho ho' hP1 hk12 e1 hb1 hb1'
        go_wp2_with fail
        go_roundw
        case rel => exact ⟨j + 1, _, rfl, by go_num, by omega, HO2, HP2, HBf⟩
        case measure => simp [intOf]; omega
    · have i1 : ¬ (j : Int) < (c.procs.length : Int) := by omega
      have hje : j = c.procs.length := by omega
      subst hje
      have HO' : Hid (wr.ownsRow (w.heap.size + 2) 64 2 (.slice (some ⟨w.heap.size + 2, 0, none⟩) c.procs.length (c.procs.length + 1)) c.procs.length (prcCells c.procs vs)) := by
        have := HO.out; rwa [List.take_length] at this
      have HP' : Hid (LP wr (w.heap.size + 3) c.procs vs) := by
        have := HP.out; rwa [List.take_length] at this
      clear HO HP hlt hj
      go_wp2_with (at_builtin; refine stop_of ?_)
      unfold Hid
      refine wpList_append_fits _ rfl _ _ 23 rfl (w.heap.size + 2) 64 i0 2 Tryz.underlying23 hi0 hz1 (w.heap.size + 2) c.procs.length (c.procs.length + 1) (prcCells c.procs vs) rfl (HO'.out.alloc _) ⟨wr.heap.size, 0, none⟩ 1 1 [.int .i64 (-77), .slice none 0 0] rfl rfl (fun j u hu => by rw [ad_add, Nat.zero_add]; exact new_cell _ #[.int .i64 (-77), .slice none 0 0] _ j u hu) (fun u hu => by simp at hu; rcases hu with rfl | rfl <;> rfl) (Nat.le_refl _) ?_
      intro w2 hown2 hgr2
      have HO2 : Hid (w2.ownsRow (w.heap.size + 2) 64 2 (.slice (some ⟨w.heap.size + 2, 0, none⟩) (c.procs.length + 1) (c.procs.length + 1)) (c.procs.length + 1) (prcCells c.procs vs ++ [.int .i64 (-77), .slice none 0 0])) := hown2
      have HP2 : Hid (LP w2 (w.heap.size + 3) c.procs vs) := HP'.out.kept (fun g' h1 h2 => (hgr2.block g' (by rw [World.size_alloc]; omega) (fun e => by have := Option.some.inj e; omega)).trans (Below.heap_alloc _ _ _ h2))
      have HB3 : Hid (Below (w.heap.size + 2) W2 w2) := HB.out.trans (((Below.refl _ wr).alloc (by omega) _).trans (grown_below hgr2 (Nat.le_refl _) (by rw [World.size_alloc]; omega)))
      have HB4 : Hid (Below w.heap.size w w2) := HB2.out.trans (HB3.out.mono (by omega))
      have hs3 : w.heap.size + 2 ≤ w2.heap.size := by have := HB3.out.size; have := HS.out; omega
      have HR0 : Hid (w2.heap[w.heap.size]? = some (CO (.slice r1 c.consts.length c1) (.slice r2 c.procs.length c2) (.slice r3 c.globals.length c3))) := (HB3.out.block _ (by omega)).trans HQ0.out
      have HR1 : Hid (w2.heap[w.heap.size + 1]? = some ZC) := (HB3.out.block _ (by omega)).trans HQ1.out
      have x0 : w2.cell? ⟨w.heap.size, 0, none⟩ = some (.slice r1 c.consts.length c1) := heap_cell HR0.out rfl
      have x1 : w2.cell? ⟨w.heap.size, 1, none⟩ = some (.slice r2 c.procs.length c2) := heap_cell HR0.out rfl
      have x2 : w2.cell? ⟨w.heap.size, 2, none⟩ = some (.slice r3 c.globals.length c3) := heap_cell HR0.out rfl
      have HW2 : Hid (∀ w5 : World, Below w2.heap.size w2 w5 → (w5.cell? ⟨w.heap.size, 0, none⟩ = some (.slice r1 c.consts.length c1) ∧ w5.cell? ⟨w.heap.size, 1, none⟩ = some (.slice r2 c.procs.length c2) ∧ w5.cell? ⟨w.heap.size, 2, none⟩ = some (.slice r3 c.globals.length c3)) ∧ w5.heap[w.heap.size + 1]? = some ZC ∧ Below w.heap.size w w5) := fun w5 h5 => by
        have hr := (h5.block _ (by omega)).trans HR0.out
        exact ⟨⟨heap_cell hr rfl, heap_cell hr rfl, heap_cell hr rfl⟩, (h5.block _ (by omega)).trans HR1.out, HB4.out.trans (h5.mono HB4.out.size)⟩
      have hmx : Tryz.prog.follows .mixedOrders = true := by kernel_rfl
      have i9 : (c.procs.length : Int) ≤ (c.procs.length : Int) + 1 := by omega
      clear hown2 hgr2 HO' HP' HB hs2 lt0 y1 y2 HBw i1
      go_wp2_with fail
      go_region_held3 (fun wx => wx.cell? ⟨w.heap.size, 0, none⟩ = some (.slice r1 c.consts.length c1) ∧ wx.cell? ⟨w.heap.size, 1, none⟩ = some (.slice r2 c.procs.length c2) ∧ wx.cell? ⟨w.heap.size, 2, none⟩ = some (.slice r3 c.globals.length c3)) (first | go_keep | exact hSb | exact hSa)
        (first | (go_at_call 30; (first | (refine (HLw.out _ (HB4.out.trans (hbb'.mono HB4.out.size))).mono ?_; rintro e wa ⟨⟨ga, rfl, hoa⟩, hba⟩; have hba' : Below w2.heap.size w2 wa := hbb'.trans (hba.mono hbb'.size)) | (refine (HLw.out _ HB4.out.drew).mono ?_; rintro e wa ⟨⟨ga, rfl, hoa⟩, hba⟩; have hba' : Below w2.heap.size w2 wa := (Below.refl _ w2).drew.trans hba)); obtain ⟨hSa, hRa, hEa⟩ := HW2.out wa hba'; obtain ⟨z0, z1, z2, zf⟩ := cells3z hRa; have zf0 := zf 0; have zf1 := zf 1; have zf2 := zf 2)
               | (go_at_call 31; (first | (refine (HLx.out _ (HB4.out.trans (hba'.mono HB4.out.size))).mono ?_; rintro e wb ⟨⟨gb, rfl, hob⟩, hbb⟩; have hbb' : Below w2.heap.size w2 wb := hba'.trans (hbb.mono hba'.size)) | (refine (HLx.out _ HB4.out.drew).mono ?_; rintro e wb ⟨⟨gb, rfl, hob⟩, hbb⟩; have hbb' : Below w2.heap.size w2 wb := (Below.refl _ w2).drew.trans hbb)); obtain ⟨hSb, hRb, hEb⟩ := HW2.out wb hbb'; obtain ⟨z0, z1, z2, zf⟩ := cells3z hRb; have zf0 := zf 0; have zf1 := zf 1; have zf2 := zf 2))
      all_goals first
        | (have fin := lent_end (c := c) (vs := vs) (w0 := w) (wz := wb) (ga := ga) (gb := gb) (b1 := _) (b3 := _) hRb (own_same hoa (fun g hg => hbb.block g (hoa.lt g hg).2)) (own_same HO2.out (fun g hg => hbb'.block g (HO2.out.lt g hg).2)) hob (HP2.out.kept (fun g' _ h2 => hbb'.block g' h2)) hEb (by first | exact hs3 | exact Nat.le_trans hs3 hba'.size | exact Nat.le_trans hs3 hbb'.size) (by first | exact hs3 | exact Nat.le_trans hs3 hba'.size | exact Nat.le_trans hs3 hbb'.size)
           obtain ⟨q0, q1, q2, hL, hB⟩ := fin
           have HL : Hid _ := hL
           have HBe : Hid _ := hB
           clear hL hB hSa hSb hoa hob hba hbb hba' hbb' hRa hRb hEa hEb zf zf0 zf1 zf2 z0 z1 z2
           generalize (((wb.setCell ⟨w.heap.size + 1, 0, none⟩ (.slice (some ⟨ga, 0, none⟩) c.consts.length (c.consts.length + 2))).setCell ⟨w.heap.size + 1, 1, none⟩ (.slice (some ⟨w.heap.size + 2, 0, none⟩) c.procs.length (c.procs.length + 1))).setCell ⟨w.heap.size + 1, 2, none⟩ (.slice (some ⟨gb, 0, none⟩) c.globals.length (c.globals.length + 2))) = wE at *
           go_wp2
           exact bodyPost_ret (v := .agg #[.slice (some ⟨ga, 0, none⟩) c.consts.length (c.consts.length + 2), .slice (some ⟨w.heap.size + 2, 0, none⟩) c.procs.length (c.procs.length + 1), .slice (some ⟨gb, 0, none⟩) c.globals.length (c.globals.length + 2)]) (by simp [results, Tryz.results9, go_sem, q0, q1, q2]) rfl ⟨_, rfl, HL.out, HBe.out⟩)
        | (have fin := lent_end (c := c) (vs := vs) (w0 := w) (wz := wa) (ga := ga) (gb := gb) (b1 := _) (b3 := _) hRa hoa (own_same HO2.out (fun g hg => hba'.block g (HO2.out.lt g hg).2)) (own_same hob (fun g hg => hba.block g (hob.lt g hg).2)) (HP2.out.kept (fun g' _ h2 => hba'.block g' h2)) hEa (by first | exact hs3 | exact Nat.le_trans hs3 hba'.size | exact Nat.le_trans hs3 hbb'.size) (by first | exact hs3 | exact Nat.le_trans hs3 hba'.size | exact Nat.le_trans hs3 hbb'.size)
           obtain ⟨q0, q1, q2, hL, hB⟩ := fin
           have HL : Hid _ := hL
           have HBe : Hid _ := hB
           clear hL hB hSa hSb hoa hob hba hbb hba' hbb' hRa hRb hEa hEb zf zf0 zf1 zf2 z0 z1 z2
           generalize (((wa.setCell ⟨w.heap.size + 1, 0, none⟩ (.slice (some ⟨ga, 0, none⟩) c.consts.length (c.consts.length + 2))).setCell ⟨w.heap.size + 1, 1, none⟩ (.slice (some ⟨w.heap.size + 2, 0, none⟩) c.procs.length (c.procs.length + 1))).setCell ⟨w.heap.size + 1, 2, none⟩ (.slice (some ⟨gb, 0, none⟩) c.globals.length (c.globals.length + 2))) = wE at *
           go_wp2
           exact bodyPost_ret (v := .agg #[.slice (some ⟨ga, 0, none⟩) c.consts.length (c.consts.length + 2), .slice (some ⟨w.heap.size + 2, 0, none⟩) c.procs.length (c.procs.length + 1), .slice (some ⟨gb, 0, none⟩) c.globals.length (c.globals.length + 2)]) (by simp [results, Tryz.results9, go_sem, q0, q1, q2]) rfl ⟨_, rfl, HL.out, HBe.out⟩)
end Go.Proofs.YtpkohocjgnodnaaGreatDoor
