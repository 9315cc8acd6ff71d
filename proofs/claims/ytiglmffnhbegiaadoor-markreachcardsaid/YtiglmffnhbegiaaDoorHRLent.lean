/- Lists that are lent: ints, words. -/
import Derived.Test.YtiglmffnhbegiaaDoorHRScan
import Derived.OwnWalk
namespace Go.Proofs.YtiglmffnhbegiaaDoor
open Go.RowKit

/-- append within the capacity, whatever is appended. -/
theorem wpList_append_room0 {P : Program} (w : World) {ops : Array Oper} {rest : List Oper} {o : Oper} {a : Act} {Q : Exit → Act → World → Prop}
    (hg : o.guard = none) (s x : Operand) (t : TypeId) (hop : o.op = Op.call { callee := Callee.builtin Builtin.append, args := #[s, x], argTypes := #[t, t] })
    (base : Nat) (e : TypeId) (i : TypeInfo) (size : Nat) (h1 : P.underlying t = some (.slice e)) (h2 : P.info? e = some i) (h4 : i.size = size)
    (g k cap : Nat) (xs : List Value) (hs : a.eval s = .slice (some ⟨g, 0, none⟩) k cap) (hown : w.ownsRow base e size (.slice (some ⟨g, 0, none⟩) k cap) k xs) (ao : Option Addr) (m c : Nat) (news : List Value) (hx : a.eval x = .slice ao m c) (hn : news.length = m * size)
    (hnone : ao = none → m = 0) (hc : ∀ ad, ao = some ad → ∀ j u, news[j]? = some u → w.cell? (ad.add j) = some u) (h1c : ∀ u ∈ news, u.oneCell' = true) (b1 : k + m ≤ cap)
    (hK : ∀ w', w'.ownsRow base e size (.slice (some ⟨g, 0, none⟩) (k + m) cap) (k + m) (xs ++ news) → w.grownBy w' (some g) → wpList P ops Q rest (a.put o.dst (.slice (some ⟨g, 0, none⟩) (k + m) cap)) w') :
    wpList P ops Q (o :: rest) a w := by
  cases ao with
  | some ad => exact wpList_append_fits w hg s x t hop base e i size h1 h2 h4 g k cap xs hs hown ad m c news hx hn (hc ad rfl) h1c b1 hK
  | none =>
    obtain rfl := hnone rfl
    have hnews : news = [] := List.eq_nil_of_length_eq_zero (by simpa using hn)
    subst hnews
    refine wpList_plain hg fun K hK' => ?_
    have hrun := run_append_nil0 (P := P) w base t o.type e i size h1 h2 _ k c xs hown
    unfold Oper.wp
    simp [execOp, hop, resolve, invoke, builtin, hs, hx, hrun, Result.andThen]
    exact hK' _ _ (by simpa using hK w (by simpa using hown) (World.grownBy.refl _ _))

theorem grown_below {w w' : World} {row B : Nat} (h : w.grownBy w' (some row)) (hB : B ≤ row) (hs : B ≤ w.heap.size) : Below B w w' := (Below.refl B w).grown h hs (fun k hk => by cases hk; exact hB)
/-- A lent list. -/
def LentR (T sz n : Nat) (cells : List Value) (B : Nat) (e : Ending) (w' : World) : Prop := ∃ g, e = .returned (.slice (some ⟨g, 0, none⟩) n (n + 2)) ∧ w'.ownsRow B T sz (.slice (some ⟨g, 0, none⟩) (n + 2) (n + 2)) (n + 2) cells
theorem infoWd : (Tryd.prog.info? 29).map (fun i => (i.zero, i.size, i.bytes)) = some (some (.int .u64 0), 1, 8) := by kernel_rfl
set_option maxRecDepth 100000 in
set_option maxHeartbeats 4000000 in
theorem sameW_any (l m : List Int) (ra rb : Option Addr) (ca cb : Nat) (w : World) (hl : l.length ≤ maxLen) (_ : m.length ≤ maxLen) (hR : RX (Value.int .u64) w ra l) (hS : RX (Value.int .u64) w rb m) :
    Calls Tryd.prog 78 #[.slice ra l.length ca, .slice rb m.length cb] w fun e w' => e = .returned (.bool (decide (l = m))) ∧ Below w.heap.size w w' := by
  unfold maxLen at hl
  by_cases hlen : l.length = m.length
  · obtain ⟨b, o, h1, h2⟩ := RX.at hR
    obtain ⟨b', o', h1', h2'⟩ := RX.at hS
    rw [← hlen] at h1' ⊢
    have H1 : Hid _ := h1
    have H2 : Hid _ := h2
    have H1' : Hid _ := h1'
    have H2' : Hid _ := h2'
    have Hlen : Hid (l.length = m.length) := hlen
    have z : ((l.length : Int) == (l.length : Int)) = true := by simp
    clear h1 h2 h1' h2' hR hS hlen
    go_enter Tryd.func78, Tryd.ntmps78
    go_wp2
    go_loopw [5] (fun i wr => ∃ j : Nat, i = .int .i64 j ∧ j ≤ l.length ∧ Hid (l.take j = m.take j) ∧ Hid (Below w.heap.size w wr)) (fun i _ => l.length - (intOf i).toNat)
    case atStart => exact ⟨0, rfl, Nat.zero_le _, by show _ = _; simp, Below.refl _ _⟩
    case round =>
      obtain ⟨j, rfl, hj, HN, HW⟩ := hrel
      by_cases hlt : j < l.length
      · have i1 : (j : Int) < (l.length : Int) := by omega
        have hra := H1.out (by omega)
        subst hra
        have hrb := H1'.out (by omega)
        subst hrb
        obtain ⟨x, hx⟩ : ∃ x, l[j]? = some x := ⟨_, List.getElem?_eq_getElem hlt⟩
        obtain ⟨y, hy⟩ : ∃ y, m[j]? = some y := ⟨_, List.getElem?_eq_getElem (by rw [← Hlen.out]; exact hlt)⟩
        obtain ⟨hb, hc⟩ := H2.out j x hx
        obtain ⟨hb', hc'⟩ := H2'.out j y hy
        have f1 : wr.cell? ⟨b, o + j, none⟩ = some (.int .u64 x) := (HW.out.cell (p := ⟨b, o + j, none⟩) hb).trans hc
        have f2 : wr.cell? ⟨b', o' + j, none⟩ = some (.int .u64 y) := (HW.out.cell (p := ⟨b', o' + j, none⟩) hb').trans hc'
        have f3 : b < wr.heap.size := Nat.lt_of_lt_of_le hb HW.out.size
        have f4 : b' < wr.heap.size := Nat.lt_of_lt_of_le hb' HW.out.size
        have HX : Hid (l[j]? = some x) := hx
        have HY : Hid (m[j]? = some y) := hy
        clear hx hy hb hc hb' hc'
        by_cases he : x = y
        · subst he
          have z2 : (x == x) = true := by simp
          go_wp2_with fail
          go_quiet (fail)
          go_wp2
          go_roundw
          case rel =>
            refine ⟨j + 1, by go_num, by omega, ?_, below_drewM HW.out _⟩
            show _ = _
            rw [List.take_add_one, List.take_add_one, HN.out, HX.out, HY.out]
          case measure => simp [intOf]; omega
        · have HE : Hid (decide (l = m) = false) := decide_eq_false (eq_drop Hlen.out HX.out HY.out he)
          have z2 : (x == y) = false := by simpa using he
          clear he
          go_wp2_with fail
          go_quiet (fail)
          go_wp2
          go_ret
          exact ⟨by rw [HE.out]; rfl, below_drewM HW.out _⟩
      · have i1 : ¬ (j : Int) < (l.length : Int) := by omega
        have HE : Hid (decide (l = m) = true) := decide_eq_true (eq_of_take Hlen.out hlt HN.out)
        go_wp2
        go_ret
        exact ⟨by rw [HE.out]; rfl, HW.out⟩
  · have HE : Hid (decide (l = m) = false) := decide_eq_false (fun e => hlen (by rw [e]))
    have z : ((l.length : Int) == (m.length : Int)) = false := by simp; omega
    clear hlen hR hS
    go_enter Tryd.func78, Tryd.ntmps78
    go_wp2
    go_ret
    exact ⟨by rw [HE.out]; rfl, Below.refl _ _⟩
set_option maxRecDepth 100000 in
set_option maxHeartbeats 4000000 in
theorem lentI_any (l : List Int) (ra : Option Addr) (ca : Nat) (w : World) (hR : RX (Value.int .i64) w ra l) (hl : l.length ≤ 1000000) :
    Calls Tryd.prog 30 #[.slice ra l.length ca] w fun e w' => LentR 3 1 l.length (l.map (Value.int .i64) ++ [.int .i64 (-771), .int .i64 (-772)]) w.heap.size e w' ∧ Below w.heap.size w w' := by
  obtain ⟨i0, hi0, hz0, hz1, hz2⟩ := info_parts infoI
  obtain ⟨b, o, h1', h2⟩ := hR
  have h1 : l.length ≠ 0 → ra = some ⟨b, o, none⟩ := fun q => h1'.resolve_left q
  have HN : Hid (ra = none → l.length = 0) := fun h => by
    rcases Nat.eq_zero_or_pos l.length with h0 | h0
    · exact h0
    · rw [h1 (by omega)] at h; cases h
  have HC : Hid (∀ w5 : World, Below w.heap.size w w5 → ∀ ad, ra = some ad → ∀ j u, (l.map (Value.int .i64))[j]? = some u → w5.cell? (ad.add j) = some u) := fun w5 h5 ad had j u hu => by
    rw [List.getElem?_map] at hu
    cases hx : l[j]? with
    | none => rw [hx] at hu; cases hu
    | some x =>
      rw [hx] at hu
      cases hu
      obtain ⟨g1, g2⟩ := h2 j x hx
      have := h1 (by have := (List.getElem?_eq_some_iff.1 hx).1; omega)
      rw [this] at had
      cases had
      rw [ad_add]
      exact (h5.cell (p := ⟨b, o + j, none⟩) g1).trans g2
  have HU : Hid (∀ u ∈ l.map (Value.int .i64), u.oneCell' = true) := fun u hu => by
    obtain ⟨x, _, rfl⟩ := List.mem_map.1 hu
    rfl
  have HLn : Hid ((l.map (Value.int .i64)).length = l.length * 1) := by show _ = _; simp
  clear h1 h1' h2
  go_enter Tryd.func30, Tryd.ntmps30
  go_wp2_with (first | (at_make; refine wpList_make_own _ rfl _ _ 26 rfl w.heap.size 3 i0 (.int .i64 0) 1 Tryd.underlying26 hi0 hz0 hz1 .i64 .i64 _ (l.length + 2) rfl rfl (by first | rfl | omega) (by rw [hz2]; omega) (by unfold maxLen; omega) (Nat.le_refl _) ?_; intro w0 hown0 hgrow0; have HB0 : Hid (Below w.heap.size w w0) := (Below.refl _ w).grown hgrow0 (Nat.le_refl _) (fun k hk => by cases hk); have HO0 : Hid (w0.ownsRow w.heap.size 3 1 (.slice (some ⟨w.heap.size, 0, none⟩) 0 (l.length + 2)) 0 []) := hown0; clear hown0 hgrow0) | (at_builtin; refine stop_of ?_))
  unfold Hid
  refine wpList_append_room0 _ rfl _ _ 26 rfl w.heap.size 3 i0 1 Tryd.underlying26 hi0 hz1 w.heap.size 0 (l.length + 2) [] rfl HO0.out ra l.length ca (l.map (Value.int .i64)) rfl HLn.out HN.out (HC.out w0 HB0.out) HU.out (by omega) ?_
  intro w1 hown1 hgr1
  rw [Nat.zero_add, List.nil_append] at hown1
  have HB1 : Hid (Below w.heap.size w w1) := HB0.out.trans (grown_below hgr1 (Nat.le_refl _) HB0.out.size)
  have HO1 : Hid (w1.ownsRow w.heap.size 3 1 (.slice (some ⟨w.heap.size, 0, none⟩) l.length (l.length + 2)) l.length (l.map (Value.int .i64))) := hown1
  clear hown1 hgr1 HO0 HB0
  rw [Nat.zero_add]
  go_wp2_with (at_builtin; refine stop_of ?_)
  unfold Hid
  refine wpList_append_room0 _ rfl _ _ 26 rfl w.heap.size 3 i0 1 Tryd.underlying26 hi0 hz1 w.heap.size l.length (l.length + 2) (l.map (Value.int .i64)) rfl (HO1.out.alloc _) (some ⟨w1.heap.size, 0, none⟩) 2 2 [.int .i64 (-771), .int .i64 (-772)] rfl rfl (fun h => by cases h) (fun ad had j u hu => ?_) (fun u hu => ?_) (Nat.le_refl _) ?_
  · cases had
    rw [ad_add, Nat.zero_add]
    exact new_cell _ #[.int .i64 (-771), .int .i64 (-772)] _ j u hu
  · simp only [List.mem_cons, List.not_mem_nil, or_false] at hu
    rcases hu with rfl | rfl <;> rfl
  intro w2 hown2 hgr2
  have HB2 : Hid (Below w.heap.size w w2) := HB1.out.trans (((Below.refl _ w1).alloc HB1.out.size _).trans (grown_below hgr2 (Nat.le_refl _) (by rw [World.size_alloc]; have := HB1.out.size; omega)))
  have HO2 : Hid (w2.ownsRow w.heap.size 3 1 (.slice (some ⟨w.heap.size, 0, none⟩) (l.length + 2) (l.length + 2)) (l.length + 2) (l.map (Value.int .i64) ++ [.int .i64 (-771), .int .i64 (-772)])) := hown2
  clear hown2 hgr2 HO1 HB1
  go_wp2
  go_ret
  exact ⟨⟨w.heap.size, rfl, HO2.out⟩, HB2.out⟩
/-- A lent list. -/
abbrev LenI (w : World) (B g : Nat) (l : List Int) : Prop := w.ownsRow B 3 1 (.slice (some ⟨g, 0, none⟩) (l.length + 2) (l.length + 2)) (l.length + 2) (l.map (Value.int .i64) ++ [.int .i64 (-771), .int .i64 (-772)])
theorem lenI_at {w : World} {B g : Nat} {l : List Int} (h : LenI w B g l) : (∀ (j : Nat) (x : Int), l[j]? = some x → w.cell? ⟨g, j, none⟩ = some (.int .i64 x)) ∧ w.cell? ⟨g, l.length, none⟩ = some (.int .i64 (-771)) ∧ w.cell? ⟨g, l.length + 1, none⟩ = some (.int .i64 (-772)) ∧ g < w.heap.size ∧ DR w 3 g (l.length + 2) (fun _ _ => True) := by
  obtain ⟨cs, h1, h2, _, _, _, _, h7⟩ := own_out h
  refine ⟨fun j x hx => heap_cell h1 (h7 j _ ?_), heap_cell h1 (h7 _ _ ?_), heap_cell h1 (h7 _ _ ?_), heap_lt h1, cs, h1, by omega, fun _ _ _ => trivial⟩
  · rw [List.getElem?_append_left (by rw [List.length_map]; exact (List.getElem?_eq_some_iff.1 hx).1), List.getElem?_map, hx]; rfl
  · rw [List.getElem?_append_right (by simp)]; simp
  · rw [List.getElem?_append_right (by simp)]; simp
theorem lenI_rx {w : World} {B g : Nat} {l : List Int} (h : LenI w B g l) : RX (Value.int .i64) w (some ⟨g, 0, none⟩) l := ⟨g, 0, .inr rfl, fun j x hx => ⟨(lenI_at h).2.2.2.1, by rw [Nat.zero_add]; exact (lenI_at h).1 j x hx⟩⟩
set_option maxRecDepth 100000 in
set_option maxHeartbeats 8000000 in
theorem wholeI_any (l : List Int) (g B : Nat) (rb : Option Addr) (cb : Nat) (w : World) (hl : l.length ≤ 1000000) (h : LenI w B g l) (hR : RX (Value.int .i64) w rb l) :
    Calls Tryd.prog 33 #[.slice (some ⟨g, 0, none⟩) l.length (l.length + 2), .slice rb l.length cb] w fun e w' => e = .returned (.bool true) ∧ Below w.heap.size w w' := by
  have HS : Hid _ := sameI_any l l (some ⟨g, 0, none⟩) rb (l.length + 2) cb w (by unfold maxLen; omega) (by unfold maxLen; omega) (lenI_rx h) hR
  rw [decide_eq_true rfl] at HS
  obtain ⟨_, m0, m1, lg, _⟩ := lenI_at h
  clear h hR
  go_enter Tryd.func33, Tryd.ntmps33
  go_wp2_with fail
  refine Calls.mono HS.out ?_
  rintro e w1 ⟨rfl, hb⟩
  have HB : Hid (Below w.heap.size w w1) := hb
  clear hb HS
  go_wp2
  go_ret
  exact ⟨rfl, HB.out⟩
structure SpI (w wr : World) (g n : Nat) : Prop where
  d : DR wr 3 g n (fun _ _ => True)
  f : Fr (fun k => k ≠ g) w wr
set_option maxRecDepth 100000 in
set_option maxHeartbeats 8000000 in
theorem spoilI_any (n g : Nat) (w : World) (hl : n ≤ 1000000) (hD : DR w 3 g (n + 2) (fun _ _ => True)) :
    Calls Tryd.prog 34 #[.slice (some ⟨g, 0, none⟩) n (n + 2)] w fun e w' => e = .returned (.tuple #[]) ∧ Fr (fun k => k ≠ g) w w' := by
  have H0 : Hid (SpI w w g (n + 2)) := ⟨hD, Fr.refl _ _⟩
  clear hD
  go_enter Tryd.func34, Tryd.ntmps34
  go_wp2_with fail
  go_loopw [3] (fun i wr => ∃ j : Nat, i = .int .i64 j ∧ j ≤ n + 2 ∧ Hid (SpI w wr g (n + 2))) (fun i _ => n + 2 - (intOf i).toNat)
  case atStart => exact ⟨0, rfl, Nat.zero_le _, H0⟩
  case round =>
    clear H0
    obtain ⟨j, rfl, hj, HI⟩ := hrel
    by_cases hjl : j < n + 2
    · have k1 : (j : Int) < (n : Int) + 2 := by omega
      have k2 : (j : Int) < ((n + 2 : Nat) : Int) := by omega
      obtain ⟨u, hu, _⟩ := HI.out.d.cell hjl
      have hf := HI.out.d.fz j
      have lg := HI.out.d.lt
      have HE : Hid (SpI w (wr.setCell ⟨g, j, none⟩ (.int .i64 (-5))) g (n + 2)) := ⟨HI.out.d.set (fun _ _ _ _ => trivial) trivial, HI.out.f.trans fr_one⟩
      go_wp2_with fail
      refine ⟨⟨j + 1, by go_num, by omega, HE⟩, by simp [intOf]; omega⟩
    · have e : j = n + 2 := by omega
      subst e
      have k1 : ¬ (((n + 2 : Nat) : Int) < (n : Int) + 2) := by omega
      have k2 : ¬ (((n + 2 : Nat) : Int) < ((n + 2 : Nat) : Int)) := by omega
      go_wp2_with fail
      go_end0
      exact ⟨rfl, HI.out.f⟩
set_option maxRecDepth 100000 in
set_option maxHeartbeats 4000000 in
theorem lentV_any (l : List Int) (ra : Option Addr) (ca : Nat) (w : World) (hR : RX (Value.int .u64) w ra l) (hl : l.length ≤ 1000000) :
    Calls Tryd.prog 25 #[.slice ra l.length ca] w fun e w' => LentR 29 1 l.length (l.map (Value.int .u64) ++ [.int .u64 77777771, .int .u64 77777772]) w.heap.size e w' ∧ Below w.heap.size w w' := by
  obtain ⟨i0, hi0, hz0, hz1, hz2⟩ := info_parts infoWd
  obtain ⟨b, o, h1', h2⟩ := hR
  have h1 : l.length ≠ 0 → ra = some ⟨b, o, none⟩ := fun q => h1'.resolve_left q
  have HN : Hid (ra = none → l.length = 0) := fun h => by
    rcases Nat.eq_zero_or_pos l.length with h0 | h0
    · exact h0
    · rw [h1 (by omega)] at h; cases h
  have HC : Hid (∀ w5 : World, Below w.heap.size w w5 → ∀ ad, ra = some ad → ∀ j u, (l.map (Value.int .u64))[j]? = some u → w5.cell? (ad.add j) = some u) := fun w5 h5 ad had j u hu => by
    rw [List.getElem?_map] at hu
    cases hx : l[j]? with
    | none => rw [hx] at hu; cases hu
    | some x =>
      rw [hx] at hu
      cases hu
      obtain ⟨g1, g2⟩ := h2 j x hx
      have := h1 (by have := (List.getElem?_eq_some_iff.1 hx).1; omega)
      rw [this] at had
      cases had
      rw [ad_add]
      exact (h5.cell (p := ⟨b, o + j, none⟩) g1).trans g2
  have HU : Hid (∀ u ∈ l.map (Value.int .u64), u.oneCell' = true) := fun u hu => by
    obtain ⟨x, _, rfl⟩ := List.mem_map.1 hu
    rfl
  have HLn : Hid ((l.map (Value.int .u64)).length = l.length * 1) := by show _ = _; simp
  clear h1 h1' h2
  go_enter Tryd.func25, Tryd.ntmps25
  go_wp2_with (first | (at_make; refine wpList_make_own _ rfl _ _ 25 rfl w.heap.size 29 i0 (.int .u64 0) 1 Tryd.underlying25 hi0 hz0 hz1 .i64 .i64 _ (l.length + 2) rfl rfl (by first | rfl | omega) (by rw [hz2]; omega) (by unfold maxLen; omega) (Nat.le_refl _) ?_; intro w0 hown0 hgrow0; have HB0 : Hid (Below w.heap.size w w0) := (Below.refl _ w).grown hgrow0 (Nat.le_refl _) (fun k hk => by cases hk); have HO0 : Hid (w0.ownsRow w.heap.size 29 1 (.slice (some ⟨w.heap.size, 0, none⟩) 0 (l.length + 2)) 0 []) := hown0; clear hown0 hgrow0) | (at_builtin; refine stop_of ?_))
  unfold Hid
  refine wpList_append_room0 _ rfl _ _ 25 rfl w.heap.size 29 i0 1 Tryd.underlying25 hi0 hz1 w.heap.size 0 (l.length + 2) [] rfl HO0.out ra l.length ca (l.map (Value.int .u64)) rfl HLn.out HN.out (HC.out w0 HB0.out) HU.out (by omega) ?_
  intro w1 hown1 hgr1
  rw [Nat.zero_add, List.nil_append] at hown1
  have HB1 : Hid (Below w.heap.size w w1) := HB0.out.trans (grown_below hgr1 (Nat.le_refl _) HB0.out.size)
  have HO1 : Hid (w1.ownsRow w.heap.size 29 1 (.slice (some ⟨w.heap.size, 0, none⟩) l.length (l.length + 2)) l.length (l.map (Value.int .u64))) := hown1
  clear hown1 hgr1 HO0 HB0
  rw [Nat.zero_add]
  go_wp2_with (at_builtin; refine stop_of ?_)
  unfold Hid
  refine wpList_append_room0 _ rfl _ _ 25 rfl w.heap.size 29 i0 1 Tryd.underlying25 hi0 hz1 w.heap.size l.length (l.length + 2) (l.map (Value.int .u64)) rfl (HO1.out.alloc _) (some ⟨w1.heap.size, 0, none⟩) 2 2 [.int .u64 77777771, .int .u64 77777772] rfl rfl (fun h => by cases h) (fun ad had j u hu => ?_) (fun u hu => ?_) (Nat.le_refl _) ?_
  · cases had
    rw [ad_add, Nat.zero_add]
    exact new_cell _ #[.int .u64 77777771, .int .u64 77777772] _ j u hu
  · simp only [List.mem_cons, List.not_mem_nil, or_false] at hu
    rcases hu with rfl | rfl <;> rfl
  intro w2 hown2 hgr2
  have HB2 : Hid (Below w.heap.size w w2) := HB1.out.trans (((Below.refl _ w1).alloc HB1.out.size _).trans (grown_below hgr2 (Nat.le_refl _) (by rw [World.size_alloc]; have := HB1.out.size; omega)))
  have HO2 : Hid (w2.ownsRow w.heap.size 29 1 (.slice (some ⟨w.heap.size, 0, none⟩) (l.length + 2) (l.length + 2)) (l.length + 2) (l.map (Value.int .u64) ++ [.int .u64 77777771, .int .u64 77777772])) := hown2
  clear hown2 hgr2 HO1 HB1
  go_wp2
  go_ret
  exact ⟨⟨w.heap.size, rfl, HO2.out⟩, HB2.out⟩
/-- A lent list. -/
abbrev LenV (w : World) (B g : Nat) (l : List Int) : Prop := w.ownsRow B 29 1 (.slice (some ⟨g, 0, none⟩) (l.length + 2) (l.length + 2)) (l.length + 2) (l.map (Value.int .u64) ++ [.int .u64 77777771, .int .u64 77777772])
theorem lenV_at {w : World} {B g : Nat} {l : List Int} (h : LenV w B g l) : (∀ (j : Nat) (x : Int), l[j]? = some x → w.cell? ⟨g, j, none⟩ = some (.int .u64 x)) ∧ w.cell? ⟨g, l.length, none⟩ = some (.int .u64 77777771) ∧ w.cell? ⟨g, l.length + 1, none⟩ = some (.int .u64 77777772) ∧ g < w.heap.size ∧ DR w 29 g (l.length + 2) (fun _ _ => True) := by
  obtain ⟨cs, h1, h2, _, _, _, _, h7⟩ := own_out h
  refine ⟨fun j x hx => heap_cell h1 (h7 j _ ?_), heap_cell h1 (h7 _ _ ?_), heap_cell h1 (h7 _ _ ?_), heap_lt h1, cs, h1, by omega, fun _ _ _ => trivial⟩
  · rw [List.getElem?_append_left (by rw [List.length_map]; exact (List.getElem?_eq_some_iff.1 hx).1), List.getElem?_map, hx]; rfl
  · rw [List.getElem?_append_right (by simp)]; simp
  · rw [List.getElem?_append_right (by simp)]; simp
theorem lenV_rx {w : World} {B g : Nat} {l : List Int} (h : LenV w B g l) : RX (Value.int .u64) w (some ⟨g, 0, none⟩) l := ⟨g, 0, .inr rfl, fun j x hx => ⟨(lenV_at h).2.2.2.1, by rw [Nat.zero_add]; exact (lenV_at h).1 j x hx⟩⟩
set_option maxRecDepth 100000 in
set_option maxHeartbeats 8000000 in
theorem wholeV_any (l : List Int) (g B : Nat) (rb : Option Addr) (cb : Nat) (w : World) (hl : l.length ≤ 1000000) (h : LenV w B g l) (hR : RX (Value.int .u64) w rb l) :
    Calls Tryd.prog 28 #[.slice (some ⟨g, 0, none⟩) l.length (l.length + 2), .slice rb l.length cb] w fun e w' => e = .returned (.bool true) ∧ Below w.heap.size w w' := by
  have HS : Hid _ := sameW_any l l (some ⟨g, 0, none⟩) rb (l.length + 2) cb w (by unfold maxLen; omega) (by unfold maxLen; omega) (lenV_rx h) hR
  rw [decide_eq_true rfl] at HS
  obtain ⟨_, m0, m1, lg, _⟩ := lenV_at h
  clear h hR
  go_enter Tryd.func28, Tryd.ntmps28
  go_wp2_with fail
  refine Calls.mono HS.out ?_
  rintro e w1 ⟨rfl, hb⟩
  have HB : Hid (Below w.heap.size w w1) := hb
  clear hb HS
  go_wp2
  go_ret
  exact ⟨rfl, HB.out⟩
structure SpV (w wr : World) (g n : Nat) : Prop where
  d : DR wr 29 g n (fun _ _ => True)
  f : Fr (fun k => k ≠ g) w wr
set_option maxRecDepth 100000 in
set_option maxHeartbeats 8000000 in
theorem spoilV_any (n g : Nat) (w : World) (hl : n ≤ 1000000) (hD : DR w 29 g (n + 2) (fun _ _ => True)) :
    Calls Tryd.prog 29 #[.slice (some ⟨g, 0, none⟩) n (n + 2)] w fun e w' => e = .returned (.tuple #[]) ∧ Fr (fun k => k ≠ g) w w' := by
  have H0 : Hid (SpV w w g (n + 2)) := ⟨hD, Fr.refl _ _⟩
  clear hD
  go_enter Tryd.func29, Tryd.ntmps29
  go_wp2_with fail
  go_loopw [3] (fun i wr => ∃ j : Nat, i = .int .i64 j ∧ j ≤ n + 2 ∧ Hid (SpV w wr g (n + 2))) (fun i _ => n + 2 - (intOf i).toNat)
  case atStart => exact ⟨0, rfl, Nat.zero_le _, H0⟩
  case round =>
    clear H0
    obtain ⟨j, rfl, hj, HI⟩ := hrel
    by_cases hjl : j < n + 2
    · have k1 : (j : Int) < (n : Int) + 2 := by omega
      have k2 : (j : Int) < ((n + 2 : Nat) : Int) := by omega
      obtain ⟨u, hu, _⟩ := HI.out.d.cell hjl
      have hf := HI.out.d.fz j
      have lg := HI.out.d.lt
      have HE : Hid (SpV w (wr.setCell ⟨g, j, none⟩ (.int .u64 77777773)) g (n + 2)) := ⟨HI.out.d.set (fun _ _ _ _ => trivial) trivial, HI.out.f.trans fr_one⟩
      go_wp2_with fail
      refine ⟨⟨j + 1, by go_num, by omega, HE⟩, by simp [intOf]; omega⟩
    · have e : j = n + 2 := by omega
      subst e
      have k1 : ¬ (((n + 2 : Nat) : Int) < (n : Int) + 2) := by omega
      have k2 : ¬ (((n + 2 : Nat) : Int) < ((n + 2 : Nat) : Int)) := by omega
      go_wp2_with fail
      go_end0
      exact ⟨rfl, HI.out.f⟩
end Go.Proofs.YtiglmffnhbegiaaDoor
