/- What lies in memory: rows that are owned, cell by cell.; A heap that is lent: laid once more, with two cells behind.; The document's Order: mathematics; append of whatever comes. -/
import Derived.Test.YtdcmkifljcdmmaaGreatDoorHGForm
import Derived.Test.YtdcmkifljcdmmaaGreatDoorHGRefs
import Derived.Test.YtdcmkifljcdmmaaGreatDoorHGSame
import Derived.Below
import Derived.Deep.QuietTactic
import Derived.WalkKit
import Derived.WalkSpells
import Derived.WalkLawsBesides
import Derived.OwnWalk
import Derived.Deep.AppendLies
import Derived.Deep.RegionHeld3
import Derived.Lib.SliceRun
import Derived.Laws.IdiomCopy
import Derived.Maps.AppendAt
import Derived.Deep.Cut
import Derived.BigQuiet
/- What lies in memory: rows that are owned, cell by cell. -/
namespace Go.Proofs.YtdcmkifljcdmmaaGreatDoor
open Go.RowKit

/-- What many cells that are set leave of a block. -/
theorem setCells_at {t g : Nat} : ∀ (vs : List Value) (o : Nat) (W : World) (cs : Array Value), W.heap[g]? = some (.cells cs t (0, 0)) →
    ∃ cs', (W.setCells g o vs).heap[g]? = some (.cells cs' t (0, 0)) ∧ cs'.size = cs.size ∧ ∀ k, k < cs.size → cs'[k]? = if o ≤ k ∧ k < o + vs.length then vs[k - o]? else cs[k]?
  | [], o, W, cs, h => ⟨cs, h, rfl, fun k _ => by rw [if_neg (by simp)]⟩
  | v :: r, o, W, cs, h => by
    obtain ⟨cs', h1, h2, h3⟩ := setCells_at r (o + 1) (W.setCell ⟨g, o, none⟩ v) _ (set_atC h v)
    refine ⟨cs', h1, h2.trans (by simp), fun k hk => ?_⟩
    rw [h3 k (by simpa using hk)]
    by_cases e : k = o
    · subst e
      rw [if_neg (by omega), if_pos (by simp)]
      simp [hk]
    · rw [Array.getElem?_setIfInBounds_ne (fun e' => e e'.symm)]
      by_cases e2 : o ≤ k ∧ k < o + (v :: r).length
      · rw [if_pos e2, if_pos (by simp at e2; omega), show k - o = (k - (o + 1)) + 1 by omega, List.getElem?_cons_succ]
      · rw [if_neg e2, if_neg (by simp at e2; omega)]
theorem setCells_far {g : Nat} : ∀ (vs : List Value) (o : Nat) (W : World) (k : Nat), k ≠ g → (W.setCells g o vs).heap[k]? = W.heap[k]?
  | [], _, _, _, _ => rfl
  | _ :: r, o, _, k, h => (setCells_far r (o + 1) _ k h).trans (Below.heap_setCell _ _ _ _ h)
theorem setCells_size {g : Nat} : ∀ (vs : List Value) (o : Nat) (W : World), (W.setCells g o vs).heap.size = W.heap.size
  | [], _, _ => rfl
  | _ :: r, o, _ => (setCells_size r (o + 1) _).trans (World.size_setCell ..)
theorem setCells_below {g : Nat} : ∀ (vs : List Value) (o : Nat) (W0 W : World), Below 0 W0 W → Below 0 W0 (W.setCells g o vs)
  | [], _, _, _, h => h
  | v :: r, o, W0, _, h => setCells_below r (o + 1) W0 _ (h.setCell (p := ⟨g, o, none⟩) (Nat.zero_le _) v)
/-- A row that is owned, cell by cell. -/
theorem own_out {w : World} {base e size n cap g : Nat} {xs : List Value} (h : w.ownsRow base e size (.slice (some ⟨g, 0, none⟩) n cap) n xs) :
    ∃ cs, w.heap[g]? = some (.cells cs e (0, 0)) ∧ cs.size = cap * size ∧ n ≤ cap ∧ cap ≤ maxLen ∧ base ≤ g ∧ xs.length = n * size ∧ ∀ (k : Nat) (u : Value), xs[k]? = some u → cs[k]? = some u := by
  rcases h.2 with ⟨h', _⟩ | ⟨g', cap', cur, hv, hb, hh, hn, hm, hs, ht⟩
  · cases h'
  · cases hv
    refine ⟨cur, hh, hs, hn, hm, hb, h.1, fun k u hk => ?_⟩
    have hl := (List.getElem?_eq_some_iff.1 hk).1
    rw [← ht, List.getElem?_take] at hk
    split at hk
    · simpa using hk
    · cases hk
theorem own_of {w : World} {base e size n cap g : Nat} {cs : Array Value} {xs : List Value} (hh : w.heap[g]? = some (.cells cs e (0, 0))) (hs : cs.size = cap * size) (hn : n ≤ cap) (hm : cap ≤ maxLen) (hb : base ≤ g) (hx : xs.length = n * size)
    (hc : ∀ (k : Nat) (u : Value), xs[k]? = some u → cs[k]? = some u) : w.ownsRow base e size (.slice (some ⟨g, 0, none⟩) n cap) n xs := by
  refine ⟨hx, .inr ⟨g, cap, cs, rfl, hb, hh, hn, hm, hs, ?_⟩⟩
  have hle : n * size ≤ cs.size := by rw [hs]; exact Nat.mul_le_mul_right _ hn
  refine List.ext_getElem? (fun k => ?_)
  rw [List.getElem?_take]
  split
  · rename_i hk
    have hk' : k < xs.length := by omega
    rw [List.getElem?_eq_getElem hk', Array.getElem?_toList]
    exact hc k _ (List.getElem?_eq_getElem hk')
  · rw [List.getElem?_eq_none (by omega)]
theorem own_cell {w : World} {base e size n cap g : Nat} {xs : List Value} (h : w.ownsRow base e size (.slice (some ⟨g, 0, none⟩) n cap) n xs) {k : Nat} {u : Value} (hk : xs[k]? = some u) : w.cell? ⟨g, k, none⟩ = some u := by
  obtain ⟨cs, h1, _, _, _, _, _, h2⟩ := own_out h
  exact heap_cell h1 (h2 k u hk)
theorem ty_ne {w : World} {g h : Nat} {cs ds : Array Value} {t u : TypeId} (hg : w.heap[g]? = some (.cells cs t (0, 0))) (hh : w.heap[h]? = some (.cells ds u (0, 0))) (hn : t ≠ u) : g ≠ h := fun e => by
  subst e
  rw [hg] at hh
  cases hh
  exact hn rfl
theorem own_blk {w : World} {base e size n g : Nat} {v : Value} {xs : List Value} (h : w.ownsRow base e size v n xs) (hg : v.ownBlock = some g) : ∃ cs, w.heap[g]? = some (.cells cs e (0, 0)) := by
  rcases h.2 with ⟨h', _⟩ | ⟨g', cap, cur, hv, _, hh, _⟩
  · rw [h'] at hg; cases hg
  · rw [hv] at hg
    cases hg
    exact ⟨cur, hh⟩
theorem owni_rx {w : World} {base n : Nat} {ra : Option Addr} {c : Nat} {l : List Int} (h : w.ownsRow base 3 1 (.slice ra n c) n (l.map (Value.int .i64))) (hn : l.length = n) : RX (Value.int .i64) w ra l := by
  rcases h.2 with ⟨_, h0⟩ | ⟨g, cap, cur, hv, _⟩
  · exact ⟨0, 0, .inl (by omega), fun j x hx => by have := (List.getElem?_eq_some_iff.1 hx).1; omega⟩
  · cases hv
    obtain ⟨cs, hc⟩ := own_blk h rfl
    exact ⟨g, 0, .inr rfl, fun j x hx => ⟨heap_lt hc, by rw [Nat.zero_add]; exact own_cell h (by rw [List.getElem?_map, hx]; rfl)⟩⟩
theorem row_made {W : World} {base g n t : Nat} {xs : List Value} {u0 : Value} (h : W.ownsRow base t 1 (.slice (some ⟨g, 0, none⟩) n n) n xs) (hx : ∀ u ∈ xs, u = u0) : DR W t g n (fun _ u => u = u0) := by
  rcases h.2 with ⟨h0, _⟩ | ⟨g', cap', cur, hv, _, hh, _, _, hsz, ht⟩
  · cases h0
  · cases hv
    refine ⟨cur, hh, by simpa using hsz, fun k u hk => hx u ?_⟩
    have hk2 : k < cur.size := (Array.getElem?_eq_some_iff.1 hk).1
    rw [← ht, List.take_of_length_le (by simp; omega)]
    exact Array.mem_toList_iff.2 (Array.mem_of_getElem? hk)
theorem false_made (n : Nat) : ∀ u ∈ (madeCells (Value.bool false).cells (n * 1)).toList, u = .bool false := by
  intro u hu
  unfold madeCells at hu
  rw [Array.toList_map] at hu
  obtain ⟨i, _, rfl⟩ := List.mem_map.1 hu
  show (#[Value.bool false])[i % 1]! = _
  rw [Nat.mod_one]; rfl
theorem refs_some {n : Nat} {y : Int} (h : fitsW n y = true) (hr : refB y = true) : ∃ k : Nat, refN y = some k ∧ k < n ∧ cellV y = (k : Int) := by
  have h8 : ofT y = 8 := by simpa [refB] using hr
  have hb := ofN_ref hr
  refine ⟨(ofN y).toNat, ?_, ?_, ?_⟩
  · unfold refN; rw [if_pos h8]
  · unfold fitsW refN at h
    rw [if_pos h8] at h
    simpa using (Bool.and_eq_true_iff.1 h).2
  · unfold cellV
    rw [if_pos h8]
    omega
theorem refs_none {y : Int} (hr : refB y = false) : refN y = none := by
  have h8 : ¬ ofT y = 8 := by simpa [refB] using hr
  unfold refN
  rw [if_neg h8]
theorem contains_snoc (r : List Nat) (c k : Nat) : (r ++ [c]).contains k = (r.contains k || decide (k = c)) := by simp
theorem infoBool : (Tryz.prog.info? 4).map (fun i => (i.zero, i.size, i.bytes)) = some (some (.bool false), 1, 1) := by kernel_rfl
theorem infoWd : (Tryz.prog.info? 53).map (fun i => (i.zero, i.size, i.bytes)) = some (some (.int .u64 0), 1, 8) := by kernel_rfl
end Go.Proofs.YtdcmkifljcdmmaaGreatDoor

/- A heap that is lent: laid once more, with two cells behind. -/
namespace Go.Proofs.YtdcmkifljcdmmaaGreatDoor
open Go.RowKit

theorem run_append_nil0 {P : Program} (w : World) (base : Nat) (t ty e : TypeId) (i : TypeInfo) (size : Nat) (ht : P.underlying t = some (.slice e)) (hi : P.info? e = some i)
    (v : Value) (n c : Nat) (xs : List Value) (hown : w.ownsRow base e size v n xs) :
    (Builtin.append_ #[t, t] ty #[v, .slice none 0 c]).run P w = .ok v w := by
  rcases hown.2 with ⟨rfl, rfl⟩ | ⟨g, cap, cur, rfl, _, _, hnc, _⟩
  · simp [Builtin.append_, run_underlying ht, sizeOf, typeInfo, hi, Builtin.lenOf, Builtin.firstCells]
  · simp [Builtin.append_, run_underlying ht, sizeOf, typeInfo, hi, Builtin.lenOf, Builtin.firstCells, hnc, storeCells]
/-- append within the capacity, whatever is appended. -/
theorem wpList_append_room0 {P : Program} (w : World) {ops : Array Oper} {rest : List Oper} {o : Oper} {a : Act} {Q : Exit → Act → World → Prop}
    (hg : o.guard = none) (s x : Operand) (t : TypeId) (hop : o.op = Op.call { callee := Callee.builtin Builtin.append, args := #[s, x], argTypes := #[t, t] })
    (base : Nat) (e : TypeId) (i : TypeInfo) (size : Nat) (h1 : P.underlying t = some (.slice e)) (h2 : P.info? e = some i) (h4 : i.size = size)
    (g k cap : Nat) (xs : List Value) (hs : a.eval s = .slice (some ⟨g, 0, none⟩) k cap) (hown : w.ownsRow base e size (.slice (some ⟨g, 0, none⟩) k cap) k xs) (ao : Option Addr) (m c : Nat) (news : List Value) (hx : a.eval x = .slice ao m c) (hn : news.length = m * size)
    (hnone : ao = none → m = 0) (hc : ∀ ad, ao = some ad → ∀ j u, news[j]? = some u → w.cell? (ad.add j) = some u) (h1c : ∀ u ∈ news, u.oneCell' = true) (b1 : k + m ≤ cap)
    (hK : ∀ w', w'.ownsRow base e size (.slice (some ⟨g, 0, none⟩) (k + m) cap) (k + m) (xs ++ news) → w.grownBy w' (some g) → wpList P ops Q rest (a.put o.dst (.slice (some ⟨g, 0, none⟩) (k + m) cap)) w') :
    wpList P ops Q (o :: rest) a w := by
  cases ao with
  | some ad => exact wpList_append_fits w hg s x t hop base e i size h1 h2 h4 g k cap xs hs hown ad m c news hx hn (hc ad rfl) h1c b1 hK
  | none =>
    obtain rfl := hnone rfl
    have hnews : news = [] := List.eq_nil_of_length_eq_zero (by simpa using hn)
    subst hnews
    refine wpList_plain hg fun K hK' => ?_
    have hrun := run_append_nil0 (P := P) w base t o.type e i size h1 h2 _ k c xs hown
    unfold Oper.wp
    simp [execOp, hop, resolve, invoke, builtin, hs, hx, hrun, Result.andThen]
    exact hK' _ _ (by simpa using hK w (by simpa using hown) (World.grownBy.refl _ _))

theorem grown_below {w w' : World} {row B : Nat} (h : w.grownBy w' (some row)) (hB : B ≤ row) (hs : B ≤ w.heap.size) : Below B w w' := (Below.refl B w).grown h hs (fun k hk => by cases hk; exact hB)
/-- A lent list. -/
def LentR (T sz n : Nat) (cells : List Value) (B : Nat) (e : Ending) (w' : World) : Prop := ∃ g, e = .returned (.slice (some ⟨g, 0, none⟩) n (n + 2)) ∧ w'.ownsRow B T sz (.slice (some ⟨g, 0, none⟩) (n + 2) (n + 2)) (n + 2) cells
theorem clCells_get : ∀ (l : List Cl) (j : Nat) (u : Value), (clCells l)[j]? = some u → ∃ i x, l[i]? = some x ∧ ((j = i * 4 ∧ u = .int .u8 x.k) ∨ (j = i * 4 + 1 ∧ u = .int .u8 x.c) ∨ (j = i * 4 + 1 + 1 ∧ u = .int .u64 x.a) ∨ (j = i * 4 + 1 + 1 + 1 ∧ u = .int .u64 x.b))
  | [], j, u, h => by simp [clCells] at h
  | x :: l, 0, u, h => ⟨0, x, rfl, .inl ⟨rfl, (Option.some.inj h).symm⟩⟩
  | x :: l, 1, u, h => ⟨0, x, rfl, .inr (.inl ⟨rfl, (Option.some.inj h).symm⟩)⟩
  | x :: l, 2, u, h => ⟨0, x, rfl, .inr (.inr (.inl ⟨rfl, (Option.some.inj h).symm⟩))⟩
  | x :: l, 3, u, h => ⟨0, x, rfl, .inr (.inr (.inr ⟨rfl, (Option.some.inj h).symm⟩))⟩
  | x :: l, j + 4, u, h => by
    obtain ⟨i, y, h1, h2⟩ := clCells_get l j u h
    exact ⟨i + 1, y, by simpa using h1, by
      rcases h2 with ⟨h, h'⟩ | ⟨h, h'⟩ | ⟨h, h'⟩ | ⟨h, h'⟩
      · exact .inl ⟨by omega, h'⟩
      · exact .inr (.inl ⟨by omega, h'⟩)
      · exact .inr (.inr (.inl ⟨by omega, h'⟩))
      · exact .inr (.inr (.inr ⟨by omega, h'⟩))⟩
/-- The two behind. -/
def mkC : List Value := [.int .u8 0, .int .u8 0, .int .u64 77777771, .int .u64 0, .int .u8 0, .int .u8 0, .int .u64 77777772, .int .u64 0]
set_option maxRecDepth 100000 in
set_option maxHeartbeats 4000000 in
theorem lentK_any (l : List Cl) (ra : Option Addr) (ca : Nat) (w : World) (hR : HR w ra l) (hl : l.length ≤ 1000000000) :
    Calls Tryz.prog 6 #[.slice ra l.length ca] w fun e w' => LentR 55 4 l.length (clCells l ++ mkC) w.heap.size e w' ∧ Below w.heap.size w w' := by
  obtain ⟨i0, hi0, hz0, hz1, hz2⟩ := info_parts infoCl
  obtain ⟨b, o, h1', h2⟩ := hR
  have h1 : l.length ≠ 0 → ra = some ⟨b, o, none⟩ := fun q => h1'.resolve_left q
  have HN : Hid (ra = none → l.length = 0) := fun h => by
    rcases Nat.eq_zero_or_pos l.length with h0 | h0
    · exact h0
    · rw [h1 (by omega)] at h; cases h
  have HC : Hid (∀ w5 : World, Below w.heap.size w w5 → ∀ ad, ra = some ad → ∀ j u, (clCells l)[j]? = some u → w5.cell? (ad.add j) = some u) := fun w5 h5 ad had j u hu => by
    obtain ⟨i, x, hx, hu'⟩ := clCells_get _ _ _ hu
    obtain ⟨g1, ⟨g2, g3, g4, g5⟩, _⟩ := h2 i x hx
    have := h1 (by have := (List.getElem?_eq_some_iff.1 hx).1; omega)
    rw [this] at had
    cases had
    rw [ad_add]
    rcases hu' with ⟨rfl, rfl⟩ | ⟨rfl, rfl⟩ | ⟨rfl, rfl⟩ | ⟨rfl, rfl⟩
    · exact (h5.cell (p := ⟨b, o + i * 4, none⟩) g1).trans g2
    · exact (h5.cell (p := ⟨b, o + i * 4 + 1, none⟩) g1).trans g3
    · exact (h5.cell (p := ⟨b, o + i * 4 + 1 + 1, none⟩) g1).trans g4
    · exact (h5.cell (p := ⟨b, o + i * 4 + 1 + 1 + 1, none⟩) g1).trans g5
  have HU : Hid (∀ u ∈ clCells l, u.oneCell' = true) := fun u hu => by
    obtain ⟨j, hj⟩ := List.getElem?_of_mem hu
    obtain ⟨i, x, _, ⟨_, rfl⟩ | ⟨_, rfl⟩ | ⟨_, rfl⟩ | ⟨_, rfl⟩⟩ := clCells_get _ _ _ hj <;> rfl
  have HLn : Hid ((clCells l).length = l.length * 4) := by show _ = _; exact clCells_len l
  clear h1 h1' h2
  go_enter Tryz.func6, Tryz.ntmps6
  go_wp2_with (first | (at_make; refine wpList_make_own _ rfl _ _ 22 rfl w.heap.size 55 i0 (.agg #[.int .u8 0, .int .u8 0, .int .u64 0, .int .u64 0]) 4 Tryz.underlying22 hi0 hz0 hz1 .i64 .i64 _ (l.length + 2) rfl rfl (by first | rfl | omega) (by rw [hz2]; omega) (by unfold maxLen; omega) (Nat.le_refl _) ?_; intro w0 hown0 hgrow0; have HB0 : Hid (Below w.heap.size w w0) := (Below.refl _ w).grown hgrow0 (Nat.le_refl _) (fun k hk => by cases hk); have HO0 : Hid (w0.ownsRow w.heap.size 55 4 (.slice (some ⟨w.heap.size, 0, none⟩) 0 (l.length + 2)) 0 []) := hown0; clear hown0 hgrow0) | (at_builtin; refine stop_of ?_))
  unfold Hid
  refine wpList_append_room0 _ rfl _ _ 22 rfl w.heap.size 55 i0 4 Tryz.underlying22 hi0 hz1 w.heap.size 0 (l.length + 2) [] rfl HO0.out ra l.length ca (clCells l) rfl HLn.out HN.out (HC.out w0 HB0.out) HU.out (by omega) ?_
  intro w1 hown1 hgr1
  rw [Nat.zero_add, List.nil_append] at hown1
  have HB1 : Hid (Below w.heap.size w w1) := HB0.out.trans (grown_below hgr1 (Nat.le_refl _) HB0.out.size)
  have HO1 : Hid (w1.ownsRow w.heap.size 55 4 (.slice (some ⟨w.heap.size, 0, none⟩) l.length (l.length + 2)) l.length (clCells l)) := hown1
  clear hown1 hgr1 HO0 HB0
  rw [Nat.zero_add]
  go_wp2_with (at_builtin; refine stop_of ?_)
  unfold Hid
  refine wpList_append_room0 _ rfl _ _ 22 rfl w.heap.size 55 i0 4 Tryz.underlying22 hi0 hz1 w.heap.size l.length (l.length + 2) (clCells l) rfl (HO1.out.alloc _) (some ⟨w1.heap.size, 0, none⟩) 2 2 mkC rfl rfl (fun h => by cases h) (fun ad had j u hu => ?_) (fun u hu => ?_) (Nat.le_refl _) ?_
  · cases had
    rw [ad_add, Nat.zero_add]
    exact new_cell _ mkC.toArray _ j u hu
  · simp only [mkC, List.mem_cons, List.not_mem_nil, or_false] at hu
    rcases hu with rfl | rfl | rfl | rfl | rfl | rfl | rfl | rfl <;> rfl
  intro w2 hown2 hgr2
  have HB2 : Hid (Below w.heap.size w w2) := HB1.out.trans (((Below.refl _ w1).alloc HB1.out.size _).trans (grown_below hgr2 (Nat.le_refl _) (by rw [World.size_alloc]; have := HB1.out.size; omega)))
  have HO2 : Hid (w2.ownsRow w.heap.size 55 4 (.slice (some ⟨w.heap.size, 0, none⟩) (l.length + 2) (l.length + 2)) (l.length + 2) (clCells l ++ mkC)) := hown2
  clear hown2 hgr2 HO1 HB1
  go_wp2
  go_ret
  exact ⟨⟨w.heap.size, rfl, HO2.out⟩, HB2.out⟩
end Go.Proofs.YtdcmkifljcdmmaaGreatDoor

/- The document's Order: mathematics; append of whatever comes. -/
namespace Go.Proofs.YtdcmkifljcdmmaaGreatDoor
open Go.RowKit

theorem run_append_zero {P : Program} (w : World) (base : Nat) (t ty e : TypeId) (i : TypeInfo) (size : Nat) (ht : P.underlying t = some (.slice e)) (hi : P.info? e = some i)
    (v : Value) (n c : Nat) (xs : List Value) (hown : w.ownsRow base e size v n xs) (ao : Option Addr) :
    (Builtin.append_ #[t, t] ty #[v, .slice ao 0 c]).run P w = .ok v w := by
  cases ao with
  | none => exact run_append_nil0 w base t ty e i size ht hi v n c xs hown
  | some ad =>
    have hl0 : (loadCellsFrom ad 0 0 #[]).run P w = .ok #[] w := by simp [loadCellsFrom, Sem.run_pure]
    rcases hown.2 with ⟨rfl, rfl⟩ | ⟨g, cap, cur, rfl, _, _, hnc, _⟩
    · simp [Builtin.append_, run_underlying ht, sizeOf, typeInfo, hi, Builtin.lenOf, Builtin.firstCells, loadCells, hl0, Result.andThen]
    · simp [Builtin.append_, run_underlying ht, sizeOf, typeInfo, hi, Builtin.lenOf, Builtin.firstCells, hnc, storeCells, loadCells, hl0, Result.andThen]
theorem own_slice' {w : World} {base e size n : Nat} {v : Value} {xs : List Value} (h : w.ownsRow base e size v n xs) : ∃ ra cap, v = .slice ra n cap := by
  rcases h.2 with ⟨h', h0⟩ | ⟨g, cap, cur, hv, _⟩
  · subst h0; exact ⟨none, 0, h'⟩
  · exact ⟨_, _, hv⟩
theorem wpList_append_all {P : Program} (w : World) {ops : Array Oper} {rest : List Oper} {o : Oper} {a : Act} {Q : Exit → Act → World → Prop} (hgd : o.guard = none) (s x : Operand) (t : TypeId)
    (ho : o.op = .call { callee := .builtin .append, args := #[s, x], argTypes := #[t, t] })
    (base : Nat) (e : TypeId) (i : TypeInfo) (z : Value) (size bytes : Nat) (ht : P.underlying t = some (.slice e)) (hi : P.info? e = some i) (hz : i.zero = some z)
    (hsize : i.size = size) (hby : i.bytes = bytes) (hzs : z.cells.size = size) (hsz : 0 < size)
    (v : Value) (n : Nat) (xs : List Value) (hs : a.eval s = v) (hown : w.ownsRow base e size v n xs)
    (ao : Option Addr) (m c : Nat) (news : List Value) (hx : a.eval x = .slice ao m c) (hl : news.length = m * size) (hnone : ao = none → m = 0) (hnews : ∀ ad, ao = some ad → ∀ j u, news[j]? = some u → w.cell? (ad.add j) = some u) (h1 : ∀ u ∈ news, u.oneCell' = true)
    (h63 : n + m ≤ maxLen) (hbytes : (n + m) * bytes ≤ 140737488355328) (hbase : base ≤ w.heap.size)
    (h : ∀ ra cap w', w'.ownsRow base e size (.slice ra (n + m) cap) (n + m) (xs ++ news) → w.grownBy w' v.ownBlock → (∀ g, (Value.slice ra (n + m) cap).ownBlock = some g → v.ownBlock = some g ∨ w.heap.size ≤ g) → wpList P ops Q rest (a.put o.dst (.slice ra (n + m) cap)) w') : wpList P ops Q (o :: rest) a w := by
  by_cases hm : m = 0
  · subst hm
    have hnews0 : news = [] := List.eq_nil_of_length_eq_zero (by simpa using hl)
    subst hnews0
    obtain ⟨ra, cap, rfl⟩ := own_slice' hown
    refine wpList_plain hgd fun K hK' => ?_
    have hrun := run_append_zero (P := P) w base t o.type e i size ht hi _ n c xs hown ao
    unfold Oper.wp
    simp [execOp, ho, resolve, invoke, builtin, hs, hx, hrun, Result.andThen]
    exact hK' _ _ (by simpa using h ra cap w (by simpa using hown) (World.grownBy.refl _ _) (fun g hg => .inl hg))
  · cases ao with
    | none => exact absurd (hnone rfl) hm
    | some ad =>
      refine wpList_append_lies (w := w) hgd s x t ho base e i z size bytes ht hi hz hsize hby hzs hsz v n xs hs hown ad m c news hx hl (hnews ad rfl) h1 (by omega) h63 hbytes hbase _ rfl ?_
      intro g cap w' h2 h3 h4 _
      refine h _ cap w' h2 h3 (fun g' hg' => ?_)
      have : g = g' := by simpa [Value.ownBlock] using hg'
      subst this
      rcases h4 with h4 | h4
      · exact .inl h4
      · exact .inr (by omega)
/-- One word is looked at: what is met, and what is still to be looked at. -/
def ordS (h : List Cl) (out : List Nat) (l : List Int) (w : Int) : List Nat × List Int := match refN w with
  | none => (out, l)
  | some c => if out.contains c then (out, l) else match h[c]? with
    | none => (out, l)
    | some x => (out ++ [c], if x.k = 0 then l else l ++ [x.a, x.b])
def ordM (h : List Cl) : Nat → Nat → List Nat → List Int → List Nat
  | 0, _, out, _ => out
  | f + 1, i, out, l => match l[i]? with
    | none => out
    | some w => ordM h f (i + 1) (ordS h out l w).1 (ordS h out l w).2
def orderM (h : List Cl) (roots : List Int) : List Nat := ordM h (roots.length + 2 * h.length) 0 [] roots
/-- A heap whose words fit. -/
def OkH (h : List Cl) : Prop := ∀ x ∈ h, x.k ≠ 0 → (fitsW h.length x.a = true ∧ Rng x.a) ∧ fitsW h.length x.b = true ∧ Rng x.b
structure OrdOk (h : List Cl) (roots : List Int) (out : List Nat) (l : List Int) : Prop where
  nd : out.Nodup
  lt : ∀ c ∈ out, c < h.length
  len : l.length ≤ roots.length + 2 * out.length
  fit : ∀ w ∈ l, fitsW h.length w = true ∧ Rng w
theorem OrdOk.out_le {h : List Cl} {roots : List Int} {out : List Nat} {l : List Int} (o : OrdOk h roots out l) : out.length ≤ h.length := by
  have h1 : out.length ≤ (List.range h.length).length := List.Nodup.length_le_of_subset o.nd (fun c hc => List.mem_range.2 (o.lt c hc))
  simpa using h1
theorem OrdOk.all {h : List Cl} {roots : List Int} {out : List Nat} {l : List Int} (o : OrdOk h roots out l) : l.length ≤ roots.length + 2 * h.length := by
  have := o.out_le
  have := o.len
  omega
theorem OrdOk.step {h : List Cl} {roots : List Int} {out : List Nat} {l : List Int} (o : OrdOk h roots out l) (hk : OkH h) {c : Nat} {x : Cl} (hx : h[c]? = some x) (hc : out.contains c = false) : OrdOk h roots (out ++ [c]) (if x.k = 0 then l else l ++ [x.a, x.b]) := by
  refine ⟨?_, fun d hd => ?_, ?_, fun w hw => ?_⟩
  · rw [List.nodup_append]
    refine ⟨o.nd, by simp, fun a ha b hb => ?_⟩
    have e : b = c := by simpa using hb
    subst e
    intro e
    subst e
    have : out.contains a = true := by simpa using ha
    rw [hc] at this; cases this
  · rcases List.mem_append.1 hd with hd | hd
    · exact o.lt d hd
    · rw [List.mem_singleton.1 hd]; exact (List.getElem?_eq_some_iff.1 hx).1
  · have := o.len
    rw [List.length_append]
    split
    · simp; omega
    · simp; omega
  · by_cases h0 : x.k = 0
    · rw [if_pos h0] at hw; exact o.fit w hw
    · rw [if_neg h0] at hw
      rcases List.mem_append.1 hw with hw | hw
      · exact o.fit w hw
      · have := hk x (List.mem_of_getElem? hx) h0
        simp only [List.mem_cons, List.not_mem_nil, or_false] at hw
        rcases hw with rfl | rfl
        · exact this.1
        · exact this.2
theorem ordM_step {h : List Cl} {f i : Nat} {out : List Nat} {l : List Int} {w : Int} (hw : l[i]? = some w) : ordM h (f + 1) i out l = ordM h f (i + 1) (ordS h out l w).1 (ordS h out l w).2 := by
  rw [ordM, hw]
theorem ordM_end {h : List Cl} {f i : Nat} {out : List Nat} {l : List Int} (hi : l.length ≤ i) : ordM h f i out l = out := by
  cases f with
  | zero => rfl
  | succ f => rw [ordM, List.getElem?_eq_none hi]
theorem ordS_none {h : List Cl} {out : List Nat} {l : List Int} {w : Int} (hr : refN w = none) : ordS h out l w = (out, l) := by unfold ordS; rw [hr]
theorem ordS_met {h : List Cl} {out : List Nat} {l : List Int} {w : Int} {c : Nat} (hr : refN w = some c) (hc : out.contains c = true) : ordS h out l w = (out, l) := by unfold ordS; rw [hr]; dsimp only; rw [hc]; rfl
theorem ordS_new {h : List Cl} {out : List Nat} {l : List Int} {w : Int} {c : Nat} {x : Cl} (hr : refN w = some c) (hc : out.contains c = false) (hx : h[c]? = some x) : ordS h out l w = (out ++ [c], if x.k = 0 then l else l ++ [x.a, x.b]) := by
  unfold ordS; rw [hr]; dsimp only; rw [hc, hx]; rfl
end Go.Proofs.YtdcmkifljcdmmaaGreatDoor
