/- named: the cells that references among some words name.; A marker in memory; Lay.; Shade, Scan, Grey of a marker.; Scan, whole; New of a marker.; Grey: the row, laid once more. -/
import Derived.Test.YtiglmffnhbegiaaDoorHMRow
/- named: the cells that references among some words name. -/
namespace Go.Proofs.YtiglmffnhbegiaaDoor
open Go.RowKit

def namL (l : List Int) : List Int := (l.filter refB).map cellV
theorem nam_take {l : List Int} {j : Nat} {x : Int} (hx : l[j]? = some x) : namL (l.take (j + 1)) = namL (l.take j) ++ if refB x = true then [cellV x] else [] := by
  unfold namL
  rw [List.take_add_one, hx]
  simp only [Option.toList_some, List.filter_append, List.map_append]
  congr 1
  cases h : refB x <;> simp [List.filter, h]
theorem nam_len (l : List Int) (j : Nat) : (namL (l.take j)).length ≤ j := by
  unfold namL
  rw [List.length_map]
  exact Nat.le_trans (List.length_filter_le _ _) (by rw [List.length_take]; omega)
/-- A list of ints that comes out, in a row of its own. -/
def OutL (w : World) (l : List Int) (e : Ending) (w' : World) : Prop := ∃ ra c, e = .returned (.slice ra l.length c) ∧ w'.ownsRow w.heap.size 3 1 (.slice ra l.length c) l.length (iL l) ∧ Below w.heap.size w w'
structure NmI (w wr : World) (v : Value) (l : List Int) : Prop where
  o : wr.ownsRow w.heap.size 3 1 v l.length (iL l)
  b : Below w.heap.size w wr
set_option maxRecDepth 100000 in
set_option maxHeartbeats 8000000 in
theorem named_any (l : List Int) (ra : Option Addr) (c : Nat) (w : World) (hW : WR w ra l) (hl : l.length ≤ 100000) (hT : Tab w) :
    Calls Tryd.prog 64 #[.slice ra l.length c] w fun e w' => OutL w (namL l) e w' := by
  obtain ⟨b, o, hor, hcs⟩ := hW
  have HCS : Hid (∀ (j : Nat) (x : Int), l[j]? = some x → b < w.heap.size ∧ w.cell? ⟨b, o + j, none⟩ = some (.int .u64 x) ∧ Rng x) := hcs
  have HOR : Hid (l.length = 0 ∨ ra = some ⟨b, o, none⟩) := hor
  have HT : Hid (Tab w) := hT
  have H0 : Hid (NmI w w (.slice none 0 0) (namL (l.take 0))) := ⟨⟨rfl, .inl ⟨rfl, rfl⟩⟩, Below.refl _ _⟩
  clear hor hcs hT
  obtain ⟨i0, hi0, hz0, hz1, hz2⟩ := info_parts infoI
  go_enter Tryd.func64, Tryd.ntmps64
  go_wp2_with fail
  go_loopw [3, 10, 5, 6, 7] (fun v i _ _ _ wr => ∃ (j : Nat) (r : Option Addr) (c' : Nat), i = .int .i64 j ∧ j ≤ l.length ∧ v = .slice r (namL (l.take j)).length c' ∧ Hid (NmI w wr (.slice r (namL (l.take j)).length c') (namL (l.take j)))) (fun _ i _ _ _ _ => l.length - (intOf i).toNat)
  case atStart => exact ⟨0, none, 0, rfl, Nat.zero_le _, by simp [namL], H0⟩
  case round =>
    clear H0
    obtain ⟨j, r, c', rfl, hj, rfl, HI⟩ := hrel
    have hnl := nam_len l j
    by_cases hjl : j < l.length
    · have k1 : (j : Int) < (l.length : Int) := by omega
      obtain ⟨x, hx⟩ : ∃ x, l[j]? = some x := ⟨_, List.getElem?_eq_getElem hjl⟩
      obtain ⟨g1, y1, y2⟩ := HCS.out j x hx
      have hra : ra = some ⟨b, o, none⟩ := HOR.out.resolve_left (by omega)
      have y3 : wr.cell? ⟨b, o + j, none⟩ = some (.int .u64 x) := (HI.out.b.cell (p := ⟨b, o + j, none⟩) g1).trans y1
      have HC : Hid (Calls Tryd.prog 63 #[.int .u64 x] wr fun e w' => e = .returned (.tuple #[.int .i64 (cellV x), .bool (refB x)]) ∧ w' = wr) := cell_any x wr y2 (HT.out.below HI.out.b)
      have HN : Hid _ := nam_take hx
      rw [hra]
      generalize hL : namL (l.take j) = L at HI HN hnl ⊢
      cases hb : refB x
      · rw [hb] at HC HN
        clear hb hx y1 hra hL
        go_wp2_with fail
        refine Calls.mono HC.out ?_
        rintro e w' ⟨rfl, hw'⟩
        rw [hw']
        clear hw'
        go_wp2_with fail
        go_roundw
        case rel =>
          have e : namL (l.take (j + 1)) = L := by rw [HN.out]; simp
          refine ⟨j + 1, r, c', by go_num, by omega, by rw [e], ?_⟩
          rw [e]
          exact HI
        case measure => simp [intOf]; omega
      · rw [hb] at HC HN
        clear hb hx y1 hra hL
        have hs : w.heap.size ≤ wr.heap.size := HI.out.b.size
        go_wp2_with fail
        refine Calls.mono HC.out ?_
        rintro e w' ⟨rfl, hw'⟩
        rw [hw']
        clear hw'
        go_wp2_with (at_builtin; refine stop_of ?_)
        unfold Hid
        refine wpList_append_lies _ rfl _ _ 26 rfl w.heap.size 3 i0 (.int .i64 0) 1 8 Tryd.underlying26 hi0 hz0 hz1 hz2 rfl (by decide) (.slice r L.length c') L.length (iL L) rfl (HI.out.o.alloc _) ⟨wr.heap.size, 0, none⟩ 1 1 [.int .i64 (cellV x)] rfl rfl (fun j u hu => ?_) (fun u hu => ?_) (by omega) (by unfold maxLen; omega) (by omega) (by rw [World.size_alloc]; omega) _ rfl ?_
        · rw [ad_add, Nat.zero_add]
          exact new_cell _ #[.int .i64 (cellV x)] _ j u hu
        · simp at hu; subst hu; rfl
        intro g cap w2 hown hgr hat hlt2
        have b2 : Below w.heap.size w w2 := (HI.out.b.alloc hs _).grown hgr (by rw [World.size_alloc]; omega) (fun g hg => (HI.out.o.lt g hg).1)
        have HE : Hid (NmI w w2 (.slice (some ⟨g, 0, none⟩) (L.length + 1) cap) (L ++ [cellV x])) := ⟨by simpa using hown, b2⟩
        clear hown hgr hat hlt2 b2
        go_wp2_with fail
        go_roundw
        case rel =>
          have e : namL (l.take (j + 1)) = L ++ [cellV x] := by rw [HN.out]; simp
          refine ⟨j + 1, some ⟨g, 0, none⟩, cap, by go_num, by omega, by rw [e]; simp, ?_⟩
          rw [e, show (L ++ [cellV x]).length = L.length + 1 by simp]
          exact HE
        case measure => simp [intOf]; omega
    · have e : j = l.length := by omega
      subst e
      have k1 : ¬ ((l.length : Int) < (l.length : Int)) := by omega
      rw [List.take_length] at HI ⊢
      go_wp2_with fail
      go_ret
      exact ⟨_, _, rfl, HI.out.o, HI.out.b⟩
end Go.Proofs.YtiglmffnhbegiaaDoor

/- A marker in memory; Lay. -/
namespace Go.Proofs.YtiglmffnhbegiaaDoor
open Go.RowKit

theorem wpList_append_known (w : World) {ops : Array Oper} {rest : List Oper} {o : Oper} {a : Act} {Q : Exit → Act → World → Prop} (hgd : o.guard = none) (d s : Operand) (t t' : TypeId)
    (ho : o.op = .call { callee := .builtin .append, args := #[d, s], argTypes := #[t, t'] }) (v u : Value) (hd : a.eval d = v) (hs : a.eval s = u) {v' : Value} {w' : World}
    (hr : (Builtin.append_ #[t, t'] o.type #[v, u]).run Tryd.prog w = .ok v' w') (h : wpList Tryd.prog ops Q rest (a.put o.dst v') w') : wpList Tryd.prog ops Q (o :: rest) a w := by
  refine wpList_plain hgd fun K hK => ?_
  unfold Oper.wp
  simp [execOp, ho, resolve, invoke, builtin, hd, hs, hr, Result.andThen]
  exact hK _ _ h
def layH (h : List Cl) (l : List Int) : List Cl := l.foldl (fun h i => turnH h i 0 1) h
def layL : List Cl → List Int → List Int
  | _, [] => []
  | h, i :: l => (if turnB h i 0 1 = true then [i] else []) ++ layL (turnH h i 0 1) l
theorem layH_snoc (h : List Cl) (l : List Int) (i : Int) : layH h (l ++ [i]) = turnH (layH h l) i 0 1 := by unfold layH; simp
theorem layL_app : ∀ (h : List Cl) (l l' : List Int), layL h (l ++ l') = layL h l ++ layL (layH h l) l'
  | _, [], _ => rfl
  | h, i :: l, l' => by
    show (if turnB h i 0 1 = true then [i] else []) ++ layL (turnH h i 0 1) (l ++ l') = ((if turnB h i 0 1 = true then [i] else []) ++ layL (turnH h i 0 1) l) ++ layL (layH (turnH h i 0 1) l) l'
    rw [layL_app, List.append_assoc]
theorem layL_snoc (h : List Cl) (l : List Int) (i : Int) : layL h (l ++ [i]) = layL h l ++ if turnB (layH h l) i 0 1 = true then [i] else [] := by
  rw [layL_app]
  simp [layL]
theorem layL_len : ∀ (h : List Cl) (l : List Int), (layL h l).length ≤ l.length
  | _, [] => Nat.le_refl _
  | h, i :: l => by
    unfold layL
    have := layL_len (turnH h i 0 1) l
    rw [List.length_append]
    split <;> simp <;> omega
theorem take_succ' {l : List Int} {j : Nat} {x : Int} (hx : l[j]? = some x) : l.take (j + 1) = l.take j ++ [x] := by rw [List.take_add_one, hx]; rfl
/-- How a marker lies: its block, its row, its heap. -/
structure MM (w : World) (mb hb ab : Nat) (rv : Value) (row : List Int) (h : List Cl) : Prop where
  m : w.heap[mb]? = some (.cells #[.pointer (some ⟨hb, 0, none⟩), rv] 88 (0, 0))
  q : RQ w rv row
  c : CH w hb ab h
/-- What a call leaves. -/
structure MkS (mb hb ab : Nat) (rv rv' : Value) (row' : List Int) (h' : List Cl) (w w' : World) : Prop where
  m : MM w' mb hb ab rv' row' h'
  b : Below 0 w w'
  f : ∀ g, g < w.heap.size → g ≠ mb → g ≠ ab → rv.ownBlock ≠ some g → w'.heap[g]? = w.heap[g]?
  r : ∀ g, rv'.ownBlock = some g → rv.ownBlock = some g ∨ w.heap.size ≤ g
  u : ∀ g, Us w' ab g → Us w ab g ∨ w.heap.size ≤ g
theorem CH.ne_int {w : World} {hb ab b k : Nat} {h : List Cl} {i : IntKind} {x : Int} (H : CH w hb ab h) (hc : w.cell? ⟨b, k, none⟩ = some (.int i x)) : b ≠ ab := fun e => by
  subst e
  obtain ⟨cs, r1, r2, r3⟩ := H.r
  simp only [World.cell?, r1] at hc
  simp at hc
  have hk := (Array.getElem?_eq_some_iff.1 hc).1
  obtain ⟨q, s1, _⟩ := r3 k _ (List.getElem?_eq_getElem (by omega))
  rw [hc] at s1
  cases s1
structure LyI (w wr : World) (hb ab : Nat) (v : Value) (l : List Int) (h : List Cl) : Prop where
  o : wr.ownsRow w.heap.size 3 1 v l.length (iL l)
  e : ExR hb ab h w wr
theorem fr_cell {ab : Nat} {w w' : World} (hF : Fr (fun g => g ≠ ab) w w') {b k : Nat} {u : Value} (hb : b < w.heap.size) (hn : b ≠ ab) (hc : w.cell? ⟨b, k, none⟩ = some u) : w'.cell? ⟨b, k, none⟩ = some u := by
  rw [World.cell?, hF.2 b hn hb]
  exact hc
theorem LyI.grown {w wr w2 : World} {hb ab : Nat} {v v' : Value} {l l' : List Int} {h : List Cl} {o : Obj} (H : LyI w wr hb ab v l h) (_ : ab < w.heap.size) (hown : w2.ownsRow w.heap.size 3 1 v' l'.length (iL l')) (hgr : (wr.alloc o).grownBy w2 v.ownBlock) : LyI w w2 hb ab v' l' h := by
  refine ⟨hown, ?_⟩
  obtain ⟨c, f, u⟩ := H.e
  have hs : w.heap.size ≤ wr.heap.size := f.1.size
  have kk : ∀ g, g < wr.heap.size → v.ownBlock ≠ some g → w2.heap[g]? = wr.heap[g]? := fun g hg hn => (hgr.block g (by rw [World.size_alloc]; omega) (fun e => hn e.symm)).trans (Below.heap_alloc _ _ _ hg)
  have nb : ∀ g, v.ownBlock = some g → w.heap.size ≤ g ∧ ∃ cs, wr.heap[g]? = some (.cells cs 3 (0, 0)) := fun g hg => ⟨(H.o.lt g hg).1, own_blk H.o hg⟩
  have ct : ∀ (g : Nat) (cs : Array Value) (t : Nat), t ≠ 3 → wr.heap[g]? = some (.cells cs t (0, 0)) → w2.heap[g]? = wr.heap[g]? := fun g cs t ht hg => kk g (heap_lt hg) (fun e => by
    obtain ⟨cs', h'⟩ := (nb g e).2
    exact ty_ne hg h' ht rfl)
  obtain ⟨cs, r1, _⟩ := c.r
  refine ⟨c.kept (ct _ _ _ (by decide) c.v) (ct _ _ _ (by decide) r1) (fun q cs hq => ct _ _ _ (by decide) hq), ⟨?_, fun g hg hl => ?_⟩, fun g hg => ?_⟩
  · exact (f.1.alloc (Nat.zero_le _) o).trans (grown_low hgr (fun _ _ => Nat.zero_le _) (Nat.zero_le _))
  · exact (kk g (by omega) (fun e => by have := (nb g e).1; omega)).trans (f.2 g hg hl)
  · exact u g (hg.kept (ct _ _ _ (by decide) r1))
/-- The marker's row grows by what a row of its own holds. -/
theorem MkS.app {w w3 w4 : World} {mb hb ab : Nat} {rv v' met : Value} {row l : List Int} {h h' : List Cl} (H : MM w mb hb ab rv row h) (hI : LyI w w3 hb ab met l h') (hm3 : w3.heap[mb]? = w.heap[mb]?) (hq3 : RQ w3 rv row)
    (hq : RQ w4 v' (row ++ l)) (hk : ∀ g, g < w3.heap.size → rv.ownBlock ≠ some g → w4.heap[g]? = w3.heap[g]?) (hb4 : Below 0 w3 w4) (ho : v'.ownBlock = rv.ownBlock ∨ v'.ownBlock = some w3.heap.size) :
    MkS mb hb ab rv v' (row ++ l) h' w (w4.setCell ⟨mb, 1, none⟩ v') ∧ (w4.setCell ⟨mb, 1, none⟩ v').ownsRow w.heap.size 3 1 met l.length (iL l) ∧ ∀ g, v'.ownBlock = some g → met.ownBlock ≠ some g := by
  obtain ⟨c, f, u⟩ := hI.e
  have hs : w.heap.size ≤ w3.heap.size := f.1.size
  have lm := heap_lt H.m
  have rb : ∀ g, rv.ownBlock = some g → g < w.heap.size ∧ ∃ cs, w3.heap[g]? = some (.cells cs 3 (0, 0)) := fun g hg => by
    obtain ⟨cs, h1⟩ := H.q.blk hg
    exact ⟨heap_lt h1, hq3.blk hg⟩
  have ct : ∀ (g : Nat) (cs : Array Value) (t : Nat), t ≠ 3 → w3.heap[g]? = some (.cells cs t (0, 0)) → w4.heap[g]? = w3.heap[g]? := fun g cs t ht hg => hk g (heap_lt hg) (fun e => by
    obtain ⟨cs', h'⟩ := (rb g e).2
    exact ty_ne hg h' ht rfl)
  have hmm := hm3.trans H.m
  have hm4 : w4.heap[mb]? = some (.cells #[.pointer (some ⟨hb, 0, none⟩), rv] 88 (0, 0)) := (ct _ _ _ (by decide) hmm).trans hmm
  have sf : ∀ g, g ≠ mb → (w4.setCell ⟨mb, 1, none⟩ v').heap[g]? = w4.heap[g]? := fun g hg => Below.heap_setCell _ _ _ _ hg
  have cs' : ∀ (g : Nat) (cs : Array Value) (t : Nat), t ≠ 3 → t ≠ 88 → w3.heap[g]? = some (.cells cs t (0, 0)) → (w4.setCell ⟨mb, 1, none⟩ v').heap[g]? = w3.heap[g]? := fun g cs t ht ht2 hg => (sf g (ty_ne hg hmm ht2)).trans (ct g cs t ht hg)
  obtain ⟨cs, r1, _⟩ := c.r
  have mo : ∀ g, met.ownBlock = some g → w.heap.size ≤ g ∧ g < w3.heap.size := fun g hg => hI.o.lt g hg
  refine ⟨⟨⟨set_atC hm4 v', hq.kept (fun g hg => sf g (fun e => ?_)), c.kept (cs' _ _ _ (by decide) (by decide) c.v) (cs' _ _ _ (by decide) (by decide) r1) (fun q cs hq => cs' _ _ _ (by decide) (by decide) hq)⟩, ?_, fun g hl n1 n2 n3 => ?_, fun g hg => ?_, fun g hg => ?_⟩, ?_, fun g hg e => ?_⟩
  · subst e
    obtain ⟨cs, h1⟩ := hq.blk hg
    exact ty_ne h1 hm4 (by decide) rfl
  · exact (f.1.trans hb4).setCell (p := ⟨mb, 1, none⟩) (Nat.zero_le _) _
  · exact (sf g n1).trans ((hk g (by omega) n3).trans (f.2 g n2 hl))
  · rcases ho with h1 | h1
    · exact .inl (h1 ▸ hg)
    · rw [h1] at hg
      cases hg
      exact .inr hs
  · exact u g (hg.kept (cs' _ _ _ (by decide) (by decide) r1))
  · exact own_same hI.o (fun g hg => (sf g (by have := mo g hg; omega)).trans (hk g (mo g hg).2 (fun e => by have := (rb g e).1; have := mo g hg; omega)))
  · have := mo g e
    rcases ho with h1 | h1
    · rw [h1] at hg
      have := (rb g hg).1
      omega
    · rw [h1] at hg
      cases hg
      omega
def LayO (mb hb ab : Nat) (rv : Value) (row : List Int) (h : List Cl) (l : List Int) (w : World) (e : Ending) (w' : World) : Prop := ∃ ra c rv', e = .returned (.slice ra (layL h l).length c) ∧ w'.ownsRow w.heap.size 3 1 (.slice ra (layL h l).length c) (layL h l).length (iL (layL h l)) ∧ MkS mb hb ab rv rv' (row ++ layL h l) (layH h l) w w' ∧ ∀ g, rv'.ownBlock = some g → (Value.slice ra (layL h l).length c).ownBlock ≠ some g
set_option maxRecDepth 100000 in
set_option maxHeartbeats 8000000 in
theorem lay_any {mb hb ab : Nat} {rv : Value} {row : List Int} {h : List Cl} (l : List Int) (ra : Option Addr) (ca : Nat) (w : World) (H : MM w mb hb ab rv row h) (hR : RX (Value.int .i64) w ra l) (hl : row.length + l.length ≤ 1000000) :
    Calls Tryd.prog 31 #[.pointer (some ⟨mb, 0, none⟩), .slice ra l.length ca] w fun e w' => LayO mb hb ab rv row h l w e w' := by
  obtain ⟨b, o, hor, hcs⟩ := hR
  have HCS : Hid (∀ (j : Nat) (x : Int), l[j]? = some x → b < w.heap.size ∧ w.cell? ⟨b, o + j, none⟩ = some (.int .i64 x)) := hcs
  have HOR : Hid (l.length = 0 ∨ ra = some ⟨b, o, none⟩) := hor
  have HM : Hid (MM w mb hb ab rv row h) := H
  have H0 : Hid (LyI w w hb ab (.slice none 0 0) (layL h (l.take 0)) (layH h (l.take 0))) := ⟨⟨rfl, .inl ⟨rfl, rfl⟩⟩, .of H.c (Below.refl _ _)⟩
  have lm := heap_lt H.m
  have lab := H.c.lt.2
  have nm : mb ≠ ab := by
    obtain ⟨cs, r1, _⟩ := H.c.r
    exact ty_ne H.m r1 (by decide)
  have M0 : w.cell? ⟨mb, 0, none⟩ = some (.pointer (some ⟨hb, 0, none⟩)) := heap_cell H.m rfl
  have HM0 : Hid (w.cell? ⟨mb, 0, none⟩ = some (.pointer (some ⟨hb, 0, none⟩))) := M0
  clear hor hcs H M0
  obtain ⟨i0, hi0, hz0, hz1, hz2⟩ := info_parts infoI
  go_enter Tryd.func31, Tryd.ntmps31
  go_wp2_with fail
  go_loopw [5, 10, 7] (fun v i _ wr => ∃ (j : Nat) (r : Option Addr) (c' : Nat), i = .int .i64 j ∧ j ≤ l.length ∧ v = .slice r (layL h (l.take j)).length c' ∧ Hid (LyI w wr hb ab (.slice r (layL h (l.take j)).length c') (layL h (l.take j)) (layH h (l.take j)))) (fun _ i _ _ => l.length - (intOf i).toNat)
  case atStart => exact ⟨0, none, 0, rfl, Nat.zero_le _, by simp [layL], H0⟩
  case round =>
    clear H0
    obtain ⟨j, r, c', rfl, hj, rfl, HI⟩ := hrel
    have hnl : (layL h (l.take j)).length ≤ l.length := Nat.le_trans (layL_len _ _) (by rw [List.length_take]; omega)
    by_cases hjl : j < l.length
    · have k1 : (j : Int) < (l.length : Int) := by omega
      obtain ⟨x, hx⟩ : ∃ x, l[j]? = some x := ⟨_, List.getElem?_eq_getElem hjl⟩
      obtain ⟨g1, y1⟩ := HCS.out j x hx
      have hra : ra = some ⟨b, o, none⟩ := HOR.out.resolve_left (by omega)
      have y3 : wr.cell? ⟨b, o + j, none⟩ = some (.int .i64 x) := fr_cell HI.out.e.2.1 g1 (HM.out.c.ne_int y1) y1
      have m0 : wr.cell? ⟨mb, 0, none⟩ = some (.pointer (some ⟨hb, 0, none⟩)) := fr_cell HI.out.e.2.1 lm nm HM0.out
      have HE1 : Hid (layL h (l.take (j + 1)) = layL h (l.take j) ++ if turnB (layH h (l.take j)) x 0 1 = true then [x] else []) := by show _ = _; rw [take_succ' hx, layL_snoc]
      have HE2 : Hid (layH h (l.take (j + 1)) = turnH (layH h (l.take j)) x 0 1) := by show _ = _; rw [take_succ' hx, layH_snoc]
      generalize hL : layL h (l.take j) = L at HI HE1 hnl ⊢
      generalize hG : layH h (l.take j) = G at HI HE1 HE2
      have HC : Hid (Calls Tryd.prog 79 #[.pointer (some ⟨hb, 0, none⟩), .int .i64 x] wr fun e w' => e = .returned (.bool (turnB G x 0 1)) ∧ ExR hb ab (turnH G x 0 1) wr w') := shade_any x HI.out.e.1
      rw [hra]
      have hs : w.heap.size ≤ wr.heap.size := HI.out.e.2.1.1.size
      cases hb' : turnB G x 0 1
      · rw [hb'] at HC HE1
        clear hb' hx y1 hra hL hG
        go_wp2_with fail
        refine Calls.mono HC.out ?_
        rintro e w' ⟨rfl, hx'⟩
        have HI' : Hid (LyI w w' hb ab (.slice r L.length c') L (turnH G x 0 1)) := ⟨own_same HI.out.o (fun g hg => hx'.2.1.2 g (by have := (HI.out.o.lt g hg).1; omega) (HI.out.o.lt g hg).2), HI.out.e.trans hx'⟩
        clear hx'
        go_wp2_with fail
        go_roundw
        case rel =>
          have e : layL h (l.take (j + 1)) = L := by rw [HE1.out]; simp
          refine ⟨j + 1, r, c', by go_num, by omega, by rw [e], ?_⟩
          rw [e, HE2.out]
          exact HI'
        case measure => simp [intOf]; omega
      · rw [hb'] at HC HE1
        clear hb' hx y1 hra hL hG
        go_wp2_with fail
        refine Calls.mono HC.out ?_
        rintro e w' ⟨rfl, hx'⟩
        have HI' : Hid (LyI w w' hb ab (.slice r L.length c') L (turnH G x 0 1)) := ⟨own_same HI.out.o (fun g hg => hx'.2.1.2 g (by have := (HI.out.o.lt g hg).1; omega) (HI.out.o.lt g hg).2), HI.out.e.trans hx'⟩
        have hs' : w.heap.size ≤ w'.heap.size := HI'.out.e.2.1.1.size
        clear hx'
        go_wp2_with (at_builtin; refine stop_of ?_)
        unfold Hid
        refine wpList_append_lies _ rfl _ _ 26 rfl w.heap.size 3 i0 (.int .i64 0) 1 8 Tryd.underlying26 hi0 hz0 hz1 hz2 rfl (by decide) (.slice r L.length c') L.length (iL L) rfl (HI'.out.o.alloc _) ⟨w'.heap.size, 0, none⟩ 1 1 [.int .i64 x] rfl rfl (fun j u hu => ?_) (fun u hu => ?_) (by omega) (by unfold maxLen; omega) (by omega) (by rw [World.size_alloc]; omega) _ rfl ?_
        · rw [ad_add, Nat.zero_add]
          exact new_cell _ #[.int .i64 x] _ j u hu
        · simp at hu; subst hu; rfl
        intro g cap w2 hown hgr hat hlt2
        have HE : Hid (LyI w w2 hb ab (.slice (some ⟨g, 0, none⟩) (L.length + 1) cap) (L ++ [x]) (turnH G x 0 1)) := HI'.out.grown lab (by simpa using hown) hgr
        clear hown hgr hat hlt2
        go_wp2_with fail
        go_roundw
        case rel =>
          have e : layL h (l.take (j + 1)) = L ++ [x] := by rw [HE1.out]; simp
          refine ⟨j + 1, some ⟨g, 0, none⟩, cap, by go_num, by omega, by rw [e]; simp, ?_⟩
          rw [e, HE2.out, show (L ++ [x]).length = L.length + 1 by simp]
          exact HE
        case measure => simp [intOf]; omega
    · have e : j = l.length := by omega
      subst e
      have k1 : ¬ ((l.length : Int) < (l.length : Int)) := by omega
      rw [List.take_length] at HI hnl ⊢
      have hm3 : wr.heap[mb]? = w.heap[mb]? := HI.out.e.2.1.2 mb nm lm
      have hmm : wr.heap[mb]? = _ := hm3.trans HM.out.m
      have m1 : wr.cell? ⟨mb, 1, none⟩ = some rv := heap_cell hmm rfl
      have hq3 : RQ wr rv row := HM.out.q.kept (fun g hg => by
        obtain ⟨cs, q1⟩ := HM.out.q.blk hg
        obtain ⟨cs2, r1, _⟩ := HM.out.c.r
        exact HI.out.e.2.1.2 g (ty_ne q1 r1 (by decide)) (heap_lt q1))
      obtain ⟨v', w4, hr, a1, a2, a3, a4⟩ := hq3.app (l' := layL h l) (c := c') (by omega) (ao := r) (own_rx HI.out.o rfl)
      obtain ⟨vr, vc, rfl⟩ := a1.sl
      obtain ⟨R1, R2, R3⟩ := MkS.app HM.out HI.out hm3 hq3 a1 a2 a3 a4
      have HR : Hid _ := (⟨R1, R2, R3⟩ : _ ∧ _ ∧ _)
      rw [List.length_append] at HR
      have hm4 : w4.heap[mb]? = some (.cells #[.pointer (some ⟨hb, 0, none⟩), rv] 88 (0, 0)) := (a2 mb (heap_lt hmm) (fun e => by
        obtain ⟨cs, q1⟩ := hq3.blk e
        exact ty_ne q1 hmm (by decide) rfl)).trans hmm
      have m4 : w4.cell? ⟨mb, 1, none⟩ = some rv := heap_cell hm4 rfl
      have f4 : w4.frozen? ⟨mb, 1, none⟩ = false := by simp [World.frozen?, hm4]
      have lr := heap_lt hmm
      have l4 := heap_lt hm4
      have Hr : Hid (∀ ty, (Builtin.append_ #[26, 26] ty #[rv, .slice r (layL h l).length c']).run Tryd.prog wr = .ok (.slice vr (row.length + (layL h l).length) vc) w4) := fun ty => by have := hr ty; rw [List.length_append] at this; exact this
      clear R1 R2 R3 hr a1 a2 a3 a4 hq3 hm3 hmm hm4
      go_wp2_with (at_builtin; refine stop_of ?_)
      unfold Hid
      refine wpList_append_known _ rfl _ _ 26 26 rfl _ _ rfl rfl (Hr.out _) ?_
      clear Hr
      go_wp2_with fail
      go_ret
      exact ⟨_, _, _, rfl, HR.out.2.1, HR.out.1, HR.out.2.2⟩
end Go.Proofs.YtiglmffnhbegiaaDoor

/- Shade, Scan, Grey of a marker. -/
namespace Go.Proofs.YtiglmffnhbegiaaDoor
open Go.RowKit

theorem own_mono {w : World} {base base' e size n : Nat} {v : Value} {xs : List Value} (h : w.ownsRow base e size v n xs) (hb : base' ≤ base) : w.ownsRow base' e size v n xs := by
  refine ⟨h.1, ?_⟩
  rcases h.2 with h' | ⟨g, cap, cur, hv, hg, r⟩
  · exact .inl h'
  · exact .inr ⟨g, cap, cur, hv, Nat.le_trans hb hg, r⟩
theorem MM.below {w w' : World} {mb hb ab : Nat} {rv : Value} {row : List Int} {h : List Cl} (H : MM w mb hb ab rv row h) (hB : Below w.heap.size w w') : MM w' mb hb ab rv row h :=
  ⟨(hB.block _ (heap_lt H.m)).trans H.m, H.q.kept (fun g hg => by obtain ⟨cs, q1⟩ := H.q.blk hg; exact hB.block g (heap_lt q1)), H.c.below hB⟩
theorem MkS.of {w w' : World} {mb hb ab : Nat} {rv : Value} {row : List Int} {h : List Cl} (H : MM w mb hb ab rv row h) (hB : Below w.heap.size w w') : MkS mb hb ab rv rv row h w w' :=
  ⟨H.below hB, hB.mono (Nat.zero_le _), fun g hg _ _ _ => hB.block g hg, fun _ hg => .inl hg, fun _ hg => .inl (hg.kept (hB.block _ H.c.lt.2))⟩
theorem MkS.trans {w w' w'' : World} {mb hb ab : Nat} {rv rv' rv'' : Value} {row row' : List Int} {h h' : List Cl} (a : MkS mb hb ab rv rv' row h w w') (b : MkS mb hb ab rv' rv'' row' h' w' w'') : MkS mb hb ab rv rv'' row' h' w w'' :=
  ⟨b.m, a.b.trans b.b, fun g hg n1 n2 n3 => (b.f g (Nat.lt_of_lt_of_le hg a.b.size) n1 n2 (fun e => by
      rcases a.r g e with h | h
      · exact n3 h
      · omega)).trans (a.f g hg n1 n2 n3), fun g hg => by
      rcases b.r g hg with h | h
      · exact a.r g h
      · exact .inr (Nat.le_trans a.b.size h), fun g hg => by
      rcases b.u g hg with h | h
      · exact a.u g h
      · exact .inr (Nat.le_trans a.b.size h)⟩
theorem MM.ex {w w' : World} {mb hb ab : Nat} {rv : Value} {row : List Int} {h h' : List Cl} (H : MM w mb hb ab rv row h) (hE : ExR hb ab h' w w') : MkS mb hb ab rv rv row h' w w' := by
  obtain ⟨cs, r1, _⟩ := H.c.r
  refine ⟨⟨(hE.2.1.2 _ (ty_ne H.m r1 (by decide)) (heap_lt H.m)).trans H.m, H.q.kept (fun g hg => ?_), hE.1⟩, hE.2.1.1, fun g hg _ n2 _ => hE.2.1.2 g n2 hg, fun g hg => .inl hg, hE.2.2⟩
  obtain ⟨cs, q1⟩ := H.q.blk hg
  exact hE.2.1.2 g (ty_ne q1 r1 (by decide)) (heap_lt q1)
set_option maxRecDepth 100000 in
set_option maxHeartbeats 8000000 in
theorem shadeM_any {mb hb ab : Nat} {rv : Value} {row : List Int} {h : List Cl} (l : List Int) (ra : Option Addr) (ca : Nat) (w : World) (H : MM w mb hb ab rv row h) (hW : WR w ra l) (hl : l.length ≤ 100000) (hrl : row.length ≤ 500000) (hT : Tab w) :
    Calls Tryd.prog 12 #[.pointer (some ⟨mb, 0, none⟩), .slice ra l.length ca] w fun e w' => LayO mb hb ab rv row h (namL l) w e w' := by
  have HN : Hid (Calls Tryd.prog 64 #[.slice ra l.length ca] w fun e w' => OutL w (namL l) e w') := named_any l ra ca w hW hl hT
  have HM : Hid (MM w mb hb ab rv row h) := H
  have hnl : (namL l).length ≤ l.length := by have := nam_len l l.length; rwa [List.take_length] at this
  clear H hW hT
  go_enter Tryd.func12, Tryd.ntmps12
  go_wp2_with fail
  refine Calls.mono HN.out ?_
  rintro e w1 ⟨r1, c1, rfl, ho, hb1⟩
  have HB1 : Hid (Below w.heap.size w w1) := hb1
  have HC : Hid (Calls Tryd.prog 31 #[.pointer (some ⟨mb, 0, none⟩), .slice r1 (namL l).length c1] w1 fun e w' => LayO mb hb ab rv row h (namL l) w1 e w') := lay_any (namL l) r1 c1 w1 (HM.out.below hb1) (own_rx ho rfl) (by omega)
  clear ho hb1
  go_wp2_with fail
  refine Calls.mono HC.out ?_
  rintro e w2 ⟨r2, c2, rv', rfl, ho, hs, hd⟩
  have HR : Hid (LayO mb hb ab rv row h (namL l) w (.returned (.slice r2 (layL h (namL l)).length c2)) w2) := ⟨r2, c2, rv', rfl, own_mono ho HB1.out.size, (MkS.of HM.out HB1.out).trans hs, hd⟩
  clear ho hs hd
  go_wp2_with fail
  go_ret
  exact HR.out
def scanL (h : List Cl) (p : Int) : List Int := namL [ldW h p 0, ldW h p 1]
def scanH (h : List Cl) (p : Int) : List Cl := turnH (layH h (scanL h p)) p 1 2
def ScO (mb hb ab : Nat) (rv : Value) (p : Int) (row : List Int) (h : List Cl) (w : World) (e : Ending) (w' : World) : Prop := ∃ ra c rv', e = .returned (.tuple #[.int .i64 p, .slice ra (layL h (scanL h p)).length c, .bool true]) ∧ w'.ownsRow w.heap.size 3 1 (.slice ra (layL h (scanL h p)).length c) (layL h (scanL h p)).length (iL (layL h (scanL h p))) ∧ MkS mb hb ab rv rv' (row ++ layL h (scanL h p)) (scanH h p) w w' ∧ ∀ g, rv'.ownBlock = some g → (Value.slice ra (layL h (scanL h p)).length c).ownBlock ≠ some g
theorem CH.rng {w : World} {hb ab : Nat} {h : List Cl} (H : CH w hb ab h) (i f : Int) : Rng (ldW h i f) := by
  unfold ldW
  cases hg : getC h i with
  | none =>
    show Rng 0
    exact ⟨by decide, by decide⟩
  | some x =>
    have hx : x ∈ h := by
      unfold getC at hg
      split at hg
      · exact List.mem_of_getElem? hg
      · cases hg
    dsimp only
    split
    · show Rng 0
      exact ⟨by decide, by decide⟩
    · split
      · exact (H.ok x hx).a
      · exact (H.ok x hx).b
set_option maxRecDepth 100000 in
set_option maxHeartbeats 8000000 in
theorem scan_none {mb hb ab : Nat} {rv : Value} {h : List Cl} (w : World) (H : MM w mb hb ab rv [] h) :
    Calls Tryd.prog 13 #[.pointer (some ⟨mb, 0, none⟩)] w fun e w' => e = .returned (.tuple #[.int .i64 0, .slice none 0 0, .bool false]) ∧ w' = w := by
  have lm := heap_lt H.m
  obtain ⟨r, c, rfl⟩ := H.q.sl
  have m1 : w.cell? ⟨mb, 1, none⟩ = some (.slice r 0 c) := heap_cell H.m rfl
  clear H
  go_enter Tryd.func13, Tryd.ntmps13
  go_wp2_with fail
  exact bodyPost_ret (results_tmp3 rfl _ _ _) rfl ⟨rfl, rfl⟩
/-- The first goes from the row. -/
theorem MkS.cut {w : World} {mb hb ab g off' n c' : Nat} {r : Value} {row : List Int} {h : List Cl} (H : MM w mb hb ab r row h) {row' : List Int} (hr : r.ownBlock = some g) (hq : RQ w (.slice (some ⟨g, off', none⟩) n c') row') : MkS mb hb ab r (.slice (some ⟨g, off', none⟩) n c') row' h w (w.setCell ⟨mb, 1, none⟩ (.slice (some ⟨g, off', none⟩) n c')) := by
  obtain ⟨cs, r1, _⟩ := H.c.r
  have sf : ∀ k, k ≠ mb → (w.setCell ⟨mb, 1, none⟩ (.slice (some ⟨g, off', none⟩) n c')).heap[k]? = w.heap[k]? := fun k hk => Below.heap_setCell _ _ _ _ hk
  have st : ∀ (k : Nat) (cs : Array Value) (t : Nat), t ≠ 88 → w.heap[k]? = some (.cells cs t (0, 0)) → (w.setCell ⟨mb, 1, none⟩ (.slice (some ⟨g, off', none⟩) n c')).heap[k]? = w.heap[k]? := fun k cs t ht hk => sf k (ty_ne hk H.m ht)
  refine ⟨⟨set_atC H.m _, hq.kept (fun k hk => ?_), H.c.kept (st _ _ _ (by decide) H.c.v) (st _ _ _ (by decide) r1) (fun q cs hq => st _ _ _ (by decide) hq)⟩, (Below.refl 0 w).setCell (p := ⟨mb, 1, none⟩) (Nat.zero_le _) _, fun k _ n1 _ _ => sf k n1, fun k hk => .inl ?_, fun k hk => .inl (hk.kept (st _ _ _ (by decide) r1))⟩
  · obtain ⟨cs, q1⟩ := hq.blk hk
    exact st _ _ _ (by decide) q1
  · have : g = k := by simpa [Value.ownBlock] using hk
    rw [← this]; exact hr
set_option maxRecDepth 100000 in
set_option maxHeartbeats 8000000 in
theorem scan_more {mb hb ab g off : Nat} {row : List Int} {h : List Cl} {p : Int} (c : Nat) (w : World) (H : MM w mb hb ab (.slice (some ⟨g, off, none⟩) (row.length + 1) c) (p :: row) h) (hc : c ≠ 1) (_ : g < w.heap.size) (hp : w.cell? ⟨g, off, none⟩ = some (.int .i64 p)) (hle : row.length + 1 ≤ c) (hQ : RQ w (.slice (some ⟨g, off + 1, none⟩) row.length (c - 1)) row) (hl : row.length ≤ 400000) (hT : Tab w) :
    Calls Tryd.prog 13 #[.pointer (some ⟨mb, 0, none⟩)] w fun e w' => ScO mb hb ab (.slice (some ⟨g, off, none⟩) (row.length + 1) c) p row h w e w' := by
  have lm := heap_lt H.m
  have m0 : w.cell? ⟨mb, 0, none⟩ = some (.pointer (some ⟨hb, 0, none⟩)) := heap_cell H.m rfl
  have m1 : w.cell? ⟨mb, 1, none⟩ = some (.slice (some ⟨g, off, none⟩) (row.length + 1) c) := heap_cell H.m rfl
  have f1 : w.frozen? ⟨mb, 1, none⟩ = false := by simp [World.frozen?, H.m]
  have z1 : ¬ (c = 1) := hc
  have z2 : ¬ (c - 1 = 0) := by omega
  have HS1 : Hid (MkS mb hb ab (.slice (some ⟨g, off, none⟩) (row.length + 1) c) (.slice (some ⟨g, off + 1, none⟩) row.length (c - 1)) row h w (w.setCell ⟨mb, 1, none⟩ (.slice (some ⟨g, off + 1, none⟩) row.length (c - 1)))) := MkS.cut H rfl hQ
  have hTab : Tab (w.setCell ⟨mb, 1, none⟩ (.slice (some ⟨g, off + 1, none⟩) row.length (c - 1))) := fun t ht => by
    have hne : 0 ≠ mb := fun e => by
      have := (hT 1 (by decide)).1
      simp only [World.cell?, e, H.m] at this
      simp at this
    obtain ⟨a, b⟩ := hT t ht
    exact ⟨(World.cell?_setCell_far _ _ _ _ (fun e => hne e.symm)).trans a, (World.cell?_setCell_far _ _ _ _ (fun e => hne e.symm)).trans b⟩
  have HT1 : Hid (Tab (w.setCell ⟨mb, 1, none⟩ (.slice (some ⟨g, off + 1, none⟩) row.length (c - 1)))) := hTab
  have HM : Hid (MM w mb hb ab (.slice (some ⟨g, off, none⟩) (row.length + 1) c) (p :: row) h) := H
  obtain ⟨w1, hw1⟩ : ∃ w1, w1 = w.setCell ⟨mb, 1, none⟩ (.slice (some ⟨g, off + 1, none⟩) row.length (c - 1)) := ⟨_, rfl⟩
  rw [← hw1] at HS1 HT1
  have HW1 : Hid (w1 = w.setCell ⟨mb, 1, none⟩ (.slice (some ⟨g, off + 1, none⟩) row.length (c - 1))) := hw1
  have n1 : w1.cell? ⟨mb, 0, none⟩ = some (.pointer (some ⟨hb, 0, none⟩)) := heap_cell HS1.out.m.m rfl
  have HL1 : Hid (Calls Tryd.prog 65 #[.pointer (some ⟨hb, 0, none⟩), .int .i64 p, .int .i64 0] w1 fun e w' => LdR h p 0 w1 e w') := load_any p 0 HS1.out.m.c (.inl rfl)
  clear H hQ hT hTab hw1
  go_enter Tryd.func13, Tryd.ntmps13
  go_wp2_with fail
  rw [← HW1.out]
  go_wp2_with fail
  refine Calls.mono HL1.out ?_
  rintro e w2 ⟨rfl, hb2⟩
  have S2 := HS1.out.trans (MkS.of HS1.out.m hb2)
  have HS2 : Hid (MkS mb hb ab (.slice (some ⟨g, off, none⟩) (row.length + 1) c) (.slice (some ⟨g, off + 1, none⟩) row.length (c - 1)) row h w w2) := S2
  have HT2 : Hid (Tab w2) := HT1.out.below hb2
  have n2 : w2.cell? ⟨mb, 0, none⟩ = some (.pointer (some ⟨hb, 0, none⟩)) := heap_cell S2.m.m rfl
  have HL2 : Hid (Calls Tryd.prog 65 #[.pointer (some ⟨hb, 0, none⟩), .int .i64 p, .int .i64 1] w2 fun e w' => LdR h p 1 w2 e w') := load_any p 1 S2.m.c (.inr rfl)
  clear hb2 S2 HS1 HT1 HL1 HW1
  go_wp2_with fail
  refine Calls.mono HL2.out ?_
  rintro e w3 ⟨rfl, hb3⟩
  have S3 := HS2.out.trans (MkS.of HS2.out.m hb3)
  have HR0 : Hid (Rng (ldW h p 0)) := S3.m.c.rng p 0
  have HR1 : Hid (Rng (ldW h p 1)) := S3.m.c.rng p 1
  have hb4 : Below w3.heap.size w3 (w3.alloc (.cells #[.int .u64 (ldW h p 0), .int .u64 (ldW h p 1)] 29)) := (Below.refl _ _).alloc (Nat.le_refl _) _
  have S4 := S3.trans (MkS.of S3.m hb4)
  have HS4 : Hid (MkS mb hb ab (.slice (some ⟨g, off, none⟩) (row.length + 1) c) (.slice (some ⟨g, off + 1, none⟩) row.length (c - 1)) row h w (w3.alloc (.cells #[.int .u64 (ldW h p 0), .int .u64 (ldW h p 1)] 29))) := S4
  have hWR : WR (w3.alloc (.cells #[.int .u64 (ldW h p 0), .int .u64 (ldW h p 1)] 29)) (some ⟨w3.heap.size, 0, none⟩) [ldW h p 0, ldW h p 1] := by
    refine ⟨w3.heap.size, 0, .inr rfl, fun j x hx => ⟨by rw [World.size_alloc]; omega, ?_⟩⟩
    rw [Nat.zero_add]
    match j, hx with
    | 0, hx => cases hx; exact ⟨new_cell _ _ _ 0 _ rfl, HR0.out⟩
    | 1, hx => cases hx; exact ⟨new_cell _ _ _ 1 _ rfl, HR1.out⟩
    | j + 2, hx => simp at hx
  have HC : Hid (Calls Tryd.prog 12 #[.pointer (some ⟨mb, 0, none⟩), .slice (some ⟨w3.heap.size, 0, none⟩) 2 2] (w3.alloc (.cells #[.int .u64 (ldW h p 0), .int .u64 (ldW h p 1)] 29)) fun e w' => LayO mb hb ab (.slice (some ⟨g, off + 1, none⟩) row.length (c - 1)) row h (namL [ldW h p 0, ldW h p 1]) (w3.alloc (.cells #[.int .u64 (ldW h p 0), .int .u64 (ldW h p 1)] 29)) e w') :=
    shadeM_any [ldW h p 0, ldW h p 1] (some ⟨w3.heap.size, 0, none⟩) 2 _ S4.m hWR (by simp) (by omega) ((HT2.out.below hb3).below hb4)
  clear hb3 hb4 S3 S4 HS2 HT2 HL2 hWR n1 n2
  go_wp2_with fail
  refine Calls.mono HC.out ?_
  rintro e w5 ⟨r5, c5, rv5, rfl, ho5, hs5, hd5⟩
  have S5 := HS4.out.trans hs5
  have HO5 : Hid (w5.ownsRow w.heap.size 3 1 (.slice r5 (layL h (scanL h p)).length c5) (layL h (scanL h p)).length (iL (layL h (scanL h p)))) := own_mono ho5 HS4.out.b.size
  have HS5 : Hid (MkS mb hb ab (.slice (some ⟨g, off, none⟩) (row.length + 1) c) rv5 (row ++ layL h (scanL h p)) (layH h (scanL h p)) w w5) := S5
  have HD5 : Hid (∀ g, rv5.ownBlock = some g → (Value.slice r5 (layL h (scanL h p)).length c5).ownBlock ≠ some g) := hd5
  have n5 : w5.cell? ⟨mb, 0, none⟩ = some (.pointer (some ⟨hb, 0, none⟩)) := heap_cell S5.m.m rfl
  have HTn : Hid (Calls Tryd.prog 37 #[.pointer (some ⟨hb, 0, none⟩), .int .i64 p, .int .u8 1, .int .u8 2] w5 fun e w' => e = .returned (.bool (turnB (layH h (scanL h p)) p 1 2)) ∧ ExR hb ab (turnH (layH h (scanL h p)) p 1 2) w5 w') := turn_any p 1 2 S5.m.c (by decide)
  have lab : ab < w.heap.size := HM.out.c.lt.2
  change _ at n5
  rw [show namL [ldW h p 0, ldW h p 1] = scanL h p from rfl]
  clear ho5 hs5 hd5 S5 HC HS4
  go_wp2_with fail
  refine Calls.mono HTn.out ?_
  rintro e w6 ⟨rfl, hx⟩
  have HRo : Hid (w6.ownsRow w.heap.size 3 1 (.slice r5 (layL h (scanL h p)).length c5) (layL h (scanL h p)).length (iL (layL h (scanL h p)))) := own_same HO5.out (fun k hk => hx.2.1.2 k (by have := (HO5.out.lt k hk).1; omega) (HO5.out.lt k hk).2)
  have HRs : Hid (MkS mb hb ab (.slice (some ⟨g, off, none⟩) (row.length + 1) c) rv5 (row ++ layL h (scanL h p)) (scanH h p) w w6) := HS5.out.trans (HS5.out.m.ex hx)
  clear hx
  go_wp2_with fail
  exact bodyPost_ret (results_tmp3 rfl _ _ _) rfl ⟨_, _, _, rfl, HRo.out, HRs.out, HD5.out⟩
end Go.Proofs.YtiglmffnhbegiaaDoor

/- Scan, whole; New of a marker. -/
namespace Go.Proofs.YtiglmffnhbegiaaDoor
open Go.RowKit

set_option maxRecDepth 100000 in
set_option maxHeartbeats 8000000 in
theorem scan_last {mb hb ab g off : Nat} {h : List Cl} {p : Int} (w : World) (H : MM w mb hb ab (.slice (some ⟨g, off, none⟩) 1 1) [p] h) (_ : g < w.heap.size) (hp : w.cell? ⟨g, off, none⟩ = some (.int .i64 p)) (hQ : RQ w (.slice (some ⟨g, off, none⟩) 0 0) []) (hT : Tab w) :
    Calls Tryd.prog 13 #[.pointer (some ⟨mb, 0, none⟩)] w fun e w' => ScO mb hb ab (.slice (some ⟨g, off, none⟩) 1 1) p [] h w e w' := by
  have lm := heap_lt H.m
  have m0 : w.cell? ⟨mb, 0, none⟩ = some (.pointer (some ⟨hb, 0, none⟩)) := heap_cell H.m rfl
  have m1 : w.cell? ⟨mb, 1, none⟩ = some (.slice (some ⟨g, off, none⟩) 1 1) := heap_cell H.m rfl
  have f1 : w.frozen? ⟨mb, 1, none⟩ = false := by simp [World.frozen?, H.m]
  have HS1 : Hid (MkS mb hb ab (.slice (some ⟨g, off, none⟩) 1 1) (.slice (some ⟨g, off, none⟩) 0 0) [] h w (w.setCell ⟨mb, 1, none⟩ (.slice (some ⟨g, off, none⟩) 0 0))) := MkS.cut H rfl hQ
  have hTab : Tab (w.setCell ⟨mb, 1, none⟩ (.slice (some ⟨g, off, none⟩) 0 0)) := fun t ht => by
    have hne : 0 ≠ mb := fun e => by
      have := (hT 1 (by decide)).1
      simp only [World.cell?, e, H.m] at this
      simp at this
    obtain ⟨a, b⟩ := hT t ht
    exact ⟨(World.cell?_setCell_far _ _ _ _ (fun e => hne e.symm)).trans a, (World.cell?_setCell_far _ _ _ _ (fun e => hne e.symm)).trans b⟩
  have HT1 : Hid (Tab (w.setCell ⟨mb, 1, none⟩ (.slice (some ⟨g, off, none⟩) 0 0))) := hTab
  have HM : Hid (MM w mb hb ab (.slice (some ⟨g, off, none⟩) 1 1) [p] h) := H
  obtain ⟨w1, hw1⟩ : ∃ w1, w1 = w.setCell ⟨mb, 1, none⟩ (.slice (some ⟨g, off, none⟩) 0 0) := ⟨_, rfl⟩
  rw [← hw1] at HS1 HT1
  have HW1 : Hid (w1 = w.setCell ⟨mb, 1, none⟩ (.slice (some ⟨g, off, none⟩) 0 0)) := hw1
  have n1 : w1.cell? ⟨mb, 0, none⟩ = some (.pointer (some ⟨hb, 0, none⟩)) := heap_cell HS1.out.m.m rfl
  have HL1 : Hid (Calls Tryd.prog 65 #[.pointer (some ⟨hb, 0, none⟩), .int .i64 p, .int .i64 0] w1 fun e w' => LdR h p 0 w1 e w') := load_any p 0 HS1.out.m.c (.inl rfl)
  clear H hQ hT hTab hw1
  go_enter Tryd.func13, Tryd.ntmps13
  go_wp2_with fail
  rw [← HW1.out]
  go_wp2_with fail
  refine Calls.mono HL1.out ?_
  rintro e w2 ⟨rfl, hb2⟩
  have S2 := HS1.out.trans (MkS.of HS1.out.m hb2)
  have HS2 : Hid (MkS mb hb ab (.slice (some ⟨g, off, none⟩) 1 1) (.slice (some ⟨g, off, none⟩) 0 0) [] h w w2) := S2
  have HT2 : Hid (Tab w2) := HT1.out.below hb2
  have n2 : w2.cell? ⟨mb, 0, none⟩ = some (.pointer (some ⟨hb, 0, none⟩)) := heap_cell S2.m.m rfl
  have HL2 : Hid (Calls Tryd.prog 65 #[.pointer (some ⟨hb, 0, none⟩), .int .i64 p, .int .i64 1] w2 fun e w' => LdR h p 1 w2 e w') := load_any p 1 S2.m.c (.inr rfl)
  clear hb2 S2 HS1 HT1 HL1 HW1
  go_wp2_with fail
  refine Calls.mono HL2.out ?_
  rintro e w3 ⟨rfl, hb3⟩
  have S3 := HS2.out.trans (MkS.of HS2.out.m hb3)
  have HR0 : Hid (Rng (ldW h p 0)) := S3.m.c.rng p 0
  have HR1 : Hid (Rng (ldW h p 1)) := S3.m.c.rng p 1
  have hb4 : Below w3.heap.size w3 (w3.alloc (.cells #[.int .u64 (ldW h p 0), .int .u64 (ldW h p 1)] 29)) := (Below.refl _ _).alloc (Nat.le_refl _) _
  have S4 := S3.trans (MkS.of S3.m hb4)
  have HS4 : Hid (MkS mb hb ab (.slice (some ⟨g, off, none⟩) 1 1) (.slice (some ⟨g, off, none⟩) 0 0) [] h w (w3.alloc (.cells #[.int .u64 (ldW h p 0), .int .u64 (ldW h p 1)] 29))) := S4
  have hWR : WR (w3.alloc (.cells #[.int .u64 (ldW h p 0), .int .u64 (ldW h p 1)] 29)) (some ⟨w3.heap.size, 0, none⟩) [ldW h p 0, ldW h p 1] := by
    refine ⟨w3.heap.size, 0, .inr rfl, fun j x hx => ⟨by rw [World.size_alloc]; omega, ?_⟩⟩
    rw [Nat.zero_add]
    match j, hx with
    | 0, hx => cases hx; exact ⟨new_cell _ _ _ 0 _ rfl, HR0.out⟩
    | 1, hx => cases hx; exact ⟨new_cell _ _ _ 1 _ rfl, HR1.out⟩
    | j + 2, hx => simp at hx
  have HC : Hid (Calls Tryd.prog 12 #[.pointer (some ⟨mb, 0, none⟩), .slice (some ⟨w3.heap.size, 0, none⟩) 2 2] (w3.alloc (.cells #[.int .u64 (ldW h p 0), .int .u64 (ldW h p 1)] 29)) fun e w' => LayO mb hb ab (.slice (some ⟨g, off, none⟩) 0 0) [] h (namL [ldW h p 0, ldW h p 1]) (w3.alloc (.cells #[.int .u64 (ldW h p 0), .int .u64 (ldW h p 1)] 29)) e w') :=
    shadeM_any [ldW h p 0, ldW h p 1] (some ⟨w3.heap.size, 0, none⟩) 2 _ S4.m hWR (by simp) (by simp) ((HT2.out.below hb3).below hb4)
  clear hb3 hb4 S3 S4 HS2 HT2 HL2 hWR n1 n2
  go_wp2_with fail
  refine Calls.mono HC.out ?_
  rintro e w5 ⟨r5, c5, rv5, rfl, ho5, hs5, hd5⟩
  have S5 := HS4.out.trans hs5
  have HO5 : Hid (w5.ownsRow w.heap.size 3 1 (.slice r5 (layL h (scanL h p)).length c5) (layL h (scanL h p)).length (iL (layL h (scanL h p)))) := own_mono ho5 HS4.out.b.size
  have HS5 : Hid (MkS mb hb ab (.slice (some ⟨g, off, none⟩) 1 1) rv5 ([] ++ layL h (scanL h p)) (layH h (scanL h p)) w w5) := S5
  have HD5 : Hid (∀ g, rv5.ownBlock = some g → (Value.slice r5 (layL h (scanL h p)).length c5).ownBlock ≠ some g) := hd5
  have n5 : w5.cell? ⟨mb, 0, none⟩ = some (.pointer (some ⟨hb, 0, none⟩)) := heap_cell S5.m.m rfl
  have HTn : Hid (Calls Tryd.prog 37 #[.pointer (some ⟨hb, 0, none⟩), .int .i64 p, .int .u8 1, .int .u8 2] w5 fun e w' => e = .returned (.bool (turnB (layH h (scanL h p)) p 1 2)) ∧ ExR hb ab (turnH (layH h (scanL h p)) p 1 2) w5 w') := turn_any p 1 2 S5.m.c (by decide)
  have lab : ab < w.heap.size := HM.out.c.lt.2
  change _ at n5
  rw [show namL [ldW h p 0, ldW h p 1] = scanL h p from rfl]
  clear ho5 hs5 hd5 S5 HC HS4
  go_wp2_with fail
  refine Calls.mono HTn.out ?_
  rintro e w6 ⟨rfl, hx⟩
  have HRo : Hid (w6.ownsRow w.heap.size 3 1 (.slice r5 (layL h (scanL h p)).length c5) (layL h (scanL h p)).length (iL (layL h (scanL h p)))) := own_same HO5.out (fun k hk => hx.2.1.2 k (by have := (HO5.out.lt k hk).1; omega) (HO5.out.lt k hk).2)
  have HRs : Hid (MkS mb hb ab (.slice (some ⟨g, off, none⟩) 1 1) rv5 ([] ++ layL h (scanL h p)) (scanH h p) w w6) := HS5.out.trans (HS5.out.m.ex hx)
  clear hx
  go_wp2_with fail
  exact bodyPost_ret (results_tmp3 rfl _ _ _) rfl ⟨_, _, _, rfl, HRo.out, HRs.out, HD5.out⟩
def ScA (mb hb ab : Nat) (rv : Value) (row : List Int) (h : List Cl) (w : World) (e : Ending) (w' : World) : Prop := match row with
  | [] => e = .returned (.tuple #[.int .i64 0, .slice none 0 0, .bool false]) ∧ w' = w
  | p :: row => ScO mb hb ab rv p row h w e w'
theorem scan_any {mb hb ab : Nat} {rv : Value} {row : List Int} {h : List Cl} (w : World) (H : MM w mb hb ab rv row h) (hl : row.length ≤ 400000) (hT : Tab w) :
    Calls Tryd.prog 13 #[.pointer (some ⟨mb, 0, none⟩)] w fun e w' => ScA mb hb ab rv row h w e w' := by
  cases row with
  | nil => exact scan_none w H
  | cons p row =>
    obtain ⟨ra, c, rfl⟩ := H.q.sl
    have hq := H.q
    rw [List.length_cons] at hq H ⊢
    obtain ⟨g, off, rfl, h1, h2, h3, h4, h5⟩ := hq.tail
    by_cases hc : c = 1
    · subst hc
      have hr : row = [] := List.eq_nil_of_length_eq_zero (by omega)
      subst hr
      exact scan_last w H h2 h3 (h5 rfl) hT
    · exact scan_more c w H hc h2 h3 h1 (h4 hc) (by rw [List.length_cons] at hl; omega) hT
set_option maxRecDepth 100000 in
set_option maxHeartbeats 8000000 in
theorem markNew_any (hb : Nat) (w : World) : Calls Tryd.prog 8 #[.pointer (some ⟨hb, 0, none⟩)] w fun e w' => e = .returned (.pointer (some ⟨w.heap.size, 0, none⟩)) ∧ w' = w.alloc (.cells #[.pointer (some ⟨hb, 0, none⟩), .slice none 0 0] 88) := by
  go_enter Tryd.func8, Tryd.ntmps8
  go_wp2_with fail
  go_ret
  exact ⟨rfl, rfl⟩
theorem MM.new {w : World} {hb ab : Nat} {h : List Cl} (H : CH w hb ab h) : MM (w.alloc (.cells #[.pointer (some ⟨hb, 0, none⟩), .slice none 0 0] 88)) w.heap.size hb ab (.slice none 0 0) [] h :=
  ⟨heap_alloc_new w _, .inl ⟨rfl, rfl⟩, H.below ((Below.refl _ w).alloc (Nat.le_refl _) _)⟩
end Go.Proofs.YtiglmffnhbegiaaDoor

/- Grey: the row, laid once more. -/
namespace Go.Proofs.YtiglmffnhbegiaaDoor
open Go.RowKit

set_option maxRecDepth 100000 in
set_option maxHeartbeats 4000000 in
theorem cloneI_any (l : List Int) (v : Value) (w : World) (hl : l.length ≤ 1000000) (hO : RQ w v l) :
    Calls Tryd.prog 82 #[v] w fun e w' => (∃ v', e = .returned v' ∧ w'.ownsRow w.heap.size 3 1 v' l.length (iL l)) ∧ Below w.heap.size w w' := by
  rcases hO with ⟨rfl, rfl⟩ | ⟨g, off, ca, cs, rfl, hh, hn, hs, hcs⟩
  · have qT : ∀ (w : World), (binOp .eql 26 (.slice none 0 0) (.slice none 0 0)).run Tryd.prog w = .ok (.bool true) w := fun w => Lib.run_eql_slice_nil w 26 _ none 0 0 0 0 Tryd.underlying26
    go_enter Tryd.func82, Tryd.ntmps82
    go_wp2
    go_ret
    exact ⟨⟨_, rfl, World.ownsRow_nil _ _ _ _⟩, Below.refl _ _⟩
  · have hcell : ∀ (j : Nat) (u : Value), (iL l)[j]? = some u → w.cell? ⟨g, off + j, none⟩ = some u := fun j u hj => heap_cell hh (hcs j u hj)
    have hxl : (iL l).length = l.length * 1 := by simp
    have h1c : ∀ u ∈ iL l, u.oneCell' = true := fun u hu => by
      obtain ⟨x, _, rfl⟩ := List.mem_map.1 hu
      rfl
    have lg := heap_lt hh
    obtain ⟨i1, hi1, hy0, hy1, hy2⟩ := info_parts infoI
    have HC : Hid (∀ (j : Nat) (u : Value), (iL l)[j]? = some u → w.cell? ⟨g, off + j, none⟩ = some u) := hcell
    have H1 : Hid (∀ u ∈ iL l, u.oneCell' = true) := h1c
    clear hh hs hcs hcell h1c
    have qT : ∀ (w : World), (binOp .eql 26 (.slice (some ⟨g, off, none⟩) l.length ca) (.slice none 0 0)).run Tryd.prog w = .ok (.bool false) w := fun w => Lib.run_eql_slice_nil w 26 _ (some ⟨g, off, none⟩) l.length ca 0 0 Tryd.underlying26
    go_enter Tryd.func82, Tryd.ntmps82
    go_wp2_with (at_builtin; refine stop_of ?_)
    unfold Hid
    have al := (Below.refl _ w).alloc (Nat.le_refl w.heap.size) (.cells #[] 3)
    have hw : (w.alloc (.cells #[] 3)).ownsRow w.heap.size 3 1 (.slice (some ⟨w.heap.size, 0, none⟩) 0 0) 0 [] := ⟨by simp, .inr ⟨w.heap.size, 0, #[], rfl, Nat.le_refl _, heap_alloc_new _ _, Nat.le_refl _, by unfold maxLen; omega, rfl, rfl⟩⟩
    refine wpList_append_own _ rfl _ _ 26 rfl w.heap.size 3 i1 (.int .i64 0) 1 8 Tryd.underlying26 hi1 hy0 hy1 hy2 rfl (by decide) _ 0 [] rfl hw ⟨g, off, none⟩ l.length ca (iL l) rfl hxl (fun j u hj => ?_) H1.out (by unfold maxLen; omega) (by omega) al.size ?_
    · rw [ad_add, al.cell (p := ⟨g, off + j, none⟩) lg]
      exact HC.out j u hj
    intro v' w' hown hgr _
    rw [Nat.zero_add, List.nil_append] at hown
    have HB : Hid (Below w.heap.size w w') := al.grown hgr al.size (fun k hk => by cases hk; exact Nat.le_refl _)
    have HO : Hid (w'.ownsRow w.heap.size 3 1 v' l.length (iL l)) := hown
    clear hown hgr hw al
    go_wp2
    go_ret
    exact ⟨⟨_, rfl, HO.out⟩, HB.out⟩
set_option maxRecDepth 100000 in
set_option maxHeartbeats 4000000 in
theorem grey_any {mb hb ab : Nat} {rv : Value} {row : List Int} {h : List Cl} (w : World) (H : MM w mb hb ab rv row h) (hl : row.length ≤ 1000000) :
    Calls Tryd.prog 36 #[.pointer (some ⟨mb, 0, none⟩)] w fun e w' => OutL w row e w' := by
  have lm := heap_lt H.m
  obtain ⟨ra, c, rfl⟩ := H.q.sl
  have m1 : w.cell? ⟨mb, 1, none⟩ = some (.slice ra row.length c) := heap_cell H.m rfl
  have HC : Hid (Calls Tryd.prog 82 #[.slice ra row.length c] w fun e w' => (∃ v', e = .returned v' ∧ w'.ownsRow w.heap.size 3 1 v' row.length (iL row)) ∧ Below w.heap.size w w') := cloneI_any row _ w hl H.q
  clear H
  go_enter Tryd.func36, Tryd.ntmps36
  go_wp2_with fail
  refine Calls.mono HC.out ?_
  rintro e w' ⟨⟨v', rfl, ho⟩, hb'⟩
  obtain ⟨r', c', rfl⟩ := own_sl ho
  have HO : Hid (w'.ownsRow w.heap.size 3 1 (.slice r' row.length c') row.length (iL row)) := ho
  have HB : Hid (Below w.heap.size w w') := hb'
  clear ho hb'
  go_wp2_with fail
  go_ret
  exact ⟨_, _, rfl, HO.out, HB.out⟩
end Go.Proofs.YtiglmffnhbegiaaDoor
