/- A marker in memory; Lay. -/
import Derived.Test.YtiglmffnhbegiaaDoorHMNamed
namespace Go.Proofs.YtiglmffnhbegiaaDoor
open Go.RowKit

theorem wpList_append_known (w : World) {ops : Array Oper} {rest : List Oper} {o : Oper} {a : Act} {Q : Exit → Act → World → Prop} (hgd : o.guard = none) (d s : Operand) (t t' : TypeId)
    (ho : o.op = .call { callee := .builtin .append, args := #[d, s], argTypes := #[t, t'] }) (v u : Value) (hd : a.eval d = v) (hs : a.eval s = u) {v' : Value} {w' : World}
    (hr : (Builtin.append_ #[t, t'] o.type #[v, u]).run Tryd.prog w = .ok v' w') (h : wpList Tryd.prog ops Q rest (a.put o.dst v') w') : wpList Tryd.prog ops Q (o :: rest) a w := by
  refine wpList_plain hgd fun K hK => ?_
  unfold Oper.wp
  simp [execOp, ho, resolve, invoke, builtin, hd, hs, hr, Result.andThen]
  exact hK _ _ h
def layH (h : List Cl) (l : List Int) : List Cl := l.foldl (fun h i => turnH h i 0 1) h
def layL : List Cl → List Int → List Int
  | _, [] => []
  | h, i :: l => (if turnB h i 0 1 = true then [i] else []) ++ layL (turnH h i 0 1) l
theorem layH_snoc (h : List Cl) (l : List Int) (i : Int) : layH h (l ++ [i]) = turnH (layH h l) i 0 1 := by unfold layH; simp
theorem layL_app : ∀ (h : List Cl) (l l' : List Int), layL h (l ++ l') = layL h l ++ layL (layH h l) l'
  | _, [], _ => rfl
  | h, i :: l, l' => by
    show (if turnB h i 0 1 = true then [i] else []) ++ layL (turnH h i 0 1) (l ++ l') = ((if turnB h i 0 1 = true then [i] else []) ++ layL (turnH h i 0 1) l) ++ layL (layH (turnH h i 0 1) l) l'
    rw [layL_app, List.append_assoc]
theorem layL_snoc (h : List Cl) (l : List Int) (i : Int) : layL h (l ++ [i]) = layL h l ++ if turnB (layH h l) i 0 1 = true then [i] else [] := by
  rw [layL_app]
  simp [layL]
theorem layL_len : ∀ (h : List Cl) (l : List Int), (layL h l).length ≤ l.length
  | _, [] => Nat.le_refl _
  | h, i :: l => by
    unfold layL
    have := layL_len (turnH h i 0 1) l
    rw [List.length_append]
    split <;> simp <;> omega
theorem take_succ' {l : List Int} {j : Nat} {x : Int} (hx : l[j]? = some x) : l.take (j + 1) = l.take j ++ [x] := by rw [List.take_add_one, hx]; rfl
/-- How a marker lies: its block, its row, its heap. -/
structure MM (w : World) (mb hb ab : Nat) (rv : Value) (row : List Int) (h : List Cl) : Prop where
  m : w.heap[mb]? = some (.cells #[.pointer (some ⟨hb, 0, none⟩), rv] 88 (0, 0))
  q : RQ w rv row
  c : CH w hb ab h
/-- What a call leaves. -/
structure MkS (mb hb ab : Nat) (rv rv' : Value) (row' : List Int) (h' : List Cl) (w w' : World) : Prop where
  m : MM w' mb hb ab rv' row' h'
  b : Below 0 w w'
  f : ∀ g, g < w.heap.size → g ≠ mb → g ≠ ab → rv.ownBlock ≠ some g → w'.heap[g]? = w.heap[g]?
  r : ∀ g, rv'.ownBlock = some g → rv.ownBlock = some g ∨ w.heap.size ≤ g
  u : ∀ g, Us w' ab g → Us w ab g ∨ w.heap.size ≤ g
theorem CH.ne_int {w : World} {hb ab b k : Nat} {h : List Cl} {i : IntKind} {x : Int} (H : CH w hb ab h) (hc : w.cell? ⟨b, k, none⟩ = some (.int i x)) : b ≠ ab := fun e => by
  subst e
  obtain ⟨cs, r1, r2, r3⟩ := H.r
  simp only [World.cell?, r1] at hc
  simp at hc
  have hk := (Array.getElem?_eq_some_iff.1 hc).1
  obtain ⟨q, s1, _⟩ := r3 k _ (List.getElem?_eq_getElem (by omega))
  rw [hc] at s1
  cases s1
structure LyI (w wr : World) (hb ab : Nat) (v : Value) (l : List Int) (h : List Cl) : Prop where
  o : wr.ownsRow w.heap.size 3 1 v l.length (iL l)
  e : ExR hb ab h w wr
theorem fr_cell {ab : Nat} {w w' : World} (hF : Fr (fun g => g ≠ ab) w w') {b k : Nat} {u : Value} (hb : b < w.heap.size) (hn : b ≠ ab) (hc : w.cell? ⟨b, k, none⟩ = some u) : w'.cell? ⟨b, k, none⟩ = some u := by
  rw [World.cell?, hF.2 b hn hb]
  exact hc
theorem LyI.grown {w wr w2 : World} {hb ab : Nat} {v v' : Value} {l l' : List Int} {h : List Cl} {o : Obj} (H : LyI w wr hb ab v l h) (_ : ab < w.heap.size) (hown : w2.ownsRow w.heap.size 3 1 v' l'.length (iL l')) (hgr : (wr.alloc o).grownBy w2 v.ownBlock) : LyI w w2 hb ab v' l' h := by
  refine ⟨hown, ?_⟩
  obtain ⟨c, f, u⟩ := H.e
  have hs : w.heap.size ≤ wr.heap.size := f.1.size
  have kk : ∀ g, g < wr.heap.size → v.ownBlock ≠ some g → w2.heap[g]? = wr.heap[g]? := fun g hg hn => (hgr.block g (by rw [World.size_alloc]; omega) (fun e => hn e.symm)).trans (Below.heap_alloc _ _ _ hg)
  have nb : ∀ g, v.ownBlock = some g → w.heap.size ≤ g ∧ ∃ cs, wr.heap[g]? = some (.cells cs 3 (0, 0)) := fun g hg => ⟨(H.o.lt g hg).1, own_blk H.o hg⟩
  have ct : ∀ (g : Nat) (cs : Array Value) (t : Nat), t ≠ 3 → wr.heap[g]? = some (.cells cs t (0, 0)) → w2.heap[g]? = wr.heap[g]? := fun g cs t ht hg => kk g (heap_lt hg) (fun e => by
    obtain ⟨cs', h'⟩ := (nb g e).2
    exact ty_ne hg h' ht rfl)
  obtain ⟨cs, r1, _⟩ := c.r
  refine ⟨c.kept (ct _ _ _ (by decide) c.v) (ct _ _ _ (by decide) r1) (fun q cs hq => ct _ _ _ (by decide) hq), ⟨?_, fun g hg hl => ?_⟩, fun g hg => ?_⟩
  · exact (f.1.alloc (Nat.zero_le _) o).trans (grown_low hgr (fun _ _ => Nat.zero_le _) (Nat.zero_le _))
  · exact (kk g (by omega) (fun e => by have := (nb g e).1; omega)).trans (f.2 g hg hl)
  · exact u g (hg.kept (ct _ _ _ (by decide) r1))
/-- The marker's row grows by what a row of its own holds. -/
theorem MkS.app {w w3 w4 : World} {mb hb ab : Nat} {rv v' met : Value} {row l : List Int} {h h' : List Cl} (H : MM w mb hb ab rv row h) (hI : LyI w w3 hb ab met l h') (hm3 : w3.heap[mb]? = w.heap[mb]?) (hq3 : RQ w3 rv row)
    (hq : RQ w4 v' (row ++ l)) (hk : ∀ g, g < w3.heap.size → rv.ownBlock ≠ some g → w4.heap[g]? = w3.heap[g]?) (hb4 : Below 0 w3 w4) (ho : v'.ownBlock = rv.ownBlock ∨ v'.ownBlock = some w3.heap.size) :
    MkS mb hb ab rv v' (row ++ l) h' w (w4.setCell ⟨mb, 1, none⟩ v') ∧ (w4.setCell ⟨mb, 1, none⟩ v').ownsRow w.heap.size 3 1 met l.length (iL l) ∧ ∀ g, v'.ownBlock = some g → met.ownBlock ≠ some g := by
  obtain ⟨c, f, u⟩ := hI.e
  have hs : w.heap.size ≤ w3.heap.size := f.1.size
  have lm := heap_lt H.m
  have rb : ∀ g, rv.ownBlock = some g → g < w.heap.size ∧ ∃ cs, w3.heap[g]? = some (.cells cs 3 (0, 0)) := fun g hg => by
    obtain ⟨cs, h1⟩ := H.q.blk hg
    exact ⟨heap_lt h1, hq3.blk hg⟩
  have ct : ∀ (g : Nat) (cs : Array Value) (t : Nat), t ≠ 3 → w3.heap[g]? = some (.cells cs t (0, 0)) → w4.heap[g]? = w3.heap[g]? := fun g cs t ht hg => hk g (heap_lt hg) (fun e => by
    obtain ⟨cs', h'⟩ := (rb g e).2
    exact ty_ne hg h' ht rfl)
  have hmm := hm3.trans H.m
  have hm4 : w4.heap[mb]? = some (.cells #[.pointer (some ⟨hb, 0, none⟩), rv] 88 (0, 0)) := (ct _ _ _ (by decide) hmm).trans hmm
  have sf : ∀ g, g ≠ mb → (w4.setCell ⟨mb, 1, none⟩ v').heap[g]? = w4.heap[g]? := fun g hg => Below.heap_setCell _ _ _ _ hg
  have cs' : ∀ (g : Nat) (cs : Array Value) (t : Nat), t ≠ 3 → t ≠ 88 → w3.heap[g]? = some (.cells cs t (0, 0)) → (w4.setCell ⟨mb, 1, none⟩ v').heap[g]? = w3.heap[g]? := fun g cs t ht ht2 hg => (sf g (ty_ne hg hmm ht2)).trans (ct g cs t ht hg)
  obtain ⟨cs, r1, _⟩ := c.r
  have mo : ∀ g, met.ownBlock = some g → w.heap.size ≤ g ∧ g < w3.heap.size := fun g hg => hI.o.lt g hg
  refine ⟨⟨⟨set_atC hm4 v', hq.kept (fun g hg => sf g (fun e => ?_)), c.kept (cs' _ _ _ (by decide) (by decide) c.v) (cs' _ _ _ (by decide) (by decide) r1) (fun q cs hq => cs' _ _ _ (by decide) (by decide) hq)⟩, ?_, fun g hl n1 n2 n3 => ?_, fun g hg => ?_, fun g hg => ?_⟩, ?_, fun g hg e => ?_⟩
  · subst e
    obtain ⟨cs, h1⟩ := hq.blk hg
    exact ty_ne h1 hm4 (by decide) rfl
  · exact (f.1.trans hb4).setCell (p := ⟨mb, 1, none⟩) (Nat.zero_le _) _
  · exact (sf g n1).trans ((hk g (by omega) n3).trans (f.2 g n2 hl))
  · rcases ho with h1 | h1
    · exact .inl (h1 ▸ hg)
    · rw [h1] at hg
      cases hg
      exact .inr hs
  · exact u g (hg.kept (cs' _ _ _ (by decide) (by decide) r1))
  · exact own_same hI.o (fun g hg => (sf g (by have := mo g hg; omega)).trans (hk g (mo g hg).2 (fun e => by have := (rb g e).1; have := mo g hg; omega)))
  · have := mo g e
    rcases ho with h1 | h1
    · rw [h1] at hg
      have := (rb g hg).1
      omega
    · rw [h1] at hg
      cases hg
      omega
def LayO (mb hb ab : Nat) (rv : Value) (row : List Int) (h : List Cl) (l : List Int) (w : World) (e : Ending) (w' : World) : Prop := ∃ ra c rv', e = .returned (.slice ra (layL h l).length c) ∧ w'.ownsRow w.heap.size 3 1 (.slice ra (layL h l).length c) (layL h l).length (iL (layL h l)) ∧ MkS mb hb ab rv rv' (row ++ layL h l) (layH h l) w w' ∧ ∀ g, rv'.ownBlock = some g → (Value.slice ra (layL h l).length c).ownBlock ≠ some g
set_option maxRecDepth 100000 in
set_option maxHeartbeats 8000000 in
theorem lay_any {mb hb ab : Nat} {rv : Value} {row : List Int} {h : List Cl} (l : List Int) (ra : Option Addr) (ca : Nat) (w : World) (H : MM w mb hb ab rv row h) (hR : RX (Value.int .i64) w ra l) (hl : row.length + l.length ≤ 1000000) :
    Calls Tryd.prog 31 #[.pointer (some ⟨mb, 0, none⟩), .slice ra l.length ca] w fun e w' => LayO mb hb ab rv row h l w e w' := by
  obtain ⟨b, o, hor, hcs⟩ := hR
  have HCS : Hid (∀ (j : Nat) (x : Int), l[j]? = some x → b < w.heap.size ∧ w.cell? ⟨b, o + j, none⟩ = some (.int .i64 x)) := hcs
  have HOR : Hid (l.length = 0 ∨ ra = some ⟨b, o, none⟩) := hor
  have HM : Hid (MM w mb hb ab rv row h) := H
  have H0 : Hid (LyI w w hb ab (.slice none 0 0) (layL h (l.take 0)) (layH h (l.take 0))) := ⟨⟨rfl, .inl ⟨rfl, rfl⟩⟩, .of H.c (Below.refl _ _)⟩
  have lm := heap_lt H.m
  have lab := H.c.lt.2
  have nm : mb ≠ ab := by
    obtain ⟨cs, r1, _⟩ := H.c.r
    exact ty_ne H.m r1 (by decide)
  have M0 : w.cell? ⟨mb, 0, none⟩ = some (.pointer (some ⟨hb, 0, none⟩)) := heap_cell H.m rfl
  have HM0 : Hid (w.cell? ⟨mb, 0, none⟩ = some (.pointer (some ⟨hb, 0, none⟩))) := M0
  clear hor hcs H M0
  obtain ⟨i0, hi0, hz0, hz1, hz2⟩ := info_parts infoI
  go_enter Tryd.func31, Tryd.ntmps31
  go_wp2_with fail
  go_loopw [5, 10, 7] (fun v i _ wr => ∃ (j : Nat) (r : Option Addr) (c' : Nat), i = .int .i64 j ∧ j ≤ l.length ∧ v = .slice r (layL h (l.take j)).length c' ∧ Hid (LyI w wr hb ab (.slice r (layL h (l.take j)).length c') (layL h (l.take j)) (layH h (l.take j)))) (fun _ i _ _ => l.length - (intOf i).toNat)
  case atStart => exact ⟨0, none, 0, rfl, Nat.zero_le _, by simp [layL], H0⟩
  case round =>
    clear H0
    obtain ⟨j, r, c', rfl, hj, rfl, HI⟩ := hrel
    have hnl : (layL h (l.take j)).length ≤ l.length := Nat.le_trans (layL_len _ _) (by rw [List.length_take]; omega)
    by_cases hjl : j < l.length
    · have k1 : (j : Int) < (l.length : Int) := by omega
      obtain ⟨x, hx⟩ : ∃ x, l[j]? = some x := ⟨_, List.getElem?_eq_getElem hjl⟩
      obtain ⟨g1, y1⟩ := HCS.out j x hx
      have hra : ra = some ⟨b, o, none⟩ := HOR.out.resolve_left (by omega)
      have y3 : wr.cell? ⟨b, o + j, none⟩ = some (.int .i64 x) := fr_cell HI.out.e.2.1 g1 (HM.out.c.ne_int y1) y1
      have m0 : wr.cell? ⟨mb, 0, none⟩ = some (.pointer (some ⟨hb, 0, none⟩)) := fr_cell HI.out.e.2.1 lm nm HM0.out
      have HE1 : Hid (layL h (l.take (j + 1)) = layL h (l.take j) ++ if turnB (layH h (l.take j)) x 0 1 = true then [x] else []) := by show _ = _; rw [take_succ' hx, layL_snoc]
      have HE2 : Hid (layH h (l.take (j + 1)) = turnH (layH h (l.take j)) x 0 1) := by show _ = _; rw [take_succ' hx, layH_snoc]
      generalize hL : layL h (l.take j) = L at HI HE1 hnl ⊢
      generalize hG : layH h (l.take j) = G at HI HE1 HE2
      have HC : Hid (Calls Tryd.prog 79 #[.pointer (some ⟨hb, 0, none⟩), .int .i64 x] wr fun e w' => e = .returned (.bool (turnB G x 0 1)) ∧ ExR hb ab (turnH G x 0 1) wr w') := shade_any x HI.out.e.1
      rw [hra]
      have hs : w.heap.size ≤ wr.heap.size := HI.out.e.2.1.1.size
      cases hb' : turnB G x 0 1
      · rw [hb'] at HC HE1
        clear hb' hx y1 hra hL hG
        go_wp2_with fail
        refine Calls.mono HC.out ?_
        rintro e w' ⟨rfl, hx'⟩
        have HI' : Hid (LyI w w' hb ab (.slice r L.length c') L (turnH G x 0 1)) := ⟨own_same HI.out.o (fun g hg => hx'.2.1.2 g (by have := (HI.out.o.lt g hg).1; omega) (HI.out.o.lt g hg).2), HI.out.e.trans hx'⟩
        clear hx'
        go_wp2_with fail
        go_roundw
        case rel =>
          have e : layL h (l.take (j + 1)) = L := by rw [HE1.out]; simp
          refine ⟨j + 1, r, c', by go_num, by omega, by rw [e], ?_⟩
          rw [e, HE2.out]
          exact HI'
        case measure => simp [intOf]; omega
      · rw [hb'] at HC HE1
        clear hb' hx y1 hra hL hG
        go_wp2_with fail
        refine Calls.mono HC.out ?_
        rintro e w' ⟨rfl, hx'⟩
        have HI' : Hid (LyI w w' hb ab (.slice r L.length c') L (turnH G x 0 1)) := ⟨own_same HI.out.o (fun g hg => hx'.2.1.2 g (by have := (HI.out.o.lt g hg).1; omega) (HI.out.o.lt g hg).2), HI.out.e.trans hx'⟩
        have hs' : w.heap.size ≤ w'.heap.size := HI'.out.e.2.1.1.size
        clear hx'
        go_wp2_with (at_builtin; refine stop_of ?_)
        unfold Hid
        refine wpList_append_lies _ rfl _ _ 26 rfl w.heap.size 3 i0 (.int .i64 0) 1 8 Tryd.underlying26 hi0 hz0 hz1 hz2 rfl (by decide) (.slice r L.length c') L.length (iL L) rfl (HI'.out.o.alloc _) ⟨w'.heap.size, 0, none⟩ 1 1 [.int .i64 x] rfl rfl (fun j u hu => ?_) (fun u hu => ?_) (by omega) (by unfold maxLen; omega) (by omega) (by rw [World.size_alloc]; omega) _ rfl ?_
        · rw [ad_add, Nat.zero_add]
          exact new_cell _ #[.int .i64 x] _ j u hu
        · simp at hu; subst hu; rfl
        intro g cap w2 hown hgr hat hlt2
        have HE : Hid (LyI w w2 hb ab (.slice (some ⟨g, 0, none⟩) (L.length + 1) cap) (L ++ [x]) (turnH G x 0 1)) := HI'.out.grown lab (by simpa using hown) hgr
        clear hown hgr hat hlt2
        go_wp2_with fail
        go_roundw
        case rel =>
          have e : layL h (l.take (j + 1)) = L ++ [x] := by rw [HE1.out]; simp
          refine ⟨j + 1, some ⟨g, 0, none⟩, cap, by go_num, by omega, by rw [e]; simp, ?_⟩
          rw [e, HE2.out, show (L ++ [x]).length = L.length + 1 by simp]
          exact HE
        case measure => simp [intOf]; omega
    · have e : j = l.length := by omega
      subst e
      have k1 : ¬ ((l.length : Int) < (l.length : Int)) := by omega
      rw [List.take_length] at HI hnl ⊢
      have hm3 : wr.heap[mb]? = w.heap[mb]? := HI.out.e.2.1.2 mb nm lm
      have hmm : wr.heap[mb]? = _ := hm3.trans HM.out.m
      have m1 : wr.cell? ⟨mb, 1, none⟩ = some rv := heap_cell hmm rfl
      have hq3 : RQ wr rv row := HM.out.q.kept (fun g hg => by
        obtain ⟨cs, q1⟩ := HM.out.q.blk hg
        obtain ⟨cs2, r1, _⟩ := HM.out.c.r
        exact HI.out.e.2.1.2 g (ty_ne q1 r1 (by decide)) (heap_lt q1))
      obtain ⟨v', w4, hr, a1, a2, a3, a4⟩ := hq3.app (l' := layL h l) (c := c') (by omega) (ao := r) (own_rx HI.out.o rfl)
      obtain ⟨vr, vc, rfl⟩ := a1.sl
      obtain ⟨R1, R2, R3⟩ := MkS.app HM.out HI.out hm3 hq3 a1 a2 a3 a4
      have HR : Hid _ := (⟨R1, R2, R3⟩ : _ ∧ _ ∧ _)
      rw [List.length_append] at HR
      have hm4 : w4.heap[mb]? = some (.cells #[.pointer (some ⟨hb, 0, none⟩), rv] 88 (0, 0)) := (a2 mb (heap_lt hmm) (fun e => by
        obtain ⟨cs, q1⟩ := hq3.blk e
        exact ty_ne q1 hmm (by decide) rfl)).trans hmm
      have m4 : w4.cell? ⟨mb, 1, none⟩ = some rv := heap_cell hm4 rfl
      have f4 : w4.frozen? ⟨mb, 1, none⟩ = false := by simp [World.frozen?, hm4]
      have lr := heap_lt hmm
      have l4 := heap_lt hm4
      have Hr : Hid (∀ ty, (Builtin.append_ #[26, 26] ty #[rv, .slice r (layL h l).length c']).run Tryd.prog wr = .ok (.slice vr (row.length + (layL h l).length) vc) w4) := fun ty => by have := hr ty; rw [List.length_append] at this; exact this
      clear R1 R2 R3 hr a1 a2 a3 a4 hq3 hm3 hmm hm4
      go_wp2_with (at_builtin; refine stop_of ?_)
      unfold Hid
      refine wpList_append_known _ rfl _ _ 26 26 rfl _ _ rfl rfl (Hr.out _) ?_
      clear Hr
      go_wp2_with fail
      go_ret
      exact ⟨_, _, _, rfl, HR.out.2.1, HR.out.1, HR.out.2.2⟩
end Go.Proofs.YtiglmffnhbegiaaDoor
