/- The contract of Tokens: the tokens in a list of its own, or the first error and its place. -/
import Derived.Test.YtfdpbmbafpieoaaDoorSteps
import Derived.Maps.AppendAt
namespace Go.Proofs.YtfdpbmbafpieoaaDoor
open Go.RowKit Go.Shelf

attribute [local go_sem] Oper.semAt_some

/-- A full row that is appended to stays as it was. -/
theorem append_full {P : Program} (w : World) (t ty e : TypeId) (i : TypeInfo) (z : Value) (ht : P.underlying t = some (.slice e)) (hi : P.info? e = some i) (hz : i.zero = some z)
    (base g n cap : Nat) (xs : List Value) (hown : w.ownsRow base e i.size (.slice (some ⟨g, 0, none⟩) n cap) n xs) (a : Addr) (m c : Nat) (news : List Value) (hl : news.length = m * i.size)
    (hnews : ∀ j u, news[j]? = some u → w.cell? (a.add j) = some u) (h63 : n + m ≤ maxLen) (hb : (n + m) * i.bytes ≤ 140737488355328) (hfull : cap < n + m) {v' : Value} {w' : World}
    (hrun : (Builtin.append_ #[t, t] ty #[.slice (some ⟨g, 0, none⟩) n cap, .slice (some a) m c]).run P w = .ok v' w') : Below w.heap.size w w' := by
  have holds : ∀ j u, xs[j]? = some u → w.cell? ((⟨g, 0, none⟩ : Addr).add j) = some u := hown.cells (g := g) rfl
  have hr := run_append_grow (P := P) w t ty e i z ht hi hz ⟨g, 0, none⟩ n cap xs hown.1 holds a m c news hl hnews (by omega) (by simp only [maxLen] at h63; omega) (growslice_fits (by omega) hb)
  rw [hrun] at hr
  cases hr
  exact ((Below.refl _ w).drew).alloc (Nat.le_refl _) _

theorem wpListIn_append_keep {F : Fence} {n : Nat} {P : Program} (w : World) {ops : Array Oper} {rest : List Oper} {o : Oper} {a : Act} {Q : Exit → Act → World → Prop}
    (hg : o.guard = none) (s x : Operand) (t : TypeId) (hop : o.op = Op.call { callee := Callee.builtin Builtin.append, args := #[s, x], argTypes := #[t, t] })
    (base : Nat) (e : TypeId) (i : TypeInfo) (z : Value) (size bytes : Nat) (h1 : P.underlying t = some (.slice e)) (h2 : P.info? e = some i) (h3 : i.zero = some z) (h4 : i.size = size) (h5 : i.bytes = bytes) (h6 : z.cells.size = size) (h7 : 0 < size)
    (v : Value) (k : Nat) (xs : List Value) (hs : a.eval s = v) (hown : w.ownsRow base e size v k xs) (ad : Addr) (m c : Nat) (news : List Value) (hx : a.eval x = .slice (some ad) m c) (hn : news.length = m * size)
    (hc : ∀ j u, news[j]? = some u → w.cell? (ad.add j) = some u) (h1c : ∀ u ∈ news, u.oneCell' = true) (b1 : k + m ≤ maxLen) (b2 : (k + m) * bytes ≤ 140737488355328) (b3 : base ≤ w.heap.size)
    (hK : ∀ v' w', w'.ownsRow base e size v' (k + m) (xs ++ news) → w.grownBy w' v.ownBlock → (v' = .slice none 0 0 ↔ v = .slice none 0 0 ∧ m = 0) → (∀ g cap, v = .slice (some ⟨g, 0, none⟩) k cap → cap < k + m → Below w.heap.size w w') → wpListIn F n P ops Q rest (a.put o.dst v') w') :
    wpListIn F n P ops Q (o :: rest) a w := by
  refine wpListIn_plain hg fun K hK' => ?_
  obtain ⟨v', w', hrun, r1, r2, r3⟩ := run_append_own (P := P) w base t o.type e i z size bytes h1 h2 h3 h4 h5 h6 h7 v k xs hown ad m c news hn hc h1c b1 b2 b3
  have r4 : ∀ g cap, v = .slice (some ⟨g, 0, none⟩) k cap → cap < k + m → Below w.heap.size w w' := by
    rintro g cap rfl hf
    subst h4 h5
    exact append_full w t o.type e i z h1 h2 h3 base g k cap xs hown ad m c news hn hc b1 b2 hf hrun
  unfold Oper.wpIn
  refine ⟨by simp [Oper.about, hop, resolve, Target.leads, Sem.run_pure], ?_⟩
  rw [Oper.semAt_plain F _ _ (by rw [hop]; intro c hc'; cases hc')]
  simp [execOp, hop, resolve, invoke, builtin, hs, hx, hrun, Result.andThen]
  exact hK' _ _ (hK v' w' r1 r2 r3 r4)

/-- A token's four cells. -/
def cells4 (t : Tok) : List Value := [.int .u8 t.kind, S t.text, .int .i64 t.n, .int .i64 t.pos]
theorem cell_four_new (W : World) (a0 a1 a2 a3 : Value) (t : TypeId) (j : Nat) (u : Value) (h : [a0, a1, a2, a3][j]? = some u) : (W.alloc (.cells #[a0, a1, a2, a3] t)).cell? ((⟨W.heap.size, 0, none⟩ : Addr).add j) = some u := by
  have hn := World.alloc_heap_new W (.cells #[a0, a1, a2, a3] t)
  have e : ((⟨W.heap.size, 0, none⟩ : Addr).add j) = ⟨W.heap.size, j, none⟩ := by simp [Addr.add]; exact fun h => h.symm
  rw [e]
  simp only [World.cell?, hn]
  simpa using h
theorem cells4_one (t : Tok) : ∀ u ∈ cells4 t, u.oneCell' = true := by
  intro u hu
  simp only [cells4, List.mem_cons, List.not_mem_nil, or_false] at hu
  rcases hu with rfl | rfl | rfl | rfl <;> rfl
def rowOf (xs : List (Tok × Int)) : List Value := xs.flatMap fun x => cells4 x.1
theorem rowOf_snoc (xs : List (Tok × Int)) (x : Tok × Int) : rowOf (xs ++ [x]) = rowOf xs ++ cells4 x.1 := by simp [rowOf]
theorem rowOf_nil : rowOf [] = [] := rfl

theorem infoTok : (Tryd.prog.info? 56).map (fun i => (i.zero, i.size, i.bytes)) = some (some (.agg #[.int .u8 0, .string ⟨#[]⟩, .int .i64 0, .int .i64 0]), 4, 40) := by kernel_rfl

/-- No error among them. -/
def fine (xs : List (Tok × Int)) : Prop := ∀ x ∈ xs, x.2 = 0

theorem kp4_t {n₀ : Nat} {A B C : World} (h : Kp4 n₀ A B) (k : Kp4 n₀ B C) : Kp4 n₀ A C :=
  ⟨h.1.trans k.1, fun i cs hi => k.2.1 i cs (h.2.1 i cs hi), fun i cs hi h4 => k.2.2 i cs (h.2.2 i cs hi h4) h4⟩
theorem kp4_b {n₀ : Nat} {w : World} (hn : n₀ ≤ w.heap.size) (W : World) (l : Nat) (o o' : Obj) (hl : w.heap.size ≤ l) (h : W.heap[l]? = some o) (hc : o.isCells = false) (hw : o.isWalk = false) : Kp4 n₀ W (W.putObj l o') := by
  refine ⟨belowK_b hn W l o o' hl h hc hw, fun k cs hk => ?_, fun k cs hk _ => ?_⟩
  all_goals
    rw [World.putObj_heap_other (by rintro rfl; rw [h] at hk; cases hk; cases hc)]
    exact hk
theorem kp4_below {n₀ : Nat} {A C : World} (hn : n₀ ≤ A.heap.size) (h : Below A.heap.size A C) : Kp4 n₀ A C :=
  ⟨h.mono hn, fun k _ hk => (h.block k (Array.getElem?_eq_some_iff.1 hk).1).trans hk, fun k _ hk _ => (h.block k (Array.getElem?_eq_some_iff.1 hk).1).trans hk⟩

theorem kp4_appended {W w1 : World} {n₀ B : Nat} {v v' : Value} {k : Nat} {xs : List Value} {tmp : Obj} (hv : Boxed W B 25 v) (hrow : W.ownsRow n₀ 56 4 v k xs) (h1 : ¬ v = .slice none 0 0 → 1 ≤ k)
    (hgrow : (W.alloc tmp).grownBy w1 v.ownBlock) (hfull : ∀ g cap, v = .slice (some ⟨g, 0, none⟩) k cap → cap < k + 1 → Below (W.alloc tmp).heap.size (W.alloc tmp) w1) (hb : Below n₀ W (w1.setCell ⟨B, 0, none⟩ v')) :
    Kp4 n₀ W (w1.setCell ⟨B, 0, none⟩ v') := by
  have keep : ∀ (j : Nat) (cs : Array Value) (t : TypeId), t ≠ 25 → W.heap[j]? = some (.cells cs t (0, 0)) → w1.heap[j]? = some (.cells cs t (0, 0)) → (w1.setCell ⟨B, 0, none⟩ v').heap[j]? = some (.cells cs t (0, 0)) := fun j cs t ht hj hj1 => by
    rw [Below.heap_setCell _ _ _ _ (by rintro rfl; rw [show W.heap[_]? = _ from hv] at hj; cases hj; exact ht rfl)]
    exact hj1
  have old : ∀ (j : Nat) (o : Obj), W.heap[j]? = some o → some j ≠ v.ownBlock → w1.heap[j]? = some o := fun j o hj hne => by
    have hlt := (Array.getElem?_eq_some_iff.1 hj).1
    rw [hgrow.block j (by simp; omega) hne, Below.heap_alloc _ _ _ hlt]
    exact hj
  refine ⟨hb, fun j cs hj => keep j cs 9 (by decide) hj (old j _ hj ?_), fun j cs hj h4 => keep j cs 56 (by decide) hj ?_⟩
  · rcases hrow.2 with ⟨rfl, _⟩ | ⟨g, cap, cur, rfl, _, hg, _⟩
    · simp [Value.ownBlock]
    · intro e
      obtain rfl : j = g := by simpa [Value.ownBlock] using e
      rw [hg] at hj; simp at hj
  · rcases hrow.2 with ⟨rfl, _⟩ | ⟨g, cap, cur, rfl, _, hg, hkc, _, hcs, _⟩
    · exact old j _ hj (by simp [Value.ownBlock])
    · by_cases e : j = g
      · subst e
        rw [hg] at hj; cases hj
        have hk1 := h1 (by simp)
        have hlt := (Array.getElem?_eq_some_iff.1 hg).1
        rw [(hfull _ _ rfl (by omega)).block j (by simp; omega), Below.heap_alloc _ _ _ hlt]
        exact hg
      · exact old j _ hj (by simp [Value.ownBlock]; exact e)

/-- What the function's own blocks hold between two rounds. -/
def Inv (w : World) (pre : List (Tok × Int)) (W : World) : Prop :=
  ((∃ v, Boxed W (w.heap.size + 3) 25 v ∧ W.ownsRow w.heap.size 56 4 v pre.length (rowOf pre) ∧ (v = .slice none 0 0 ↔ pre = [])) ∧
    (Boxed W w.heap.size 25 (.slice none 0 0) ∧ Boxed W (w.heap.size + 1) 26 (.int .i64 0) ∧ Boxed W (w.heap.size + 2) 3 (.int .i64 0))) ∧ (Below w.heap.size w W ∧ fine pre)
/-- .. and when a round has left. -/
def InvX (w : World) (c : Code) (pre : List (Tok × Int)) (W : World) : Prop :=
  (c = .ret ∧ ∃ q x, pre = q ++ [x] ∧ fine q ∧ ¬ x.2 = 0 ∧ Boxed W w.heap.size 25 (.slice none 0 0) ∧ Boxed W (w.heap.size + 1) 26 (.int .i64 x.2) ∧ Boxed W (w.heap.size + 2) 3 (.int .i64 x.1.pos)) ∧ Below w.heap.size w W

theorem inv_own (w : World) (B : Nat) (hB : w.heap.size ≤ B) : OwnFrom B (Inv w) := by
  refine OwnFrom.and (OwnFrom.and (Own.from (holdsRow_own w.heap.size (w.heap.size + 3) 25 56 4 (fun pre => pre.length) (fun pre => rowOf pre) (fun pre v => v = .slice none 0 0 ↔ pre = [])) _) ?_) (OwnFrom.and (ownFrom_below (Nat.le_refl _) hB) ?_)
  · exact OwnFrom.and (Own.from (boxed_own _ _ _) _) (OwnFrom.and (Own.from (boxed_own _ _ _) _) (Own.from (boxed_own _ _ _) _))
  · intro s A B' row hs _ _; exact hs
theorem invX_own (w : World) (B : Nat) (hB : w.heap.size ≤ B) (c : Code) : OwnFrom B (InvX w c) := by
  refine OwnFrom.and ?_ (ownFrom_below (Nat.le_refl _) hB)
  rintro s A B' row ⟨hc, q, x, h1, h2, h3, h4, h5, h6⟩ hg hr
  refine ⟨hc, q, x, h1, h2, h3, ?_, ?_, ?_⟩
  · exact h4.kept hg (fun e => by obtain ⟨_, o, ho, hn⟩ := hr _ e.symm; rw [show A.heap[w.heap.size]? = _ from h4] at ho; cases ho; cases hn)
  · exact h5.kept hg (fun e => by obtain ⟨_, o, ho, hn⟩ := hr _ e.symm; rw [show A.heap[w.heap.size + 1]? = _ from h5] at ho; cases ho; cases hn)
  · exact h6.kept hg (fun e => by obtain ⟨_, o, ho, hn⟩ := hr _ e.symm; rw [show A.heap[w.heap.size + 2]? = _ from h6] at ho; cases ho; cases hn)

theorem left_ok {w W : World} {pre : List (Tok × Int)} {x : Tok × Int} (r0 : Boxed W w.heap.size 25 (.slice none 0 0)) (r1 : Boxed W (w.heap.size + 1) 26 (.int .i64 0)) (r2 : Boxed W (w.heap.size + 2) 3 (.int .i64 0))
    (hB : Below w.heap.size w W) (hf : fine pre) (hx : ¬ x.2 = 0) (B : Nat) :
    KeepsFrom B W (((W.setCell ⟨w.heap.size, 0, none⟩ (.slice none 0 0)).setCell ⟨w.heap.size + 1, 0, none⟩ (.int .i64 x.2)).setCell ⟨w.heap.size + 2, 0, none⟩ (.int .i64 x.1.pos)).drew ∧
      InvX w .ret (pre ++ [x]) (((W.setCell ⟨w.heap.size, 0, none⟩ (.slice none 0 0)).setCell ⟨w.heap.size + 1, 0, none⟩ (.int .i64 x.2)).setCell ⟨w.heap.size + 2, 0, none⟩ (.int .i64 x.1.pos)).drew := by
  refine ⟨((((KeepsOthers.setCell _ _ _).trans (KeepsOthers.setCell _ _ _)).trans (KeepsOthers.setCell _ _ _)).trans (KeepsOthers.drew _)).from _, ⟨rfl, pre, x, rfl, hf, hx, ?_, ?_, ?_⟩, ?_⟩
  · exact ((r0.set (.slice none 0 0)).other (by omega) _).other (by omega) _
  · exact ((r1.other (by omega) _).set (.int .i64 x.2)).other (by omega) _
  · exact ((r2.other (by omega) _).other (by omega) _).set _
  · exact (((hB.setCell (p := ⟨w.heap.size, 0, none⟩) (Nat.le_refl _) _).setCell (p := ⟨w.heap.size + 1, 0, none⟩) (Nat.le_succ _) _).setCell (p := ⟨w.heap.size + 2, 0, none⟩) (by simp) _).drew

theorem boxed_putObj {W : World} {B : Nat} {t : TypeId} {v : Value} (h : Boxed W B t v) {l : Nat} {o : Obj} (o' : Obj) (hl : W.heap[l]? = some o) (ho : o.isCells = false) : Boxed (W.putObj l o') B t v :=
  h.kept (grownBy_putObj' W l o') (fun e => by cases e; rw [show W.heap[_]? = _ from h] at hl; cases hl; cases ho)

theorem done_ok {w W : World} {v : Value} {k D : Nat} {xs : List Value} (hB : Below w.heap.size w W) (r0 : Boxed W w.heap.size 25 (.slice none 0 0)) (r1 : Boxed W (w.heap.size + 1) 26 (.int .i64 0)) (r2 : Boxed W (w.heap.size + 2) 3 (.int .i64 0))
    (hrow : W.ownsRow w.heap.size 56 4 v k xs)
    (hK : (((W.setCell ⟨w.heap.size, 0, none⟩ v).setCell ⟨w.heap.size + 1, 0, none⟩ (.int .i64 0)).setCell ⟨w.heap.size + 2, 0, none⟩ (.int .i64 0)).heap[D]? = some (.deferred (some []))) (hD : w.heap.size ≤ D) :
    Boxed ((((W.setCell ⟨w.heap.size, 0, none⟩ v).setCell ⟨w.heap.size + 1, 0, none⟩ (.int .i64 0)).setCell ⟨w.heap.size + 2, 0, none⟩ (.int .i64 0)).putObj D (.deferred none)) w.heap.size 25 v ∧
    Boxed ((((W.setCell ⟨w.heap.size, 0, none⟩ v).setCell ⟨w.heap.size + 1, 0, none⟩ (.int .i64 0)).setCell ⟨w.heap.size + 2, 0, none⟩ (.int .i64 0)).putObj D (.deferred none)) (w.heap.size + 1) 26 (.int .i64 0) ∧
    Boxed ((((W.setCell ⟨w.heap.size, 0, none⟩ v).setCell ⟨w.heap.size + 1, 0, none⟩ (.int .i64 0)).setCell ⟨w.heap.size + 2, 0, none⟩ (.int .i64 0)).putObj D (.deferred none)) (w.heap.size + 2) 3 (.int .i64 0) ∧
    ((((W.setCell ⟨w.heap.size, 0, none⟩ v).setCell ⟨w.heap.size + 1, 0, none⟩ (.int .i64 0)).setCell ⟨w.heap.size + 2, 0, none⟩ (.int .i64 0)).putObj D (.deferred none)).ownsRow w.heap.size 56 4 v k xs ∧
    Below w.heap.size w ((((W.setCell ⟨w.heap.size, 0, none⟩ v).setCell ⟨w.heap.size + 1, 0, none⟩ (.int .i64 0)).setCell ⟨w.heap.size + 2, 0, none⟩ (.int .i64 0)).putObj D (.deferred none)) := by
  have a0 := r0.set v
  have a1 : Boxed (W.setCell ⟨w.heap.size, 0, none⟩ v) (w.heap.size + 1) 26 (.int .i64 0) := r1.other (by omega) _
  have a2 : Boxed (W.setCell ⟨w.heap.size, 0, none⟩ v) (w.heap.size + 2) 3 (.int .i64 0) := r2.other (by omega) _
  have o1 := hrow.kept (grownBy_setCell' W w.heap.size v) (.inr (r0.not_row (by decide) hrow).symm)
  have o2 := o1.kept (grownBy_setCell' _ (w.heap.size + 1) (.int .i64 0)) (.inr (a1.not_row (by decide) o1).symm)
  have a2' : Boxed ((W.setCell ⟨w.heap.size, 0, none⟩ v).setCell ⟨w.heap.size + 1, 0, none⟩ (.int .i64 0)) (w.heap.size + 2) 3 (.int .i64 0) := a2.other (by omega) _
  have o3 := o2.kept (grownBy_setCell' _ (w.heap.size + 2) (.int .i64 0)) (.inr (a2'.not_row (by decide) o2).symm)
  refine ⟨boxed_putObj ((a0.other (by omega) _).other (by omega) _) _ hK rfl, boxed_putObj ((a1.set _).other (by omega) _) _ hK rfl, boxed_putObj (a2'.set _) _ hK rfl, ownsRow_putObj o3 _ hK rfl, ?_⟩
  exact (((hB.setCell (p := ⟨w.heap.size, 0, none⟩) (Nat.le_refl _) _).setCell (p := ⟨w.heap.size + 1, 0, none⟩) (Nat.le_succ _) _).setCell (p := ⟨w.heap.size + 2, 0, none⟩) (by simp) _).trans
    (belowK_b (w := w) (Nat.le_refl _) _ D _ _ hD hK rfl rfl)

def isE (x : Tok × Int) : Bool := x.2 != 0

set_option maxRecDepth 100000 in
set_option maxHeartbeats 2000000 in
theorem tokens_in (s : ByteArray) (hs : s.size ≤ 281474976710656) (w : World) (hE : EV w) :
    CallsIn Fence.wide 6 Tryd.prog 13 #[.string s] w fun e w' => Below w.heap.size w w' ∧
      ((∃ v, e = .returned (.tuple #[v, .int .i64 0, .int .i64 0]) ∧ fine (items s.data.toList) ∧ w'.ownsRow w.heap.size 56 4 v (items s.data.toList).length (rowOf (items s.data.toList))) ∨
       (∃ q x, q ++ [x] <+: items s.data.toList ∧ fine q ∧ ¬ x.2 = 0 ∧ e = .returned (.tuple #[.slice none 0 0, .int .i64 x.2, .int .i64 x.1.pos]))) := by
  obtain ⟨i0, hi, hz0, hz1, hz2⟩ := info_parts infoTok
  have hlen := (items_len s.data.toList).2
  refine callsIn_of_wp_marks Tryd.func13 rfl trivial ?_ rfl
  simp only [Tryd.ntmps13, List.size_toArray, List.length_cons, List.length_nil, Nat.reduceAdd, Nat.reduceSub, Array.replicate_succ, Array.replicate_zero, List.push_toArray, List.append_toArray, List.nil_append, List.cons_append]
  gi_wp2_with (refine ⟨trivial, ?_⟩; gi_at_call 24; refine (steps_in _ s _).mono ?_; rintro e w' ⟨rfl, rfl⟩)
  have hW0 : Below w.heap.size w (((((w.alloc (.cells #[.slice none 0 0] 25)).alloc (.cells #[.int .i64 0] 26)).alloc (.cells #[.int .i64 0] 3)).alloc (.cells #[.slice none 0 0] 25)).alloc (.cells #[.string s] 9)) :=
    (((((Below.refl _ w).alloc (Nat.le_refl _) _).alloc (by simp) _).alloc (by simp; omega) _).alloc (by simp; omega) _).alloc (by simp; omega) _
  have b0 : Boxed (((((w.alloc (.cells #[.slice none 0 0] 25)).alloc (.cells #[.int .i64 0] 26)).alloc (.cells #[.int .i64 0] 3)).alloc (.cells #[.slice none 0 0] 25)).alloc (.cells #[.string s] 9)) w.heap.size 25 (.slice none 0 0) :=
    ((((Boxed.new w 25 (.slice none 0 0)).alloc _).alloc _).alloc _).alloc _
  have b1 : Boxed (((((w.alloc (.cells #[.slice none 0 0] 25)).alloc (.cells #[.int .i64 0] 26)).alloc (.cells #[.int .i64 0] 3)).alloc (.cells #[.slice none 0 0] 25)).alloc (.cells #[.string s] 9)) (w.heap.size + 1) 26 (.int .i64 0) := by
    have := Boxed.new (w.alloc (.cells #[.slice none 0 0] 25)) 26 (.int .i64 0)
    rw [World.size_alloc] at this
    exact ((this.alloc _).alloc _).alloc _
  have b2 : Boxed (((((w.alloc (.cells #[.slice none 0 0] 25)).alloc (.cells #[.int .i64 0] 26)).alloc (.cells #[.int .i64 0] 3)).alloc (.cells #[.slice none 0 0] 25)).alloc (.cells #[.string s] 9)) (w.heap.size + 2) 3 (.int .i64 0) := by
    have := Boxed.new ((w.alloc (.cells #[.slice none 0 0] 25)).alloc (.cells #[.int .i64 0] 26)) 3 (.int .i64 0)
    rw [World.size_alloc, World.size_alloc] at this
    exact (this.alloc _).alloc _
  have b3 : Boxed (((((w.alloc (.cells #[.slice none 0 0] 25)).alloc (.cells #[.int .i64 0] 26)).alloc (.cells #[.int .i64 0] 3)).alloc (.cells #[.slice none 0 0] 25)).alloc (.cells #[.string s] 9)) (w.heap.size + 3) 25 (.slice none 0 0) := by
    have := Boxed.new (((w.alloc (.cells #[.slice none 0 0] 25)).alloc (.cells #[.int .i64 0] 26)).alloc (.cells #[.int .i64 0] 3)) 25 (.slice none 0 0)
    rw [World.size_alloc, World.size_alloc, World.size_alloc] at this
    exact this.alloc _
  have b4 : Boxed (((((w.alloc (.cells #[.slice none 0 0] 25)).alloc (.cells #[.int .i64 0] 26)).alloc (.cells #[.int .i64 0] 3)).alloc (.cells #[.slice none 0 0] 25)).alloc (.cells #[.string s] 9)) (w.heap.size + 4) 9 (.string s) := by
    have := Boxed.new ((((w.alloc (.cells #[.slice none 0 0] 25)).alloc (.cells #[.int .i64 0] 26)).alloc (.cells #[.int .i64 0] 3)).alloc (.cells #[.slice none 0 0] 25)) 9 (.string s)
    rw [World.size_alloc, World.size_alloc, World.size_alloc, World.size_alloc] at this
    exact this
  have hsz : (((((w.alloc (.cells #[.slice none 0 0] 25)).alloc (.cells #[.int .i64 0] 26)).alloc (.cells #[.int .i64 0] 3)).alloc (.cells #[.slice none 0 0] 25)).alloc (.cells #[.string s] 9)).heap.size = w.heap.size + 5 := by
    rw [World.size_alloc, World.size_alloc, World.size_alloc, World.size_alloc, World.size_alloc]
  have h1w := hE.lt
  obtain ⟨W0, hW0e⟩ : ∃ W0, (((((w.alloc (.cells #[.slice none 0 0] 25)).alloc (.cells #[.int .i64 0] 26)).alloc (.cells #[.int .i64 0] 3)).alloc (.cells #[.slice none 0 0] 25)).alloc (.cells #[.string s] 9)) = W0 := ⟨_, rfl⟩
  rw [hW0e] at hW0 b0 b1 b2 b3 b4 hsz ⊢
  clear hW0e
  have hE0 : EV W0 := hE.below hW0 h1w
  refine wpIn_rangeFunc_ownH rfl (by omega) (gf := 46) (lb := #[.pointer (some ⟨w.heap.size + 4, 0, none⟩)]) rfl trivial (enters_of Tryd.func46 (by kernel_rfl) rfl)
    (steps1_stops 5 (by omega) (w.heap.size + 4) w.heap.size s hs W0 h1w (by omega) b4 hE0) kp4_t (kp4_b (by omega)) (Below.refl _ _) (fun _ => rfl)
    (Inv w) (InvX w) (inv_own w _ (by omega)) (invX_own w _ (by omega))
    ⟨⟨⟨_, b3, World.ownsRow_nil _ _ _ _, by simp⟩, b0, b1, b2⟩, hW0, by intro x hx; cases hx⟩
    (fun x a' W => ∃ Bx, w.heap.size + 4 ≤ Bx ∧ W.heap[Bx]? = some (.cells #[.int .u8 x.1.kind, S x.1.text, .int .i64 x.1.n, .int .i64 x.1.pos] 56 (0, 0)) ∧
      a' = { tmps := #[.string s, undef, .pointer (some ⟨w.heap.size, 0, none⟩), .pointer (some ⟨w.heap.size + 1, 0, none⟩), .pointer (some ⟨w.heap.size + 2, 0, none⟩), .pointer (some ⟨w.heap.size + 3, 0, none⟩), .pointer (some ⟨Bx, 0, none⟩), .int .i64 x.2, .string s, .func (.func 46) #[] #[.pointer (some ⟨w.heap.size + 4, 0, none⟩)], .agg #[.int .u8 x.1.kind, S x.1.text, .int .i64 x.1.n, .int .i64 x.1.pos], .int .i64 x.2, undef, undef, undef, undef, undef, undef, undef, undef, undef, undef], defers := [] })
    ?hAx ?assign ?body ?done ?stop
  case hAx =>
    rintro x a' _ A B row ⟨Bx, h1, h2, h3⟩ hg hr
    refine ⟨Bx, h1, (hg.block Bx (Array.getElem?_eq_some_iff.1 h2).1 (fun e => ?_)).trans h2, h3⟩
    obtain ⟨_, o, ho, hn⟩ := hr _ e.symm
    rw [h2] at ho; cases ho; cases hn
  case assign =>
    rintro l pre x W K hi hK
    simp only [encs, encT]
    obtain ⟨⟨⟨v, hv, hrow, hnil⟩, r0, r1, r2⟩, hB, hfn⟩ := hi
    have hlt : w.heap.size + 3 < W.heap.size := hv.lt
    have hal : Below W.heap.size W (W.alloc (.cells #[.int .u8 x.1.kind, S x.1.text, .int .i64 x.1.n, .int .i64 x.1.pos] 56)) := (Below.refl _ W).alloc (Nat.le_refl _) _
    gi_wp2
    exact hK _ _ ((KeepsOthers.alloc _ _).from _) (kp4_below (by omega) hal) ⟨⟨⟨v, hv.alloc _, hrow.alloc _, hnil⟩, r0.alloc _, r1.alloc _, r2.alloc _⟩, hB.alloc (by omega) _, hfn⟩ ⟨W.heap.size, by omega, World.alloc_heap_new _ _, rfl⟩
  case body =>
    rintro l pre x a' W hl hr ⟨⟨⟨v, hv, hrow, hnil⟩, r0, r1, r2⟩, hB, hfn⟩ ⟨Bx, hBx, hx, rfl⟩ hlt
    have hc := hv.cell
    have hx0 : W.cell? ⟨Bx, 0, none⟩ = some (.int .u8 x.1.kind) := by simp [World.cell?, hx]
    have hx1 : W.cell? ⟨Bx, 1, none⟩ = some (S x.1.text) := by simp [World.cell?, hx]
    have hx2 : W.cell? ⟨Bx, 2, none⟩ = some (.int .i64 x.1.n) := by simp [World.cell?, hx]
    have hx3 : W.cell? ⟨Bx, 3, none⟩ = some (.int .i64 x.1.pos) := by simp [World.cell?, hx]
    have HX : Hid _ := hx
    clear hx
    cases he : (x.2 != 0)
    · have he' : x.2 = 0 := by simpa using he
      have He : Hid _ := he'
      clear he'
      gi_wp2_with (gi_at_builtin; refine wpListIn_append_keep _ rfl _ _ 25 rfl w.heap.size 56 i0 (.agg #[.int .u8 0, .string ⟨#[]⟩, .int .i64 0, .int .i64 0]) 4 40 Tryd.underlying25 hi hz0 hz1 hz2 rfl (by decide) v pre.length (rowOf pre) rfl (hrow.alloc _) ⟨W.heap.size, 0, none⟩ 1 1 (cells4 x.1) rfl rfl (cell_four_new _ _ _ _ _ _) (cells4_one _) (by unfold maxLen; omega) (by omega) (by have := hB.size; simp; omega) ?_; intro v' w1 hown' hgrow hn' hfull; obtain ⟨g', cap', rfl⟩ := ownsRow_succ hown'; obtain ⟨hv1, hv2, hr2, hk2, hb2⟩ := hv.appended (by decide) hrow hB.size (by omega) hown' hgrow; have hc1 := hv1.cell; have hf1 := hv1.frozen)
      refine ⟨hk2.from _, kp4_appended hv hrow (fun h => by rw [hnil] at h; exact List.length_pos_iff.2 h) hgrow hfull hb2,
        ⟨⟨⟨_, hv2, by rw [rowOf_snoc, List.length_append]; exact hr2, by simp⟩, ?_, ?_, ?_⟩, hB.trans hb2, ?_⟩⟩
      · exact ((r0.alloc _).kept hgrow (r0.not_row (by decide) hrow)).other (by omega) _
      · exact ((r1.alloc _).kept hgrow (r1.not_row (by decide) hrow)).other (by omega) _
      · exact ((r2.alloc _).kept hgrow (r2.not_row (by decide) hrow)).other (by omega) _
      · intro y hy
        rcases List.mem_append.1 hy with h | h
        · exact hfn y h
        · obtain rfl : y = x := by simpa using h
          exact He.out
    · have He : Hid _ := he
      have c0 := r0.cell
      have c1 := r1.cell
      have c2 := r2.cell
      have f0 := r0.frozen
      have f1 := r1.frozen
      have f2 := r2.frozen
      have hmx : Tryd.prog.follows .mixedOrders = true := by kernel_rfl
      gi_wp2_with fail
      gi_region_o
      all_goals gi_wp2
      all_goals exact left_ok r0 r1 r2 hB hfn (by simpa using He.out) _
  case done =>
    rintro D ys W hD rfl ⟨⟨⟨v, hv, hrow, hnil⟩, r0, r1, r2⟩, hB, hfn⟩ hK
    have hc := hv.cell
    have c0 := r0.cell
    have c1 := r1.cell
    have c2 := r2.cell
    have f0 := r0.frozen
    have f1 := r1.frozen
    have f2 := r2.frozen
    have hK3 : ∀ u, (((W.setCell ⟨w.heap.size, 0, none⟩ u).setCell ⟨w.heap.size + 1, 0, none⟩ (.int .i64 0)).setCell ⟨w.heap.size + 2, 0, none⟩ (.int .i64 0)).heap[D]? = some (.deferred (some [])) := fun u =>
      (((KeepsOthers.setCell W ⟨w.heap.size, 0, none⟩ u).trans (KeepsOthers.setCell _ ⟨w.heap.size + 1, 0, none⟩ (.int .i64 0))).trans (KeepsOthers.setCell _ ⟨w.heap.size + 2, 0, none⟩ (.int .i64 0))).same D _ hK rfl
    have HK3 : Hid _ := hK3
    clear hK3
    rcases hrow.2 with ⟨rfl, hz⟩ | ⟨g, cap, cur, rfl, hgb⟩
    · exact absurd (List.length_eq_zero_iff.1 hz) (items_ne _)
    · gi_wp2
      refine ⟨by simp, .inl ⟨_, _, rfl, run_takeDeferred (HK3.out _), ?_⟩⟩
      obtain ⟨q0, q1, q2, q3, q4⟩ := done_ok hB r0 r1 r2 hrow (HK3.out _) (by omega)
      have d0 := q0.cell
      have d1 := q1.cell
      have d2 := q2.cell
      exact ⟨.tuple #[.slice (some ⟨g, 0, none⟩) (items s.data.toList).length cap, .int .i64 0, .int .i64 0], by simp [results, Tryd.results13, go_sem, d0, d1, d2], q4, .inl ⟨_, rfl, hfn, q3⟩⟩
  case stop =>
    rintro D c pre W hD hSp ⟨⟨rfl, q, x, rfl, hq, hx, r0, r1, r2⟩, hB⟩ hK
    gi_wp2
    refine ⟨by simp, .inl ⟨_, _, rfl, run_takeDeferred hK, ?_⟩⟩
    have d0 := (boxed_putObj r0 (.deferred none) hK rfl).cell
    have d1 := (boxed_putObj r1 (.deferred none) hK rfl).cell
    have d2 := (boxed_putObj r2 (.deferred none) hK rfl).cell
    exact ⟨.tuple #[.slice none 0 0, .int .i64 x.2, .int .i64 x.1.pos], by simp [results, Tryd.results13, go_sem, d0, d1, d2], hB.trans (belowK_b (w := w) (Nat.le_refl _) _ D _ _ (by omega) hK rfl rfl), .inr ⟨q, x, hSp, hq, hx, rfl⟩⟩

end Go.Proofs.YtfdpbmbafpieoaaDoor
