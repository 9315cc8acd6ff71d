/- A loop over lex.All: the law for its callers. -/
import Derived.Test.YtfdpbmbafpieoaaDoorAllFn
namespace Go.Proofs.YtfdpbmbafpieoaaDoor
open Go.RowKit Go.Shelf

theorem kp5_t {n₀ B : Nat} {X Y Z : World} (h : Kp5 n₀ B X Y) (k : Kp5 n₀ B Y Z) : Kp5 n₀ B X Z :=
  ⟨kp4_t h.1 k.1, h.2.1.trans k.2.1, fun j cs hj => k.2.2 j cs (h.2.2 j cs hj)⟩
theorem kp5_le {n₀ B B' : Nat} {X Y : World} (h : Kp5 n₀ B X Y) (hB : B ≤ B') : Kp5 n₀ B' X Y := ⟨h.1, keepsFrom_le h.2.1 hB, h.2.2⟩
/-- The loop's own record turns. -/
theorem kp5_rec {n₀ B l : Nat} {W : World} {o o' : Obj} (hn : n₀ ≤ l) (hl : W.heap[l]? = some o) (hc : o.isCells = false) (hw : o.isWalk = false) (hB : l < B) : Kp5 n₀ B W (W.putObj l o') := by
  have hlt := (Array.getElem?_eq_some_iff.1 hl).1
  refine ⟨⟨(Below.refl n₀ W).grown (grownBy_putObj' W l o') (by omega) (fun k e => by cases e; omega), fun k cs hk => ?_, fun k cs hk _ => ?_⟩, KeepsFrom.of_grownBy (grownBy_putObj' W l o') (fun j e => by cases e; exact hB), fun k cs hk => ?_⟩
  all_goals
    rw [World.putObj_heap_other (by rintro rfl; rw [hl] at hk; cases hk; cases hc)]
    exact hk

/-- How a body may be left. -/
def PostA (n₀ B : Nat) (I : List (Tok × Int) → World → Prop) (Ix : Code → List (Tok × Int) → World → Prop) (xs : List (Tok × Int)) (W : World) : Exit → Act → World → Prop
  | .normal, _, W' => Kp5 n₀ B W W' ∧ I xs W'
  | .ret, _, W' => Kp5 n₀ B W W' ∧ Ix .ret xs W'
  | .exit id, _, W' => Kp5 n₀ B W W' ∧ Ix (.exit id) xs W'
  | .goto t, _, W' => Kp5 n₀ B W W' ∧ Ix (.goto t) xs W'
  | .panic _, _, _ => False
  | .outgrown, _, _ => False

/-- One round of such a loop, at its record l; the blocks from b on are the loop's and later ones. -/
theorem round_all {F : Fence} {m n₀ b l : Nat} {r : Loop} {I : List (Tok × Int) → World → Prop} {Ix : Code → List (Tok × Int) → World → Prop} {Ax : Tok × Int → Act → World → Prop} (hbl : b ≤ l) (hnb : n₀ ≤ b)
    (hI : OwnFrom b I) (hIx : ∀ c, OwnFrom b (Ix c)) (hAx : ∀ x a', OwnFrom b (fun (_ : Unit) W => Ax x a' W)) (hr : r.state = .ready) (hp : r.pending = none) (hps : r.params.size = 1) (hF : F.fn r.fn) {pre : List (Tok × Int)} {x : Tok × Int} {W : World}
    (hl : W.heap[l]? = some (.loop r))
    (hassign : ∀ K : Act → World → Prop, (∀ a' W', Kp5 n₀ b W W' → I pre W' → Ax x a' W' → K a' W') →
      r.assign.wpIn (F.inRound l) m Tryd.prog (Exit.then K (fun _ _ _ => False)) { tmps := (r.params.zip #[encT x.1]).foldl (fun t (p, v) => t.setIfInBounds p v) r.tmps, defers := [] } W)
    (hbody : ∀ a' W, (∃ r, W.heap[l]? = some (.loop r)) → I pre W → Ax x a' W → r.body.wpIn (F.inRound l) m Tryd.prog (PostA n₀ b I Ix (pre ++ [x]) W) a' W) :
    YieldAt F m Tryd.prog l #[encT x.1] W fun e W' =>
      (e = .returned (.bool true) ∧ (I (pre ++ [x]) W' ∧ W'.heap[l]? = some (.loop r)) ∧ Kp5 n₀ (l + 1) W W' ∧ ∀ k o, b ≤ k → k < l → W.heap[k]? = some o → o.isCells = false → W'.heap[k]? = some o) ∨
      (e = .returned (.bool false) ∧ (∃ c, Ix c (pre ++ [x]) W' ∧ W'.heap[l]? = some (.loop { r with state := .done, pending := some c })) ∧ Kp5 n₀ (l + 1) W W' ∧ ∀ k o, b ≤ k → k < l → W.heap[k]? = some o → o.isCells = false → W'.heap[k]? = some o) := by
  have fin : ∀ {Wa W3 : World} (o' : Obj), Kp5 n₀ b W Wa → Wa.heap[l]? = some (.loop r) → Kp5 n₀ b (Wa.putObj l (.loop { r with state := .busy })) W3 → W3.heap[l]? = some (.loop { r with state := .busy }) →
      Kp5 n₀ (l + 1) W (W3.putObj l o') ∧ ∀ k o, b ≤ k → k < l → W.heap[k]? = some o → o.isCells = false → (W3.putObj l o').heap[k]? = some o := by
    intro Wa W3 o' hka hla hk3 hl3
    refine ⟨kp5_t (kp5_le hka (by omega)) (kp5_t (kp5_rec (by omega) hla rfl rfl (by omega)) (kp5_t (kp5_le hk3 (by omega)) (kp5_rec (by omega) hl3 rfl rfl (by omega)))), fun k o hbk hkl hk ho => ?_⟩
    rw [World.putObj_heap_other (by omega)]
    refine hk3.2.1.same k o hbk ?_ ho
    rw [World.putObj_heap_other (by omega)]
    exact hka.2.1.same k o hbk hk ho
  refine (yield_round (G := fun W3 => I (pre ++ [x]) W3 ∧ ∃ Wa, Kp5 n₀ b W Wa ∧ Wa.heap[l]? = some (.loop r) ∧ Kp5 n₀ b (Wa.putObj l (.loop { r with state := .busy })) W3)
    (L := fun c W3 => Ix c (pre ++ [x]) W3 ∧ ∃ Wa, Kp5 n₀ b W Wa ∧ Wa.heap[l]? = some (.loop r) ∧ Kp5 n₀ b (Wa.putObj l (.loop { r with state := .busy })) W3) hl hr hp (by simp [hps]) hF (hassign _ ?_)).mono ?_
  · intro a' Wa hka hia hax
    have hla := hka.2.1.same l _ hbl hl rfl
    have hlt := (Array.getElem?_eq_some_iff.1 hla).1
    refine ⟨hla, wpIn_mono (hbody a' _ ⟨_, World.putObj_heap_same hlt⟩ (hI.putObj _ hia hbl hla rfl) ((hAx x a').putObj (s := ()) _ hax hbl hla rfl)) ?_⟩
    intro e a3 W3 h3
    have hl2 : (Wa.putObj l (.loop { r with state := .busy })).heap[l]? = some (.loop { r with state := .busy }) := World.putObj_heap_same hlt
    cases e with
    | normal => exact ⟨h3.1.2.1.same l _ hbl hl2 rfl, h3.2, Wa, hka, hla, h3.1⟩
    | ret => exact ⟨h3.1.2.1.same l _ hbl hl2 rfl, h3.2, Wa, hka, hla, h3.1⟩
    | exit id => exact ⟨h3.1.2.1.same l _ hbl hl2 rfl, h3.2, Wa, hka, hla, h3.1⟩
    | goto t => exact ⟨h3.1.2.1.same l _ hbl hl2 rfl, h3.2, Wa, hka, hla, h3.1⟩
    | panic ch => exact h3.elim
    | outgrown => exact h3.elim
  · rintro e W' (⟨rfl, W3, hl3, rfl, hi3, Wa, hka, hla, hk3⟩ | ⟨rfl, c, W3, hl3, rfl, hi3, Wa, hka, hla, hk3⟩)
    · obtain ⟨f1, f2⟩ := fin (.loop r) hka hla hk3 hl3
      exact .inl ⟨rfl, ⟨hI.putObj _ hi3 hbl hl3 rfl, World.putObj_heap_same (Array.getElem?_eq_some_iff.1 hl3).1⟩, f1, f2⟩
    · obtain ⟨f1, f2⟩ := fin (.loop { r with state := .done, pending := some c }) hka hla hk3 hl3
      exact .inr ⟨rfl, ⟨c, (hIx c).putObj _ hi3 hbl hl3 rfl, World.putObj_heap_same (Array.getElem?_eq_some_iff.1 hl3).1⟩, f1, f2⟩
theorem callsIn_any {n n' : Nat} {P : Program} {f : FuncId} {args : Array Value} {w : World} {R : Ending → World → Prop} (h : CallsIn Fence.wide n P f args w R) : CallsIn Fence.wide n' P f args w R :=
  ⟨h.1, fun cs _ => h.2 cs (fun d hd => by cases hd)⟩

theorem rec_own {β : Type} {B k : Nat} {o : Obj} (hk : k < B) : OwnFrom B (fun (_ : β) W => W.heap[k]? = some o) := fun _ X Y row hs hg hr =>
  (hg.block k (Array.getElem?_eq_some_iff.1 hs).1 (fun e => by have := (hr k e.symm).1; omega)).trans hs

/-- The law: a loop over lex.All, at the outermost. -/
theorem range_all {n n₀ Bs : Nat} {g : Operand} {ps : Array Tmp} {assign body : Code} {Q : Exit → Act → World → Prop} {a : Act} {w : World} {s : ByteArray} (h1 : 1 ≤ n) (hs : s.size ≤ 281474976710656)
    (hg : a.eval g = .func (.func 23) #[] #[.pointer (some ⟨Bs, 0, none⟩)]) (hps : ps.size = 1) (hBs : w.heap[Bs]? = some (.cells #[.string s] 9 (0, 0))) (hE : EV w) (h1n : 1 < n₀) (hn₀ : n₀ ≤ w.heap.size)
    (I : List (Tok × Int) → World → Prop) (Ix : Code → List (Tok × Int) → World → Prop) (hI : OwnFrom w.heap.size I) (hIx : ∀ c, OwnFrom w.heap.size (Ix c)) (h0 : I [] w) (Ax : Tok × Int → Act → World → Prop) (hAx : ∀ x a', OwnFrom w.heap.size (fun (_ : Unit) W => Ax x a' W))
    (hassign : ∀ (m l : Nat) (pre : List (Tok × Int)) (x : Tok × Int) (W : World) (K : Act → World → Prop), I pre W → (∀ a' W', Kp5 n₀ w.heap.size W W' → I pre W' → Ax x a' W' → K a' W') →
      assign.wpIn (Fence.wide.inRound l) m Tryd.prog (Exit.then K (fun _ _ _ => False)) { tmps := (ps.zip #[encT x.1]).foldl (fun t (p, v) => t.setIfInBounds p v) a.tmps, defers := [] } W)
    (hbody : ∀ (m l : Nat) (pre : List (Tok × Int)) (x : Tok × Int) (a' : Act) (W : World), w.heap.size ≤ l → (∃ r, W.heap[l]? = some (.loop r)) → I pre W → Ax x a' W → pre.length < (items s.data.toList).length →
      body.wpIn (Fence.wide.inRound l) m Tryd.prog (PostA n₀ w.heap.size I Ix (pre ++ [x]) W) a' W)
    (hdone : ∀ (D : Nat) (W : World), w.heap.size ≤ D → I (ahead (items s.data.toList)) W → W.heap[D]? = some (.deferred (some [])) → Q .normal { a with defers := { target := .collected D, args := #[] } :: a.defers } W)
    (hstop : ∀ (D : Nat) (c : Code) (pre : List (Tok × Int)) (W : World), w.heap.size ≤ D → pre <+: ahead (items s.data.toList) → Ix c pre W → W.heap[D]? = some (.deferred (some [])) → c.wpIn Fence.wide n Tryd.prog Q { a with defers := { target := .collected D, args := #[] } :: a.defers } W) :
    (Code.rangeFunc g ps assign body).wpIn Fence.wide n Tryd.prog Q a w := by
  refine range_outer rfl h1 hg trivial (enters_of Tryd.func23 (by kernel_rfl) rfl) fun fn hfn => ?_
  obtain ⟨r, hr⟩ : ∃ r : Loop, (⟨.ready, none, fn, a.tmps, ps, assign, body, w.heap.size⟩ : Loop) = r := ⟨_, rfl⟩
  have hW : Below w.heap.size w ((w.alloc (.deferred (some []))).alloc (.loop r)) := ((Below.refl _ w).alloc (Nat.le_refl _) _).alloc (by simp) _
  have hsz : ((w.alloc (.deferred (some []))).alloc (.loop r)).heap.size = w.heap.size + 2 := by rw [World.size_alloc, World.size_alloc]
  have hL1 : ((w.alloc (.deferred (some []))).alloc (.loop r)).heap[w.heap.size + 1]? = some (.loop r) := by
    have := World.alloc_heap_new (w.alloc (.deferred (some []))) (.loop r); rwa [World.size_alloc] at this
  have hK1 : ((w.alloc (.deferred (some []))).alloc (.loop r)).heap[w.heap.size]? = some (.deferred (some [])) := (Below.heap_alloc _ _ _ (by simp)).trans (World.alloc_heap_new w _)
  have hI1 : I [] ((w.alloc (.deferred (some []))).alloc (.loop r)) := hI.alloc _ (hI.alloc _ h0)
  have hBs1 := (hW.block Bs (Array.getElem?_eq_some_iff.1 hBs).1).trans hBs
  have hE1 := hE.below hW (by omega)
  rw [hr]
  obtain ⟨W1, hW1⟩ : ∃ W1, ((w.alloc (.deferred (some []))).alloc (.loop r)) = W1 := ⟨_, rfl⟩
  rw [hW1] at hW hsz hL1 hK1 hI1 hBs1 hE1 ⊢
  clear hW1
  refine (callsIn_any (all1_in (w.heap.size + 1) Bs n₀ s hs (fun pre W => (I pre W ∧ W.heap[w.heap.size + 1]? = some (.loop r)) ∧ W.heap[w.heap.size]? = some (.deferred (some [])))
    (fun pre W => (∃ c, Ix c pre W ∧ W.heap[w.heap.size + 1]? = some (.loop { r with state := .done, pending := some c })) ∧ W.heap[w.heap.size]? = some (.deferred (some []))) W1
    (OwnFrom.and (OwnFrom.and (ownFrom_le hI (by omega)) (rec_own (by omega))) (rec_own (by omega))) (OwnFrom.and ?_ (rec_own (by omega))) ?_ h1n (by omega) hBs1 hE1 ⟨⟨hI1, hL1⟩, hK1⟩)).mono ?_
  · rintro q X Y row ⟨c, hc, hl⟩ hgr hrr
    exact ⟨c, ownFrom_le (hIx c) (by omega) q X Y row hc hgr hrr, rec_own (β := Unit) (by omega) () X Y row hl hgr hrr⟩
  · rintro m pre x W ⟨⟨hi, hl⟩, hk⟩ hlen
    have hbl : w.heap.size ≤ w.heap.size + 1 := by omega
    have key := round_all (F := Fence.wide) (m := m) (n₀ := n₀) (b := w.heap.size) (l := w.heap.size + 1) (r := r) (I := I) (Ix := Ix) (Ax := Ax) (pre := pre) (x := x) hbl hn₀ hI hIx hAx (by rw [← hr]) (by rw [← hr]) (by rw [← hr]; exact hps) (by rw [← hr]; exact hfn) hl
      (fun K hK => by rw [← hr]; exact hassign m _ pre x W K hi hK) (fun a' W' hrec hi' hax => by rw [← hr]; exact hbody m _ pre x a' W' hbl hrec hi' hax hlen)
    refine YieldAt.mono key ?_
    rintro e W' (⟨rfl, ⟨hi', hl'⟩, hkp, hb⟩ | ⟨rfl, hx', hkp, hb⟩)
    · exact .inl ⟨rfl, ⟨⟨hi', hl'⟩, hb _ _ (Nat.le_refl _) (by omega) hk rfl⟩, by rw [hsz]; exact hkp⟩
    · exact .inr ⟨rfl, ⟨hx', hb _ _ (Nat.le_refl _) (by omega) hk rfl⟩, by rw [hsz]; exact hkp⟩
  · rintro e W ⟨hv, ⟨⟨hi, hl⟩, hk⟩ | ⟨pre, hpre, ⟨c, hc, hl⟩, hk⟩⟩
    · refine ⟨hv, .inl ⟨hl, hdone _ _ (Nat.le_refl _) (hI.putObj _ hi (by omega) hl rfl) ((World.putObj_heap_other (by omega)).trans hk)⟩⟩
    · exact ⟨hv, .inr ⟨c, hl, hstop _ c pre _ (Nat.le_refl _) hpre ((hIx c).putObj _ hc (by omega) hl rfl) ((World.putObj_heap_other (by omega)).trans hk)⟩⟩

/-- .. and within a round of loop l₀. -/
theorem range_all_in {n n₀ Bs l₀ : Nat} {r₀ : Loop} {g : Operand} {ps : Array Tmp} {assign body : Code} {Q : Exit → Act → World → Prop} {a : Act} {w : World} {s : ByteArray} (hl₀ : w.heap[l₀]? = some (.loop r₀)) (h1 : 1 ≤ n) (hs : s.size ≤ 281474976710656)
    (hg : a.eval g = .func (.func 23) #[] #[.pointer (some ⟨Bs, 0, none⟩)]) (hps : ps.size = 1) (hBs : w.heap[Bs]? = some (.cells #[.string s] 9 (0, 0))) (hE : EV w) (h1n : 1 < n₀) (hn₀ : n₀ ≤ w.heap.size)
    (I : List (Tok × Int) → World → Prop) (Ix : Code → List (Tok × Int) → World → Prop) (hI : OwnFrom w.heap.size I) (hIx : ∀ c, OwnFrom w.heap.size (Ix c)) (h0 : I [] w) (Ax : Tok × Int → Act → World → Prop) (hAx : ∀ x a', OwnFrom w.heap.size (fun (_ : Unit) W => Ax x a' W))
    (hassign : ∀ (m l : Nat) (pre : List (Tok × Int)) (x : Tok × Int) (W : World) (K : Act → World → Prop), I pre W → (∀ a' W', Kp5 n₀ w.heap.size W W' → I pre W' → Ax x a' W' → K a' W') →
      assign.wpIn (Fence.wide.inRound l) m Tryd.prog (Exit.then K (fun _ _ _ => False)) { tmps := (ps.zip #[encT x.1]).foldl (fun t (p, v) => t.setIfInBounds p v) a.tmps, defers := [] } W)
    (hbody : ∀ (m l : Nat) (pre : List (Tok × Int)) (x : Tok × Int) (a' : Act) (W : World), w.heap.size ≤ l → (∃ r, W.heap[l]? = some (.loop r)) → I pre W → Ax x a' W → pre.length < (items s.data.toList).length →
      body.wpIn (Fence.wide.inRound l) m Tryd.prog (PostA n₀ w.heap.size I Ix (pre ++ [x]) W) a' W)
    (hdone : ∀ (W : World), I (ahead (items s.data.toList)) W → Q .normal a W)
    (hstop : ∀ (c : Code) (pre : List (Tok × Int)) (W : World), pre <+: ahead (items s.data.toList) → Ix c pre W → c.wpIn (Fence.wide.inRound l₀) n Tryd.prog Q a W) :
    (Code.rangeFunc g ps assign body).wpIn (Fence.wide.inRound l₀) n Tryd.prog Q a w := by
  refine range_inner rfl hl₀ h1 hg trivial (enters_of Tryd.func23 (by kernel_rfl) rfl) fun fn hfn => ?_
  obtain ⟨r, hr⟩ : ∃ r : Loop, (⟨.ready, none, fn, a.tmps, ps, assign, body, r₀.defers⟩ : Loop) = r := ⟨_, rfl⟩
  have hW : Below w.heap.size w (w.alloc (.loop r)) := (Below.refl _ w).alloc (Nat.le_refl _) _
  have hsz : (w.alloc (.loop r)).heap.size = w.heap.size + 1 := by rw [World.size_alloc]
  have hL1 : (w.alloc (.loop r)).heap[w.heap.size]? = some (.loop r) := World.alloc_heap_new w (.loop r)
  have hI1 : I [] (w.alloc (.loop r)) := hI.alloc _ h0
  have hBs1 := (hW.block Bs (Array.getElem?_eq_some_iff.1 hBs).1).trans hBs
  have hE1 := hE.below hW (by omega)
  rw [hr]
  obtain ⟨W1, hW1⟩ : ∃ W1, w.alloc (.loop r) = W1 := ⟨_, rfl⟩
  rw [hW1] at hW hsz hL1 hI1 hBs1 hE1 ⊢
  clear hW1
  refine (show CallsIn (Fence.wide.inRound l₀) (n - 1) Tryd.prog 23 _ W1 _ from callsIn_any (all1_in w.heap.size Bs n₀ s hs (fun pre W => I pre W ∧ W.heap[w.heap.size]? = some (.loop r))
    (fun pre W => ∃ c, Ix c pre W ∧ W.heap[w.heap.size]? = some (.loop { r with state := .done, pending := some c })) W1
    (OwnFrom.and (ownFrom_le hI (by omega)) (rec_own (by omega))) ?_ ?_ h1n (by omega) hBs1 hE1 ⟨hI1, hL1⟩)).mono ?_
  · rintro q X Y row ⟨c, hc, hl⟩ hgr hrr
    exact ⟨c, ownFrom_le (hIx c) (by omega) q X Y row hc hgr hrr, rec_own (β := Unit) (by omega) () X Y row hl hgr hrr⟩
  · rintro m pre x W ⟨hi, hl⟩ hlen
    have key := round_all (F := Fence.wide) (m := m) (n₀ := n₀) (b := w.heap.size) (l := w.heap.size) (r := r) (I := I) (Ix := Ix) (Ax := Ax) (pre := pre) (x := x) (Nat.le_refl _) hn₀ hI hIx hAx (by rw [← hr]) (by rw [← hr]) (by rw [← hr]; exact hps) (by rw [← hr]; exact hfn) hl
      (fun K hK => by rw [← hr]; exact hassign m _ pre x W K hi hK) (fun a' W' hrec hi' hax => by rw [← hr]; exact hbody m _ pre x a' W' (Nat.le_refl _) hrec hi' hax hlen)
    refine YieldAt.mono key ?_
    rintro e W' (⟨rfl, ⟨hi', hl'⟩, hkp, hb⟩ | ⟨rfl, hx', hkp, hb⟩)
    · exact .inl ⟨rfl, ⟨hi', hl'⟩, by rw [hsz]; exact hkp⟩
    · exact .inr ⟨rfl, hx', by rw [hsz]; exact hkp⟩
  · rintro e W ⟨hv, ⟨hi, hl⟩ | ⟨pre, hpre, c, hc, hl⟩⟩
    · exact ⟨hv, .inl ⟨hl, hdone _ (hI.putObj _ hi (Nat.le_refl _) hl rfl)⟩⟩
    · exact ⟨hv, .inr ⟨c, hl, hstop c pre _ hpre ((hIx c).putObj _ hc (Nat.le_refl _) hl rfl)⟩⟩
end Go.Proofs.YtfdpbmbafpieoaaDoor
