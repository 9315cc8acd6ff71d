/- LocksStay: a step by itself; small; who is stuck. -/
import Derived.Test.YtdlnkdcgipaoeaaDoorHLStepE
import Derived.Test.YtdlnkdcgipaoeaaDoorHLTab
namespace Go.Proofs.YtdlnkdcgipaoeaaDoor
open Go.RowKit

def smallM (o : Sp) : Sp := ⟨o.k, 1 + (pickN o.t 6 : Int), if o.k = 3 then 1 + (pickN ((pickN o.n 3 : Int) + (1 + (pickN o.t 6 : Int))) 6 : Int) else (pickN o.n 3 : Int), o.w, o.e⟩
theorem results_o {fn : Func} {tmps : Array Value} {s g : Nat} {a b c d e : Int} {W : World} (hres : fn.results = #[.cell s 58])
    (h1 : tmps[s]? = some (.pointer (some ⟨g, 0, none⟩))) (k1 : W.heap[g]? = some (.cells #[.int .i64 a, .int .i64 b, .int .i64 c, .int .u64 d, .int .i64 e] 58 (0, 0))) : (results fn tmps).run Tryd.prog W = .ok (.agg #[.int .i64 a, .int .i64 b, .int .i64 c, .int .u64 d, .int .i64 e]) W := by
  have a0 : W.cell? ⟨g, 0, none⟩ = some (.int .i64 a) := heap_cell k1 rfl
  have a1 : W.cell? ⟨g, 1, none⟩ = some (.int .i64 b) := heap_cell k1 rfl
  have a2 : W.cell? ⟨g, 2, none⟩ = some (.int .i64 c) := heap_cell k1 rfl
  have a3 : W.cell? ⟨g, 3, none⟩ = some (.int .u64 d) := heap_cell k1 rfl
  have a4 : W.cell? ⟨g, 4, none⟩ = some (.int .i64 e) := heap_cell k1 rfl
  obtain ⟨l1, e1⟩ := Array.getElem?_eq_some_iff.1 h1
  simp [results, hres, go_sem, l1, e1, a0, a1, a2, a3, a4]
theorem two_new (w : World) (o : Obj) (cs : Array Value) (t : TypeId) : ((w.alloc o).alloc (.cells cs t)).heap[w.heap.size + 1]? = some (.cells cs t (0, 0)) := by
  have := heap_alloc_new (w.alloc o) (.cells cs t)
  rw [World.size_alloc] at this
  exact this
theorem two_below (w : World) (o1 o2 : Obj) : Below w.heap.size w ((w.alloc o1).alloc o2) := ((Below.refl _ w).alloc (Nat.le_refl _) _).alloc (by rw [World.size_alloc]; omega) _
set_option maxRecDepth 100000 in
set_option maxHeartbeats 8000000 in
theorem small_any (w : World) (o : Sp) (ht : R64 o.t) (hn : R64 o.n) :
    Calls Tryd.prog 23 #[.agg #[.int .i64 o.k, .int .i64 o.t, .int .i64 o.n, .int .u64 o.w, .int .i64 o.e]] w fun e w' => e = .returned (.agg #[.int .i64 (smallM o).k, .int .i64 (smallM o).t, .int .i64 (smallM o).n, .int .u64 (smallM o).w, .int .i64 (smallM o).e]) ∧ Below w.heap.size w w' := by
  have P1 : Hid (∀ W, Calls Tryd.prog 14 #[.int .i64 o.t, .int .i64 6] W fun e w' => e = .returned (.int .i64 (pickN o.t 6 : Int)) ∧ w' = W) := fun W => pick_any o.t 6 W ht (by omega) (by omega)
  have P2 : Hid (∀ W, Calls Tryd.prog 14 #[.int .i64 o.n, .int .i64 3] W fun e w' => e = .returned (.int .i64 (pickN o.n 3 : Int)) ∧ w' = W) := fun W => pick_any o.n 3 W hn (by omega) (by omega)
  have p6 : pickN o.t 6 < 6 := pick_lt (by omega)
  have q3 : pickN o.n 3 < 3 := pick_lt (by omega)
  have P3 : Hid (∀ W, Calls Tryd.prog 14 #[.int .i64 ((pickN o.n 3 : Int) + (1 + (pickN o.t 6 : Int))), .int .i64 6] W fun e w' => e = .returned (.int .i64 (pickN ((pickN o.n 3 : Int) + (1 + (pickN o.t 6 : Int))) 6 : Int)) ∧ w' = W) := fun W => pick_any _ 6 W (by omega) (by omega) (by omega)
  have z6 : pickN ((pickN o.n 3 : Int) + (1 + (pickN o.t 6 : Int))) 6 < 6 := pick_lt (by omega)
  unfold smallM
  generalize pickN ((pickN o.n 3 : Int) + (1 + (pickN o.t 6 : Int))) 6 = z at *
  generalize pickN o.t 6 = p at *
  generalize pickN o.n 3 = q at *
  obtain ⟨k, t, n, wd, er⟩ := o
  dsimp only at P1 P2 P3 ⊢
  have hw1 : IntKind.i64.wrap (1 + (p : Int)) = 1 + (p : Int) := IntWalk.i64_in _ (by omega)
  have hw2 : IntKind.i64.wrap ((q : Int) + (1 + (p : Int))) = (q : Int) + (1 + (p : Int)) := IntWalk.i64_in _ (by omega)
  have hw3 : IntKind.i64.wrap (1 + (z : Int)) = 1 + (z : Int) := IntWalk.i64_in _ (by omega)
  clear ht hn
  by_cases k3 : k = 3
  · subst k3
    go_enter Tryd.func23, Tryd.ntmps23
    go_wp2_with fail
    refine Calls.mono (P1.out _) ?_
    rintro e w2 ⟨rfl, rfl⟩
    go_wp2_with fail
    refine Calls.mono (P2.out _) ?_
    rintro e w2 ⟨rfl, rfl⟩
    go_wp2_with fail
    refine Calls.mono (P3.out _) ?_
    rintro e w2 ⟨rfl, rfl⟩
    go_wp2
    refine bodyPost_ret (results_o rfl rfl (two_new w _ _ _)) rfl ⟨?_, two_below w _ _⟩
    rfl
  · go_enter Tryd.func23, Tryd.ntmps23
    go_wp2_with fail
    refine Calls.mono (P1.out _) ?_
    rintro e w2 ⟨rfl, rfl⟩
    go_wp2_with fail
    refine Calls.mono (P2.out _) ?_
    rintro e w2 ⟨rfl, rfl⟩
    go_wp2
    refine bodyPost_ret (results_o rfl rfl (two_new w _ _ _)) rfl ⟨?_, two_below w _ _⟩
    rfl
/-- Both books, all their blocks new. -/
structure SS (w0 w : World) (b r : Nat) (B : Bk) (U : Nat → Prop) : Prop where
  ex : ∃ D F1 F2, BB w b B F1 ∧ DB w r D F2 ∧ (∀ g, F1 g → ¬ F2 g) ∧ (∃ B2, Sim B2 D ∧ Iv B2) ∧ U = fun g => F1 g ∨ F2 g
  iv : Iv B
  nw : ∀ g, U g → w0.heap.size ≤ g
  bl : Below w0.heap.size w0 w
theorem SS.lt {w0 w : World} {b r : Nat} {B : Bk} {U : Nat → Prop} (h : SS w0 w b r B U) : ∀ g, U g → g < w.heap.size := by
  obtain ⟨D, F1, F2, h1, h2, h3, h4, rfl⟩ := h.ex
  rintro g (hg | hg)
  · exact h1.lt hg
  · exact h2.lt hg
theorem SS.quiet {w0 w w' : World} {b r : Nat} {B : Bk} {U : Nat → Prop} (h : SS w0 w b r B U) (hb : Below w.heap.size w w') : SS w0 w' b r B U := by
  have hl := h.lt
  obtain ⟨⟨D, F1, F2, h1, h2, h3, h4, rfl⟩, h5, h6, h7⟩ := h
  exact ⟨⟨D, F1, F2, h1.below hb, h2.below hb, h3, h4, rfl⟩, h5, h6, h7.trans (hb.mono h7.size)⟩
theorem SS.bb {w0 w : World} {b r : Nat} {B : Bk} {U : Nat → Prop} (h : SS w0 w b r B U) : ∃ F, BB w b B F := by
  obtain ⟨D, F1, F2, h1, -⟩ := h.ex
  exact ⟨F1, h1⟩
def bk0 : Obj := .cells #[.slice none 0 0, .slice none 0 0, .slice none 0 0, .slice none 0 0, .slice none 0 0, .slice none 0 0, .slice none 0 0, .slice none 0 0, .slice none 0 0, .slice none 0 0, .slice none 0 0, .slice none 0 0, .slice none 0 0, .slice none 0 0, .slice none 0 0, .slice none 0 0, .slice none 0 0] 45
theorem bks_new (w : World) : Bks (w.alloc bk0) w.heap.size 0 (fun g => g = w.heap.size) := by
  refine ⟨.slice none 0 0, .slice none 0 0, 0, 0, fun _ => .slice none 0 0, fun _ => .slice none 0 0, ⟨⟨heap_alloc_new _ _⟩, ⟨fun _ => 0, fun _ => [], sh_nil _ _ _ _ _⟩, ⟨fun _ => 0, fun _ => [], sh_nil _ _ _ _ _⟩⟩, Nat.le_refl _, Nat.le_refl _, fun g => ⟨fun e => .inl e, fun e => ?_⟩⟩
  rcases e with e | e | e
  · exact e
  · rcases e with e | ⟨j, hj, _⟩
    · cases e
    · omega
  · rcases e with e | ⟨j, hj, _⟩
    · cases e
    · omega
/-- A step, with a book of lists of its own. -/
theorem ss_step {w0 w : World} {b r : Nat} {B : Bk} {U : Nat → Prop} (h : SS w0 w b r B U) (o : Sp) :
    Calls Tryd.prog 10 #[.pointer (some ⟨b, 0, none⟩), .pointer (some ⟨r, 0, none⟩), .agg #[.int .i64 o.k, .int .i64 o.t, .int .i64 o.n, .int .u64 o.w, .int .i64 o.e], .pointer (some ⟨w.heap.size, 0, none⟩)] (w.alloc bk0) fun e w' => (∃ v, e = .returned (.bool v)) ∧ ∃ U', SS w0 w' b r (stepB B o) U' ∧ Chg U U' w w' := by
  have hq : Below w.heap.size w (w.alloc bk0) := (Below.refl _ _).alloc (Nat.le_refl _) _
  have hq' := h.quiet hq
  obtain ⟨⟨D, F1, F2, h1, h2, h3, ⟨B2, h4, h42⟩, rfl⟩, h5, h6, h7⟩ := h
  have hl1 : ∀ g, F1 g → g < w.heap.size := fun g hg => h1.lt hg
  have hl2 : ∀ g, F2 g → g < w.heap.size := fun g hg => h2.lt hg
  have hP : PX (w.alloc bk0) b r w.heap.size B D 0 (U3 F1 F2 (fun g => g = w.heap.size)) := ⟨F1, F2, _, ⟨h1.below hq, h2.below hq, bks_new w, h3, fun g hg e => by have := hl1 g hg; omega, fun g hg e => by have := hl2 g hg; omega⟩, rfl⟩
  refine Calls.mono (step_any hP (by omega) h4 h5 h42 o) ?_
  rintro e w' ⟨v, rfl, -, D', U', ⟨G1, G2, G3, hm, rfl⟩, hS, hC⟩
  have hC2 : Chg (fun g => F1 g ∨ F2 g) (fun g => G1 g ∨ G2 g) w w' := by
    refine ⟨fun g hg hn => ?_, (hq.mono (Nat.zero_le _)).trans hC.2.1, fun g hg => ?_⟩
    · refine (hC.1 g (Nat.lt_of_lt_of_le hg hq.size) (fun e => ?_)).trans (hq.block g hg)
      rcases e with e | e | e
      · exact hn (.inl e)
      · exact hn (.inr e)
      · omega
    · have hg' : U3 G1 G2 G3 g := by
        rcases hg with hg | hg
        · exact .inl hg
        · exact .inr (.inl hg)
      rcases hC.2.2 g hg' with (e | e | e) | e
      · exact .inl (.inl e)
      · exact .inl (.inr e)
      · exact .inr (by omega)
      · exact .inr (Nat.le_trans hq.size e)
  refine ⟨⟨v, rfl⟩, fun g => G1 g ∨ G2 g, ⟨⟨D', G1, G2, hm.p, hm.d, hm.d12, ⟨_, hS, step_iv h42 o⟩, rfl⟩, step_iv h5 o, fun g hg => ?_, ?_⟩, hC2⟩
  · rcases hC2.2.2 g hg with e | e
    · exact h6 g e
    · exact Nat.le_trans h7.size e
  · refine ⟨hC2.2.1.os.trans h7.os, hC2.2.1.tape.trans h7.tape, hC2.2.1.output.trans h7.output, Nat.le_trans h7.size hC2.2.1.size, fun g hg => ?_⟩
    rw [hC2.1 g (Nat.lt_of_lt_of_le hg h7.size) (fun e => by have := h6 g e; omega)]
    exact h7.block g hg
theorem mem_st {B : Bk} {x : Int} : x ∈ stB B B.t.length ↔ 1 ≤ x ∧ x ≤ B.t.length ∧ ringB B x B.t.length x = true := by
  unfold stB
  rw [List.mem_filter, List.mem_map]
  constructor
  · rintro ⟨⟨i, hi, rfl⟩, h⟩
    rw [List.mem_range] at hi
    exact ⟨by omega, by omega, h⟩
  · rintro ⟨h1, h2, h3⟩
    exact ⟨⟨(x - 1).toNat, List.mem_range.2 (by omega), by omega⟩, h3⟩
theorem st_facts {B : Bk} (h : Iv B) {x : Int} (hx : x ∈ stB B B.t.length) : wtB B x = true ∧ ∃ (i : Nat) (t : Th), x = (i : Int) + 1 ∧ B.t[i]? = some t ∧ t.en = false := by
  obtain ⟨h1, h2, h3⟩ := mem_st.1 hx
  have h4 := (ring_stays h h (kpt_refl B 0) (wt_zero h) h1 (Nat.le_refl _) h3).2
  refine ⟨h4, ?_⟩
  obtain ⟨r, hr, hm⟩ := (h.wt x).1 h4
  exact h.rg r hr x hm
theorem step_len (B : Bk) (o : Sp) : B.t.length ≤ (stepB B o).t.length := by
  unfold stepB
  split
  · unfold startM
    split
    · exact Nat.le_refl _
    · simp
  · split
    · unfold endM
      split
      · exact Nat.le_refl _
      · split
        · simp [endT]
        · exact Nat.le_refl _
    · split
      · unfold joinM
        split
        · exact Nat.le_refl _
        · split
          · exact Nat.le_refl _
          · split
            · exact Nat.le_refl _
            · split
              · split
                · exact Nat.le_refl _
                · simp
              · exact Nat.le_refl _
      · split
        · rw [lock_t]
          exact Nat.le_refl _
        · split
          · rw [unlock_t]
            exact Nat.le_refl _
          · split
            · unfold setM
              split <;> exact Nat.le_refl _
            · exact Nat.le_refl _
/-- Who is stuck stays so. -/
theorem st_stays {B : Bk} (h : Iv B) (o : Sp) {x : Int} (hx : x ∈ stB B B.t.length) : x ∈ stB (stepB B o) (stepB B o).t.length := by
  obtain ⟨h1, h2, h3⟩ := mem_st.1 hx
  have hle := step_len B o
  have h' := step_iv h o
  have key : ∀ t, Kpt B (stepB B o) t → wtB B t = false → x ∈ stB (stepB B o) (stepB B o).t.length := fun t hk hw => mem_st.2 ⟨h1, by omega, (ring_stays h h' hk hw h1 hle h3).1⟩
  have same : stepB B o = B → x ∈ stB (stepB B o) (stepB B o).t.length := fun e => by rw [e]; exact hx
  by_cases k1 : o.k = 1
  · have e : stepB B o = (startM B).2 := by unfold stepB; rw [if_pos k1]
    exact key 0 (by rw [e]; exact start_kpt B 0) (wt_zero h)
  by_cases k2 : o.k = 2
  · have e : stepB B o = (endM B o.t o.w o.e).2 := by unfold stepB; rw [if_neg k1, if_pos k2]
    rcases end_or B o.t o.w o.e with hs | hs
    · exact same (e.trans hs)
    · exact key o.t (by rw [e]; exact end_kpt B o.t o.w o.e) hs
  by_cases k3 : o.k = 3
  · have e : stepB B o = (joinM B o.t o.n).2 := by unfold stepB; rw [if_neg k1, if_neg k2, if_pos k3]
    rcases join_or B o.t o.n with hs | hs
    · exact same (e.trans hs)
    · exact key o.t (by rw [e]; exact join_kpt B o.t o.n) hs
  by_cases k4 : o.k = 4
  · have e : stepB B o = (lockM B o.t o.n).2 := by unfold stepB; rw [if_neg k1, if_neg k2, if_neg k3, if_pos k4]
    rcases lock_or B o.t o.n with hs | hs
    · exact same (e.trans hs)
    · exact key o.t (by rw [e]; exact lock_kpt h o.t o.n) hs
  by_cases k5 : o.k = 5
  · have e : stepB B o = (unlockM B o.t o.n).2 := by unfold stepB; rw [if_neg k1, if_neg k2, if_neg k3, if_neg k4, if_pos k5]
    rcases unlock_or B o.t o.n with hs | hs
    · exact same (e.trans hs)
    · exact key o.t (by rw [e]; exact unlock_kpt B o.t o.n) hs
  by_cases k7 : o.k = 7
  · have e : stepB B o = (setM B o.n o.w).2 := by unfold stepB; rw [if_neg k1, if_neg k2, if_neg k3, if_neg k4, if_neg k5, if_pos k7]
    exact key 0 (by rw [e]; exact set_kpt B o.n o.w 0) (wt_zero h)
  have e : stepB B o = B := by unfold stepB; rw [if_neg k1, if_neg k2, if_neg k3, if_neg k4, if_neg k5, if_neg k7]
  exact same e
end Go.Proofs.YtdlnkdcgipaoeaaDoor
