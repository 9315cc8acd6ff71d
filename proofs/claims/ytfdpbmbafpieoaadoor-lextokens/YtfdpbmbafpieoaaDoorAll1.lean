/- All's closure: an iterator that ranges over another one. -/
import Derived.Test.YtfdpbmbafpieoaaDoorTokAll
import Derived.Test.YtfdpbmbafpieoaaDoorRange2
namespace Go.Proofs.YtfdpbmbafpieoaaDoor
open Go.RowKit Go.Shelf

attribute [local go_sem] Oper.semAt_some

/-- What a round of the outer loop keeps: .. and the blocks of book-keeping from B on, and the boxes of functions. -/
def Kp5 (n₀ B : Nat) (A C : World) : Prop := Kp4 n₀ A C ∧ KeepsFrom B A C ∧ ∀ (k : Nat) (cs : Array Value), A.heap[k]? = some (.cells cs 67 (0, 0)) → C.heap[k]? = some (.cells cs 67 (0, 0))

theorem ahead_pre {p xs : List (Tok × Int)} (h : p <+: xs) (hf : fine p) : p <+: ahead xs := by
  obtain ⟨r, rfl⟩ := h
  unfold ahead
  rw [(fine_take hf r).1]
  exact List.prefix_append _ _

def InvA (l b : Nat) (J : List (Tok × Int) → World → Prop) (pre : List (Tok × Int)) (W : World) : Prop := (J pre W ∧ fine pre) ∧ Boxed W b 67 (.func (.yield l) #[] #[])
def InvAX (J Jx : List (Tok × Int) → World → Prop) (c : Code) (pre : List (Tok × Int)) (W : World) : Prop := c = .ret ∧ ((∃ q x, pre = q ++ [x] ∧ fine q ∧ ¬ x.2 = 0 ∧ J q W) ∨ (fine pre ∧ Jx pre W))

theorem keepsFrom_le {B B' : Nat} {X Y : World} (h : KeepsFrom B X Y) (hB : B ≤ B') : KeepsFrom B' X Y := ⟨h.size, fun k o hk h0 ho => h.same k o (Nat.le_trans hB hk) h0 ho⟩
theorem ownFrom_le {β : Type} {B B' : Nat} {I : β → World → Prop} (h : OwnFrom B I) (hB : B ≤ B') : OwnFrom B' I := fun s X Y row hs hg hr => h s X Y row hs hg (fun r e => ⟨Nat.le_trans hB (hr r e).1, (hr r e).2⟩)

theorem invA_own {l b B : Nat} {J : List (Tok × Int) → World → Prop} (hJ : OwnFrom B J) : OwnFrom B (InvA l b J) :=
  OwnFrom.and (OwnFrom.and hJ (ownFrom_pure B _)) (Own.from (boxed_own _ _ _) _)
theorem invAX_own {B : Nat} {J Jx : List (Tok × Int) → World → Prop} (hJ : OwnFrom B J) (hJx : OwnFrom B Jx) (c : Code) : OwnFrom B (InvAX J Jx c) := by
  rintro s X Y row ⟨hc, h⟩ hg hr
  refine ⟨hc, ?_⟩
  rcases h with ⟨q, x, h1, h2, h3, h4⟩ | ⟨h1, h2⟩
  · exact .inl ⟨q, x, h1, h2, h3, hJ q X Y row h4 hg hr⟩
  · exact .inr ⟨h1, hJx s X Y row h2 hg hr⟩

set_option maxRecDepth 100000 in
set_option maxHeartbeats 2000000 in
theorem all1_in (l Bs n₀ : Nat) (s : ByteArray) (hs : s.size ≤ 281474976710656) (J Jx : List (Tok × Int) → World → Prop) (w : World) (hJ : OwnFrom w.heap.size J) (hJx : OwnFrom w.heap.size Jx)
    (hY : ∀ (m : Nat) pre x W1, J pre W1 → pre.length < (items s.data.toList).length → YieldAt Fence.wide m Tryd.prog l #[encT x.1] W1 fun e W' =>
      (e = .returned (.bool true) ∧ J (pre ++ [x]) W' ∧ Kp5 n₀ w.heap.size W1 W') ∨ (e = .returned (.bool false) ∧ Jx (pre ++ [x]) W' ∧ Kp5 n₀ w.heap.size W1 W'))
    (h1n : 1 < n₀) (hn₀ : n₀ ≤ w.heap.size) (hBs : w.heap[Bs]? = some (.cells #[.string s] 9 (0, 0))) (hE : EV w) (h0 : J [] w) :
    CallsIn Fence.wide 7 Tryd.prog 23 #[.func (.yield l) #[] #[], .pointer (some ⟨Bs, 0, none⟩)] w fun e W' => (∃ v, e = .returned v) ∧
      (J (ahead (items s.data.toList)) W' ∨ ∃ pre, pre <+: ahead (items s.data.toList) ∧ Jx pre W') := by
  have hcs : w.cell? ⟨Bs, 0, none⟩ = some (.string s) := by simp [World.cell?, hBs]
  refine callsIn_of_wp_marks Tryd.func23 rfl trivial ?_ rfl
  simp only [Tryd.ntmps23, List.size_toArray, List.length_cons, List.length_nil, Nat.reduceAdd, Nat.reduceSub, Array.replicate_succ, Array.replicate_zero, List.push_toArray, List.append_toArray, List.nil_append, List.cons_append]
  have hlt : Bs < w.heap.size := (Array.getElem?_eq_some_iff.1 hBs).1
  have hcs1 : (w.alloc (.cells #[.func (.yield l) #[] #[]] 67)).cell? ⟨Bs, 0, none⟩ = some (.string s) := by
    rw [((Below.refl _ w).alloc (Nat.le_refl _) _).cell (p := ⟨Bs, 0, none⟩) hlt]; exact hcs
  gi_wp2_with (refine ⟨trivial, ?_⟩; gi_at_call 24; refine (steps_in _ s _).mono ?_; rintro e w' ⟨rfl, rfl⟩)
  have hW0 : Below w.heap.size w ((w.alloc (.cells #[.func (.yield l) #[] #[]] 67)).alloc (.cells #[.string s] 9)) := ((Below.refl _ w).alloc (Nat.le_refl _) _).alloc (by simp) _
  have b0 : Boxed ((w.alloc (.cells #[.func (.yield l) #[] #[]] 67)).alloc (.cells #[.string s] 9)) w.heap.size 67 (.func (.yield l) #[] #[]) := (Boxed.new w 67 _).alloc _
  have b1 : Boxed ((w.alloc (.cells #[.func (.yield l) #[] #[]] 67)).alloc (.cells #[.string s] 9)) (w.heap.size + 1) 9 (.string s) := by
    have := Boxed.new (w.alloc (.cells #[.func (.yield l) #[] #[]] 67)) 9 (.string s)
    rw [World.size_alloc] at this
    exact this
  have hsz : ((w.alloc (.cells #[.func (.yield l) #[] #[]] 67)).alloc (.cells #[.string s] 9)).heap.size = w.heap.size + 2 := by rw [World.size_alloc, World.size_alloc]
  have hJ0 : J [] ((w.alloc (.cells #[.func (.yield l) #[] #[]] 67)).alloc (.cells #[.string s] 9)) := hJ.alloc _ (hJ.alloc _ h0)
  obtain ⟨W0, hW0e⟩ : ∃ W0, ((w.alloc (.cells #[.func (.yield l) #[] #[]] 67)).alloc (.cells #[.string s] 9)) = W0 := ⟨_, rfl⟩
  rw [hW0e] at hW0 b0 b1 hsz hJ0 ⊢
  clear hW0e hcs1
  have hE0 : EV W0 := hE.below hW0 (by omega)
  refine wpIn_rangeFunc_ownH rfl (by omega) (gf := 46) (lb := #[.pointer (some ⟨w.heap.size + 1, 0, none⟩)]) rfl trivial (enters_of Tryd.func46 (by kernel_rfl) rfl)
    (steps1_stops 6 (by omega) (w.heap.size + 1) n₀ s hs W0 h1n (by omega) b1 hE0) kp4_t (kp4_b (by omega)) (Below.refl _ _) (fun _ => rfl)
    (InvA l w.heap.size J) (InvAX J Jx) (invA_own (ownFrom_le hJ (by omega))) (invAX_own (ownFrom_le hJ (by omega)) (ownFrom_le hJx (by omega)))
    ⟨⟨hJ0, fun x hx => by cases hx⟩, b0⟩
    (fun x a' W => ∃ Bx, W.heap[Bx]? = some (.cells #[.int .u8 x.1.kind, S x.1.text, .int .i64 x.1.n, .int .i64 x.1.pos] 56 (0, 0)) ∧
      a' = { tmps := #[.func (.yield l) #[] #[], .pointer (some ⟨Bs, 0, none⟩), .pointer (some ⟨w.heap.size, 0, none⟩), .pointer (some ⟨Bx, 0, none⟩), .int .i64 x.2, .string s, .func (.func 46) #[] #[.pointer (some ⟨w.heap.size + 1, 0, none⟩)], .agg #[.int .u8 x.1.kind, S x.1.text, .int .i64 x.1.n, .int .i64 x.1.pos], .int .i64 x.2, undef, undef, undef, undef, undef, undef, undef, undef], defers := [] })
    ?hAx ?assign ?body ?done ?stop
  case hAx =>
    rintro x a' _ A B row ⟨Bx, h2, h3⟩ hg hr
    refine ⟨Bx, (hg.block Bx (Array.getElem?_eq_some_iff.1 h2).1 (fun e => ?_)).trans h2, h3⟩
    obtain ⟨_, o, ho, hn⟩ := hr _ e.symm
    rw [h2] at ho; cases ho; cases hn
  case assign =>
    rintro l' pre x W K ⟨⟨hj, hf⟩, hbx⟩ hK
    simp only [encs, encT]
    have hltb := hbx.lt
    have hal : Below W.heap.size W (W.alloc (.cells #[.int .u8 x.1.kind, S x.1.text, .int .i64 x.1.n, .int .i64 x.1.pos] 56)) := (Below.refl _ W).alloc (Nat.le_refl _) _
    gi_wp2
    exact hK _ _ ((KeepsOthers.alloc _ _).from _) (kp4_below (by omega) hal) ⟨⟨hJ.alloc _ hj, hf⟩, hbx.alloc _⟩ ⟨W.heap.size, World.alloc_heap_new _ _, rfl⟩
  case body =>
    rintro l' pre x a' W hl' hr ⟨⟨hj, hf⟩, hbx⟩ ⟨Bx, hx, rfl⟩ hlen
    have hc := hbx.cell
    have hx0 : W.cell? ⟨Bx, 0, none⟩ = some (.int .u8 x.1.kind) := by simp [World.cell?, hx]
    have hx1 : W.cell? ⟨Bx, 1, none⟩ = some (S x.1.text) := by simp [World.cell?, hx]
    have hx2 : W.cell? ⟨Bx, 2, none⟩ = some (.int .i64 x.1.n) := by simp [World.cell?, hx]
    have hx3 : W.cell? ⟨Bx, 3, none⟩ = some (.int .i64 x.1.pos) := by simp [World.cell?, hx]
    have HX : Hid _ := hx
    clear hx
    cases he : (x.2 != 0)
    · have he' : x.2 = 0 := by simpa using he
      have He : Hid (x.2 = 0) := he'
      clear he'
      obtain ⟨fn, tmps, assign, body, hy, hR⟩ := hY (7 - 1 - 1 - 1) pre x W hj hlen
      simp only [encT] at hy
      gi_wp2_with fail
      refine (show RoundIn (Fence.wide.inRound l') 4 Tryd.prog l fn tmps assign body W _ from hR).mono ?_
      rintro e W2 (⟨rfl, hJ2, hk4, hkf, hk67⟩ | ⟨rfl, hx2, hk4, hkf, hk67⟩)
      · gi_wp2
        exact ⟨keepsFrom_le hkf (by omega), hk4, ⟨hJ2, fine_snoc hf He.out⟩, hk67 _ _ hbx⟩
      · gi_wp2
        exact ⟨keepsFrom_le hkf (by omega), rfl, .inr ⟨fine_snoc hf He.out, hx2⟩⟩
    · have he' : ¬ x.2 = 0 := by simpa using he
      have He : Hid (¬ x.2 = 0) := he'
      clear he'
      gi_wp2
      refine ⟨fun _ h => (by cases h), ?_⟩
      gi_wp2
      exact ⟨KeepsFrom.refl _ _, rfl, .inl ⟨pre, x, rfl, hf, He.out, hj⟩⟩
  case done =>
    rintro D ys W hD rfl ⟨⟨hj, hf⟩, hbx⟩ hK
    gi_wp2
    refine ⟨by simp, .inl ⟨_, _, rfl, run_takeDeferred hK, ?_⟩⟩
    refine ⟨_, results_none rfl _ _ _, ⟨_, rfl⟩, .inl ?_⟩
    rw [(lexErr_fine hf).2.2.2]
    exact hJ.putObj _ hj (by omega) hK rfl
  case stop =>
    rintro D c pre W hD hSp ⟨rfl, hx⟩ hK
    gi_wp2
    refine ⟨by simp, .inl ⟨_, _, rfl, run_takeDeferred hK, ?_⟩⟩
    refine ⟨_, results_none rfl _ _ _, ⟨_, rfl⟩, ?_⟩
    rcases hx with ⟨q, x, rfl, hf, hx, hj⟩ | ⟨hf, hx⟩
    · refine .inl ?_
      rw [(lexErr_bad hSp hf hx).2.2.2]
      exact hJ.putObj _ hj (by omega) hK rfl
    · exact .inr ⟨pre, ahead_pre hSp hf, hJx.putObj _ hx (by omega) hK rfl⟩
end Go.Proofs.YtfdpbmbafpieoaaDoor
