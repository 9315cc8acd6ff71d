/- The document's words.; The document's on, Birth.; (cut); (cut: the words' own sizes); A range over a function, its rounds met one by one.; How a view lies in memory.; Where a holder stands among a view's. -/
import Derived.Test.YtomdbcddokaagaaDoorGB
import Derived.RangeFuncNested
import Derived.RangeFuncBound
import Derived.RangeFuncCalls
import Derived.RangeFuncLeaves
import Derived.RangeFuncBox
import Derived.Shelf.Abstract
import Derived.Shelf.RegionOpen
import Derived.OwnWalkIn
import Derived.TacticsInMore
import Derived.LoopNIn
import Derived.LoopIn
/- The document's words. -/
namespace Go.Proofs.YtomdbcddokaagaaDoor
open Go.RowKit

theorem mayB_of (t n : Int) (b : Bool) (h : (lo t ≤ n ∧ n ≤ hi t) ↔ b = true) : b = mayB t n := by
  unfold mayB; rw [Bool.eq_iff_iff]; simp only [decide_eq_true_eq]; exact h.symm
set_option maxHeartbeats 1000000 in
theorem may_any (t n : Int) (w : World) (h0 : 0 ≤ t) (h1 : t ≤ 255) :
    Calls Tryd.prog 87 #[.int .u8 t, .int .i64 n] w fun e w' => e = .returned (.bool (isTagB t && mayB t n)) ∧ w' = w := by
  by_cases ht : 1 ≤ t ∧ t ≤ 8
  · obtain ⟨ha, hb⟩ := ht
    have hd : t = 1 ∨ t = 2 ∨ t = 3 ∨ t = 4 ∨ t = 5 ∨ t = 6 ∨ t = 7 ∨ t = 8 := by omega
    rcases hd with rfl | rfl | rfl | rfl | rfl | rfl | rfl | rfl
    all_goals
      go_enter Tryd.func87, Tryd.ntmps87
      go_wp2
      all_goals go_ret
      all_goals exact ⟨ret_bool (by rw [show isTagB _ = true from rfl, Bool.true_and]; refine mayB_of _ _ _ ?_; simp [lo, hi]; omega), rfl⟩
  · have hf : isTagB t = false := by unfold isTagB; simpa using ht
    have e1 : (t == 1) = false := beq_eq_false_iff_ne.2 (by omega)
    have e2 : (t == 2) = false := beq_eq_false_iff_ne.2 (by omega)
    have e3 : (t == 3) = false := beq_eq_false_iff_ne.2 (by omega)
    have e4 : (t == 4) = false := beq_eq_false_iff_ne.2 (by omega)
    have e5 : (t == 5) = false := beq_eq_false_iff_ne.2 (by omega)
    have e6 : (t == 6) = false := beq_eq_false_iff_ne.2 (by omega)
    have e7 : (t == 7) = false := beq_eq_false_iff_ne.2 (by omega)
    have e8 : (t == 8) = false := beq_eq_false_iff_ne.2 (by omega)
    clear ht
    go_enter Tryd.func87, Tryd.ntmps87
    go_wp2
    go_ret
    exact ⟨ret_bool (by rw [hf]; rfl), rfl⟩
theorem ret_ib {a b : Int} {p q : Bool} (h : a = b) (hb : p = q) : Ending.returned (.tuple #[.int .i64 a, .bool p]) = .returned (.tuple #[.int .i64 b, .bool q]) := by rw [h, hb]
theorem ret_w {a b : Int} (h : a = b) : Ending.returned (.int .u64 a) = .returned (.int .u64 b) := by rw [h]
set_option maxHeartbeats 400000 in
theorem refMake_any (t n : Int) (w : World) (h0 : 0 ≤ t) (h1 : t ≤ 255) :
    Calls Tryd.prog 64 #[.int .u8 t, .int .i64 n] w fun e w' => e = .returned (.tuple #[.int .u64 (mkW t n), .int .i64 (mkE t n)]) ∧ w' = w := by
  cases h : isTagB t
  · have hn : t < 1 ∨ 8 < t := by have : ¬ (1 ≤ t ∧ t ≤ 8) := fun g => by rw [isTag_iff.2 g] at h; cases h
                                  omega
    rcases hn with hn | hn
    · go_enter Tryd.func64, Tryd.ntmps64
      go_wp2_with fail
      go_ret2
      exact ⟨ret_we (by simp [mkW, h]) (by simp [mkE, h]), rfl⟩
    · have hn' : ¬ t < 1 := by omega
      go_enter Tryd.func64, Tryd.ntmps64
      go_wp2_with fail
      go_ret2
      exact ⟨ret_we (by simp [mkW, h]) (by simp [mkE, h]), rfl⟩
  · obtain ⟨h1', h8⟩ := isTag_iff.1 h
    cases hm : mayB t n
    · go_enter Tryd.func64, Tryd.ntmps64
      go_wp2_with (first | (go_at_call 87; refine (may_any _ _ _ (by omega) (by omega)).mono ?_; rintro e w' ⟨rfl, rfl⟩))
      go_ret2
      exact ⟨ret_we (by simp [mkW, h, hm]) (by simp [mkE, h, hm]), rfl⟩
    · go_enter Tryd.func64, Tryd.ntmps64
      go_wp2_with (first | (go_at_call 87; refine (may_any _ _ _ (by omega) (by omega)).mono ?_; rintro e w' ⟨rfl, rfl⟩))
      go_ret2
      exact ⟨ret_we (by simp only [mkW, h, hm, if_true, mk, IntKind.wrap_u64]; omega) (by simp [mkE, h, hm]), rfl⟩
set_option maxHeartbeats 400000 in
theorem refOf_any (x : Int) (w : World) (hx : Rng x) :
    Calls Tryd.prog 94 #[.int .u64 x] w fun e w' => e = .returned (.tuple #[.int .u8 (ofT x), .int .i64 (ofN x), .bool (wd x)]) ∧ w' = w := by
  have hna := nm_alt x hx
  obtain ⟨hx0, hx1⟩ := hx
  have hb := tg_bd x
  have e0 : ∀ n, nm x = n → (isTagB (x % 16) && mayB (x % 16) n) = wd x := by
    intro n hn; unfold wd tg; rw [hn]
  have He : Hid _ := e0
  clear e0
  by_cases hg : x / 16 ≤ 576460752303423487
  all_goals
    (first | rw [if_pos hg] at hna | rw [if_neg hg] at hna)
    have Hna : Hid _ := hna
    clear hna
    cases hw : wd x
    all_goals
      go_enter Tryd.func94, Tryd.ntmps94
      go_wp2_with fail
      refine (may_any _ _ _ (by omega) (by omega)).mono ?_
      rintro e w' ⟨rfl, rfl⟩
      rw [He.out _ Hna.out, hw]
      go_wp2_with fail
      go_ret3
      exact ⟨ret_of (by simp [ofT, tg, hw]) (by simp [ofN, hw, Hna.out]) rfl, rfl⟩
def isRefB (x : Int) : Bool := wd x && (tg x == 8)
def cellN (x : Int) : Int := if isRefB x = true then nm x else 0
set_option maxHeartbeats 400000 in
theorem refRef_any (n : Int) (w : World) :
    Calls Tryd.prog 16 #[.int .i64 n] w fun e w' => e = .returned (.int .u64 (mkW 8 n)) ∧ w' = w := by
  go_enter Tryd.func16, Tryd.ntmps16
  go_wp2_with (first | (go_at_call 64; refine (refMake_any _ _ _ (by omega) (by omega)).mono ?_; rintro e w' ⟨rfl, rfl⟩))
  go_ret
  exact ⟨rfl, rfl⟩
set_option maxHeartbeats 400000 in
theorem refCell_any (x : Int) (w : World) (hx : Rng x) :
    Calls Tryd.prog 72 #[.int .u64 x] w fun e w' => e = .returned (.tuple #[.int .i64 (cellN x), .bool (isRefB x)]) ∧ w' = w := by
  have Hx : Hid (Rng x) := hx
  clear hx
  cases hw : wd x
  · have Hw : Hid _ := hw
    clear hw
    go_enter Tryd.func72, Tryd.ntmps72
    go_wp2_with fail
    refine (refOf_any _ _ Hx.out).mono ?_
    rintro e w' ⟨rfl, rfl⟩
    rw [Hw.out]
    go_wp2_with fail
    go_ret2
    exact ⟨ret_ib (by simp [cellN, isRefB, Hw.out]) (by simp [isRefB, Hw.out]), rfl⟩
  · have Hw : Hid _ := hw
    have eT : Hid (ofT x = tg x) := by show ofT x = tg x; simp [ofT, hw]
    have eN : Hid (ofN x = nm x) := by show ofN x = nm x; simp [ofN, hw]
    clear hw
    cases h8 : (tg x == 8)
    · have h8' : (tg x != 8) = true := by simp [bne, h8]
      go_enter Tryd.func72, Tryd.ntmps72
      go_wp2_with fail
      refine (refOf_any _ _ Hx.out).mono ?_
      rintro e w' ⟨rfl, rfl⟩
      rw [Hw.out, eT.out, eN.out]
      go_wp2_with fail
      go_ret2
      exact ⟨ret_ib (by simp [cellN, isRefB, h8]) (by simp [isRefB, h8]), rfl⟩
    · have h8' : (tg x != 8) = false := by simp [bne, h8]
      have H8 : Hid _ := h8
      clear h8
      go_enter Tryd.func72, Tryd.ntmps72
      go_wp2_with fail
      refine (refOf_any _ _ Hx.out).mono ?_
      rintro e w' ⟨rfl, rfl⟩
      rw [Hw.out, eT.out, eN.out]
      go_wp2_with fail
      go_ret2
      exact ⟨ret_ib (by simp [cellN, isRefB, H8.out, Hw.out]) (by simp [isRefB, H8.out, Hw.out]), rfl⟩
set_option maxHeartbeats 400000 in
theorem refInt_any (n : Int) (w : World) :
    Calls Tryd.prog 18 #[.int .i64 n] w fun e w' => e = .returned (.int .u64 (mkW 5 n)) ∧ w' = w := by
  go_enter Tryd.func18, Tryd.ntmps18
  go_wp2_with (first | (go_at_call 64; refine (refMake_any _ _ _ (by omega) (by omega)).mono ?_; rintro e w' ⟨rfl, rfl⟩))
  go_ret
  exact ⟨rfl, rfl⟩
theorem isRef_is (x : Int) : isRefB x = refB x := by
  unfold isRefB refB ofT
  cases wd x
  · rfl
  · simp
theorem cellN_is (x : Int) : cellN x = cellV x := by
  unfold cellN cellV
  rw [isRef_is]
  cases h : refB x
  · rw [if_neg (by decide), if_neg (by simpa [refB] using h)]
  · have h8 : ofT x = 8 := by simpa [refB] using h
    have hw : wd x = true := by
      cases hw : wd x
      · unfold ofT at h8; rw [hw] at h8; simp at h8
      · rfl
    rw [if_pos rfl, if_pos h8]
    unfold ofN; rw [if_pos hw]
end Go.Proofs.YtomdbcddokaagaaDoor

/- The document's on, Birth. -/
namespace Go.Proofs.YtomdbcddokaagaaDoor
open Go.RowKit

set_option maxRecDepth 100000 in
set_option maxHeartbeats 4000000 in
theorem refOn_any (p : Int) (w : World) : Calls Tryd.prog 71 #[.int .u8 p] w fun e w' => e = .returned (.bool (onB p)) ∧ w' = w := by
  unfold onB
  by_cases h1 : p = 1
  · subst h1
    go_enter Tryd.func71, Tryd.ntmps71
    go_wp2
    go_ret
    exact ⟨rfl, rfl⟩
  · by_cases h2 : p = 2
    · subst h2
      go_enter Tryd.func71, Tryd.ntmps71
      go_wp2
      go_ret
      exact ⟨rfl, rfl⟩
    · have z1 : (p == 1) = false := by simpa using h1
      have z2 : (p == 2) = false := by simpa using h2
      have HE : Hid ((decide (p = 1) || decide (p = 2)) = false) := by show _ = _; simp [h1, h2]
      rw [HE.out]
      clear h1 h2 HE
      go_enter Tryd.func71, Tryd.ntmps71
      go_wp2
      go_ret
      exact ⟨rfl, rfl⟩
end Go.Proofs.YtomdbcddokaagaaDoor

/- (cut) -/

/- (cut: the words' own sizes) -/
namespace Go.Proofs.YtomdbcddokaagaaDoor
theorem infoWd : (Tryd.prog.info? 57).map (fun i => (i.zero, i.size, i.bytes)) = some (some (.int .u64 0), 1, 8) := by kernel_rfl
end Go.Proofs.YtomdbcddokaagaaDoor

/- A range over a function, its rounds met one by one. -/
namespace Go.Proofs.YtomdbcddokaagaaDoor
open Go.RowKit Go.Shelf

/-- How a round may end: it goes on, or it returns. -/
def Ends (l : Nat) (r : Loop) (R : Ending → World → Prop) : Exit → Act → World → Prop
  | .normal, _, W => W.heap[l]? = some (.loop { r with state := .busy }) ∧ R (.returned (.bool true)) (W.putObj l (.loop { r with state := .ready, pending := none }))
  | .ret, _, W => W.heap[l]? = some (.loop { r with state := .busy }) ∧ R (.returned (.bool false)) (W.putObj l (.loop { r with state := .done, pending := some .ret }))
  | _, _, _ => False
theorem yield_round {F : Fence} {P : Program} {m l : Nat} {r : Loop} {args : Array Value} {W : World} {R : Ending → World → Prop} (hl : W.heap[l]? = some (.loop r)) (hr : r.state = .ready) (hs : args.size = r.params.size) (hF : F.fn r.fn)
    (h : ∀ K : Act → World → Prop, (∀ a₁ w₁, w₁.heap[l]? = some (.loop r) → r.body.wpIn (F.inRound l) m P (Ends l r R) a₁ (w₁.putObj l (.loop { r with state := .busy })) → K a₁ w₁) →
      r.assign.wpIn (F.inRound l) m P (Exit.then K (fun _ _ _ => False)) { tmps := (r.params.zip args).foldl (fun t (p, v) => t.setIfInBounds p v) r.tmps, defers := [] } W) : YieldAt F m P l args W R := by
  refine ⟨_, _, _, _, run_yield hl hs, roundIn_of_wpIn hF (h _ (fun a₁ w₁ hl₁ hb => ⟨_, run_beginRound hl₁ hr, wpIn_mono hb ?_⟩))⟩
  rintro e a3 W3 he
  cases e with
  | normal => exact ⟨_, _, run_endRound none he.1, he.2⟩
  | ret => exact ⟨_, _, run_endRound (some .ret) he.1, he.2⟩
  | exit id => exact he.elim
  | goto t => exact he.elim
  | panic ch => exact he.elim
  | outgrown => exact he.elim
/-- The loop's record, and the world in which the rounds begin. -/
def recL (w : World) (fn : FuncId) (tmps : Array Value) (ps : Array Tmp) (assign body : Code) : Loop := { state := .ready, pending := none, fn := fn, tmps := tmps, params := ps, assign := assign, body := body, defers := w.heap.size }
def entW (w : World) (r : Loop) : World := (w.alloc (.deferred (some []))).alloc (.loop r)
theorem range_at {F : Fence} {n : Nat} {P : Program} {g : Operand} {ps : Array Tmp} {assign body : Code} {Q : Exit → Act → World → Prop} {a : Act} {w : World} (hro : F.round = none) (h1 : 1 ≤ n) {gf : Nat} {lb : Array Value} (hg : a.eval g = .func (.func gf) #[] lb) (hFg : F.fn gf) (eg : ∀ args w, (callFunc gf args).run P w = .ok (.enter gf args) w)
    (h : ∀ fn, F.fn fn → CallsIn F (n - 1) P gf (#[.func (.yield (w.heap.size + 1)) #[] #[]] ++ lb) (entW w (recL w fn a.tmps ps assign body)) fun e W => (∃ v, e = .returned v) ∧
      ((∃ r, W.heap[w.heap.size + 1]? = some (.loop r) ∧ r.state = .ready ∧ r.pending = none ∧ Q .normal { a with defers := { target := .collected w.heap.size, args := #[] } :: a.defers } (W.putObj (w.heap.size + 1) (.loop { r with state := .exhausted }))) ∨
       (∃ r, W.heap[w.heap.size + 1]? = some (.loop r) ∧ r.state = .done ∧ r.pending = some .ret ∧ Code.ret.wpIn F n P Q { a with defers := { target := .collected w.heap.size, args := #[] } :: a.defers } (W.putObj (w.heap.size + 1) (.loop { r with state := .exhausted }))))) :
    (Code.rangeFunc g ps assign body).wpIn F n P Q a w := by
  refine wpIn_rangeFunc fun fn hfn => ?_
  rw [hro]
  have h0 := h fn hfn
  generalize hr : recL w fn a.tmps ps assign body = r0 at h0
  have e1 : (Instr.enterLoop fn a.tmps ps assign body none).run P w = .ok (w.heap.size + 1, [{ target := .collected w.heap.size, args := #[] }]) (entW w r0) := by
    subst hr
    exact run_enterLoop_outer fn a.tmps ps assign body
  generalize entW w r0 = W0 at h0 e1
  have e2 : (resolve a.eval (rangeCall g (w.heap.size + 1)) 0).run P W0 = .ok { target := .fn (.func gf) lb, args := #[.func (.yield (w.heap.size + 1)) #[] #[]] } W0 := by
    simp only [resolve, hg]
    simp [go_sem]
  have e3 : (invoke (.fn (.func gf) lb) #[.func (.yield (w.heap.size + 1)) #[] #[]]).run P W0 = .ok (.enter gf (#[.func (.yield (w.heap.size + 1)) #[] #[]] ++ lb)) W0 := by
    simp [invoke, go_sem, eg]
  have e4 : ∀ f', Target.leads P W0 (.fn (.func gf) lb) #[.func (.yield (w.heap.size + 1)) #[] #[]] = some f' → F.fn f' := by
    intro f' hf'
    simp [Target.leads] at hf'
    subst hf'
    exact hFg
  refine ⟨_, _, _, _, _, _, _, _, e1, e2, e4, e3, fun _ => h1, h0.mono ?_⟩
  rintro e W ⟨⟨v, rfl⟩, hh⟩
  rcases hh with ⟨r, hl, hs, hp, hq⟩ | ⟨r, hl, hs, hp, hq⟩
  · exact ⟨none, _, (run_endLoop hl (by rw [hs]; decide)).trans (by rw [hp]), hq⟩
  · exact ⟨some .ret, _, (run_endLoop hl (by rw [hs]; decide)).trans (by rw [hp]), hq⟩
end Go.Proofs.YtomdbcddokaagaaDoor

/- How a view lies in memory. -/
namespace Go.Proofs.YtomdbcddokaagaaDoor
open Go.RowKit

/-- A row of lanes that is read. -/
def LR (w : World) (ra : Option Addr) (l : List Ln) : Prop := ∃ b o, (l.length = 0 ∨ ra = some ⟨b, o, none⟩) ∧ ∀ (j : Nat) (x : Ln), l[j]? = some x → b < w.heap.size ∧ (∃ rr cc, w.cell? ⟨b, o + j * 3, none⟩ = some (.slice rr x.roots.length cc) ∧ WR w rr x.roots ∧ x.roots.length ≤ 281474976710656) ∧ w.cell? ⟨b, o + j * 3 + 1, none⟩ = some (.bool x.sc) ∧ w.cell? ⟨b, o + j * 3 + 1 + 1, none⟩ = some (.bool x.en)
theorem LR.below {w w' : World} {ra : Option Addr} {l : List Ln} (h : LR w ra l) (hb : Below w.heap.size w w') : LR w' ra l := by
  obtain ⟨b, o, h1, h2⟩ := h
  refine ⟨b, o, h1, fun j x hx => ?_⟩
  obtain ⟨g, ⟨rr, cc, a0, a1, a2⟩, a3, a4⟩ := h2 j x hx
  have e := fun q => hb.cell (p := ⟨b, q, none⟩) g
  exact ⟨Nat.lt_of_lt_of_le g hb.size, ⟨rr, cc, (e _).trans a0, a1.below hb, a2⟩, (e _).trans a3, (e _).trans a4⟩
/-- Where a view's rows lie. -/
structure Vp where
  cr : Option Addr
  cc : Nat
  yr : Option Addr
  yc : Nat
  gr : Option Addr
  gc : Nat
  lr : Option Addr
  lc : Nat
def Vp.cells (p : Vp) (v : Vw) : Array Value := #[.slice p.cr v.h.length p.cc, .int .u8 v.ph, .int .i64 v.sw, .slice p.yr v.grey.length p.yc, .slice p.gr v.gl.length p.gc, .int .i64 v.laid, .slice p.lr v.lanes.length p.lc]
structure VL (w : World) (p : Vp) (v : Vw) : Prop where
  h : HR w p.cr v.h
  hl : v.h.length ≤ 281474976710656
  y : RX (Value.int .i64) w p.yr v.grey
  yl : v.grey.length ≤ 281474976710656
  g : WR w p.gr v.gl
  gl : v.gl.length ≤ 281474976710656
  l : LR w p.lr v.lanes
  ll : v.lanes.length ≤ 281474976710656
/-- A view in a block of its own. -/
def VB (w : World) (b : Nat) (p : Vp) (v : Vw) : Prop := w.heap[b]? = some (.cells (p.cells v) 28 (0, 0))
theorem VB.at {w : World} {b : Nat} {p : Vp} {v : Vw} (h : VB w b p v) : w.cell? ⟨b, 0, none⟩ = some (.slice p.cr v.h.length p.cc) ∧ w.cell? ⟨b, 4, none⟩ = some (.slice p.gr v.gl.length p.gc) ∧ w.cell? ⟨b, 6, none⟩ = some (.slice p.lr v.lanes.length p.lc) := by
  unfold VB Vp.cells at h
  simp [World.cell?, h]
end Go.Proofs.YtomdbcddokaagaaDoor

/- Where a holder stands among a view's. -/
namespace Go.Proofs.YtomdbcddokaagaaDoor
open Go.RowKit

theorem cellsH_app : ∀ (a b : List Cl) (i : Nat), cellsH (a ++ b) i = cellsH a i ++ cellsH b (i + a.length)
  | [], b, i => by simp [cellsH]
  | x :: a, b, i => by
    have := cellsH_app a b (i + 1)
    rw [List.length_cons, show i + (a.length + 1) = i + 1 + a.length by omega]
    generalize cellsH b (i + 1 + a.length) = q at this
    show (if x.k = 0 then cellsH (a ++ b) (i + 1) else ⟨0, i, [x.a, x.b]⟩ :: cellsH (a ++ b) (i + 1)) = (if x.k = 0 then cellsH a (i + 1) else ⟨0, i, [x.a, x.b]⟩ :: cellsH a (i + 1)) ++ q
    rw [this]
    split
    · rfl
    · rfl
theorem globsH_app : ∀ (a b : List Int) (i : Nat), globsH (a ++ b) i = globsH a i ++ globsH b (i + a.length)
  | [], b, i => by simp [globsH]
  | x :: a, b, i => by
    have := globsH_app a b (i + 1)
    rw [List.length_cons, show i + (a.length + 1) = i + 1 + a.length by omega]
    show ⟨1, i, [x]⟩ :: globsH (a ++ b) (i + 1) = ⟨1, i, [x]⟩ :: (globsH a (i + 1) ++ globsH b (i + 1 + a.length))
    rw [this]
theorem lanesH_app : ∀ (a b : List Ln) (i : Nat), lanesH (a ++ b) i = lanesH a i ++ lanesH b (i + a.length)
  | [], b, i => by simp [lanesH]
  | x :: a, b, i => by
    have := lanesH_app a b (i + 1)
    rw [List.length_cons, show i + (a.length + 1) = i + 1 + a.length by omega]
    show ⟨2, i, x.roots⟩ :: lanesH (a ++ b) (i + 1) = ⟨2, i, x.roots⟩ :: (lanesH a (i + 1) ++ lanesH b (i + 1 + a.length))
    rw [this]
theorem get_mid {α : Type} {l pre rest : List α} {x : α} (h : l = pre ++ x :: rest) : l[pre.length]? = some x := by
  subst h
  simp
/-- How many holders stand ahead of a cell, a global, a lane. -/
def nC (v : Vw) (j : Nat) : Nat := (cellsH (v.h.take j) 0).length
def nG (v : Vw) (j : Nat) : Nat := (cellsH v.h 0).length + (globsH (v.gl.take j) 0).length
def nL (v : Vw) (j : Nat) : Nat := (cellsH v.h 0).length + ((globsH v.gl 0).length + (lanesH (v.lanes.take j) 0).length)
theorem nC_free {v : Vw} {j : Nat} {x : Cl} (h : v.h[j]? = some x) (hk : x.k = 0) : nC v (j + 1) = nC v j := by
  unfold nC
  rw [cellsH_take _ _ _ _ h, if_pos hk, List.append_nil]
theorem nC_used {v : Vw} {j : Nat} {x : Cl} (h : v.h[j]? = some x) (hk : ¬ x.k = 0) : nC v (j + 1) = nC v j + 1 := by
  unfold nC
  rw [cellsH_take _ _ _ _ h, if_neg hk, List.length_append]
  rfl
theorem at_cell {v : Vw} {j : Nat} {x : Cl} (h : v.h[j]? = some x) (hk : ¬ x.k = 0) : (holdersM v)[nC v j]? = some ⟨0, j, [x.a, x.b]⟩ := by
  refine get_mid (rest := cellsH (v.h.drop (j + 1)) (0 + (v.h.take (j + 1)).length) ++ (globsH v.gl 0 ++ lanesH v.lanes 0)) ?_
  unfold holdersM
  have e : cellsH v.h 0 = cellsH (v.h.take (j + 1)) 0 ++ cellsH (v.h.drop (j + 1)) (0 + (v.h.take (j + 1)).length) := by rw [← cellsH_app, List.take_append_drop]
  rw [e, cellsH_take _ _ _ _ h, if_neg hk, Nat.zero_add]
  simp
theorem nG_zero (v : Vw) : nG v 0 = nC v v.h.length := by simp [nG, nC, globsH]
theorem nG_more {v : Vw} {j : Nat} {x : Int} (h : v.gl[j]? = some x) : nG v (j + 1) = nG v j + 1 := by
  unfold nG
  rw [globsH_take _ _ _ _ h, List.length_append]
  rfl
theorem at_glob {v : Vw} {j : Nat} {x : Int} (h : v.gl[j]? = some x) : (holdersM v)[nG v j]? = some ⟨1, j, [x]⟩ := by
  unfold nG
  rw [← List.length_append]
  refine get_mid (rest := globsH (v.gl.drop (j + 1)) (0 + (v.gl.take (j + 1)).length) ++ lanesH v.lanes 0) ?_
  unfold holdersM
  have e : globsH v.gl 0 = globsH (v.gl.take (j + 1)) 0 ++ globsH (v.gl.drop (j + 1)) (0 + (v.gl.take (j + 1)).length) := by rw [← globsH_app, List.take_append_drop]
  rw [e, globsH_take _ _ _ _ h, Nat.zero_add]
  simp
theorem nL_zero (v : Vw) : nL v 0 = nG v v.gl.length := by simp [nL, nG, lanesH]
theorem nL_more {v : Vw} {j : Nat} {x : Ln} (h : v.lanes[j]? = some x) : nL v (j + 1) = nL v j + 1 := by
  unfold nL
  rw [lanesH_take _ _ _ _ h, List.length_append]
  rfl
theorem nL_all (v : Vw) : nL v v.lanes.length = (holdersM v).length := by simp [nL, holdersM]
theorem at_lane {v : Vw} {j : Nat} {x : Ln} (h : v.lanes[j]? = some x) : (holdersM v)[nL v j]? = some ⟨2, j, x.roots⟩ := by
  unfold nL
  rw [← List.length_append, ← List.length_append]
  refine get_mid (rest := lanesH (v.lanes.drop (j + 1)) (0 + (v.lanes.take (j + 1)).length)) ?_
  unfold holdersM
  have e : lanesH v.lanes 0 = lanesH (v.lanes.take (j + 1)) 0 ++ lanesH (v.lanes.drop (j + 1)) (0 + (v.lanes.take (j + 1)).length) := by rw [← lanesH_app, List.take_append_drop]
  rw [e, lanesH_take _ _ _ _ h, Nat.zero_add]
  simp
/-- A new row of one word, of two. -/
theorem wrn_two (w : World) (a b : Int) (t : TypeId) (ha : Rng a) (hb : Rng b) : WR (w.alloc (.cells #[.int .u64 a, .int .u64 b] t)) (some ⟨w.heap.size, 0, none⟩) [a, b] := by
  refine ⟨w.heap.size, 0, .inr rfl, fun j x hx => ?_⟩
  have hs : w.heap.size < (w.alloc (.cells #[.int .u64 a, .int .u64 b] t)).heap.size := by rw [World.size_alloc]; omega
  match j, hx with
  | 0, hx =>
    have : a = x := by simpa using hx
    subst this
    exact ⟨hs, by unfold World.cell?; simp only [World.alloc_heap_new]; rfl, ha⟩
  | 1, hx =>
    have : b = x := by simpa using hx
    subst this
    exact ⟨hs, by unfold World.cell?; simp only [World.alloc_heap_new]; rfl, hb⟩
  | j + 2, hx => simp at hx
theorem wrn_one (w : World) (a : Int) (t : TypeId) (ha : Rng a) : WR (w.alloc (.cells #[.int .u64 a] t)) (some ⟨w.heap.size, 0, none⟩) [a] := by
  refine ⟨w.heap.size, 0, .inr rfl, fun j x hx => ?_⟩
  have hs : w.heap.size < (w.alloc (.cells #[.int .u64 a] t)).heap.size := by rw [World.size_alloc]; omega
  match j, hx with
  | 0, hx =>
    have : a = x := by simpa using hx
    subst this
    exact ⟨hs, by unfold World.cell?; simp only [World.alloc_heap_new]; rfl, ha⟩
  | j + 1, hx => simp at hx
end Go.Proofs.YtomdbcddokaagaaDoor
