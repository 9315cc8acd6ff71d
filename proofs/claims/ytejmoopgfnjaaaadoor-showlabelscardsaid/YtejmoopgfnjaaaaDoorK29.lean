/- The chapter's examples, reckoned.; The chapter's examples. -/
import Derived.Test.YtejmoopgfnjaaaaDoorHSShow
/- The chapter's examples, reckoned. -/
namespace Go.Proofs.YtejmoopgfnjaaaaDoor
open Go.RowKit Go.Maps Go.ChangeMaps

def nms : List (List UInt8) := [[97], [98]]
def h1 : List Cl := [⟨1, 0, 6, 8⟩]
def h2 : List Cl := [⟨1, 0, 24, 24⟩, ⟨1, 0, 22, 1⟩]
def h3 : List Cl := [⟨1, 0, 24, 40⟩, ⟨1, 0, 22, 1⟩, ⟨1, 0, 22, 1⟩]
theorem nms_ok : areNamesB nms = true := by decide +kernel
theorem x1 : fH (bareM h1) [8] = h1 := by kernel_rfl
theorem x2 : fH (bareM h2) [8] = h2 := by kernel_rfl
theorem f1 : fromM h1 8 = 8 := by kernel_rfl
theorem f2 : fromM h2 8 = 8 := by kernel_rfl
theorem fit1 : fitsB h1 8 = true := by kernel_rfl
theorem fit2 : fitsB h2 8 = true := by kernel_rfl
theorem fit3 : fitsB h3 8 = true := by kernel_rfl
theorem fit0 : fitsB [] 8 = false := by kernel_rfl
theorem unlike : alikeB h2 8 h3 8 = false := by
  unfold alikeB
  have e : fH (bareM h3) [8] = h3 := by kernel_rfl
  rw [x2, e, Bool.and_eq_false_iff]
  right
  refine decide_eq_false (fun h => ?_)
  have := congrArg List.length h
  simp [h2, h3] at this
theorem m1 : (metW h1 8).any (nameless nms.length) = false ∧ (metW h1 8).length ≤ 3000000 := ⟨by kernel_rfl, by decide +kernel⟩
theorem m2 : (metW h2 8).any (nameless nms.length) = false ∧ (metW h2 8).length ≤ 3000000 := ⟨by kernel_rfl, by decide +kernel⟩
theorem t1 : (tell h1 nms 10 true (cntL (metW h1 8)) 0 8).map (fun r => (r.1, r.2.2)) = some ([35, 48, 61, 40, 97, 32, 46, 32, 35, 48, 35, 41], 1) := by kernel_rfl
theorem t2 : (tell h2 nms 10 true (cntL (metW h2 8)) 0 8).map (fun r => (r.1, r.2.2)) = some ([40, 35, 48, 61, 40, 98, 41, 32, 46, 32, 35, 48, 35, 41], 1) := by kernel_rfl
theorem gd_of {X : List Cl} {N : List (List UInt8)} {x : Int} (h1 : Rng x) (h2 : 1 ≤ ofT x ∧ ofT x ≤ 8) (h3 : (match refN x with | some c => decide (c < X.length) | none => true) = true) (h4 : nameless N.length x = false) : Gd X N x :=
  ⟨h1, h2, fun c hc => by rw [hc] at h3; exact of_decide_eq_true h3, h4⟩
theorem rng_of {x : Int} (h : 0 ≤ x) (h' : x ≤ 1000) : Rng x := by unfold Rng; omega
theorem seen1 : SeenOk h1 nms 8 := by
  have g8 : Gd h1 nms 8 := gd_of (rng_of (by omega) (by omega)) (by decide +kernel) (by kernel_rfl) (by kernel_rfl)
  have g6 : Gd h1 nms 6 := gd_of (rng_of (by omega) (by omega)) (by decide +kernel) (by kernel_rfl) (by kernel_rfl)
  refine ⟨by decide, fun y hy => ?_, g8, fun c y hc _ => ?_, fun c y hc hk => ?_, fun c y hc hk => ?_⟩
  · simp [h1] at hy
    subst hy
    exact .inl rfl
  · match c, hc with
    | 0, hc => cases hc; exact ⟨g6, g8⟩
    | c + 1, hc => simp [h1] at hc
  · match c, hc with
    | 0, hc => cases hc; cases hk
    | c + 1, hc => simp [h1] at hc
  · match c, hc with
    | 0, hc => cases hc; cases hk
    | c + 1, hc => simp [h1] at hc
theorem seen2 : SeenOk h2 nms 8 := by
  have g8 : Gd h2 nms 8 := gd_of (rng_of (by omega) (by omega)) (by decide +kernel) (by kernel_rfl) (by kernel_rfl)
  have g24 : Gd h2 nms 24 := gd_of (rng_of (by omega) (by omega)) (by decide +kernel) (by kernel_rfl) (by kernel_rfl)
  have g22 : Gd h2 nms 22 := gd_of (rng_of (by omega) (by omega)) (by decide +kernel) (by kernel_rfl) (by kernel_rfl)
  have g1 : Gd h2 nms 1 := gd_of (rng_of (by omega) (by omega)) (by decide +kernel) (by kernel_rfl) (by kernel_rfl)
  refine ⟨by decide, fun y hy => ?_, g8, fun c y hc _ => ?_, fun c y hc hk => ?_, fun c y hc hk => ?_⟩
  · simp [h2] at hy
    rcases hy with rfl | rfl
    · exact .inl rfl
    · exact .inl rfl
  · match c, hc with
    | 0, hc => cases hc; exact ⟨g24, g24⟩
    | 1, hc => cases hc; exact ⟨g22, g1⟩
    | c + 2, hc => simp [h2] at hc
  · match c, hc with
    | 0, hc => cases hc; cases hk
    | 1, hc => cases hc; cases hk
    | c + 2, hc => simp [h2] at hc
  · match c, hc with
    | 0, hc => cases hc; cases hk
    | 1, hc => cases hc; cases hk
    | c + 2, hc => simp [h2] at hc
end Go.Proofs.YtejmoopgfnjaaaaDoor

/- The chapter's examples. -/
namespace Go.Proofs.YtejmoopgfnjaaaaDoor
open Go.RowKit Go.Maps Go.ChangeMaps

/-- All that is read. -/
structure Gl (w : World) : Prop where
  tab : Tab w
  ev : EV w
  tb : TB w
theorem Gl.below {w w' : World} (h : Gl w) (hb : Below w.heap.size w w') : Gl w' := ⟨h.tab.below hb, h.ev.below hb (ev_lt h.ev), h.tb.below hb⟩
theorem show1 (ra rn : Option Addr) (ca cn : Nat) (W : World) (hG : Gl W) (hH : HR W ra h1) (hN : TX W rn nms) :
    Calls Tryd.prog 8 #[.slice ra 1 ca, .slice rn 2 cn, .int .u64 8] W fun e w' => e = .returned (.tuple #[S [35, 48, 61, 40, 97, 32, 46, 32, 35, 48, 35, 41], .int .i64 0]) ∧ Below W.heap.size W w' := by
  have ht1 := t1
  cases ht : tell h1 nms 10 true (cntL (metW h1 8)) 0 8 with
  | none => rw [ht] at ht1; cases ht1
  | some r =>
    rw [ht] at ht1
    have hp : (r.1, r.2.2) = (([35, 48, 61, 40, 97, 32, 46, 32, 35, 48, 35, 41] : List UInt8), 1) := Option.some.inj ht1
    have hp1 := congrArg Prod.fst hp
    have hp2 := congrArg Prod.snd hp
    dsimp only at hp1 hp2
    have := show_tells h1 nms 8 ra rn ca cn W (by decide) hH (rng_of (by omega) (by omega)) hG.tab fit1 (by decide) hN hG.ev hG.tb nms_ok (by rw [x1, f1]; exact m1.1) (by rw [x1, f1]; exact seen1) 10 r (by rw [x1, f1]; exact ht) (by rw [hp1]; exact List.cons_ne_nil _ _) (by rw [hp1]; decide) (by rw [hp2]; decide) (by rw [x1, f1]; exact m1.2)
    rw [hp1] at this
    exact this
theorem show2 (ra rn : Option Addr) (ca cn : Nat) (W : World) (hG : Gl W) (hH : HR W ra h2) (hN : TX W rn nms) :
    Calls Tryd.prog 8 #[.slice ra 2 ca, .slice rn 2 cn, .int .u64 8] W fun e w' => e = .returned (.tuple #[S [40, 35, 48, 61, 40, 98, 41, 32, 46, 32, 35, 48, 35, 41], .int .i64 0]) ∧ Below W.heap.size W w' := by
  have ht1 := t2
  cases ht : tell h2 nms 10 true (cntL (metW h2 8)) 0 8 with
  | none => rw [ht] at ht1; cases ht1
  | some r =>
    rw [ht] at ht1
    have hp : (r.1, r.2.2) = (([40, 35, 48, 61, 40, 98, 41, 32, 46, 32, 35, 48, 35, 41] : List UInt8), 1) := Option.some.inj ht1
    have hp1 := congrArg Prod.fst hp
    have hp2 := congrArg Prod.snd hp
    dsimp only at hp1 hp2
    have := show_tells h2 nms 8 ra rn ca cn W (by decide) hH (rng_of (by omega) (by omega)) hG.tab fit2 (by decide) hN hG.ev hG.tb nms_ok (by rw [x2, f2]; exact m2.1) (by rw [x2, f2]; exact seen2) 10 r (by rw [x2, f2]; exact ht) (by rw [hp1]; exact List.cons_ne_nil _ _) (by rw [hp1]; decide) (by rw [hp2]; decide) (by rw [x2, f2]; exact m2.2)
    rw [hp1] at this
    exact this
theorem alike0 (ra rb : Option Addr) (ca cb : Nat) (W : World) (hG : Gl W) (hH : HR W ra h2) (hK : HR W rb h3) :
    Calls Tryd.prog 9 #[.slice ra 2 ca, .int .u64 8, .slice rb 3 cb, .int .u64 8] W fun e w' => e = .returned (.tuple #[.bool false, .int .i64 0]) ∧ Below W.heap.size W w' := by
  refine (alike_any h2 h3 8 8 ra rb ca cb W (by decide) (by decide) hH hK (rng_of (by omega) (by omega)) (rng_of (by omega) (by omega)) hG.tab).mono fun e w' hh => ⟨?_, hh.2⟩
  rcases hh.1 with ⟨h, _⟩ | ⟨_, h⟩
  · rw [fit2, fit3] at h; cases h
  · rw [unlike] at h; exact h
theorem hr1 {W : World} {g : Nat} (h : W.heap[g]? = some (.cells #[.int .u8 1, .int .u8 0, .int .u64 6, .int .u64 8] 39 (0, 0))) : HR W (some ⟨g, 0, none⟩) h1 := by
  refine ⟨g, 0, .inr rfl, fun j x hx => ?_⟩
  match j, hx with
  | 0, hx =>
    cases hx
    exact ⟨heap_lt h, ⟨heap_cell h rfl, heap_cell h rfl, heap_cell h rfl, heap_cell h rfl⟩, ⟨by decide, by decide, rng_of (by decide) (by decide), rng_of (by decide) (by decide)⟩⟩
  | j + 1, hx => simp [h1] at hx
theorem hr2 {W : World} {g : Nat} (h : W.heap[g]? = some (.cells #[.int .u8 1, .int .u8 0, .int .u64 24, .int .u64 24, .int .u8 1, .int .u8 0, .int .u64 22, .int .u64 1] 39 (0, 0))) : HR W (some ⟨g, 0, none⟩) h2 := by
  refine ⟨g, 0, .inr rfl, fun j x hx => ?_⟩
  match j, hx with
  | 0, hx =>
    cases hx
    exact ⟨heap_lt h, ⟨heap_cell h rfl, heap_cell h rfl, heap_cell h rfl, heap_cell h rfl⟩, ⟨by decide, by decide, rng_of (by decide) (by decide), rng_of (by decide) (by decide)⟩⟩
  | 1, hx =>
    cases hx
    exact ⟨heap_lt h, ⟨heap_cell h rfl, heap_cell h rfl, heap_cell h rfl, heap_cell h rfl⟩, ⟨by decide, by decide, rng_of (by decide) (by decide), rng_of (by decide) (by decide)⟩⟩
  | j + 2, hx => simp [h2] at hx
theorem hr3 {W : World} {g : Nat} (h : W.heap[g]? = some (.cells #[.int .u8 1, .int .u8 0, .int .u64 24, .int .u64 40, .int .u8 1, .int .u8 0, .int .u64 22, .int .u64 1, .int .u8 1, .int .u8 0, .int .u64 22, .int .u64 1] 39 (0, 0))) : HR W (some ⟨g, 0, none⟩) h3 := by
  refine ⟨g, 0, .inr rfl, fun j x hx => ?_⟩
  match j, hx with
  | 0, hx =>
    cases hx
    exact ⟨heap_lt h, ⟨heap_cell h rfl, heap_cell h rfl, heap_cell h rfl, heap_cell h rfl⟩, ⟨by decide, by decide, rng_of (by decide) (by decide), rng_of (by decide) (by decide)⟩⟩
  | 1, hx =>
    cases hx
    exact ⟨heap_lt h, ⟨heap_cell h rfl, heap_cell h rfl, heap_cell h rfl, heap_cell h rfl⟩, ⟨by decide, by decide, rng_of (by decide) (by decide), rng_of (by decide) (by decide)⟩⟩
  | 2, hx =>
    cases hx
    exact ⟨heap_lt h, ⟨heap_cell h rfl, heap_cell h rfl, heap_cell h rfl, heap_cell h rfl⟩, ⟨by decide, by decide, rng_of (by decide) (by decide), rng_of (by decide) (by decide)⟩⟩
  | j + 3, hx => simp [h3] at hx
theorem tx0 {W : World} {g : Nat} (h : W.heap[g]? = some (.cells #[S [97], S [98]] 9 (0, 0))) : TX W (some ⟨g, 0, none⟩) nms := by
  refine ⟨g, 0, .inr rfl, fun j x hx => ?_⟩
  match j, hx with
  | 0, hx => cases hx; exact ⟨heap_lt h, heap_cell h rfl, by decide⟩
  | 1, hx => cases hx; exact ⟨heap_lt h, heap_cell h rfl, by decide⟩
  | j + 2, hx => simp [nms] at hx
theorem made_of (t n v : Int) (w : World) (h0 : 0 ≤ t) (h1 : t ≤ 255) (hT : Tab w) (hv : mkW t n = v) (he : mkE t n = 0) : Calls Tryd.prog 14 #[.int .u8 t, .int .i64 n] w fun e w' => e = .returned (.tuple #[.int .u64 v, .int .i64 0]) ∧ w' = w := by
  have := make_any t n w h0 h1 hT
  rw [hv, he] at this
  exact this
theorem rf_of (n v : Int) (w : World) (hT : Tab w) (hv : mkW 8 n = v) : Calls Tryd.prog 15 #[.int .i64 n] w fun e w' => e = .returned (.int .u64 v) ∧ w' = w := by
  have := ref_any n w hT
  rw [hv] at this
  exact this
end Go.Proofs.YtejmoopgfnjaaaaDoor
