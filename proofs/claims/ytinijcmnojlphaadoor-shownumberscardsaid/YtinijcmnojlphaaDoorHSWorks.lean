/- The chapter's examples. -/
import Derived.Test.YtinijcmnojlphaaDoorHSExM
namespace Go.Proofs.YtinijcmnojlphaaDoor
open Go.RowKit Go.Maps Go.ChangeMaps

/-- All that is read. -/
structure Gl (w : World) : Prop where
  tab : Tab w
  ev : EV w
  tb : TB w
theorem Gl.below {w w' : World} (h : Gl w) (hb : Below w.heap.size w w') : Gl w' := ⟨h.tab.below hb, h.ev.below hb (ev_lt h.ev), h.tb.below hb⟩
theorem show1 (ra rn : Option Addr) (ca cn : Nat) (W : World) (hG : Gl W) (hH : HR W ra h1) (hN : TX W rn nms) :
    Calls Tryd.prog 7 #[.slice ra 1 ca, .slice rn 2 cn, .int .u64 8] W fun e w' => e = .returned (.tuple #[S [35, 48, 61, 40, 97, 32, 46, 32, 35, 48, 35, 41], .int .i64 0]) ∧ Below W.heap.size W w' := by
  have ht1 := t1
  cases ht : tell h1 nms 10 true (cntL (metW h1 8)) 0 8 with
  | none => rw [ht] at ht1; cases ht1
  | some r =>
    rw [ht] at ht1
    have hp : (r.1, r.2.2) = (([35, 48, 61, 40, 97, 32, 46, 32, 35, 48, 35, 41] : List UInt8), 1) := Option.some.inj ht1
    have hp1 := congrArg Prod.fst hp
    have hp2 := congrArg Prod.snd hp
    dsimp only at hp1 hp2
    have := show_tells h1 nms 8 ra rn ca cn W (by decide) hH (rng_of (by omega) (by omega)) hG.tab fit1 (by decide) hN hG.ev hG.tb nms_ok (by rw [x1, f1]; exact m1.1) (by rw [x1, f1]; exact seen1) 10 r (by rw [x1, f1]; exact ht) (by rw [hp1]; exact List.cons_ne_nil _ _) (by rw [hp1]; decide) (by rw [hp2]; decide) (by rw [x1, f1]; exact m1.2)
    rw [hp1] at this
    exact this
theorem show2 (ra rn : Option Addr) (ca cn : Nat) (W : World) (hG : Gl W) (hH : HR W ra h2) (hN : TX W rn nms) :
    Calls Tryd.prog 7 #[.slice ra 2 ca, .slice rn 2 cn, .int .u64 8] W fun e w' => e = .returned (.tuple #[S [40, 35, 48, 61, 40, 98, 41, 32, 46, 32, 35, 48, 35, 41], .int .i64 0]) ∧ Below W.heap.size W w' := by
  have ht1 := t2
  cases ht : tell h2 nms 10 true (cntL (metW h2 8)) 0 8 with
  | none => rw [ht] at ht1; cases ht1
  | some r =>
    rw [ht] at ht1
    have hp : (r.1, r.2.2) = (([40, 35, 48, 61, 40, 98, 41, 32, 46, 32, 35, 48, 35, 41] : List UInt8), 1) := Option.some.inj ht1
    have hp1 := congrArg Prod.fst hp
    have hp2 := congrArg Prod.snd hp
    dsimp only at hp1 hp2
    have := show_tells h2 nms 8 ra rn ca cn W (by decide) hH (rng_of (by omega) (by omega)) hG.tab fit2 (by decide) hN hG.ev hG.tb nms_ok (by rw [x2, f2]; exact m2.1) (by rw [x2, f2]; exact seen2) 10 r (by rw [x2, f2]; exact ht) (by rw [hp1]; exact List.cons_ne_nil _ _) (by rw [hp1]; decide) (by rw [hp2]; decide) (by rw [x2, f2]; exact m2.2)
    rw [hp1] at this
    exact this
theorem alike0 (ra rb : Option Addr) (ca cb : Nat) (W : World) (hG : Gl W) (hH : HR W ra h2) (hK : HR W rb h3) :
    Calls Tryd.prog 8 #[.slice ra 2 ca, .int .u64 8, .slice rb 3 cb, .int .u64 8] W fun e w' => e = .returned (.tuple #[.bool false, .int .i64 0]) ∧ Below W.heap.size W w' := by
  refine (alike_any h2 h3 8 8 ra rb ca cb W (by decide) (by decide) hH hK (rng_of (by omega) (by omega)) (rng_of (by omega) (by omega)) hG.tab).mono fun e w' hh => ⟨?_, hh.2⟩
  rcases hh.1 with ⟨h, _⟩ | ⟨_, h⟩
  · rw [fit2, fit3] at h; cases h
  · rw [unlike] at h; exact h
theorem hr1 {W : World} {g : Nat} (h : W.heap[g]? = some (.cells #[.int .u8 1, .int .u8 0, .int .u64 6, .int .u64 8] 36 (0, 0))) : HR W (some ⟨g, 0, none⟩) h1 := by
  refine ⟨g, 0, .inr rfl, fun j x hx => ?_⟩
  match j, hx with
  | 0, hx =>
    cases hx
    exact ⟨heap_lt h, ⟨heap_cell h rfl, heap_cell h rfl, heap_cell h rfl, heap_cell h rfl⟩, ⟨by decide, by decide, rng_of (by decide) (by decide), rng_of (by decide) (by decide)⟩⟩
  | j + 1, hx => simp [h1] at hx
theorem hr2 {W : World} {g : Nat} (h : W.heap[g]? = some (.cells #[.int .u8 1, .int .u8 0, .int .u64 24, .int .u64 24, .int .u8 1, .int .u8 0, .int .u64 22, .int .u64 1] 36 (0, 0))) : HR W (some ⟨g, 0, none⟩) h2 := by
  refine ⟨g, 0, .inr rfl, fun j x hx => ?_⟩
  match j, hx with
  | 0, hx =>
    cases hx
    exact ⟨heap_lt h, ⟨heap_cell h rfl, heap_cell h rfl, heap_cell h rfl, heap_cell h rfl⟩, ⟨by decide, by decide, rng_of (by decide) (by decide), rng_of (by decide) (by decide)⟩⟩
  | 1, hx =>
    cases hx
    exact ⟨heap_lt h, ⟨heap_cell h rfl, heap_cell h rfl, heap_cell h rfl, heap_cell h rfl⟩, ⟨by decide, by decide, rng_of (by decide) (by decide), rng_of (by decide) (by decide)⟩⟩
  | j + 2, hx => simp [h2] at hx
theorem hr3 {W : World} {g : Nat} (h : W.heap[g]? = some (.cells #[.int .u8 1, .int .u8 0, .int .u64 24, .int .u64 40, .int .u8 1, .int .u8 0, .int .u64 22, .int .u64 1, .int .u8 1, .int .u8 0, .int .u64 22, .int .u64 1] 36 (0, 0))) : HR W (some ⟨g, 0, none⟩) h3 := by
  refine ⟨g, 0, .inr rfl, fun j x hx => ?_⟩
  match j, hx with
  | 0, hx =>
    cases hx
    exact ⟨heap_lt h, ⟨heap_cell h rfl, heap_cell h rfl, heap_cell h rfl, heap_cell h rfl⟩, ⟨by decide, by decide, rng_of (by decide) (by decide), rng_of (by decide) (by decide)⟩⟩
  | 1, hx =>
    cases hx
    exact ⟨heap_lt h, ⟨heap_cell h rfl, heap_cell h rfl, heap_cell h rfl, heap_cell h rfl⟩, ⟨by decide, by decide, rng_of (by decide) (by decide), rng_of (by decide) (by decide)⟩⟩
  | 2, hx =>
    cases hx
    exact ⟨heap_lt h, ⟨heap_cell h rfl, heap_cell h rfl, heap_cell h rfl, heap_cell h rfl⟩, ⟨by decide, by decide, rng_of (by decide) (by decide), rng_of (by decide) (by decide)⟩⟩
  | j + 3, hx => simp [h3] at hx
theorem tx0 {W : World} {g : Nat} (h : W.heap[g]? = some (.cells #[S [97], S [98]] 9 (0, 0))) : TX W (some ⟨g, 0, none⟩) nms := by
  refine ⟨g, 0, .inr rfl, fun j x hx => ?_⟩
  match j, hx with
  | 0, hx => cases hx; exact ⟨heap_lt h, heap_cell h rfl, by decide⟩
  | 1, hx => cases hx; exact ⟨heap_lt h, heap_cell h rfl, by decide⟩
  | j + 2, hx => simp [nms] at hx
theorem made_of (t n v : Int) (w : World) (h0 : 0 ≤ t) (h1 : t ≤ 255) (hT : Tab w) (hv : mkW t n = v) (he : mkE t n = 0) : Calls Tryd.prog 5 #[.int .u8 t, .int .i64 n] w fun e w' => e = .returned (.tuple #[.int .u64 v, .int .i64 0]) ∧ w' = w := by
  have := make_any t n w h0 h1 hT
  rw [hv, he] at this
  exact this
theorem rf_of (n v : Int) (w : World) (hT : Tab w) (hv : mkW 8 n = v) : Calls Tryd.prog 6 #[.int .i64 n] w fun e w' => e = .returned (.int .u64 v) ∧ w' = w := by
  have := ref_any n w hT
  rw [hv] at this
  exact this
end Go.Proofs.YtinijcmnojlphaaDoor
