/- The chapter's examples, reckoned. -/
import Derived.Test.YtinijcmnojlphaaDoorHSShow
namespace Go.Proofs.YtinijcmnojlphaaDoor
open Go.RowKit Go.Maps Go.ChangeMaps

def nms : List (List UInt8) := [[97], [98]]
def h1 : List Cl := [⟨1, 0, 6, 8⟩]
def h2 : List Cl := [⟨1, 0, 24, 24⟩, ⟨1, 0, 22, 1⟩]
def h3 : List Cl := [⟨1, 0, 24, 40⟩, ⟨1, 0, 22, 1⟩, ⟨1, 0, 22, 1⟩]
theorem nms_ok : areNamesB nms = true := by decide +kernel
theorem x1 : fH (bareM h1) [8] = h1 := by kernel_rfl
theorem x2 : fH (bareM h2) [8] = h2 := by kernel_rfl
theorem f1 : fromM h1 8 = 8 := by kernel_rfl
theorem f2 : fromM h2 8 = 8 := by kernel_rfl
theorem fit1 : fitsB h1 8 = true := by kernel_rfl
theorem fit2 : fitsB h2 8 = true := by kernel_rfl
theorem fit3 : fitsB h3 8 = true := by kernel_rfl
theorem fit0 : fitsB [] 8 = false := by kernel_rfl
theorem unlike : alikeB h2 8 h3 8 = false := by
  unfold alikeB
  have e : fH (bareM h3) [8] = h3 := by kernel_rfl
  rw [x2, e, Bool.and_eq_false_iff]
  right
  refine decide_eq_false (fun h => ?_)
  have := congrArg List.length h
  simp [h2, h3] at this
theorem m1 : (metW h1 8).any (nameless nms.length) = false ∧ (metW h1 8).length ≤ 3000000 := ⟨by kernel_rfl, by decide +kernel⟩
theorem m2 : (metW h2 8).any (nameless nms.length) = false ∧ (metW h2 8).length ≤ 3000000 := ⟨by kernel_rfl, by decide +kernel⟩
theorem t1 : (tell h1 nms 10 true (cntL (metW h1 8)) 0 8).map (fun r => (r.1, r.2.2)) = some ([35, 48, 61, 40, 97, 32, 46, 32, 35, 48, 35, 41], 1) := by kernel_rfl
theorem t2 : (tell h2 nms 10 true (cntL (metW h2 8)) 0 8).map (fun r => (r.1, r.2.2)) = some ([40, 35, 48, 61, 40, 98, 41, 32, 46, 32, 35, 48, 35, 41], 1) := by kernel_rfl
theorem gd_of {X : List Cl} {N : List (List UInt8)} {x : Int} (h1 : Rng x) (h2 : 1 ≤ ofT x ∧ ofT x ≤ 8) (h3 : (match refN x with | some c => decide (c < X.length) | none => true) = true) (h4 : nameless N.length x = false) : Gd X N x :=
  ⟨h1, h2, fun c hc => by rw [hc] at h3; exact of_decide_eq_true h3, h4⟩
theorem rng_of {x : Int} (h : 0 ≤ x) (h' : x ≤ 1000) : Rng x := by unfold Rng; omega
theorem seen1 : SeenOk h1 nms 8 := by
  have g8 : Gd h1 nms 8 := gd_of (rng_of (by omega) (by omega)) (by decide +kernel) (by kernel_rfl) (by kernel_rfl)
  have g6 : Gd h1 nms 6 := gd_of (rng_of (by omega) (by omega)) (by decide +kernel) (by kernel_rfl) (by kernel_rfl)
  refine ⟨by decide, fun y hy => ?_, g8, fun c y hc _ => ?_, fun c y hc hk => ?_, fun c y hc hk => ?_⟩
  · simp [h1] at hy
    subst hy
    exact .inl rfl
  · match c, hc with
    | 0, hc => cases hc; exact ⟨g6, g8⟩
    | c + 1, hc => simp [h1] at hc
  · match c, hc with
    | 0, hc => cases hc; cases hk
    | c + 1, hc => simp [h1] at hc
  · match c, hc with
    | 0, hc => cases hc; cases hk
    | c + 1, hc => simp [h1] at hc
theorem seen2 : SeenOk h2 nms 8 := by
  have g8 : Gd h2 nms 8 := gd_of (rng_of (by omega) (by omega)) (by decide +kernel) (by kernel_rfl) (by kernel_rfl)
  have g24 : Gd h2 nms 24 := gd_of (rng_of (by omega) (by omega)) (by decide +kernel) (by kernel_rfl) (by kernel_rfl)
  have g22 : Gd h2 nms 22 := gd_of (rng_of (by omega) (by omega)) (by decide +kernel) (by kernel_rfl) (by kernel_rfl)
  have g1 : Gd h2 nms 1 := gd_of (rng_of (by omega) (by omega)) (by decide +kernel) (by kernel_rfl) (by kernel_rfl)
  refine ⟨by decide, fun y hy => ?_, g8, fun c y hc _ => ?_, fun c y hc hk => ?_, fun c y hc hk => ?_⟩
  · simp [h2] at hy
    rcases hy with rfl | rfl
    · exact .inl rfl
    · exact .inl rfl
  · match c, hc with
    | 0, hc => cases hc; exact ⟨g24, g24⟩
    | 1, hc => cases hc; exact ⟨g22, g1⟩
    | c + 2, hc => simp [h2] at hc
  · match c, hc with
    | 0, hc => cases hc; cases hk
    | 1, hc => cases hc; cases hk
    | c + 2, hc => simp [h2] at hc
  · match c, hc with
    | 0, hc => cases hc; cases hk
    | 1, hc => cases hc; cases hk
    | c + 2, hc => simp [h2] at hc
end Go.Proofs.YtinijcmnojlphaaDoor
