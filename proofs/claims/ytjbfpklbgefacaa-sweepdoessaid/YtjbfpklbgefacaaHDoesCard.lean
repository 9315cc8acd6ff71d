/- Proved: SweepDoes returns true at every list of cells and every script. -/
import Derived.Test.YtjbfpklbgefacaaRows
import Derived.Test.YtjbfpklbgefacaaHWDoes
import Derived.Test.YtjbfpklbgefacaaHWOf2
import Derived.Test.YtjbfpklbgefacaaHALaw
namespace Go.Proofs.Ytjbfpklbgefacaa.sweepDoes
open Go.ChangeShapes Go.WideShapes Go.ChangeAt Go.RowKit Go.WideMaps Go.WideElems

theorem own : ownKnob Try.prog.godebug = none := by kernel_rfl
theorem laidOut : laidOutB Try.prog = true := by kernel_rfl

set_option maxRecDepth 100000 in
theorem contract (H : Type) (enc : TypeId × Value → H) (W : World) (base : Nat) (args : Array Value) (ds gs : List (DataW H)) (before : List MemPlace)
    (hval : ∀ (j : Nat) t v, Try.f4.params[j]? = some t → args[j]? = some v → Value.okWide Try.prog W .any base t v)
    (hW : DataW.Whole enc Try.prog Try.f4.params.toList Rows.sweepDoesSpec.vars false W args.toList ds gs before)
    (hsz : (DataW.weightsEach Try.prog (Try.f4.params.toList ++ Rows.sweepDoesSpec.plain.varTypes Try.prog) (ds ++ gs)).all (· ≤ reachBytes) = true) :
    Calls Try.prog 4 args W fun e W' => ∃ v, e = .returned v ∧ Rows.sweepDoesSpec.post enc Try.prog Try.f4 false true false false W args v W' := by
  have hW' := hW
  obtain ⟨p, q, hA0, hV, rfl, hfz, hnd⟩ := hW
  have hA : DataW.TrodAll enc Try.prog W 0 (fun _ => true) true Try.f4.params.toList args.toList ds p := hA0
  rw [Try.params4] at hA hval
  obtain ⟨v0, v1, d0, d1, p0, p1, rfl, rfl, rfl, h0, h1⟩ := trodAll_two hA
  obtain ⟨ra, l, ca, rfl, hl, w1⟩ := cells_of h0 (okWide_slice Try.underlying23 (hval 0 23 v0 rfl rfl)) (lt_sized hsz (j := 0) (t := 23) rfl rfl)
  obtain ⟨rb, sc, cb, rfl, hs, w2⟩ := script_of h1 (okWide_slice Try.underlying24 (hval 1 24 v1 rfl rfl)) (lt_sized hsz (j := 1) (t := 24) rfl rfl)
  obtain ⟨rfl, rfl⟩ := trodVars_none hV
  refine (sweepDoes_walk l ra ca sc rb cb W w1 w2 hl hs).mono fun e W' ⟨he, hg⟩ => ?_
  subst he
  exact ⟨_, rfl, law_post (tb := 4) laidOut (by kernel_rfl) rfl (by kernel_rfl) Try.underlying4 rfl rfl rfl hW' hg⟩

set_option maxRecDepth 100000 in
theorem lifted (os : Os) (started : os.Started) (H : Type) (enc : TypeId × Value → H) :
    ReturnsInHanded {} Try.checked os 4 .any (Rows.sweepDoesSpec.pre6 enc Try.prog Try.f4 [] false) (Rows.sweepDoesSpec.post enc Try.prog Try.f4 false true false false) := by
  refine returnsInHanded_of_change_sized (C := Try.checked) own started (by kernel_rfl) Try.func4 ?_ ?_
  · exact ChangeSpec.witness6 (enc := enc) (C := Try.checked) false ⟨#[], #[.slice none 0 0, .slice none 0 0], []⟩ 8 (by kernel_rfl) (by kernel_rfl) (by kernel_rfl) (by kernel_rfl)
  · intro W base args ds gs before hval0 hW _ hsz _
    exact contract H enc W base args ds gs before hval0 hW hsz

theorem said : Rows.SweepDoesSaid :=
  OpenClaim.holds_of_wide 4 Try.f4 rfl rfl rfl rfl rfl rfl rfl ⟨rfl, rfl, rfl, rfl, rfl⟩ rfl rfl rfl rfl rfl (by kernel_rfl) Try.func4 (by kernel_rfl)
    (of_decide_eq_true (by kernel_rfl)) (by unfold Func.isWrapper; first | (rw [if_pos (by decide +kernel)]; kernel_rfl) | (rw [if_neg (by decide +kernel)]; exact ⟨rfl, rfl⟩))
    (fun os started H enc _ => lifted os started H enc)
end Go.Proofs.Ytjbfpklbgefacaa.sweepDoes

namespace Go.Proofs.Ytjbfpklbgefacaa
theorem sweepDoes_holds : Rows.SweepDoesSaid := sweepDoes.said
#print axioms sweepDoes_holds
end Go.Proofs.Ytjbfpklbgefacaa
