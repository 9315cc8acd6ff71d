/- Proved: CycleEnds returns true, however many cells and globals, whatever threads there are, whatever is given back. -/
import Derived.Test.YtnohcmfhhoiihaaRows
import Derived.Test.YtnohcmfhhoiihaaHEEnds
import Derived.Test.YtnohcmfhhoiihaaHEOf
namespace Go.Proofs.Ytnohcmfhhoiihaa.cycleEnds
open Go.ChangeShapes Go.WideShapes Go.ChangeAt Go.RowKit Go.WideMaps Go.WideElems

theorem own : ownKnob Try.prog.godebug = none := by kernel_rfl
theorem laidOut : laidOutB Try.prog = true := by kernel_rfl

set_option maxRecDepth 100000 in
theorem contract (H : Type) (enc : TypeId × Value → H) (W : World) (base : Nat) (args : Array Value) (ds gs : List (DataW H)) (before : List MemPlace)
    (hval : ∀ (j : Nat) t v, Try.f5.params[j]? = some t → args[j]? = some v → Value.okWide Try.prog W .any base t v)
    (hW : DataW.Whole enc Try.prog Try.f5.params.toList Rows.cycleEndsSpec.vars false W args.toList ds gs before)
    (hsz : (DataW.weightsEach Try.prog (Try.f5.params.toList ++ Rows.cycleEndsSpec.plain.varTypes Try.prog) (ds ++ gs)).all (· ≤ reachBytes) = true) :
    Calls Try.prog 5 args W fun e W' => ∃ v, e = .returned v ∧ Rows.cycleEndsSpec.post enc Try.prog Try.f5 false true false false W args v W' := by
  have hW' := hW
  obtain ⟨p, q, hA0, hV, rfl, hfz, hnd⟩ := hW
  have hA : DataW.TrodAll enc Try.prog W 0 (fun _ => true) true Try.f5.params.toList args.toList ds p := hA0
  rw [Try.params5] at hA hval
  obtain ⟨v0, v1, v2, v3, d0, d1, d2, d3, p0, p1, p2, p3, rfl, rfl, rfl, h0, h1, h2, h3⟩ := trodAll_four hA
  obtain ⟨cells, rfl, hc⟩ := int_in (hval 0 3 v0 rfl rfl) h0
  obtain ⟨globals, rfl, hg⟩ := int_in (hval 1 3 v1 rfl rfl) h1
  obtain ⟨ra, l, ca, rfl, hl⟩ := lives_in (hval 2 39 v2 rfl rfl) h2 (lt_sized hsz (j := 2) (t := 39) rfl rfl)
  obtain ⟨rb, bs, cb, rfl, hb⟩ := bools_in (hval 3 40 v3 rfl rfl) h3 (lt_sized hsz (j := 3) (t := 40) rfl rfl)
  obtain ⟨rfl, rfl⟩ := trodVars_none hV
  refine (cycleEnds_walk cells globals l ra ca bs rb cb W hc hg hl hb).mono fun e W' ⟨he, hg⟩ => ?_
  subst he
  exact ⟨_, rfl, law_post (tb := 4) laidOut (by kernel_rfl) rfl (by kernel_rfl) Try.underlying4 rfl rfl rfl hW' hg⟩

set_option maxRecDepth 100000 in
theorem lifted (os : Os) (started : os.Started) (H : Type) (enc : TypeId × Value → H) :
    ReturnsInHanded {} Try.checked os 5 .any (Rows.cycleEndsSpec.pre6 enc Try.prog Try.f5 [] false) (Rows.cycleEndsSpec.post enc Try.prog Try.f5 false true false false) := by
  refine returnsInHanded_of_change_sized (C := Try.checked) own started (by kernel_rfl) Try.func5 ?_ ?_
  · exact ChangeSpec.witness6 (enc := enc) (C := Try.checked) false ⟨#[], #[.int .i64 0, .int .i64 0, .slice none 0 0, .slice none 0 0], []⟩ 8 (by kernel_rfl) (by kernel_rfl) (by kernel_rfl) (by kernel_rfl)
  · intro W base args ds gs before hval0 hW _ hsz _
    exact contract H enc W base args ds gs before hval0 hW hsz

theorem said : Rows.CycleEndsSaid :=
  OpenClaim.holds_of_wide 5 Try.f5 rfl rfl rfl rfl rfl rfl rfl ⟨rfl, rfl, rfl, rfl, rfl⟩ rfl rfl rfl rfl rfl (by kernel_rfl) Try.func5 (by kernel_rfl)
    (of_decide_eq_true (by kernel_rfl)) (by unfold Func.isWrapper; first | (rw [if_pos (by decide +kernel)]; kernel_rfl) | (rw [if_neg (by decide +kernel)]; exact ⟨rfl, rfl⟩))
    (fun os started H enc _ => lifted os started H enc)
end Go.Proofs.Ytnohcmfhhoiihaa.cycleEnds

namespace Go.Proofs.Ytnohcmfhhoiihaa
theorem cycleEnds_holds : Rows.CycleEndsSaid := cycleEnds.said
#print axioms cycleEnds_holds
end Go.Proofs.Ytnohcmfhhoiihaa
