/- Proved: ShowOne returns true at every two heaps and words and all names, where the listed package variables hold what their own initialisers lay (the card ties that to the text of the program). -/
import Derived.Test.YtejmoopgfnjaaaaDoorCards
import Derived.Test.YtejmoopgfnjaaaaDoorTie
import Derived.Test.YtejmoopgfnjaaaaDoorK28
import Derived.Test.YtejmoopgfnjaaaaDoorHSOf
import Derived.Test.YtejmoopgfnjaaaaDoorHLaw
namespace Go.Proofs.YtejmoopgfnjaaaaDoor.showOne
open Go.ChangeShapes Go.WideShapes Go.ChangeAt Go.RowKit

theorem own : ownKnob Tryd.prog.godebug = none := by kernel_rfl
theorem laidOut : laidOutB Tryd.prog = true := by kernel_rfl

set_option maxRecDepth 100000 in
theorem contract (H : Type) (enc : TypeId × Value → H) (W : World) (base : Nat) (args : Array Value) (ds gs : List (DataW H)) (before : List MemPlace)
    (hval : ∀ (j : Nat) t v, Tryd.f3.params[j]? = some t → args[j]? = some v → Value.okWide Tryd.prog W .any base t v)
    (hW : DataW.Whole enc Tryd.prog Tryd.f3.params.toList Rows.showOneSpec.vars false W args.toList ds gs before) (hL : laidMetH Tryd.prog Rows.showOneRow.laid W)
    (hsz : (DataW.weightsEach Tryd.prog (Tryd.f3.params.toList ++ Rows.showOneSpec.plain.varTypes Tryd.prog) (ds ++ gs)).all (· ≤ reachBytes) = true) :
    Calls Tryd.prog 3 args W fun e W' => ∃ v, e = .returned v ∧ Rows.showOneSpec.post enc Tryd.prog Tryd.f3 false true false false W args v W' := by
  have hW' := hW
  obtain ⟨p, q, hA0, hV, rfl, hfz, hnd⟩ := hW
  have hA : DataW.TrodAll enc Tryd.prog W 0 (fun _ => true) true Tryd.f3.params.toList args.toList ds p := hA0
  rw [Tryd.params3] at hA hval
  obtain ⟨v0, v1, v2, v3, v4, d0, d1, d2, d3, d4, p0, p1, p2, p3, p4, rfl, rfl, rfl, h0, h1, h2, h3, h4⟩ := trodAll_five hA
  obtain ⟨ra, hh, ca, rfl, k0, w0⟩ := cells_of2 h0 (okWide_slice Tryd.underlying22 (hval 0 22 v0 rfl rfl)) (lt_sized hsz (j := 0) (t := 22) rfl rfl)
  obtain ⟨rn, nn, cn, rfl, k1, w1⟩ := texts_of2 h1 (okWide_slice Tryd.underlying23 (hval 1 23 v1 rfl rfl)) (lt_sized hsz (j := 1) (t := 23) rfl rfl)
  obtain ⟨x, rfl, rfl, rfl, wx⟩ := open_int Tryd.underlying25 (hval 2 25 v2 rfl rfl) h2
  obtain ⟨rb, gg, cb, rfl, k3, w3⟩ := cells_of2 h3 (okWide_slice Tryd.underlying22 (hval 3 22 v3 rfl rfl)) (lt_sized hsz (j := 3) (t := 22) rfl rfl)
  obtain ⟨y, rfl, rfl, rfl, wy⟩ := open_int Tryd.underlying25 (hval 4 25 v4 rfl rfl) h4
  obtain ⟨rfl, rfl⟩ := trodVars_none hV
  refine (showOne_walk hh gg nn x y ra rn rb ca cn cb W k0 k3 k1 w0 w3 w1 (wfW wx) (wfW wy) (gl_of hL)).mono fun e W' ⟨he, hg⟩ => ?_
  subst he
  exact ⟨_, rfl, law_post (tb := 4) laidOut (by kernel_rfl) rfl (by kernel_rfl) Tryd.underlying4 rfl rfl rfl hW' hg⟩

theorem door_met (os : Os) (args : Array Value) : laidMetH Tryd.prog Rows.showOneRow.laid ((World.doorLaid Tryd.prog 75 os).forCall (fun _ _ => 0) ⟨#[], args, []⟩).memory :=
  laidMetH_of_parts3 (fuel := 8) (laidMet_of_run' 8 (by kernel_rfl) (by kernel_rfl)) (by kernel_rfl) (by kernel_rfl)

set_option maxRecDepth 100000 in
theorem lifted (os : Os) (started : os.Started) (H : Type) (enc : TypeId × Value → H) :
    ReturnsInHanded {} Tryd.checked os 3 .any (fun w args => (Rows.showOneSpec.pre enc Tryd.prog Tryd.f3 [] false w args ∧ laidMetH Tryd.prog Rows.showOneRow.laid w) ∧ sizedMet enc Tryd.prog Tryd.f3 (OpenSpec.ofChange Rows.showOneSpec) false w args)
      (Rows.showOneSpec.post enc Tryd.prog Tryd.f3 false true false false) := by
  refine returnsInHanded_of_change_and (C := Tryd.checked) (X := fun w _ => laidMetH Tryd.prog Rows.showOneRow.laid w) (fun _ _ _ hh h => h.of_heap hh) own started (by kernel_rfl) Tryd.func3
    (ChangeSpec.witness_shaped (enc := enc) (C := Tryd.checked) (os := os) (X := fun w _ => laidMetH Tryd.prog Rows.showOneRow.laid w) false (World.doorLaid Tryd.prog 75 os) #[.slice none 0 0, .slice none 0 0, .int .u64 0, .slice none 0 0, .int .u64 0] 8 rfl (World.shaped_of_RefB (by kernel_rfl) (by kernel_rfl)) (by kernel_rfl) (by kernel_rfl) (by kernel_rfl) (door_met os _)) ?_
  intro W base args ds gs before hval0 hW _ hsz hL _
  exact contract H enc W base args ds gs before hval0 hW hL hsz

theorem said : Rows.ShowOneSaid :=
  OpenClaim.holds_of_wide 3 Tryd.f3 rfl rfl rfl rfl rfl rfl rfl ⟨rfl, rfl, rfl, rfl, rfl⟩ rfl rfl rfl rfl rfl (by kernel_rfl) Tryd.func3 (by kernel_rfl)
    (of_decide_eq_true (by kernel_rfl)) (by unfold Func.isWrapper; first | (rw [if_pos (by decide +kernel)]; kernel_rfl) | (rw [if_neg (by decide +kernel)]; exact ⟨rfl, rfl⟩))
    (fun os started H enc _ => lifted os started H enc)

theorem plain (f : FuncId) (fn : Func) (hf : Tryd.pinned.checked.prog.funcNamed "dapple/dapplelaw11.ShowOne" = some f) (hfn : Tryd.pinned.checked.prog.funcs[f]? = some fn) :
    true = Tryd.pinned.checked.prog.looks [] ∧ ∀ (j : Nat) t, fn.params[j]? = some t → Tryd.pinned.checked.prog.wantsStandIn t = false := by
  obtain rfl : f = 3 := Option.some.inj ((show Tryd.prog.funcNamed "dapple/dapplelaw11.ShowOne" = some 3 by kernel_rfl).symm.trans hf) |>.symm
  obtain rfl : fn = Tryd.f3 := (Option.some.inj (Tryd.func3.symm.trans hfn)).symm
  refine ⟨by kernel_rfl, fun j t ht => ?_⟩
  rw [Tryd.params3] at ht
  have hm : t ∈ [22, 23, 25, 22, 25] := by simpa using Array.mem_of_getElem? ht
  have hall : ([22, 23, 25, 22, 25].all fun u => !Tryd.prog.wantsStandIn u) = true := by kernel_rfl
  exact (show Tryd.prog.wantsStandIn t = false by simpa using List.all_eq_true.1 hall t hm)
end Go.Proofs.YtejmoopgfnjaaaaDoor.showOne

namespace Go.Proofs.YtejmoopgfnjaaaaDoor
theorem showOne_holds : Rows.ShowOneCardSaid :=
  Claim7.holds_tied_plain_at .later [] _ _ _ _ showOne.said (fun _ h => by cases h) (by kernel_rfl) (fun _ h => by cases h) showOne_row_tie rfl ⟨rfl, rfl⟩ (by kernel_rfl) rfl showOne.plain (by kernel_rfl)
#print axioms showOne_holds
end Go.Proofs.YtejmoopgfnjaaaaDoor
