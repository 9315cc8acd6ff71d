/- Proved: FormsBack returns true at every form and every name, where the listed package variables hold what their own initialisers lay (the card ties that to the text of the program). -/
import Derived.Test.YtkgnigloboajcaaGreatDoorCards
import Derived.Test.YtkgnigloboajcaaGreatDoorTie
import Derived.Test.YtkgnigloboajcaaGreatDoorL8
import Derived.Test.YtkgnigloboajcaaGreatDoorL9
import Derived.Test.YtkgnigloboajcaaGreatDoorHLaw
set_option maxRecDepth 100000
namespace Go.Proofs.YtkgnigloboajcaaGreatDoor.formsBack
open Go.ChangeShapes Go.WideShapes Go.ChangeAt Go.RowKit
open Go.ChangeMaps (open_string)
theorem own:ownKnob Tryz.prog.godebug=none:=by kernel_rfl
theorem laidOut:laidOutB Tryz.prog=true:=by kernel_rfl
theorem contract (H:Type) (enc:TypeId × Value→H) (W:World) (base:Nat) (args:Array Value) (ds gs:List (DataW H)) (before:List MemPlace)
  (hval:∀(j:Nat) t v,Tryz.f5.params[j]?=some t→args[j]?=some v→Value.okWide Tryz.prog W .any base t v)
  (hW:DataW.Whole enc Tryz.prog Tryz.f5.params.toList Rows.formsBackSpec.vars false W args.toList ds gs before) (hL:laidMetH Tryz.prog Rows.formsBackRow.laid W)
  (hsz:(DataW.weightsEach Tryz.prog (Tryz.f5.params.toList++Rows.formsBackSpec.plain.varTypes Tryz.prog) (ds++gs)).all (· ≤ reachBytes)=true) :
  Calls Tryz.prog 5 args W fun e W' => ∃v,e = .returned v∧Rows.formsBackSpec.post enc Tryz.prog Tryz.f5 false true false false W args v W' := by
 have hW' := hW
 obtain ⟨p,q,hA0,hV,rfl,hfz,hnd⟩:=hW
 have hA:DataW.TrodAll enc Tryz.prog W 0 (fun _=>true) true Tryz.f5.params.toList args.toList ds p:=hA0
 rw [Tryz.params5] at hA hval
 obtain ⟨v0,v1,d0,d1,p0,p1,rfl,rfl,rfl,h0,h1⟩:=trodAll_two hA
 obtain ⟨f,nr,kr,dr,nc,kc,dc,rfl,hkc,hR,hS,hnc,hncs⟩:=frm_of2 (okWide_struct Tryz.underlying36 (hval 0 36 v0 rfl rfl)) h0 (lt_sized hsz (j:=0) (t:=36) rfl rfl)
 obtain ⟨s,rfl,rfl,rfl,_⟩:=open_string Tryz.underlying9 (hval 1 9 v1 rfl rfl) h1
 obtain ⟨l,rfl⟩:∃l:List UInt8,s=⟨l.toArray⟩:=⟨s.data.toList,by simp⟩
 obtain ⟨rfl,rfl⟩:=trodVars_none hV
 refine (formsBack_walk f nr kr dr nc kc dc l W hR hS hkc hnc hncs (env_of hL)).mono fun e W' ⟨he,hg⟩=>?_
 subst he
 exact ⟨_,rfl,law_post (tb:=4) laidOut (by kernel_rfl) rfl (by kernel_rfl) Tryz.underlying4 rfl rfl rfl hW' hg⟩
theorem door_met (os:Os) (args:Array Value):laidMetH Tryz.prog Rows.formsBackRow.laid ((World.doorLaid Tryz.prog 109 os).forCall (fun _ _=>0) ⟨#[],args,[]⟩).memory :=
 laidMetH_of_parts3 (fuel:=8) (laidMet_of_run' 8 (by kernel_rfl) (by kernel_rfl)) (by kernel_rfl) (by kernel_rfl)
theorem lifted (os:Os) (started:os.Started) (H:Type) (enc:TypeId × Value→H) :
  ReturnsInHanded {} Tryz.checked os 5 .any (fun w args=>(Rows.formsBackSpec.pre enc Tryz.prog Tryz.f5 [] false w args∧laidMetH Tryz.prog Rows.formsBackRow.laid w)∧sizedMet enc Tryz.prog Tryz.f5 (OpenSpec.ofChange Rows.formsBackSpec) false w args)
   (Rows.formsBackSpec.post enc Tryz.prog Tryz.f5 false true false false):=by
 refine returnsInHanded_of_change_and (C:=Tryz.checked) (X:=fun w _=>laidMetH Tryz.prog Rows.formsBackRow.laid w) (fun _ _ _ hh h=>h.of_heap hh) own started (by kernel_rfl) Tryz.func5
  (ChangeSpec.witness_shaped (enc:=enc) (C:=Tryz.checked) (os:=os) (X:=fun w _=>laidMetH Tryz.prog Rows.formsBackRow.laid w) false (World.doorLaid Tryz.prog 109 os) #[.agg #[.int .u8 0, .string ⟨#[]⟩, .slice none 0 0, .slice none 0 0, .int .u8 0, .int .i64 0, .string ⟨#[]⟩, .slice none 0 0, .bool false], .string ⟨#[]⟩] 8 rfl (World.shaped_of_RefB (by kernel_rfl) (by kernel_rfl)) (by kernel_rfl) (by kernel_rfl) (by kernel_rfl) (door_met os _)) ?_
 intro W base args ds gs before hval0 hW _ hsz hL _
 exact contract H enc W base args ds gs before hval0 hW hL hsz
theorem said:Rows.FormsBackSaid :=
 OpenClaim.holds_of_wide 5 Tryz.f5 rfl rfl rfl rfl rfl rfl rfl ⟨rfl,rfl,rfl,rfl,rfl⟩ rfl rfl rfl rfl rfl (by kernel_rfl) Tryz.func5 (by kernel_rfl)
  (of_decide_eq_true (by kernel_rfl)) (by unfold Func.isWrapper;first|(rw [if_pos (by decide +kernel)];kernel_rfl)|(rw [if_neg (by decide +kernel)];exact ⟨rfl,rfl⟩))
  (fun os started H enc _=>lifted os started H enc)
theorem plain (f:FuncId) (fn:Func) (hf:Tryz.pinned.checked.prog.funcNamed "dapple/dapplelaw07.FormsBack" = some f) (hfn:Tryz.pinned.checked.prog.funcs[f]?=some fn) :
  true=Tryz.pinned.checked.prog.looks []∧∀(j:Nat) t,fn.params[j]?=some t→Tryz.pinned.checked.prog.wantsStandIn t=false:=by
 obtain rfl:f=5:=Option.some.inj ((show Tryz.prog.funcNamed "dapple/dapplelaw07.FormsBack" = some 5 by kernel_rfl).symm.trans hf) |>.symm
 obtain rfl:fn=Tryz.f5:=(Option.some.inj (Tryz.func5.symm.trans hfn)).symm
 refine ⟨by kernel_rfl,fun j t ht=>?_⟩
 rw [Tryz.params5] at ht
 have hm:t∈[36,9]:=by simpa using Array.mem_of_getElem? ht
 have hall:([36,9].all fun u => !Tryz.prog.wantsStandIn u)=true:=by kernel_rfl
 exact (show Tryz.prog.wantsStandIn t=false by simpa using List.all_eq_true.1 hall t hm)
end Go.Proofs.YtkgnigloboajcaaGreatDoor.formsBack
namespace Go.Proofs.YtkgnigloboajcaaGreatDoor
theorem formsBack_holds:Rows.FormsBackCardSaid :=
 Claim7.holds_tied_plain_at .later [] _ _ _ _ formsBack.said (fun _ h=>by cases h) (by kernel_rfl) (fun _ h=>by cases h) formsBack_row_tie rfl ⟨rfl,rfl⟩ (by kernel_rfl) rfl formsBack.plain (by kernel_rfl)
#print axioms formsBack_holds
end Go.Proofs.YtkgnigloboajcaaGreatDoor
