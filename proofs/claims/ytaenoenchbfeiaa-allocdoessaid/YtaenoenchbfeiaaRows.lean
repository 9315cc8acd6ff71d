/-
  No cell of these rows narrows 'for every input' (looked for: loops, veiled, ifaces, maps, wideKeys, modest, calm, conditions, laid).
  DERIVED. THE GIVEN ROWS OF THIS SEAT. 3 by the template 'for every input the law returns true; each argument reads behind the call as it read before'; 0 by the template 'total and deterministic' (their statements: YtaenoenchbfeiaaTotals.lean).
  GIVEN WITH THE SEED: the statements are not yours to turn. If you find one false, say at which input.
  Laid BY PROGRAM, IN A SANDBOX (cutbox-rows.mjs): the forced cells as the released guide's own fill.sh prints them over the translation 4a258b77f0a61f76… (all of the seat's roots in one cut). By AI agents, Wed Nov 11 2026. No macro, syntax, notation, axiom, sorry.
-/
import Derived.Test.YtaenoenchbfeiaaChecked
import GoSem.Claim
import GoSem.ClaimJoined
import GoSem.ClaimMapViews
import Derived.JoinedTies
import Derived.KernelRfl
namespace Go.Proofs.Ytaenoenchbfeiaa
/- THE CELL 'sum', in the pinned program and in every row, IS THE sha256 OF THE DUMP (.gsa) THAT YtaenoenchbfeiaaProg.lean LOADS. Nothing in Lean hashes anything: it is a label: what it is worth is what the hold of that sum in a sandbox is worth. -/
noncomputable def Try.pinned : Pinned := { name := "ytaenoenchbfeiaa", sum := "4a258b77f0a61f76b3452d9799f2f5dbc85ea936d464fe728f5fabf8b57e7219", checked := Try.checked }
namespace Rows
def none {H : Type} : Left H := { results := [], args := [] }

/-- 'dapplelaw12.AllocNumbers': WHATEVER THE INPUT: true; the input reads as it did. -/
def allocNumbersSpec : ChangeSpec := { name := "allocNumbers", fn := fun _ => fun
  | [] => { results := [.lit (.bool true)], args := [] }
  | _ => none }
def allocNumbersRow : OpenClaim := { program := "ytaenoenchbfeiaa", sum := "4a258b77f0a61f76b3452d9799f2f5dbc85ea936d464fe728f5fabf8b57e7219", func := "dapple/dapplelaw12.AllocNumbers", spec := "allocNumbers", inPlace := ["slices.overlaps[int]"], unfollowed := true, recurses := true, apart := false }
def AllocNumbersSaid : Prop := allocNumbersRow.holds Try.pinned (OpenSpec.ofChange allocNumbersSpec)

/-- ITS FALSE NEIGHBOUR: 'it returns false'. Refute it at one input. -/
def allocNumbersWrong : ChangeSpec := { name := "allocNumbers", fn := fun _ => fun
  | [] => { results := [.lit (.bool false)], args := [] }
  | _ => none }
def AllocNumbersWrongFalsely : Prop := allocNumbersRow.holds Try.pinned (OpenSpec.ofChange allocNumbersWrong)

/-- 'dapplelaw12.AllocDoes': WHATEVER THE INPUT: true; the input reads as it did. -/
def allocDoesSpec : ChangeSpec := { name := "allocDoes", fn := fun _ => fun
  | [d1, d2, d3] => { results := [.lit (.bool true)], args := [d1, d2, d3] }
  | _ => none }
def allocDoesRow : OpenClaim := { program := "ytaenoenchbfeiaa", sum := "4a258b77f0a61f76b3452d9799f2f5dbc85ea936d464fe728f5fabf8b57e7219", func := "dapple/dapplelaw12.AllocDoes", spec := "allocDoes", inPlace := ["slices.overlaps[int]"], unfollowed := true, recurses := true, apart := false }
def AllocDoesSaid : Prop := allocDoesRow.holds Try.pinned (OpenSpec.ofChange allocDoesSpec)

/-- ITS FALSE NEIGHBOUR: 'it returns false'. Refute it at one input. -/
def allocDoesWrong : ChangeSpec := { name := "allocDoes", fn := fun _ => fun
  | [d1, d2, d3] => { results := [.lit (.bool false)], args := [d1, d2, d3] }
  | _ => none }
def AllocDoesWrongFalsely : Prop := allocDoesRow.holds Try.pinned (OpenSpec.ofChange allocDoesWrong)

/-- 'dapplelaw12.AllocKeeps': WHATEVER THE INPUT: true; the input reads as it did. -/
def allocKeepsSpec : ChangeSpec := { name := "allocKeeps", fn := fun _ => fun
  | [d1, d2] => { results := [.lit (.bool true)], args := [d1, d2] }
  | _ => none }
def allocKeepsRow : OpenClaim := { program := "ytaenoenchbfeiaa", sum := "4a258b77f0a61f76b3452d9799f2f5dbc85ea936d464fe728f5fabf8b57e7219", func := "dapple/dapplelaw12.AllocKeeps", spec := "allocKeeps", inPlace := ["slices.overlaps[int]"], unfollowed := true, recurses := true, apart := false }
def AllocKeepsSaid : Prop := allocKeepsRow.holds Try.pinned (OpenSpec.ofChange allocKeepsSpec)

/-- ITS FALSE NEIGHBOUR: 'it returns false'. Refute it at one input. -/
def allocKeepsWrong : ChangeSpec := { name := "allocKeeps", fn := fun _ => fun
  | [d1, d2] => { results := [.lit (.bool false)], args := [d1, d2] }
  | _ => none }
def AllocKeepsWrongFalsely : Prop := allocKeepsRow.holds Try.pinned (OpenSpec.ofChange allocKeepsWrong)

/- THE SECOND FORM. 'bulk': how many values and letters a reading holds, each counted each time it is reached (what is shared counts as often as it is met; a slice's spare places count too). A statement '..UptoSaid' is the law's where the arguments, and the package variables that the reading takes, are together of bulk at most 1048576: NARROWER than '..Said'. Prove '..Said' where nothing that the law and all that it calls make is longer than what came in: it says more and counts as full. Else prove '..UptoSaid'. A law counts once. -/
mutual
def uptoBulk {H : Type} : DataW H → Nat
  | .lit (.string bytes) => bytes.length + 1
  | .lit _ => 1
  | .nil => 1
  | .ptr d => uptoBulk d + 1
  | .slice elems spare => uptoBulkAll elems + uptoBulkAll spare + 1
  | .agg parts => uptoBulkAll parts + 1
  | .iface _ d => uptoBulk d + 1
  | .map entries => uptoBulkEntries entries + 1
  | .held _ => 1
def uptoBulkAll {H : Type} : List (DataW H) → Nat
  | [] => 0
  | d :: r => uptoBulk d + uptoBulkAll r
def uptoBulkEntries {H : Type} : List (Lit × DataW H) → Nat
  | [] => 0
  | x :: r => uptoBulkEntry x + uptoBulkEntries r
def uptoBulkEntry {H : Type} : Lit × DataW H → Nat
  | (.string bytes, d) => bytes.length + uptoBulk d + 1
  | (_, d) => uptoBulk d + 1
 end
def uptoSmall : (H : Type) → List (DataW H) → Bool := fun _ ds => decide (uptoBulkAll ds ≤ 1048576)
def OpenSpec.upto (s : _root_.Go.ChangeSpec) : _root_.Go.OpenSpec := { _root_.Go.OpenSpec.ofChange s with cond := some uptoSmall }

/-- 'dapplelaw12.AllocNumbers', WHERE WHAT IT READS IS OF BULK AT MOST 1048576: true; the input reads as it did. -/
def allocNumbersUptoRow : OpenClaim := { program := "ytaenoenchbfeiaa", sum := "4a258b77f0a61f76b3452d9799f2f5dbc85ea936d464fe728f5fabf8b57e7219", func := "dapple/dapplelaw12.AllocNumbers", spec := "allocNumbers", inPlace := ["slices.overlaps[int]"], unfollowed := true, recurses := true, apart := false, narrowed := true }
def AllocNumbersUptoSaid : Prop := allocNumbersUptoRow.holds Try.pinned (OpenSpec.upto allocNumbersSpec)

/-- 'dapplelaw12.AllocDoes', WHERE WHAT IT READS IS OF BULK AT MOST 1048576: true; the input reads as it did. -/
def allocDoesUptoRow : OpenClaim := { program := "ytaenoenchbfeiaa", sum := "4a258b77f0a61f76b3452d9799f2f5dbc85ea936d464fe728f5fabf8b57e7219", func := "dapple/dapplelaw12.AllocDoes", spec := "allocDoes", inPlace := ["slices.overlaps[int]"], unfollowed := true, recurses := true, apart := false, narrowed := true }
def AllocDoesUptoSaid : Prop := allocDoesUptoRow.holds Try.pinned (OpenSpec.upto allocDoesSpec)

/-- 'dapplelaw12.AllocKeeps', WHERE WHAT IT READS IS OF BULK AT MOST 1048576: true; the input reads as it did. -/
def allocKeepsUptoRow : OpenClaim := { program := "ytaenoenchbfeiaa", sum := "4a258b77f0a61f76b3452d9799f2f5dbc85ea936d464fe728f5fabf8b57e7219", func := "dapple/dapplelaw12.AllocKeeps", spec := "allocKeeps", inPlace := ["slices.overlaps[int]"], unfollowed := true, recurses := true, apart := false, narrowed := true }
def AllocKeepsUptoSaid : Prop := allocKeepsUptoRow.holds Try.pinned (OpenSpec.upto allocKeepsSpec)

end Rows
end Go.Proofs.Ytaenoenchbfeiaa
