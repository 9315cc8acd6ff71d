/-
  NARROWER THAN 'FOR EVERY INPUT', by the rows' own cells (each row's printed sentence says how): FormsNumbers: laid · FormsOf: loops, laid · FormsBack: loops, laid · FormsRound: loops, laid · FormsPath: loops, laid · FormsWithin: loops, laid.
  DERIVED. THE GIVEN ROWS OF THIS SEAT. 6 by the template 'for every input the law returns true; each argument reads behind the call as it read before'; 0 by the template 'total and deterministic' (their statements: YtkgnigloboajcaaGreatDoorTotals.lean).
  GIVEN WITH THE SEED: the statements are not yours to turn. If you find one false, say at which input.
  Laid BY PROGRAM, IN A SANDBOX (cutbox-rows.mjs): the forced cells as the released guide's own fill.sh prints them over the translation 627777dd8b482ff5… (all of the seat's roots in one cut). By AI agents, Wed Nov 11 2026. No macro, syntax, notation, axiom, sorry.
-/
import Derived.Test.YtkgnigloboajcaaGreatDoorChecked
import GoSem.Claim
import GoSem.ClaimJoined
import GoSem.ClaimMapViews
import Derived.JoinedTies
import Derived.KernelRfl
namespace Go.Proofs.YtkgnigloboajcaaGreatDoor
/- THE CELL 'sum', in the pinned program and in every row, IS THE sha256 OF THE DUMP (.gsa) THAT YtkgnigloboajcaaGreatDoorProg.lean LOADS. Nothing in Lean hashes anything: it is a label: what it is worth is what the hold of that sum in a sandbox is worth. -/
noncomputable def Tryz.pinned : Pinned := { name := "ytkgnigloboajcaagreatdoor", sum := "627777dd8b482ff5a67a32526484737ed7a55f2adeb5911d1713b4e185b11451", checked := Tryz.checked }
namespace Rows
def none {H : Type} : Left H := { results := [], args := [] }

/- WHAT THE LISTED PACKAGE-LEVEL VARIABLES READ AS WHEN THE CALL BEGINS. Each datum BY PROGRAM (the guide's laid-datum.mjs) off the statement by which the dump's own 'gosem.cut.vars' lays the variable. In a bare row this is a premise. The card (YtkgnigloboajcaaGreatDoorCards.lean) ties it to the program's text. -/
def laid_math_bits_deBruijn32tab {H : Type} : DataW H := .agg [.lit (.int .u8 0), .lit (.int .u8 1), .lit (.int .u8 28), .lit (.int .u8 2), .lit (.int .u8 29), .lit (.int .u8 14), .lit (.int .u8 24), .lit (.int .u8 3), .lit (.int .u8 30), .lit (.int .u8 22), .lit (.int .u8 20), .lit (.int .u8 15), .lit (.int .u8 25), .lit (.int .u8 17), .lit (.int .u8 4), .lit (.int .u8 8), .lit (.int .u8 31), .lit (.int .u8 27), .lit (.int .u8 13), .lit (.int .u8 23), .lit (.int .u8 21), .lit (.int .u8 19), .lit (.int .u8 16), .lit (.int .u8 7), .lit (.int .u8 26), .lit (.int .u8 12), .lit (.int .u8 18), .lit (.int .u8 6), .lit (.int .u8 11), .lit (.int .u8 5), .lit (.int .u8 10), .lit (.int .u8 9)]
def laid_math_bits_deBruijn64tab {H : Type} : DataW H := .agg [.lit (.int .u8 0), .lit (.int .u8 1), .lit (.int .u8 56), .lit (.int .u8 2), .lit (.int .u8 57), .lit (.int .u8 49), .lit (.int .u8 28), .lit (.int .u8 3), .lit (.int .u8 61), .lit (.int .u8 58), .lit (.int .u8 42), .lit (.int .u8 50), .lit (.int .u8 38), .lit (.int .u8 29), .lit (.int .u8 17), .lit (.int .u8 4), .lit (.int .u8 62), .lit (.int .u8 47), .lit (.int .u8 59), .lit (.int .u8 36), .lit (.int .u8 45), .lit (.int .u8 43), .lit (.int .u8 51), .lit (.int .u8 22), .lit (.int .u8 53), .lit (.int .u8 39), .lit (.int .u8 33), .lit (.int .u8 30), .lit (.int .u8 24), .lit (.int .u8 18), .lit (.int .u8 12), .lit (.int .u8 5), .lit (.int .u8 63), .lit (.int .u8 55), .lit (.int .u8 48), .lit (.int .u8 27), .lit (.int .u8 60), .lit (.int .u8 41), .lit (.int .u8 37), .lit (.int .u8 16), .lit (.int .u8 46), .lit (.int .u8 35), .lit (.int .u8 44), .lit (.int .u8 21), .lit (.int .u8 52), .lit (.int .u8 32), .lit (.int .u8 23), .lit (.int .u8 11), .lit (.int .u8 54), .lit (.int .u8 26), .lit (.int .u8 40), .lit (.int .u8 15), .lit (.int .u8 34), .lit (.int .u8 20), .lit (.int .u8 31), .lit (.int .u8 10), .lit (.int .u8 25), .lit (.int .u8 14), .lit (.int .u8 19), .lit (.int .u8 9), .lit (.int .u8 13), .lit (.int .u8 8), .lit (.int .u8 7), .lit (.int .u8 6)]
def laid_internal_strconv_uint64pow10 {H : Type} : DataW H := .agg [.lit (.int .u64 1), .lit (.int .u64 10), .lit (.int .u64 100), .lit (.int .u64 1000), .lit (.int .u64 10000), .lit (.int .u64 100000), .lit (.int .u64 1000000), .lit (.int .u64 10000000), .lit (.int .u64 100000000), .lit (.int .u64 1000000000), .lit (.int .u64 10000000000), .lit (.int .u64 100000000000), .lit (.int .u64 1000000000000), .lit (.int .u64 10000000000000), .lit (.int .u64 100000000000000), .lit (.int .u64 1000000000000000), .lit (.int .u64 10000000000000000), .lit (.int .u64 100000000000000000), .lit (.int .u64 1000000000000000000), .lit (.int .u64 10000000000000000000)]
def laid_strconv_ErrRange {H : Type} : DataW H := .iface "*errors.errorString" (.ptr (.agg [.lit (.string [118, 97, 108, 117, 101, 32, 111, 117, 116, 32, 111, 102, 32, 114, 97, 110, 103, 101])]))
def laid_strconv_ErrSyntax {H : Type} : DataW H := .iface "*errors.errorString" (.ptr (.agg [.lit (.string [105, 110, 118, 97, 108, 105, 100, 32, 115, 121, 110, 116, 97, 120])]))
def laid_dapple_forms_shapes {H : Type} : DataW H := .agg [.agg [.lit (.string []), .lit (.int .i64 0), .lit (.int .i64 0), .lit (.int .i64 0)], .agg [.lit (.string [113, 117, 111, 116, 101]), .lit (.int .i64 1), .lit (.int .i64 0), .lit (.int .i64 0)], .agg [.lit (.string []), .lit (.int .i64 0), .lit (.int .i64 0), .lit (.int .i64 0)], .agg [.lit (.string [105, 102]), .lit (.int .i64 0), .lit (.int .i64 2), .lit (.int .i64 3)], .agg [.lit (.string [108, 97, 109, 98, 100, 97]), .lit (.int .i64 1), .lit (.int .i64 1), .lit (.int .i64 9223372036854775807)], .agg [.lit (.string [100, 101, 102, 105, 110, 101]), .lit (.int .i64 1), .lit (.int .i64 1), .lit (.int .i64 1)], .agg [.lit (.string [115, 101, 116, 33]), .lit (.int .i64 1), .lit (.int .i64 1), .lit (.int .i64 1)], .agg [.lit (.string [98, 101, 103, 105, 110]), .lit (.int .i64 0), .lit (.int .i64 1), .lit (.int .i64 9223372036854775807)], .agg [.lit (.string [108, 101, 116]), .lit (.int .i64 1), .lit (.int .i64 1), .lit (.int .i64 9223372036854775807)], .agg [.lit (.string [119, 104, 105, 108, 101]), .lit (.int .i64 0), .lit (.int .i64 1), .lit (.int .i64 9223372036854775807)], .agg [.lit (.string []), .lit (.int .i64 0), .lit (.int .i64 1), .lit (.int .i64 9223372036854775807)], .agg [.lit (.string [115, 112, 97, 119, 110]), .lit (.int .i64 0), .lit (.int .i64 1), .lit (.int .i64 1)], .agg [.lit (.string [106, 111, 105, 110]), .lit (.int .i64 0), .lit (.int .i64 1), .lit (.int .i64 1)], .agg [.lit (.string [108, 111, 99, 107]), .lit (.int .i64 0), .lit (.int .i64 1), .lit (.int .i64 1)], .agg [.lit (.string [117, 110, 108, 111, 99, 107]), .lit (.int .i64 0), .lit (.int .i64 1), .lit (.int .i64 1)], .agg [.lit (.string [121, 105, 101, 108, 100]), .lit (.int .i64 0), .lit (.int .i64 0), .lit (.int .i64 0)]]
def laid_dapple_forms_primitives {H : Type} : DataW H := .agg [.agg [.lit (.string []), .lit (.int .i64 0)], .agg [.lit (.string [99, 111, 110, 115]), .lit (.int .i64 2)], .agg [.lit (.string [99, 97, 114]), .lit (.int .i64 1)], .agg [.lit (.string [99, 100, 114]), .lit (.int .i64 1)], .agg [.lit (.string [115, 101, 116, 45, 99, 97, 114, 33]), .lit (.int .i64 2)], .agg [.lit (.string [115, 101, 116, 45, 99, 100, 114, 33]), .lit (.int .i64 2)], .agg [.lit (.string [98, 111, 120]), .lit (.int .i64 1)], .agg [.lit (.string [117, 110, 98, 111, 120]), .lit (.int .i64 1)], .agg [.lit (.string [115, 101, 116, 45, 98, 111, 120, 33]), .lit (.int .i64 2)], .agg [.lit (.string [99, 97, 115]), .lit (.int .i64 3)], .agg [.lit (.string [97, 100, 100]), .lit (.int .i64 2)], .agg [.lit (.string [101, 113, 63]), .lit (.int .i64 2)], .agg [.lit (.string [110, 117, 108, 108, 63]), .lit (.int .i64 1)], .agg [.lit (.string [112, 97, 105, 114, 63]), .lit (.int .i64 1)], .agg [.lit (.string [105, 110, 116, 63]), .lit (.int .i64 1)], .agg [.lit (.string [43]), .lit (.int .i64 2)], .agg [.lit (.string [45]), .lit (.int .i64 2)], .agg [.lit (.string [42]), .lit (.int .i64 2)], .agg [.lit (.string [113, 117, 111, 116, 105, 101, 110, 116]), .lit (.int .i64 2)], .agg [.lit (.string [114, 101, 109, 97, 105, 110, 100, 101, 114]), .lit (.int .i64 2)], .agg [.lit (.string [60]), .lit (.int .i64 2)], .agg [.lit (.string [110, 111, 116]), .lit (.int .i64 1)], .agg [.lit (.string [101, 114, 114, 111, 114]), .lit (.int .i64 1)]]

/-- 'dapplelaw07.FormsNumbers': WHATEVER THE INPUT: true; the input reads as it did. -/
def formsNumbersSpec : ChangeSpec := { name := "formsNumbers", fn := fun _ => fun
  | [] => { results := [.lit (.bool true)], args := [] }
  | _ => none }
def formsNumbersRow : OpenClaim := { program := "ytkgnigloboajcaagreatdoor", sum := "627777dd8b482ff5a67a32526484737ed7a55f2adeb5911d1713b4e185b11451", func := "dapple/dapplelaw07.FormsNumbers", spec := "formsNumbers", inPlace := ["internal/abi.NoEscape"], unfollowed := true, recurses := true, named := ["strconv.ErrSyntax", "strconv.ErrRange", "internal/strconv.uint64pow10", "math/bits.deBruijn32tab", "math/bits.deBruijn64tab", "dapple/forms.shapes", "dapple/forms.primitives"], apart := false, laid := [("math/bits.deBruijn32tab", laid_math_bits_deBruijn32tab), ("math/bits.deBruijn64tab", laid_math_bits_deBruijn64tab), ("internal/strconv.uint64pow10", laid_internal_strconv_uint64pow10), ("strconv.ErrRange", laid_strconv_ErrRange), ("strconv.ErrSyntax", laid_strconv_ErrSyntax), ("dapple/forms.shapes", laid_dapple_forms_shapes), ("dapple/forms.primitives", laid_dapple_forms_primitives)] }
def FormsNumbersSaid : Prop := formsNumbersRow.holds Tryz.pinned (OpenSpec.ofChange formsNumbersSpec)

/-- ITS FALSE NEIGHBOUR: 'it returns false'. Refute it at one input. -/
def formsNumbersWrong : ChangeSpec := { name := "formsNumbers", fn := fun _ => fun
  | [] => { results := [.lit (.bool false)], args := [] }
  | _ => none }
def FormsNumbersWrongFalsely : Prop := formsNumbersRow.holds Tryz.pinned (OpenSpec.ofChange formsNumbersWrong)

/-- 'dapplelaw07.FormsOf': WHATEVER THE INPUT: true; the input reads as it did. -/
def formsOfSpec : ChangeSpec := { name := "formsOf", fn := fun _ => fun
  | [d] => { results := [.lit (.bool true)], args := [d] }
  | _ => none }
def formsOfRow : OpenClaim := { program := "ytkgnigloboajcaagreatdoor", sum := "627777dd8b482ff5a67a32526484737ed7a55f2adeb5911d1713b4e185b11451", func := "dapple/dapplelaw07.FormsOf", spec := "formsOf", inPlace := ["internal/abi.NoEscape"], unfollowed := true, recurses := true, named := ["strconv.ErrSyntax", "strconv.ErrRange", "internal/strconv.uint64pow10", "math/bits.deBruijn32tab", "math/bits.deBruijn64tab", "dapple/forms.shapes", "dapple/forms.primitives"], loops := true, apart := false, laid := [("math/bits.deBruijn32tab", laid_math_bits_deBruijn32tab), ("math/bits.deBruijn64tab", laid_math_bits_deBruijn64tab), ("internal/strconv.uint64pow10", laid_internal_strconv_uint64pow10), ("strconv.ErrRange", laid_strconv_ErrRange), ("strconv.ErrSyntax", laid_strconv_ErrSyntax), ("dapple/forms.shapes", laid_dapple_forms_shapes), ("dapple/forms.primitives", laid_dapple_forms_primitives)] }
def FormsOfSaid : Prop := formsOfRow.holds Tryz.pinned (OpenSpec.ofChange formsOfSpec)

/-- ITS FALSE NEIGHBOUR: 'it returns false'. Refute it at one input. -/
def formsOfWrong : ChangeSpec := { name := "formsOf", fn := fun _ => fun
  | [d] => { results := [.lit (.bool false)], args := [d] }
  | _ => none }
def FormsOfWrongFalsely : Prop := formsOfRow.holds Tryz.pinned (OpenSpec.ofChange formsOfWrong)

/-- 'dapplelaw07.FormsBack': WHATEVER THE INPUT: true; the input reads as it did. -/
def formsBackSpec : ChangeSpec := { name := "formsBack", fn := fun _ => fun
  | [d1, d2] => { results := [.lit (.bool true)], args := [d1, d2] }
  | _ => none }
def formsBackRow : OpenClaim := { program := "ytkgnigloboajcaagreatdoor", sum := "627777dd8b482ff5a67a32526484737ed7a55f2adeb5911d1713b4e185b11451", func := "dapple/dapplelaw07.FormsBack", spec := "formsBack", inPlace := ["internal/abi.NoEscape"], unfollowed := true, recurses := true, named := ["strconv.ErrSyntax", "strconv.ErrRange", "internal/strconv.uint64pow10", "math/bits.deBruijn32tab", "math/bits.deBruijn64tab", "dapple/forms.shapes", "dapple/forms.primitives"], loops := true, apart := false, laid := [("math/bits.deBruijn32tab", laid_math_bits_deBruijn32tab), ("math/bits.deBruijn64tab", laid_math_bits_deBruijn64tab), ("internal/strconv.uint64pow10", laid_internal_strconv_uint64pow10), ("strconv.ErrRange", laid_strconv_ErrRange), ("strconv.ErrSyntax", laid_strconv_ErrSyntax), ("dapple/forms.shapes", laid_dapple_forms_shapes), ("dapple/forms.primitives", laid_dapple_forms_primitives)] }
def FormsBackSaid : Prop := formsBackRow.holds Tryz.pinned (OpenSpec.ofChange formsBackSpec)

/-- ITS FALSE NEIGHBOUR: 'it returns false'. Refute it at one input. -/
def formsBackWrong : ChangeSpec := { name := "formsBack", fn := fun _ => fun
  | [d1, d2] => { results := [.lit (.bool false)], args := [d1, d2] }
  | _ => none }
def FormsBackWrongFalsely : Prop := formsBackRow.holds Tryz.pinned (OpenSpec.ofChange formsBackWrong)

/-- 'dapplelaw07.FormsRound': WHATEVER THE INPUT: true; the input reads as it did. -/
def formsRoundSpec : ChangeSpec := { name := "formsRound", fn := fun _ => fun
  | [d] => { results := [.lit (.bool true)], args := [d] }
  | _ => none }
def formsRoundRow : OpenClaim := { program := "ytkgnigloboajcaagreatdoor", sum := "627777dd8b482ff5a67a32526484737ed7a55f2adeb5911d1713b4e185b11451", func := "dapple/dapplelaw07.FormsRound", spec := "formsRound", inPlace := ["internal/abi.NoEscape"], unfollowed := true, recurses := true, named := ["strconv.ErrSyntax", "strconv.ErrRange", "internal/strconv.uint64pow10", "math/bits.deBruijn32tab", "math/bits.deBruijn64tab", "dapple/forms.shapes", "dapple/forms.primitives"], loops := true, apart := false, laid := [("math/bits.deBruijn32tab", laid_math_bits_deBruijn32tab), ("math/bits.deBruijn64tab", laid_math_bits_deBruijn64tab), ("internal/strconv.uint64pow10", laid_internal_strconv_uint64pow10), ("strconv.ErrRange", laid_strconv_ErrRange), ("strconv.ErrSyntax", laid_strconv_ErrSyntax), ("dapple/forms.shapes", laid_dapple_forms_shapes), ("dapple/forms.primitives", laid_dapple_forms_primitives)] }
def FormsRoundSaid : Prop := formsRoundRow.holds Tryz.pinned (OpenSpec.ofChange formsRoundSpec)

/-- ITS FALSE NEIGHBOUR: 'it returns false'. Refute it at one input. -/
def formsRoundWrong : ChangeSpec := { name := "formsRound", fn := fun _ => fun
  | [d] => { results := [.lit (.bool false)], args := [d] }
  | _ => none }
def FormsRoundWrongFalsely : Prop := formsRoundRow.holds Tryz.pinned (OpenSpec.ofChange formsRoundWrong)

/-- 'dapplelaw07.FormsPath': WHATEVER THE INPUT: true; the input reads as it did. -/
def formsPathSpec : ChangeSpec := { name := "formsPath", fn := fun _ => fun
  | [d] => { results := [.lit (.bool true)], args := [d] }
  | _ => none }
def formsPathRow : OpenClaim := { program := "ytkgnigloboajcaagreatdoor", sum := "627777dd8b482ff5a67a32526484737ed7a55f2adeb5911d1713b4e185b11451", func := "dapple/dapplelaw07.FormsPath", spec := "formsPath", inPlace := ["internal/abi.NoEscape"], unfollowed := true, recurses := true, named := ["strconv.ErrSyntax", "strconv.ErrRange", "internal/strconv.uint64pow10", "math/bits.deBruijn32tab", "math/bits.deBruijn64tab", "dapple/forms.shapes", "dapple/forms.primitives"], loops := true, apart := false, laid := [("math/bits.deBruijn32tab", laid_math_bits_deBruijn32tab), ("math/bits.deBruijn64tab", laid_math_bits_deBruijn64tab), ("internal/strconv.uint64pow10", laid_internal_strconv_uint64pow10), ("strconv.ErrRange", laid_strconv_ErrRange), ("strconv.ErrSyntax", laid_strconv_ErrSyntax), ("dapple/forms.shapes", laid_dapple_forms_shapes), ("dapple/forms.primitives", laid_dapple_forms_primitives)] }
def FormsPathSaid : Prop := formsPathRow.holds Tryz.pinned (OpenSpec.ofChange formsPathSpec)

/-- ITS FALSE NEIGHBOUR: 'it returns false'. Refute it at one input. -/
def formsPathWrong : ChangeSpec := { name := "formsPath", fn := fun _ => fun
  | [d] => { results := [.lit (.bool false)], args := [d] }
  | _ => none }
def FormsPathWrongFalsely : Prop := formsPathRow.holds Tryz.pinned (OpenSpec.ofChange formsPathWrong)

/-- 'dapplelaw07.FormsWithin': WHATEVER THE INPUT: true; the input reads as it did. -/
def formsWithinSpec : ChangeSpec := { name := "formsWithin", fn := fun _ => fun
  | [d1, d2] => { results := [.lit (.bool true)], args := [d1, d2] }
  | _ => none }
def formsWithinRow : OpenClaim := { program := "ytkgnigloboajcaagreatdoor", sum := "627777dd8b482ff5a67a32526484737ed7a55f2adeb5911d1713b4e185b11451", func := "dapple/dapplelaw07.FormsWithin", spec := "formsWithin", inPlace := ["internal/abi.NoEscape"], unfollowed := true, recurses := true, named := ["strconv.ErrSyntax", "strconv.ErrRange", "internal/strconv.uint64pow10", "math/bits.deBruijn32tab", "math/bits.deBruijn64tab", "dapple/forms.shapes", "dapple/forms.primitives"], loops := true, apart := false, laid := [("math/bits.deBruijn32tab", laid_math_bits_deBruijn32tab), ("math/bits.deBruijn64tab", laid_math_bits_deBruijn64tab), ("internal/strconv.uint64pow10", laid_internal_strconv_uint64pow10), ("strconv.ErrRange", laid_strconv_ErrRange), ("strconv.ErrSyntax", laid_strconv_ErrSyntax), ("dapple/forms.shapes", laid_dapple_forms_shapes), ("dapple/forms.primitives", laid_dapple_forms_primitives)] }
def FormsWithinSaid : Prop := formsWithinRow.holds Tryz.pinned (OpenSpec.ofChange formsWithinSpec)

/-- ITS FALSE NEIGHBOUR: 'it returns false'. Refute it at one input. -/
def formsWithinWrong : ChangeSpec := { name := "formsWithin", fn := fun _ => fun
  | [d1, d2] => { results := [.lit (.bool false)], args := [d1, d2] }
  | _ => none }
def FormsWithinWrongFalsely : Prop := formsWithinRow.holds Tryz.pinned (OpenSpec.ofChange formsWithinWrong)

/- THE SECOND FORM. 'bulk': how many values and letters a reading holds, each counted each time it is reached (what is shared counts as often as it is met; a slice's spare places count too). A statement '..UptoSaid' is the law's where the arguments, and the package variables that the reading takes, are together of bulk at most 1048576: NARROWER than '..Said'. Prove '..Said' where nothing that the law and all that it calls make is longer than what came in: it says more and counts as full. Else prove '..UptoSaid'. A law counts once. -/
mutual
def uptoBulk {H : Type} : DataW H → Nat
  | .lit (.string bytes) => bytes.length + 1
  | .lit _ => 1
  | .nil => 1
  | .ptr d => uptoBulk d + 1
  | .slice elems spare => uptoBulkAll elems + uptoBulkAll spare + 1
  | .agg parts => uptoBulkAll parts + 1
  | .iface _ d => uptoBulk d + 1
  | .map entries => uptoBulkEntries entries + 1
  | .held _ => 1
def uptoBulkAll {H : Type} : List (DataW H) → Nat
  | [] => 0
  | d :: r => uptoBulk d + uptoBulkAll r
def uptoBulkEntries {H : Type} : List (Lit × DataW H) → Nat
  | [] => 0
  | x :: r => uptoBulkEntry x + uptoBulkEntries r
def uptoBulkEntry {H : Type} : Lit × DataW H → Nat
  | (.string bytes, d) => bytes.length + uptoBulk d + 1
  | (_, d) => uptoBulk d + 1
 end
def uptoSmall : (H : Type) → List (DataW H) → Bool := fun _ ds => decide (uptoBulkAll ds ≤ 1048576)
def OpenSpec.upto (s : _root_.Go.ChangeSpec) : _root_.Go.OpenSpec := { _root_.Go.OpenSpec.ofChange s with cond := some uptoSmall }

/-- 'dapplelaw07.FormsNumbers', WHERE WHAT IT READS IS OF BULK AT MOST 1048576: true; the input reads as it did. -/
def formsNumbersUptoRow : OpenClaim := { program := "ytkgnigloboajcaagreatdoor", sum := "627777dd8b482ff5a67a32526484737ed7a55f2adeb5911d1713b4e185b11451", func := "dapple/dapplelaw07.FormsNumbers", spec := "formsNumbers", inPlace := ["internal/abi.NoEscape"], unfollowed := true, recurses := true, named := ["strconv.ErrSyntax", "strconv.ErrRange", "internal/strconv.uint64pow10", "math/bits.deBruijn32tab", "math/bits.deBruijn64tab", "dapple/forms.shapes", "dapple/forms.primitives"], apart := false, laid := [("math/bits.deBruijn32tab", laid_math_bits_deBruijn32tab), ("math/bits.deBruijn64tab", laid_math_bits_deBruijn64tab), ("internal/strconv.uint64pow10", laid_internal_strconv_uint64pow10), ("strconv.ErrRange", laid_strconv_ErrRange), ("strconv.ErrSyntax", laid_strconv_ErrSyntax), ("dapple/forms.shapes", laid_dapple_forms_shapes), ("dapple/forms.primitives", laid_dapple_forms_primitives)], narrowed := true }
def FormsNumbersUptoSaid : Prop := formsNumbersUptoRow.holds Tryz.pinned (OpenSpec.upto formsNumbersSpec)

/-- 'dapplelaw07.FormsOf', WHERE WHAT IT READS IS OF BULK AT MOST 1048576: true; the input reads as it did. -/
def formsOfUptoRow : OpenClaim := { program := "ytkgnigloboajcaagreatdoor", sum := "627777dd8b482ff5a67a32526484737ed7a55f2adeb5911d1713b4e185b11451", func := "dapple/dapplelaw07.FormsOf", spec := "formsOf", inPlace := ["internal/abi.NoEscape"], unfollowed := true, recurses := true, named := ["strconv.ErrSyntax", "strconv.ErrRange", "internal/strconv.uint64pow10", "math/bits.deBruijn32tab", "math/bits.deBruijn64tab", "dapple/forms.shapes", "dapple/forms.primitives"], loops := true, apart := false, laid := [("math/bits.deBruijn32tab", laid_math_bits_deBruijn32tab), ("math/bits.deBruijn64tab", laid_math_bits_deBruijn64tab), ("internal/strconv.uint64pow10", laid_internal_strconv_uint64pow10), ("strconv.ErrRange", laid_strconv_ErrRange), ("strconv.ErrSyntax", laid_strconv_ErrSyntax), ("dapple/forms.shapes", laid_dapple_forms_shapes), ("dapple/forms.primitives", laid_dapple_forms_primitives)], narrowed := true }
def FormsOfUptoSaid : Prop := formsOfUptoRow.holds Tryz.pinned (OpenSpec.upto formsOfSpec)

/-- 'dapplelaw07.FormsBack', WHERE WHAT IT READS IS OF BULK AT MOST 1048576: true; the input reads as it did. -/
def formsBackUptoRow : OpenClaim := { program := "ytkgnigloboajcaagreatdoor", sum := "627777dd8b482ff5a67a32526484737ed7a55f2adeb5911d1713b4e185b11451", func := "dapple/dapplelaw07.FormsBack", spec := "formsBack", inPlace := ["internal/abi.NoEscape"], unfollowed := true, recurses := true, named := ["strconv.ErrSyntax", "strconv.ErrRange", "internal/strconv.uint64pow10", "math/bits.deBruijn32tab", "math/bits.deBruijn64tab", "dapple/forms.shapes", "dapple/forms.primitives"], loops := true, apart := false, laid := [("math/bits.deBruijn32tab", laid_math_bits_deBruijn32tab), ("math/bits.deBruijn64tab", laid_math_bits_deBruijn64tab), ("internal/strconv.uint64pow10", laid_internal_strconv_uint64pow10), ("strconv.ErrRange", laid_strconv_ErrRange), ("strconv.ErrSyntax", laid_strconv_ErrSyntax), ("dapple/forms.shapes", laid_dapple_forms_shapes), ("dapple/forms.primitives", laid_dapple_forms_primitives)], narrowed := true }
def FormsBackUptoSaid : Prop := formsBackUptoRow.holds Tryz.pinned (OpenSpec.upto formsBackSpec)

/-- 'dapplelaw07.FormsRound', WHERE WHAT IT READS IS OF BULK AT MOST 1048576: true; the input reads as it did. -/
def formsRoundUptoRow : OpenClaim := { program := "ytkgnigloboajcaagreatdoor", sum := "627777dd8b482ff5a67a32526484737ed7a55f2adeb5911d1713b4e185b11451", func := "dapple/dapplelaw07.FormsRound", spec := "formsRound", inPlace := ["internal/abi.NoEscape"], unfollowed := true, recurses := true, named := ["strconv.ErrSyntax", "strconv.ErrRange", "internal/strconv.uint64pow10", "math/bits.deBruijn32tab", "math/bits.deBruijn64tab", "dapple/forms.shapes", "dapple/forms.primitives"], loops := true, apart := false, laid := [("math/bits.deBruijn32tab", laid_math_bits_deBruijn32tab), ("math/bits.deBruijn64tab", laid_math_bits_deBruijn64tab), ("internal/strconv.uint64pow10", laid_internal_strconv_uint64pow10), ("strconv.ErrRange", laid_strconv_ErrRange), ("strconv.ErrSyntax", laid_strconv_ErrSyntax), ("dapple/forms.shapes", laid_dapple_forms_shapes), ("dapple/forms.primitives", laid_dapple_forms_primitives)], narrowed := true }
def FormsRoundUptoSaid : Prop := formsRoundUptoRow.holds Tryz.pinned (OpenSpec.upto formsRoundSpec)

/-- 'dapplelaw07.FormsPath', WHERE WHAT IT READS IS OF BULK AT MOST 1048576: true; the input reads as it did. -/
def formsPathUptoRow : OpenClaim := { program := "ytkgnigloboajcaagreatdoor", sum := "627777dd8b482ff5a67a32526484737ed7a55f2adeb5911d1713b4e185b11451", func := "dapple/dapplelaw07.FormsPath", spec := "formsPath", inPlace := ["internal/abi.NoEscape"], unfollowed := true, recurses := true, named := ["strconv.ErrSyntax", "strconv.ErrRange", "internal/strconv.uint64pow10", "math/bits.deBruijn32tab", "math/bits.deBruijn64tab", "dapple/forms.shapes", "dapple/forms.primitives"], loops := true, apart := false, laid := [("math/bits.deBruijn32tab", laid_math_bits_deBruijn32tab), ("math/bits.deBruijn64tab", laid_math_bits_deBruijn64tab), ("internal/strconv.uint64pow10", laid_internal_strconv_uint64pow10), ("strconv.ErrRange", laid_strconv_ErrRange), ("strconv.ErrSyntax", laid_strconv_ErrSyntax), ("dapple/forms.shapes", laid_dapple_forms_shapes), ("dapple/forms.primitives", laid_dapple_forms_primitives)], narrowed := true }
def FormsPathUptoSaid : Prop := formsPathUptoRow.holds Tryz.pinned (OpenSpec.upto formsPathSpec)

/-- 'dapplelaw07.FormsWithin', WHERE WHAT IT READS IS OF BULK AT MOST 1048576: true; the input reads as it did. -/
def formsWithinUptoRow : OpenClaim := { program := "ytkgnigloboajcaagreatdoor", sum := "627777dd8b482ff5a67a32526484737ed7a55f2adeb5911d1713b4e185b11451", func := "dapple/dapplelaw07.FormsWithin", spec := "formsWithin", inPlace := ["internal/abi.NoEscape"], unfollowed := true, recurses := true, named := ["strconv.ErrSyntax", "strconv.ErrRange", "internal/strconv.uint64pow10", "math/bits.deBruijn32tab", "math/bits.deBruijn64tab", "dapple/forms.shapes", "dapple/forms.primitives"], loops := true, apart := false, laid := [("math/bits.deBruijn32tab", laid_math_bits_deBruijn32tab), ("math/bits.deBruijn64tab", laid_math_bits_deBruijn64tab), ("internal/strconv.uint64pow10", laid_internal_strconv_uint64pow10), ("strconv.ErrRange", laid_strconv_ErrRange), ("strconv.ErrSyntax", laid_strconv_ErrSyntax), ("dapple/forms.shapes", laid_dapple_forms_shapes), ("dapple/forms.primitives", laid_dapple_forms_primitives)], narrowed := true }
def FormsWithinUptoSaid : Prop := formsWithinUptoRow.holds Tryz.pinned (OpenSpec.upto formsWithinSpec)

end Rows
end Go.Proofs.YtkgnigloboajcaaGreatDoor
