/-
  NARROWER THAN 'FOR EVERY INPUT', by the rows' own cells (each row's printed sentence says how): ClassChecks: laid · ClassEncodes: laid · ClassDecodes: laid · ClassBack: laid · ClassFinds: laid.
  DERIVED. THE GIVEN ROWS OF THIS SEAT. 5 by the template 'for every input the law returns true; each argument reads behind the call as it read before'; 0 by the template 'total and deterministic' (their statements: YtgfimkeopohjaaaDoorTotals.lean).
  GIVEN WITH THE SEED: the statements are not yours to turn. If you find one false, say at which input.
  Laid BY PROGRAM, IN A SANDBOX (cutbox-rows.mjs): the forced cells as the released guide's own fill.sh prints them over the translation af1e0d0f6480746b… (all of the seat's roots in one cut). By AI agents, Wed Nov 11 2026. No macro, syntax, notation, axiom, sorry.
-/
import Derived.Test.YtgfimkeopohjaaaDoorChecked
import GoSem.Claim
import GoSem.ClaimJoined
import GoSem.ClaimMapViews
import Derived.JoinedTies
import Derived.KernelRfl
namespace Go.Proofs.YtgfimkeopohjaaaDoor
/- THE CELL 'sum', in the pinned program and in every row, IS THE sha256 OF THE DUMP (.gsa) THAT YtgfimkeopohjaaaDoorProg.lean LOADS. Nothing in Lean hashes anything: it is a label: what it is worth is what the hold of that sum in a sandbox is worth. -/
noncomputable def Tryd.pinned : Pinned := { name := "ytgfimkeopohjaaadoor", sum := "af1e0d0f6480746b1f7cbbc40e2f70227ed8acafe28e4f04641da888877e11f5", checked := Tryd.checked }
namespace Rows
def none {H : Type} : Left H := { results := [], args := [] }

/- WHAT THE LISTED PACKAGE-LEVEL VARIABLES READ AS WHEN THE CALL BEGINS. Each datum BY PROGRAM (the guide's laid-datum.mjs) off the statement by which the dump's own 'gosem.cut.vars' lays the variable. In a bare row this is a premise. The card (YtgfimkeopohjaaaDoorCards.lean) ties it to the program's text. -/
def laid_math_bits_deBruijn32tab {H : Type} : DataW H := .agg [.lit (.int .u8 0), .lit (.int .u8 1), .lit (.int .u8 28), .lit (.int .u8 2), .lit (.int .u8 29), .lit (.int .u8 14), .lit (.int .u8 24), .lit (.int .u8 3), .lit (.int .u8 30), .lit (.int .u8 22), .lit (.int .u8 20), .lit (.int .u8 15), .lit (.int .u8 25), .lit (.int .u8 17), .lit (.int .u8 4), .lit (.int .u8 8), .lit (.int .u8 31), .lit (.int .u8 27), .lit (.int .u8 13), .lit (.int .u8 23), .lit (.int .u8 21), .lit (.int .u8 19), .lit (.int .u8 16), .lit (.int .u8 7), .lit (.int .u8 26), .lit (.int .u8 12), .lit (.int .u8 18), .lit (.int .u8 6), .lit (.int .u8 11), .lit (.int .u8 5), .lit (.int .u8 10), .lit (.int .u8 9)]

/-- 'tenonlaw10.ClassChecks': WHATEVER THE INPUT: true; the input reads as it did. -/
def classChecksSpec : ChangeSpec := { name := "classChecks", fn := fun _ => fun
  | [d] => { results := [.lit (.bool true)], args := [d] }
  | _ => none }
def classChecksRow : OpenClaim := { program := "ytgfimkeopohjaaadoor", sum := "af1e0d0f6480746b1f7cbbc40e2f70227ed8acafe28e4f04641da888877e11f5", func := "tenon/tenonlaw10.ClassChecks", spec := "classChecks", unfollowed := true, recurses := true, named := ["math/bits.deBruijn32tab"], apart := false, laid := [("math/bits.deBruijn32tab", laid_math_bits_deBruijn32tab)] }
def ClassChecksSaid : Prop := classChecksRow.holds Tryd.pinned (OpenSpec.ofChange classChecksSpec)

/-- ITS FALSE NEIGHBOUR: 'it returns false'. Refute it at one input. -/
def classChecksWrong : ChangeSpec := { name := "classChecks", fn := fun _ => fun
  | [d] => { results := [.lit (.bool false)], args := [d] }
  | _ => none }
def ClassChecksWrongFalsely : Prop := classChecksRow.holds Tryd.pinned (OpenSpec.ofChange classChecksWrong)

/-- 'tenonlaw10.ClassEncodes': WHATEVER THE INPUT: true; the input reads as it did. -/
def classEncodesSpec : ChangeSpec := { name := "classEncodes", fn := fun _ => fun
  | [d] => { results := [.lit (.bool true)], args := [d] }
  | _ => none }
def classEncodesRow : OpenClaim := { program := "ytgfimkeopohjaaadoor", sum := "af1e0d0f6480746b1f7cbbc40e2f70227ed8acafe28e4f04641da888877e11f5", func := "tenon/tenonlaw10.ClassEncodes", spec := "classEncodes", unfollowed := true, recurses := true, named := ["math/bits.deBruijn32tab"], apart := false, laid := [("math/bits.deBruijn32tab", laid_math_bits_deBruijn32tab)] }
def ClassEncodesSaid : Prop := classEncodesRow.holds Tryd.pinned (OpenSpec.ofChange classEncodesSpec)

/-- ITS FALSE NEIGHBOUR: 'it returns false'. Refute it at one input. -/
def classEncodesWrong : ChangeSpec := { name := "classEncodes", fn := fun _ => fun
  | [d] => { results := [.lit (.bool false)], args := [d] }
  | _ => none }
def ClassEncodesWrongFalsely : Prop := classEncodesRow.holds Tryd.pinned (OpenSpec.ofChange classEncodesWrong)

/-- 'tenonlaw10.ClassDecodes': WHATEVER THE INPUT: true; the input reads as it did. -/
def classDecodesSpec : ChangeSpec := { name := "classDecodes", fn := fun _ => fun
  | [d] => { results := [.lit (.bool true)], args := [d] }
  | _ => none }
def classDecodesRow : OpenClaim := { program := "ytgfimkeopohjaaadoor", sum := "af1e0d0f6480746b1f7cbbc40e2f70227ed8acafe28e4f04641da888877e11f5", func := "tenon/tenonlaw10.ClassDecodes", spec := "classDecodes", unfollowed := true, recurses := true, named := ["math/bits.deBruijn32tab"], apart := false, laid := [("math/bits.deBruijn32tab", laid_math_bits_deBruijn32tab)] }
def ClassDecodesSaid : Prop := classDecodesRow.holds Tryd.pinned (OpenSpec.ofChange classDecodesSpec)

/-- ITS FALSE NEIGHBOUR: 'it returns false'. Refute it at one input. -/
def classDecodesWrong : ChangeSpec := { name := "classDecodes", fn := fun _ => fun
  | [d] => { results := [.lit (.bool false)], args := [d] }
  | _ => none }
def ClassDecodesWrongFalsely : Prop := classDecodesRow.holds Tryd.pinned (OpenSpec.ofChange classDecodesWrong)

/-- 'tenonlaw10.ClassBack': WHATEVER THE INPUT: true; the input reads as it did. -/
def classBackSpec : ChangeSpec := { name := "classBack", fn := fun _ => fun
  | [d1, d2, d3] => { results := [.lit (.bool true)], args := [d1, d2, d3] }
  | _ => none }
def classBackRow : OpenClaim := { program := "ytgfimkeopohjaaadoor", sum := "af1e0d0f6480746b1f7cbbc40e2f70227ed8acafe28e4f04641da888877e11f5", func := "tenon/tenonlaw10.ClassBack", spec := "classBack", unfollowed := true, recurses := true, named := ["math/bits.deBruijn32tab"], apart := false, laid := [("math/bits.deBruijn32tab", laid_math_bits_deBruijn32tab)] }
def ClassBackSaid : Prop := classBackRow.holds Tryd.pinned (OpenSpec.ofChange classBackSpec)

/-- ITS FALSE NEIGHBOUR: 'it returns false'. Refute it at one input. -/
def classBackWrong : ChangeSpec := { name := "classBack", fn := fun _ => fun
  | [d1, d2, d3] => { results := [.lit (.bool false)], args := [d1, d2, d3] }
  | _ => none }
def ClassBackWrongFalsely : Prop := classBackRow.holds Tryd.pinned (OpenSpec.ofChange classBackWrong)

/-- 'tenonlaw10.ClassFinds': WHATEVER THE INPUT: true; the input reads as it did. -/
def classFindsSpec : ChangeSpec := { name := "classFinds", fn := fun _ => fun
  | [d1, d2, d3] => { results := [.lit (.bool true)], args := [d1, d2, d3] }
  | _ => none }
def classFindsRow : OpenClaim := { program := "ytgfimkeopohjaaadoor", sum := "af1e0d0f6480746b1f7cbbc40e2f70227ed8acafe28e4f04641da888877e11f5", func := "tenon/tenonlaw10.ClassFinds", spec := "classFinds", unfollowed := true, recurses := true, named := ["math/bits.deBruijn32tab"], apart := false, laid := [("math/bits.deBruijn32tab", laid_math_bits_deBruijn32tab)] }
def ClassFindsSaid : Prop := classFindsRow.holds Tryd.pinned (OpenSpec.ofChange classFindsSpec)

/-- ITS FALSE NEIGHBOUR: 'it returns false'. Refute it at one input. -/
def classFindsWrong : ChangeSpec := { name := "classFinds", fn := fun _ => fun
  | [d1, d2, d3] => { results := [.lit (.bool false)], args := [d1, d2, d3] }
  | _ => none }
def ClassFindsWrongFalsely : Prop := classFindsRow.holds Tryd.pinned (OpenSpec.ofChange classFindsWrong)

/- THE SECOND FORM. 'bulk': how many values and letters a reading holds, each counted each time it is reached (what is shared counts as often as it is met; a slice's spare places count too). A statement '..UptoSaid' is the law's where the arguments, and the package variables that the reading takes, are together of bulk at most 1048576: NARROWER than '..Said'. Prove '..Said' where nothing that the law and all that it calls make is longer than what came in: it says more and counts as full. Else prove '..UptoSaid'. A law counts once. -/
mutual
def uptoBulk {H : Type} : DataW H → Nat
  | .lit (.string bytes) => bytes.length + 1
  | .lit _ => 1
  | .nil => 1
  | .ptr d => uptoBulk d + 1
  | .slice elems spare => uptoBulkAll elems + uptoBulkAll spare + 1
  | .agg parts => uptoBulkAll parts + 1
  | .iface _ d => uptoBulk d + 1
  | .map entries => uptoBulkEntries entries + 1
  | .held _ => 1
def uptoBulkAll {H : Type} : List (DataW H) → Nat
  | [] => 0
  | d :: r => uptoBulk d + uptoBulkAll r
def uptoBulkEntries {H : Type} : List (Lit × DataW H) → Nat
  | [] => 0
  | x :: r => uptoBulkEntry x + uptoBulkEntries r
def uptoBulkEntry {H : Type} : Lit × DataW H → Nat
  | (.string bytes, d) => bytes.length + uptoBulk d + 1
  | (_, d) => uptoBulk d + 1
 end
def uptoSmall : (H : Type) → List (DataW H) → Bool := fun _ ds => decide (uptoBulkAll ds ≤ 1048576)
def OpenSpec.upto (s : _root_.Go.ChangeSpec) : _root_.Go.OpenSpec := { _root_.Go.OpenSpec.ofChange s with cond := some uptoSmall }

/-- 'tenonlaw10.ClassChecks', WHERE WHAT IT READS IS OF BULK AT MOST 1048576: true; the input reads as it did. -/
def classChecksUptoRow : OpenClaim := { program := "ytgfimkeopohjaaadoor", sum := "af1e0d0f6480746b1f7cbbc40e2f70227ed8acafe28e4f04641da888877e11f5", func := "tenon/tenonlaw10.ClassChecks", spec := "classChecks", unfollowed := true, recurses := true, named := ["math/bits.deBruijn32tab"], apart := false, laid := [("math/bits.deBruijn32tab", laid_math_bits_deBruijn32tab)], narrowed := true }
def ClassChecksUptoSaid : Prop := classChecksUptoRow.holds Tryd.pinned (OpenSpec.upto classChecksSpec)

/-- 'tenonlaw10.ClassEncodes', WHERE WHAT IT READS IS OF BULK AT MOST 1048576: true; the input reads as it did. -/
def classEncodesUptoRow : OpenClaim := { program := "ytgfimkeopohjaaadoor", sum := "af1e0d0f6480746b1f7cbbc40e2f70227ed8acafe28e4f04641da888877e11f5", func := "tenon/tenonlaw10.ClassEncodes", spec := "classEncodes", unfollowed := true, recurses := true, named := ["math/bits.deBruijn32tab"], apart := false, laid := [("math/bits.deBruijn32tab", laid_math_bits_deBruijn32tab)], narrowed := true }
def ClassEncodesUptoSaid : Prop := classEncodesUptoRow.holds Tryd.pinned (OpenSpec.upto classEncodesSpec)

/-- 'tenonlaw10.ClassDecodes', WHERE WHAT IT READS IS OF BULK AT MOST 1048576: true; the input reads as it did. -/
def classDecodesUptoRow : OpenClaim := { program := "ytgfimkeopohjaaadoor", sum := "af1e0d0f6480746b1f7cbbc40e2f70227ed8acafe28e4f04641da888877e11f5", func := "tenon/tenonlaw10.ClassDecodes", spec := "classDecodes", unfollowed := true, recurses := true, named := ["math/bits.deBruijn32tab"], apart := false, laid := [("math/bits.deBruijn32tab", laid_math_bits_deBruijn32tab)], narrowed := true }
def ClassDecodesUptoSaid : Prop := classDecodesUptoRow.holds Tryd.pinned (OpenSpec.upto classDecodesSpec)

/-- 'tenonlaw10.ClassBack', WHERE WHAT IT READS IS OF BULK AT MOST 1048576: true; the input reads as it did. -/
def classBackUptoRow : OpenClaim := { program := "ytgfimkeopohjaaadoor", sum := "af1e0d0f6480746b1f7cbbc40e2f70227ed8acafe28e4f04641da888877e11f5", func := "tenon/tenonlaw10.ClassBack", spec := "classBack", unfollowed := true, recurses := true, named := ["math/bits.deBruijn32tab"], apart := false, laid := [("math/bits.deBruijn32tab", laid_math_bits_deBruijn32tab)], narrowed := true }
def ClassBackUptoSaid : Prop := classBackUptoRow.holds Tryd.pinned (OpenSpec.upto classBackSpec)

/-- 'tenonlaw10.ClassFinds', WHERE WHAT IT READS IS OF BULK AT MOST 1048576: true; the input reads as it did. -/
def classFindsUptoRow : OpenClaim := { program := "ytgfimkeopohjaaadoor", sum := "af1e0d0f6480746b1f7cbbc40e2f70227ed8acafe28e4f04641da888877e11f5", func := "tenon/tenonlaw10.ClassFinds", spec := "classFinds", unfollowed := true, recurses := true, named := ["math/bits.deBruijn32tab"], apart := false, laid := [("math/bits.deBruijn32tab", laid_math_bits_deBruijn32tab)], narrowed := true }
def ClassFindsUptoSaid : Prop := classFindsUptoRow.holds Tryd.pinned (OpenSpec.upto classFindsSpec)

end Rows
end Go.Proofs.YtgfimkeopohjaaaDoor
