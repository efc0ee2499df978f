/-
  DERIVED. GIVEN WITH THE SEED: THE CARDS: each row of YtgfimkeopohjaaaDoorRows.lean that lists a variable, with what it lists TIED to the program's text (the seventh form; the later family's looks); each row that meets fmt, with fmt's text TOLD by the authors' own Lean function (tested against real Go, not proved from fmt's source: count such statements apart). THE CARD IS WHAT COUNTS. Prove the row's statement (the work); the ties are given (YtgfimkeopohjaaaDoorTie.lean); close each card by the builder's one call (the guide's Derived/Test/ToyasCard.lean, 'card_holds'). Laid BY PROGRAM, IN A SANDBOX (cutbox-door.mjs). By AI agents, Wed Nov 11 2026. No macro, syntax, notation, axiom, sorry.
-/
import Derived.Test.YtgfimkeopohjaaaDoorRows
import GoSem.ClaimSeven
namespace Go.Proofs.YtgfimkeopohjaaaDoor
namespace Rows

/-- THE TIED CARD OF 'tenonlaw10.ClassChecks'. -/
def classChecksCard : Claim7 := { stood := { row := classChecksRow, standIns := [], harness := (true, "8cc8708e59043d9364bee22e96cbc62bf862fe4984e431c8e935dc913cdef25a"), looks := true }, kinds := [], alts := [], laidByText := true, laidKinds := [.data], laidTests := true, laidLooks := .later }
def ClassChecksCardSaid : Prop := Claim7.holds Tryd.pinned (.plain (OpenSpec.ofChange classChecksSpec)) classChecksCard

/-- THE TIED CARD OF 'tenonlaw10.ClassEncodes'. -/
def classEncodesCard : Claim7 := { stood := { row := classEncodesRow, standIns := [], harness := (true, "8cc8708e59043d9364bee22e96cbc62bf862fe4984e431c8e935dc913cdef25a"), looks := true }, kinds := [], alts := [], laidByText := true, laidKinds := [.data], laidTests := true, laidLooks := .later }
def ClassEncodesCardSaid : Prop := Claim7.holds Tryd.pinned (.plain (OpenSpec.ofChange classEncodesSpec)) classEncodesCard

/-- THE TIED CARD OF 'tenonlaw10.ClassDecodes'. -/
def classDecodesCard : Claim7 := { stood := { row := classDecodesRow, standIns := [], harness := (true, "8cc8708e59043d9364bee22e96cbc62bf862fe4984e431c8e935dc913cdef25a"), looks := true }, kinds := [], alts := [], laidByText := true, laidKinds := [.data], laidTests := true, laidLooks := .later }
def ClassDecodesCardSaid : Prop := Claim7.holds Tryd.pinned (.plain (OpenSpec.ofChange classDecodesSpec)) classDecodesCard

/-- THE TIED CARD OF 'tenonlaw10.ClassBack'. -/
def classBackCard : Claim7 := { stood := { row := classBackRow, standIns := [], harness := (true, "8cc8708e59043d9364bee22e96cbc62bf862fe4984e431c8e935dc913cdef25a"), looks := true }, kinds := [], alts := [], laidByText := true, laidKinds := [.data], laidTests := true, laidLooks := .later }
def ClassBackCardSaid : Prop := Claim7.holds Tryd.pinned (.plain (OpenSpec.ofChange classBackSpec)) classBackCard

/-- THE TIED CARD OF 'tenonlaw10.ClassFinds'. -/
def classFindsCard : Claim7 := { stood := { row := classFindsRow, standIns := [], harness := (true, "8cc8708e59043d9364bee22e96cbc62bf862fe4984e431c8e935dc913cdef25a"), looks := true }, kinds := [], alts := [], laidByText := true, laidKinds := [.data], laidTests := true, laidLooks := .later }
def ClassFindsCardSaid : Prop := Claim7.holds Tryd.pinned (.plain (OpenSpec.ofChange classFindsSpec)) classFindsCard

/-- THE SECOND FORM's CARD OF 'tenonlaw10.ClassChecks'. -/
def classChecksUptoCard : Claim7 := { stood := { row := classChecksUptoRow, standIns := [], harness := (true, "8cc8708e59043d9364bee22e96cbc62bf862fe4984e431c8e935dc913cdef25a"), looks := true }, kinds := [], alts := [], laidByText := true, laidKinds := [.data], laidTests := true, laidLooks := .later }
def ClassChecksUptoCardSaid : Prop := Claim7.holds Tryd.pinned (.plain (OpenSpec.upto classChecksSpec)) classChecksUptoCard

/-- THE SECOND FORM's CARD OF 'tenonlaw10.ClassEncodes'. -/
def classEncodesUptoCard : Claim7 := { stood := { row := classEncodesUptoRow, standIns := [], harness := (true, "8cc8708e59043d9364bee22e96cbc62bf862fe4984e431c8e935dc913cdef25a"), looks := true }, kinds := [], alts := [], laidByText := true, laidKinds := [.data], laidTests := true, laidLooks := .later }
def ClassEncodesUptoCardSaid : Prop := Claim7.holds Tryd.pinned (.plain (OpenSpec.upto classEncodesSpec)) classEncodesUptoCard

/-- THE SECOND FORM's CARD OF 'tenonlaw10.ClassDecodes'. -/
def classDecodesUptoCard : Claim7 := { stood := { row := classDecodesUptoRow, standIns := [], harness := (true, "8cc8708e59043d9364bee22e96cbc62bf862fe4984e431c8e935dc913cdef25a"), looks := true }, kinds := [], alts := [], laidByText := true, laidKinds := [.data], laidTests := true, laidLooks := .later }
def ClassDecodesUptoCardSaid : Prop := Claim7.holds Tryd.pinned (.plain (OpenSpec.upto classDecodesSpec)) classDecodesUptoCard

/-- THE SECOND FORM's CARD OF 'tenonlaw10.ClassBack'. -/
def classBackUptoCard : Claim7 := { stood := { row := classBackUptoRow, standIns := [], harness := (true, "8cc8708e59043d9364bee22e96cbc62bf862fe4984e431c8e935dc913cdef25a"), looks := true }, kinds := [], alts := [], laidByText := true, laidKinds := [.data], laidTests := true, laidLooks := .later }
def ClassBackUptoCardSaid : Prop := Claim7.holds Tryd.pinned (.plain (OpenSpec.upto classBackSpec)) classBackUptoCard

/-- THE SECOND FORM's CARD OF 'tenonlaw10.ClassFinds'. -/
def classFindsUptoCard : Claim7 := { stood := { row := classFindsUptoRow, standIns := [], harness := (true, "8cc8708e59043d9364bee22e96cbc62bf862fe4984e431c8e935dc913cdef25a"), looks := true }, kinds := [], alts := [], laidByText := true, laidKinds := [.data], laidTests := true, laidLooks := .later }
def ClassFindsUptoCardSaid : Prop := Claim7.holds Tryd.pinned (.plain (OpenSpec.upto classFindsSpec)) classFindsUptoCard
end Rows
end Go.Proofs.YtgfimkeopohjaaaDoor
