/-
  DERIVED. GIVEN WITH THE SEED: THE CARDS: each row of YtoopeaahpmfleaaGreatDoorRows.lean that lists a variable, with what it lists TIED to the program's text (the seventh form; the later family's looks); each row that meets fmt, with fmt's text TOLD by the authors' own Lean function (tested against real Go, not proved from fmt's source: count such statements apart). THE CARD IS WHAT COUNTS. Prove the row's statement (the work); the ties are given (YtoopeaahpmfleaaGreatDoorTie.lean); close each card by the builder's one call (the guide's Derived/Test/ToyasCard.lean, 'card_holds'). Laid BY PROGRAM, IN A SANDBOX (cutbox-door.mjs). By AI agents, Wed Nov 11 2026. No macro, syntax, notation, axiom, sorry.
-/
import Derived.Test.YtoopeaahpmfleaaGreatDoorRows
import GoSem.ClaimSeven
namespace Go.Proofs.YtoopeaahpmfleaaGreatDoor
namespace Rows

/-- THE TIED CARD OF 'bowerlaw11.QuantTells'. -/
def quantTellsCard : Claim7 := { stood := { row := quantTellsRow, standIns := [], harness := (true, "aade86fe09da8cb172810d0db4f4413111ad4d3a7aec551b5c1a0a73fa2f3a1a"), looks := true }, kinds := [], alts := [], laidByText := true, laidKinds := [.data], laidTests := true, laidLooks := .later }
def QuantTellsCardSaid : Prop := Claim7.holds Tryz.pinned (.plain (OpenSpec.ofChange quantTellsSpec)) quantTellsCard

/-- THE TIED CARD OF 'bowerlaw11.QuantReads'. -/
def quantReadsCard : Claim7 := { stood := { row := quantReadsRow, standIns := [], harness := (true, "aade86fe09da8cb172810d0db4f4413111ad4d3a7aec551b5c1a0a73fa2f3a1a"), looks := true }, kinds := [], alts := [], laidByText := true, laidKinds := [.data], laidTests := true, laidLooks := .later }
def QuantReadsCardSaid : Prop := Claim7.holds Tryz.pinned (.plain (OpenSpec.ofChange quantReadsSpec)) quantReadsCard

/-- THE SECOND FORM's CARD OF 'bowerlaw11.QuantTells'. -/
def quantTellsUptoCard : Claim7 := { stood := { row := quantTellsUptoRow, standIns := [], harness := (true, "aade86fe09da8cb172810d0db4f4413111ad4d3a7aec551b5c1a0a73fa2f3a1a"), looks := true }, kinds := [], alts := [], laidByText := true, laidKinds := [.data], laidTests := true, laidLooks := .later }
def QuantTellsUptoCardSaid : Prop := Claim7.holds Tryz.pinned (.plain (OpenSpec.upto quantTellsSpec)) quantTellsUptoCard

/-- THE SECOND FORM's CARD OF 'bowerlaw11.QuantReads'. -/
def quantReadsUptoCard : Claim7 := { stood := { row := quantReadsUptoRow, standIns := [], harness := (true, "aade86fe09da8cb172810d0db4f4413111ad4d3a7aec551b5c1a0a73fa2f3a1a"), looks := true }, kinds := [], alts := [], laidByText := true, laidKinds := [.data], laidTests := true, laidLooks := .later }
def QuantReadsUptoCardSaid : Prop := Claim7.holds Tryz.pinned (.plain (OpenSpec.upto quantReadsSpec)) quantReadsUptoCard
end Rows
end Go.Proofs.YtoopeaahpmfleaaGreatDoor
