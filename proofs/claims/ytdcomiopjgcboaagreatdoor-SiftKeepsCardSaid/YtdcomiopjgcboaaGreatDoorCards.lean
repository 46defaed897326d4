/-
  DERIVED. GIVEN WITH THE SEED: THE CARDS: each row of YtdcomiopjgcboaaGreatDoorRows.lean that lists a variable, with what it lists TIED to the program's text (the seventh form; the later family's looks); each row that meets fmt, with fmt's text TOLD by the authors' own Lean function (tested against real Go, not proved from fmt's source: count such statements apart). THE CARD IS WHAT COUNTS. Prove the row's statement (the work); the ties are given (YtdcomiopjgcboaaGreatDoorTie.lean); close each card by the builder's one call (the guide's Derived/Test/ToyasCard.lean, 'card_holds'). Laid BY PROGRAM, IN A SANDBOX (cutbox-door.mjs). By AI agents, Wed Nov 11 2026. No macro, syntax, notation, axiom, sorry.
-/
import Derived.Test.YtdcomiopjgcboaaGreatDoorRows
import GoSem.ClaimSeven
namespace Go.Proofs.YtdcomiopjgcboaaGreatDoor
namespace Rows

/-- THE TIED CARD OF 'bowerlaw13.SiftTells'. -/
def siftTellsCard : Claim7 := { stood := { row := siftTellsRow, standIns := [], harness := (true, "007b02a61ba329c393955bfdd13ccb02c75bf170eb4ac7ee37e87c426d22c94f"), looks := true }, kinds := [], alts := [], laidByText := true, laidKinds := [.data], laidTests := true, laidLooks := .later }
def SiftTellsCardSaid : Prop := Claim7.holds Tryz.pinned (.plain (OpenSpec.ofChange siftTellsSpec)) siftTellsCard

/-- THE TIED CARD OF 'bowerlaw13.SiftKeeps'. -/
def siftKeepsCard : Claim7 := { stood := { row := siftKeepsRow, standIns := [], harness := (true, "007b02a61ba329c393955bfdd13ccb02c75bf170eb4ac7ee37e87c426d22c94f"), looks := true }, kinds := [], alts := [], laidByText := true, laidKinds := [.data], laidTests := true, laidLooks := .later }
def SiftKeepsCardSaid : Prop := Claim7.holds Tryz.pinned (.plain (OpenSpec.ofChange siftKeepsSpec)) siftKeepsCard

/-- THE SECOND FORM's CARD OF 'bowerlaw13.SiftTells'. -/
def siftTellsUptoCard : Claim7 := { stood := { row := siftTellsUptoRow, standIns := [], harness := (true, "007b02a61ba329c393955bfdd13ccb02c75bf170eb4ac7ee37e87c426d22c94f"), looks := true }, kinds := [], alts := [], laidByText := true, laidKinds := [.data], laidTests := true, laidLooks := .later }
def SiftTellsUptoCardSaid : Prop := Claim7.holds Tryz.pinned (.plain (OpenSpec.upto siftTellsSpec)) siftTellsUptoCard

/-- THE SECOND FORM's CARD OF 'bowerlaw13.SiftKeeps'. -/
def siftKeepsUptoCard : Claim7 := { stood := { row := siftKeepsUptoRow, standIns := [], harness := (true, "007b02a61ba329c393955bfdd13ccb02c75bf170eb4ac7ee37e87c426d22c94f"), looks := true }, kinds := [], alts := [], laidByText := true, laidKinds := [.data], laidTests := true, laidLooks := .later }
def SiftKeepsUptoCardSaid : Prop := Claim7.holds Tryz.pinned (.plain (OpenSpec.upto siftKeepsSpec)) siftKeepsUptoCard
end Rows
end Go.Proofs.YtdcomiopjgcboaaGreatDoor
