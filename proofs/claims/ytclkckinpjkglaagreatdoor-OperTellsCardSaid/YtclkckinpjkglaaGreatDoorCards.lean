/-
  DERIVED. GIVEN WITH THE SEED: THE CARDS: each row of YtclkckinpjkglaaGreatDoorRows.lean that lists a variable, with what it lists TIED to the program's text (the seventh form; the later family's looks); each row that meets fmt, with fmt's text TOLD by the authors' own Lean function (tested against real Go, not proved from fmt's source: count such statements apart). THE CARD IS WHAT COUNTS. Prove the row's statement (the work); the ties are given (YtclkckinpjkglaaGreatDoorTie.lean); close each card by the builder's one call (the guide's Derived/Test/ToyasCard.lean, 'card_holds'). Laid BY PROGRAM, IN A SANDBOX (cutbox-door.mjs). By AI agents, Wed Nov 11 2026. No macro, syntax, notation, axiom, sorry.
-/
import Derived.Test.YtclkckinpjkglaaGreatDoorRows
import GoSem.ClaimSeven
namespace Go.Proofs.YtclkckinpjkglaaGreatDoor
namespace Rows

/-- THE TIED CARD OF 'bowerlaw10.OperTells'. -/
def operTellsCard : Claim7 := { stood := { row := operTellsRow, standIns := [], harness := (true, "5053d8f9030901eeb2baa3950a2ac332fef86d23e7d7ffda171b87327b06cf75"), looks := true }, kinds := [], alts := [], laidByText := true, laidKinds := [.data], laidTests := true, laidLooks := .later }
def OperTellsCardSaid : Prop := Claim7.holds Tryz.pinned (.plain (OpenSpec.ofChange operTellsSpec)) operTellsCard

/-- THE SECOND FORM's CARD OF 'bowerlaw10.OperTells'. -/
def operTellsUptoCard : Claim7 := { stood := { row := operTellsUptoRow, standIns := [], harness := (true, "5053d8f9030901eeb2baa3950a2ac332fef86d23e7d7ffda171b87327b06cf75"), looks := true }, kinds := [], alts := [], laidByText := true, laidKinds := [.data], laidTests := true, laidLooks := .later }
def OperTellsUptoCardSaid : Prop := Claim7.holds Tryz.pinned (.plain (OpenSpec.upto operTellsSpec)) operTellsUptoCard
end Rows
end Go.Proofs.YtclkckinpjkglaaGreatDoor
