/-
  DERIVED. GIVEN WITH THE SEED: THE CARDS: each row of YtbackhbcbbkhfaaGreatDoorRows.lean that lists a variable, with what it lists TIED to the program's text (the seventh form; the later family's looks); each row that meets fmt, with fmt's text TOLD by the authors' own Lean function (tested against real Go, not proved from fmt's source: count such statements apart). THE CARD IS WHAT COUNTS. Prove the row's statement (the work); the ties are given (YtbackhbcbbkhfaaGreatDoorTie.lean); close each card by the builder's one call (the guide's Derived/Test/ToyasCard.lean, 'card_holds'). Laid BY PROGRAM, IN A SANDBOX (cutbox-door.mjs). By AI agents, Wed Nov 11 2026. No macro, syntax, notation, axiom, sorry.
-/
import Derived.Test.YtbackhbcbbkhfaaGreatDoorRows
import GoSem.ClaimSeven
namespace Go.Proofs.YtbackhbcbbkhfaaGreatDoor
namespace Rows

/-- THE TIED CARD OF 'bowerlaw09.IteTells'. -/
def iteTellsCard : Claim7 := { stood := { row := iteTellsRow, standIns := [], harness := (true, "04660285929ad54aa949113774a7c2bc332f680e621f5629323e52ffe27493aa"), looks := true }, kinds := [], alts := [], laidByText := true, laidKinds := [.data], laidTests := true, laidLooks := .later }
def IteTellsCardSaid : Prop := Claim7.holds Tryz.pinned (.plain (OpenSpec.ofChange iteTellsSpec)) iteTellsCard

/-- THE SECOND FORM's CARD OF 'bowerlaw09.IteTells'. -/
def iteTellsUptoCard : Claim7 := { stood := { row := iteTellsUptoRow, standIns := [], harness := (true, "04660285929ad54aa949113774a7c2bc332f680e621f5629323e52ffe27493aa"), looks := true }, kinds := [], alts := [], laidByText := true, laidKinds := [.data], laidTests := true, laidLooks := .later }
def IteTellsUptoCardSaid : Prop := Claim7.holds Tryz.pinned (.plain (OpenSpec.upto iteTellsSpec)) iteTellsUptoCard
end Rows
end Go.Proofs.YtbackhbcbbkhfaaGreatDoor
