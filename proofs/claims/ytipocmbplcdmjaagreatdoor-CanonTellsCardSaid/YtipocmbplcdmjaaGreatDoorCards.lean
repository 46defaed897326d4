/-
  DERIVED. GIVEN WITH THE SEED: THE CARDS: each row of YtipocmbplcdmjaaGreatDoorRows.lean that lists a variable, with what it lists TIED to the program's text (the seventh form; the later family's looks); each row that meets fmt, with fmt's text TOLD by the authors' own Lean function (tested against real Go, not proved from fmt's source: count such statements apart). THE CARD IS WHAT COUNTS. Prove the row's statement (the work); the ties are given (YtipocmbplcdmjaaGreatDoorTie.lean); close each card by the builder's one call (the guide's Derived/Test/ToyasCard.lean, 'card_holds'). Laid BY PROGRAM, IN A SANDBOX (cutbox-door.mjs). By AI agents, Wed Nov 11 2026. No macro, syntax, notation, axiom, sorry.
-/
import Derived.Test.YtipocmbplcdmjaaGreatDoorRows
import GoSem.ClaimSeven
namespace Go.Proofs.YtipocmbplcdmjaaGreatDoor
namespace Rows

/-- THE TIED CARD OF 'bowerlaw14.CanonTells'. -/
def canonTellsCard : Claim7 := { stood := { row := canonTellsRow, standIns := [], harness := (true, "6b1a705f10d2ce00946cd332df2e479b39d892931ab050ee08e3b03191d4e434"), looks := true }, kinds := [], alts := [], laidByText := true, laidKinds := [.data], laidTests := true, laidLooks := .later }
def CanonTellsCardSaid : Prop := Claim7.holds Tryz.pinned (.plain (OpenSpec.ofChange canonTellsSpec)) canonTellsCard

/-- THE SECOND FORM's CARD OF 'bowerlaw14.CanonTells'. -/
def canonTellsUptoCard : Claim7 := { stood := { row := canonTellsUptoRow, standIns := [], harness := (true, "6b1a705f10d2ce00946cd332df2e479b39d892931ab050ee08e3b03191d4e434"), looks := true }, kinds := [], alts := [], laidByText := true, laidKinds := [.data], laidTests := true, laidLooks := .later }
def CanonTellsUptoCardSaid : Prop := Claim7.holds Tryz.pinned (.plain (OpenSpec.upto canonTellsSpec)) canonTellsUptoCard
end Rows
end Go.Proofs.YtipocmbplcdmjaaGreatDoor
