/-
  DERIVED. GIVEN WITH THE SEED: THE CARDS: each row of YtpcilfnnfhfgaaaGreatDoorRows.lean that lists a variable, with what it lists TIED to the program's text (the seventh form; the later family's looks); each row that meets fmt, with fmt's text TOLD by the authors' own Lean function (tested against real Go, not proved from fmt's source: count such statements apart). THE CARD IS WHAT COUNTS. Prove the row's statement (the work); the ties are given (YtpcilfnnfhfgaaaGreatDoorTie.lean); close each card by the builder's one call (the guide's Derived/Test/ToyasCard.lean, 'card_holds'). Laid BY PROGRAM, IN A SANDBOX (cutbox-door.mjs). By AI agents, Wed Nov 11 2026. No macro, syntax, notation, axiom, sorry.
-/
import Derived.Test.YtpcilfnnfhfgaaaGreatDoorRows
import GoSem.ClaimSeven
namespace Go.Proofs.YtpcilfnnfhfgaaaGreatDoor
namespace Rows

/-- THE TIED CARD OF 'bowerlaw08.ReadTells'. -/
def readTellsCard : Claim7 := { stood := { row := readTellsRow, standIns := [], harness := (true, "57b95bc24e5d221be5ecc66c86caddebe6daf5949165992baa43653277c1bf6a"), looks := true }, kinds := [], alts := [], laidByText := true, laidKinds := [.data], laidTests := true, laidLooks := .later }
def ReadTellsCardSaid : Prop := Claim7.holds Tryz.pinned (.plain (OpenSpec.ofChange readTellsSpec)) readTellsCard

/-- THE TIED CARD OF 'bowerlaw08.ReadBuilds'. -/
def readBuildsCard : Claim7 := { stood := { row := readBuildsRow, standIns := [], harness := (true, "57b95bc24e5d221be5ecc66c86caddebe6daf5949165992baa43653277c1bf6a"), looks := true }, kinds := [], alts := [], laidByText := true, laidKinds := [.data], laidTests := true, laidLooks := .later }
def ReadBuildsCardSaid : Prop := Claim7.holds Tryz.pinned (.plain (OpenSpec.ofChange readBuildsSpec)) readBuildsCard

/-- THE TIED CARD OF 'bowerlaw08.ReadBack'. -/
def readBackCard : Claim7 := { stood := { row := readBackRow, standIns := [], harness := (true, "57b95bc24e5d221be5ecc66c86caddebe6daf5949165992baa43653277c1bf6a"), looks := true }, kinds := [], alts := [], laidByText := true, laidKinds := [.data], laidTests := true, laidLooks := .later }
def ReadBackCardSaid : Prop := Claim7.holds Tryz.pinned (.plain (OpenSpec.ofChange readBackSpec)) readBackCard

/-- THE SECOND FORM's CARD OF 'bowerlaw08.ReadTells'. -/
def readTellsUptoCard : Claim7 := { stood := { row := readTellsUptoRow, standIns := [], harness := (true, "57b95bc24e5d221be5ecc66c86caddebe6daf5949165992baa43653277c1bf6a"), looks := true }, kinds := [], alts := [], laidByText := true, laidKinds := [.data], laidTests := true, laidLooks := .later }
def ReadTellsUptoCardSaid : Prop := Claim7.holds Tryz.pinned (.plain (OpenSpec.upto readTellsSpec)) readTellsUptoCard

/-- THE SECOND FORM's CARD OF 'bowerlaw08.ReadBuilds'. -/
def readBuildsUptoCard : Claim7 := { stood := { row := readBuildsUptoRow, standIns := [], harness := (true, "57b95bc24e5d221be5ecc66c86caddebe6daf5949165992baa43653277c1bf6a"), looks := true }, kinds := [], alts := [], laidByText := true, laidKinds := [.data], laidTests := true, laidLooks := .later }
def ReadBuildsUptoCardSaid : Prop := Claim7.holds Tryz.pinned (.plain (OpenSpec.upto readBuildsSpec)) readBuildsUptoCard

/-- THE SECOND FORM's CARD OF 'bowerlaw08.ReadBack'. -/
def readBackUptoCard : Claim7 := { stood := { row := readBackUptoRow, standIns := [], harness := (true, "57b95bc24e5d221be5ecc66c86caddebe6daf5949165992baa43653277c1bf6a"), looks := true }, kinds := [], alts := [], laidByText := true, laidKinds := [.data], laidTests := true, laidLooks := .later }
def ReadBackUptoCardSaid : Prop := Claim7.holds Tryz.pinned (.plain (OpenSpec.upto readBackSpec)) readBackUptoCard
end Rows
end Go.Proofs.YtpcilfnnfhfgaaaGreatDoor
