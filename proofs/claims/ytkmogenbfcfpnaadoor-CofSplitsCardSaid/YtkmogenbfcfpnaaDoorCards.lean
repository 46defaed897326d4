/-
  DERIVED. GIVEN WITH THE SEED: THE CARDS: each row of YtkmogenbfcfpnaaDoorRows.lean that lists a variable, with what it lists TIED to the program's text (the seventh form; the later family's looks); each row that meets fmt, with fmt's text TOLD by the authors' own Lean function (tested against real Go, not proved from fmt's source: count such statements apart). THE CARD IS WHAT COUNTS. Prove the row's statement (the work); the ties are given (YtkmogenbfcfpnaaDoorTie.lean); close each card by the builder's one call (the guide's Derived/Test/ToyasCard.lean, 'card_holds'). Laid BY PROGRAM, IN A SANDBOX (cutbox-door.mjs). By AI agents, Wed Nov 11 2026. No macro, syntax, notation, axiom, sorry.
-/
import Derived.Test.YtkmogenbfcfpnaaDoorRows
import GoSem.ClaimSeven
namespace Go.Proofs.YtkmogenbfcfpnaaDoor
namespace Rows

/-- THE TIED CARD OF 'bowerlaw02.CofTells'. -/
def cofTellsCard : Claim7 := { stood := { row := cofTellsRow, standIns := [], harness := (true, "19def3768ddaab0e88fa74e994b97f20be448e82536503ec9d6a104e58e7929d"), looks := false }, kinds := [], alts := [], laidByText := true, laidKinds := [.data], laidTests := true, laidLooks := .later }
def CofTellsCardSaid : Prop := Claim7.holds Tryd.pinned (.plain (OpenSpec.ofChange cofTellsSpec)) cofTellsCard

/-- THE TIED CARD OF 'bowerlaw02.CofSplits'. -/
def cofSplitsCard : Claim7 := { stood := { row := cofSplitsRow, standIns := [], harness := (true, "19def3768ddaab0e88fa74e994b97f20be448e82536503ec9d6a104e58e7929d"), looks := false }, kinds := [], alts := [], laidByText := true, laidKinds := [.data], laidTests := true, laidLooks := .later }
def CofSplitsCardSaid : Prop := Claim7.holds Tryd.pinned (.plain (OpenSpec.ofChange cofSplitsSpec)) cofSplitsCard

/-- THE SECOND FORM's CARD OF 'bowerlaw02.CofTells'. -/
def cofTellsUptoCard : Claim7 := { stood := { row := cofTellsUptoRow, standIns := [], harness := (true, "19def3768ddaab0e88fa74e994b97f20be448e82536503ec9d6a104e58e7929d"), looks := false }, kinds := [], alts := [], laidByText := true, laidKinds := [.data], laidTests := true, laidLooks := .later }
def CofTellsUptoCardSaid : Prop := Claim7.holds Tryd.pinned (.plain (OpenSpec.upto cofTellsSpec)) cofTellsUptoCard

/-- THE SECOND FORM's CARD OF 'bowerlaw02.CofSplits'. -/
def cofSplitsUptoCard : Claim7 := { stood := { row := cofSplitsUptoRow, standIns := [], harness := (true, "19def3768ddaab0e88fa74e994b97f20be448e82536503ec9d6a104e58e7929d"), looks := false }, kinds := [], alts := [], laidByText := true, laidKinds := [.data], laidTests := true, laidLooks := .later }
def CofSplitsUptoCardSaid : Prop := Claim7.holds Tryd.pinned (.plain (OpenSpec.upto cofSplitsSpec)) cofSplitsUptoCard
end Rows
end Go.Proofs.YtkmogenbfcfpnaaDoor
