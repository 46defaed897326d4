/-
  DERIVED. GIVEN WITH THE SEED: THE CARDS: each row of YtbackhbcbbkhfaaDoorRows.lean that lists a variable, with what it lists TIED to the program's text (the seventh form; the later family's looks); each row that meets fmt, with fmt's text TOLD by the authors' own Lean function (tested against real Go, not proved from fmt's source: count such statements apart). THE CARD IS WHAT COUNTS. Prove the row's statement (the work); the ties are given (YtbackhbcbbkhfaaDoorTie.lean); close each card by the builder's one call (the guide's Derived/Test/ToyasCard.lean, 'card_holds'). Laid BY PROGRAM, IN A SANDBOX (cutbox-door.mjs). By AI agents, Wed Nov 11 2026. No macro, syntax, notation, axiom, sorry.
-/
import Derived.Test.YtbackhbcbbkhfaaDoorRows
import GoSem.ClaimSeven
namespace Go.Proofs.YtbackhbcbbkhfaaDoor
namespace Rows

/-- THE TIED CARD OF 'bowerlaw09.IteSame'. -/
def iteSameCard : Claim7 := { stood := { row := iteSameRow, standIns := [], harness := (true, "402758200899422047b32ee3b859c930b405f2df79efc39d0d88a22b76509b35"), looks := true }, kinds := [], alts := [], laidByText := true, laidKinds := [.data], laidTests := true, laidLooks := .later }
def IteSameCardSaid : Prop := Claim7.holds Tryd.pinned (.plain (OpenSpec.ofChange iteSameSpec)) iteSameCard

/-- THE SECOND FORM's CARD OF 'bowerlaw09.IteSame'. -/
def iteSameUptoCard : Claim7 := { stood := { row := iteSameUptoRow, standIns := [], harness := (true, "402758200899422047b32ee3b859c930b405f2df79efc39d0d88a22b76509b35"), looks := true }, kinds := [], alts := [], laidByText := true, laidKinds := [.data], laidTests := true, laidLooks := .later }
def IteSameUptoCardSaid : Prop := Claim7.holds Tryd.pinned (.plain (OpenSpec.upto iteSameSpec)) iteSameUptoCard
end Rows
end Go.Proofs.YtbackhbcbbkhfaaDoor
