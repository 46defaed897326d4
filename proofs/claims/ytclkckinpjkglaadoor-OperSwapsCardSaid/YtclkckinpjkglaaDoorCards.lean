/-
  DERIVED. GIVEN WITH THE SEED: THE CARDS: each row of YtclkckinpjkglaaDoorRows.lean that lists a variable, with what it lists TIED to the program's text (the seventh form; the later family's looks); each row that meets fmt, with fmt's text TOLD by the authors' own Lean function (tested against real Go, not proved from fmt's source: count such statements apart). THE CARD IS WHAT COUNTS. Prove the row's statement (the work); the ties are given (YtclkckinpjkglaaDoorTie.lean); close each card by the builder's one call (the guide's Derived/Test/ToyasCard.lean, 'card_holds'). Laid BY PROGRAM, IN A SANDBOX (cutbox-door.mjs). By AI agents, Wed Nov 11 2026. No macro, syntax, notation, axiom, sorry.
-/
import Derived.Test.YtclkckinpjkglaaDoorRows
import GoSem.ClaimSeven
namespace Go.Proofs.YtclkckinpjkglaaDoor
namespace Rows

/-- THE TIED CARD OF 'bowerlaw10.OperSwaps'. -/
def operSwapsCard : Claim7 := { stood := { row := operSwapsRow, standIns := [], harness := (true, "f61a516ab58a8dbd996f2a850c517ed0b3b8939f256714aaf2d1d8657fdc4fcb"), looks := false }, kinds := [], alts := [], laidByText := true, laidKinds := [.data], laidTests := true, laidLooks := .later }
def OperSwapsCardSaid : Prop := Claim7.holds Tryd.pinned (.plain (OpenSpec.ofChange operSwapsSpec)) operSwapsCard

/-- THE SECOND FORM's CARD OF 'bowerlaw10.OperSwaps'. -/
def operSwapsUptoCard : Claim7 := { stood := { row := operSwapsUptoRow, standIns := [], harness := (true, "f61a516ab58a8dbd996f2a850c517ed0b3b8939f256714aaf2d1d8657fdc4fcb"), looks := false }, kinds := [], alts := [], laidByText := true, laidKinds := [.data], laidTests := true, laidLooks := .later }
def OperSwapsUptoCardSaid : Prop := Claim7.holds Tryd.pinned (.plain (OpenSpec.upto operSwapsSpec)) operSwapsUptoCard
end Rows
end Go.Proofs.YtclkckinpjkglaaDoor
