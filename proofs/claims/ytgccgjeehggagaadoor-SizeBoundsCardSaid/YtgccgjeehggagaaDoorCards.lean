/-
  DERIVED. GIVEN WITH THE SEED: THE CARDS: each row of YtgccgjeehggagaaDoorRows.lean that lists a variable, with what it lists TIED to the program's text (the seventh form; the later family's looks); each row that meets fmt, with fmt's text TOLD by the authors' own Lean function (tested against real Go, not proved from fmt's source: count such statements apart). THE CARD IS WHAT COUNTS. Prove the row's statement (the work); the ties are given (YtgccgjeehggagaaDoorTie.lean); close each card by the builder's one call (the guide's Derived/Test/ToyasCard.lean, 'card_holds'). Laid BY PROGRAM, IN A SANDBOX (cutbox-door.mjs). By AI agents, Wed Nov 11 2026. No macro, syntax, notation, axiom, sorry.
-/
import Derived.Test.YtgccgjeehggagaaDoorRows
import GoSem.ClaimSeven
namespace Go.Proofs.YtgccgjeehggagaaDoor
namespace Rows

/-- THE TIED CARD OF 'bowerlaw03.SizeTells'. -/
def sizeTellsCard : Claim7 := { stood := { row := sizeTellsRow, standIns := [], harness := (true, "819b270bf72b77a833ded1b0808e947b9a6c11f811bc6ea4c434f49e462e8382"), looks := false }, kinds := [], alts := [], laidByText := true, laidKinds := [.data], laidTests := true, laidLooks := .later }
def SizeTellsCardSaid : Prop := Claim7.holds Tryd.pinned (.plain (OpenSpec.ofChange sizeTellsSpec)) sizeTellsCard

/-- THE TIED CARD OF 'bowerlaw03.SizeBounds'. -/
def sizeBoundsCard : Claim7 := { stood := { row := sizeBoundsRow, standIns := [], harness := (true, "819b270bf72b77a833ded1b0808e947b9a6c11f811bc6ea4c434f49e462e8382"), looks := false }, kinds := [], alts := [], laidByText := true, laidKinds := [.data], laidTests := true, laidLooks := .later }
def SizeBoundsCardSaid : Prop := Claim7.holds Tryd.pinned (.plain (OpenSpec.ofChange sizeBoundsSpec)) sizeBoundsCard

/-- THE SECOND FORM's CARD OF 'bowerlaw03.SizeTells'. -/
def sizeTellsUptoCard : Claim7 := { stood := { row := sizeTellsUptoRow, standIns := [], harness := (true, "819b270bf72b77a833ded1b0808e947b9a6c11f811bc6ea4c434f49e462e8382"), looks := false }, kinds := [], alts := [], laidByText := true, laidKinds := [.data], laidTests := true, laidLooks := .later }
def SizeTellsUptoCardSaid : Prop := Claim7.holds Tryd.pinned (.plain (OpenSpec.upto sizeTellsSpec)) sizeTellsUptoCard

/-- THE SECOND FORM's CARD OF 'bowerlaw03.SizeBounds'. -/
def sizeBoundsUptoCard : Claim7 := { stood := { row := sizeBoundsUptoRow, standIns := [], harness := (true, "819b270bf72b77a833ded1b0808e947b9a6c11f811bc6ea4c434f49e462e8382"), looks := false }, kinds := [], alts := [], laidByText := true, laidKinds := [.data], laidTests := true, laidLooks := .later }
def SizeBoundsUptoCardSaid : Prop := Claim7.holds Tryd.pinned (.plain (OpenSpec.upto sizeBoundsSpec)) sizeBoundsUptoCard
end Rows
end Go.Proofs.YtgccgjeehggagaaDoor
