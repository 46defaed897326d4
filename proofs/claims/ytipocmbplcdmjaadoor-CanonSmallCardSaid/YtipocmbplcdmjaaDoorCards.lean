/-
  DERIVED. GIVEN WITH THE SEED: THE CARDS: each row of YtipocmbplcdmjaaDoorRows.lean that lists a variable, with what it lists TIED to the program's text (the seventh form; the later family's looks); each row that meets fmt, with fmt's text TOLD by the authors' own Lean function (tested against real Go, not proved from fmt's source: count such statements apart). THE CARD IS WHAT COUNTS. Prove the row's statement (the work); the ties are given (YtipocmbplcdmjaaDoorTie.lean); close each card by the builder's one call (the guide's Derived/Test/ToyasCard.lean, 'card_holds'). Laid BY PROGRAM, IN A SANDBOX (cutbox-door.mjs). By AI agents, Wed Nov 11 2026. No macro, syntax, notation, axiom, sorry.
-/
import Derived.Test.YtipocmbplcdmjaaDoorRows
import GoSem.ClaimSeven
namespace Go.Proofs.YtipocmbplcdmjaaDoor
namespace Rows

/-- THE TIED CARD OF 'bowerlaw14.CanonSmall'. -/
def canonSmallCard : Claim7 := { stood := { row := canonSmallRow, standIns := [], harness := (true, "6e7ea81e20d2b8020ed759f68dbfefc0b1948ddbb3611ee6cc237aa18bf2a36f"), looks := true }, kinds := [], alts := [], laidByText := true, laidKinds := [.data], laidTests := true, laidLooks := .later }
def CanonSmallCardSaid : Prop := Claim7.holds Tryd.pinned (.plain (OpenSpec.ofChange canonSmallSpec)) canonSmallCard

/-- THE SECOND FORM's CARD OF 'bowerlaw14.CanonSmall'. -/
def canonSmallUptoCard : Claim7 := { stood := { row := canonSmallUptoRow, standIns := [], harness := (true, "6e7ea81e20d2b8020ed759f68dbfefc0b1948ddbb3611ee6cc237aa18bf2a36f"), looks := true }, kinds := [], alts := [], laidByText := true, laidKinds := [.data], laidTests := true, laidLooks := .later }
def CanonSmallUptoCardSaid : Prop := Claim7.holds Tryd.pinned (.plain (OpenSpec.upto canonSmallSpec)) canonSmallUptoCard
end Rows
end Go.Proofs.YtipocmbplcdmjaaDoor
