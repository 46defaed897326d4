/-
  DERIVED. GIVEN WITH THE SEED: THE CARDS: each row of YtekaapceopfelaaDoorRows.lean that lists a variable, with what it lists TIED to the program's text (the seventh form; the later family's looks); each row that meets fmt, with fmt's text TOLD by the authors' own Lean function (tested against real Go, not proved from fmt's source: count such statements apart). THE CARD IS WHAT COUNTS. Prove the row's statement (the work); the ties are given (YtekaapceopfelaaDoorTie.lean); close each card by the builder's one call (the guide's Derived/Test/ToyasCard.lean, 'card_holds'). Laid BY PROGRAM, IN A SANDBOX (cutbox-door.mjs). By AI agents, Wed Nov 11 2026. No macro, syntax, notation, axiom, sorry.
-/
import Derived.Test.YtekaapceopfelaaDoorRows
import GoSem.ClaimSeven
namespace Go.Proofs.YtekaapceopfelaaDoor
namespace Rows

/-- THE TIED CARD OF 'bowerlaw01.TabTells'. -/
def tabTellsCard : Claim7 := { stood := { row := tabTellsRow, standIns := [], harness := (true, "55cb18312e0a523367af9d3879df85dd102637ac27d0873e068283ffb2bda36d"), looks := false }, kinds := [], alts := [], laidByText := true, laidKinds := [.data], laidTests := true, laidLooks := .later }
def TabTellsCardSaid : Prop := Claim7.holds Tryd.pinned (.plain (OpenSpec.ofChange tabTellsSpec)) tabTellsCard

/-- THE TIED CARD OF 'bowerlaw01.TabRows'. -/
def tabRowsCard : Claim7 := { stood := { row := tabRowsRow, standIns := [], harness := (true, "55cb18312e0a523367af9d3879df85dd102637ac27d0873e068283ffb2bda36d"), looks := false }, kinds := [], alts := [], laidByText := true, laidKinds := [.data], laidTests := true, laidLooks := .later }
def TabRowsCardSaid : Prop := Claim7.holds Tryd.pinned (.plain (OpenSpec.ofChange tabRowsSpec)) tabRowsCard

/-- THE SECOND FORM's CARD OF 'bowerlaw01.TabTells'. -/
def tabTellsUptoCard : Claim7 := { stood := { row := tabTellsUptoRow, standIns := [], harness := (true, "55cb18312e0a523367af9d3879df85dd102637ac27d0873e068283ffb2bda36d"), looks := false }, kinds := [], alts := [], laidByText := true, laidKinds := [.data], laidTests := true, laidLooks := .later }
def TabTellsUptoCardSaid : Prop := Claim7.holds Tryd.pinned (.plain (OpenSpec.upto tabTellsSpec)) tabTellsUptoCard

/-- THE SECOND FORM's CARD OF 'bowerlaw01.TabRows'. -/
def tabRowsUptoCard : Claim7 := { stood := { row := tabRowsUptoRow, standIns := [], harness := (true, "55cb18312e0a523367af9d3879df85dd102637ac27d0873e068283ffb2bda36d"), looks := false }, kinds := [], alts := [], laidByText := true, laidKinds := [.data], laidTests := true, laidLooks := .later }
def TabRowsUptoCardSaid : Prop := Claim7.holds Tryd.pinned (.plain (OpenSpec.upto tabRowsSpec)) tabRowsUptoCard
end Rows
end Go.Proofs.YtekaapceopfelaaDoor
