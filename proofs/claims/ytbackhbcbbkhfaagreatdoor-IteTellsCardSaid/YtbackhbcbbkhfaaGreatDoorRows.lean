/-
  NARROWER THAN 'FOR EVERY INPUT', by the rows' own cells (each row's printed sentence says how): IteTells: laid.
  DERIVED. THE GIVEN ROWS OF THIS SEAT. 1 by the template 'for every input the law returns true; each argument reads behind the call as it read before'; 0 by the template 'total and deterministic' (their statements: YtbackhbcbbkhfaaGreatDoorTotals.lean).
  GIVEN WITH THE SEED: the statements are not yours to turn. If you find one false, say at which input.
  Laid BY PROGRAM, IN A SANDBOX (cutbox-rows.mjs): the forced cells as the released guide's own fill.sh prints them over the translation 2fb5fc0e7e39ec74… (all of the seat's roots in one cut). By AI agents, Wed Nov 11 2026. No macro, syntax, notation, axiom, sorry.
-/
import Derived.Test.YtbackhbcbbkhfaaGreatDoorChecked
import GoSem.Claim
import GoSem.ClaimJoined
import GoSem.ClaimMapViews
import Derived.JoinedTies
import Derived.KernelRfl
namespace Go.Proofs.YtbackhbcbbkhfaaGreatDoor
/- THE CELL 'sum', in the pinned program and in every row, IS THE sha256 OF THE DUMP (.gsa) THAT YtbackhbcbbkhfaaGreatDoorProg.lean LOADS. Nothing in Lean hashes anything: it is a label: what it is worth is what the hold of that sum in a sandbox is worth. -/
noncomputable def Tryz.pinned : Pinned := { name := "ytbackhbcbbkhfaagreatdoor", sum := "2fb5fc0e7e39ec745d4e36e5ee97897652c4b237bdbd02f123f3cb6caf236e44", checked := Tryz.checked }
namespace Rows
def none {H : Type} : Left H := { results := [], args := [] }

/- WHAT THE LISTED PACKAGE-LEVEL VARIABLES READ AS WHEN THE CALL BEGINS. Each datum BY PROGRAM (the guide's laid-datum.mjs) off the statement by which the dump's own 'gosem.cut.vars' lays the variable. In a bare row this is a premise. The card (YtbackhbcbbkhfaaGreatDoorCards.lean) ties it to the program's text. -/
def laid_bower_tab_lowWords {H : Type} : DataW H := .agg [.lit (.int .u64 12297829382473034410), .lit (.int .u64 14757395258967641292), .lit (.int .u64 17361641481138401520), .lit (.int .u64 18374966859414961920), .lit (.int .u64 18446462603027742720), .lit (.int .u64 18446744069414584320)]

/-- 'bowerlaw09.IteTells': WHATEVER THE INPUT: true; the input reads as it did. -/
def iteTellsSpec : ChangeSpec := { name := "iteTells", fn := fun _ => fun
  | [d1, d2, d3, d4] => { results := [.lit (.bool true)], args := [d1, d2, d3, d4] }
  | _ => none }
def iteTellsRow : OpenClaim := { program := "ytbackhbcbbkhfaagreatdoor", sum := "2fb5fc0e7e39ec745d4e36e5ee97897652c4b237bdbd02f123f3cb6caf236e44", func := "bower/bowerlaw09.IteTells", spec := "iteTells", recurses := true, named := ["bower/tab.lowWords"], plainKeys := false, apart := false, laid := [("bower/tab.lowWords", laid_bower_tab_lowWords)] }
def IteTellsSaid : Prop := iteTellsRow.holds Tryz.pinned (OpenSpec.ofChange iteTellsSpec)

/-- ITS FALSE NEIGHBOUR: 'it returns false'. Refute it at one input. -/
def iteTellsWrong : ChangeSpec := { name := "iteTells", fn := fun _ => fun
  | [d1, d2, d3, d4] => { results := [.lit (.bool false)], args := [d1, d2, d3, d4] }
  | _ => none }
def IteTellsWrongFalsely : Prop := iteTellsRow.holds Tryz.pinned (OpenSpec.ofChange iteTellsWrong)

/- THE SECOND FORM. 'bulk': how many values and letters a reading holds, each counted each time it is reached (what is shared counts as often as it is met; a slice's spare places count too). A statement '..UptoSaid' is the law's where the arguments, and the package variables that the reading takes, are together of bulk at most 1048576: NARROWER than '..Said'. Prove '..Said' where nothing that the law and all that it calls make is longer than what came in: it says more and counts as full. Else prove '..UptoSaid'. A law counts once. -/
mutual
def uptoBulk {H : Type} : DataW H → Nat
  | .lit (.string bytes) => bytes.length + 1
  | .lit _ => 1
  | .nil => 1
  | .ptr d => uptoBulk d + 1
  | .slice elems spare => uptoBulkAll elems + uptoBulkAll spare + 1
  | .agg parts => uptoBulkAll parts + 1
  | .iface _ d => uptoBulk d + 1
  | .map entries => uptoBulkEntries entries + 1
  | .held _ => 1
def uptoBulkAll {H : Type} : List (DataW H) → Nat
  | [] => 0
  | d :: r => uptoBulk d + uptoBulkAll r
def uptoBulkEntries {H : Type} : List (Lit × DataW H) → Nat
  | [] => 0
  | x :: r => uptoBulkEntry x + uptoBulkEntries r
def uptoBulkEntry {H : Type} : Lit × DataW H → Nat
  | (.string bytes, d) => bytes.length + uptoBulk d + 1
  | (_, d) => uptoBulk d + 1
 end
def uptoSmall : (H : Type) → List (DataW H) → Bool := fun _ ds => decide (uptoBulkAll ds ≤ 1048576)
def OpenSpec.upto (s : _root_.Go.ChangeSpec) : _root_.Go.OpenSpec := { _root_.Go.OpenSpec.ofChange s with cond := some uptoSmall }

/-- 'bowerlaw09.IteTells', WHERE WHAT IT READS IS OF BULK AT MOST 1048576: true; the input reads as it did. -/
def iteTellsUptoRow : OpenClaim := { program := "ytbackhbcbbkhfaagreatdoor", sum := "2fb5fc0e7e39ec745d4e36e5ee97897652c4b237bdbd02f123f3cb6caf236e44", func := "bower/bowerlaw09.IteTells", spec := "iteTells", recurses := true, named := ["bower/tab.lowWords"], plainKeys := false, apart := false, laid := [("bower/tab.lowWords", laid_bower_tab_lowWords)], narrowed := true }
def IteTellsUptoSaid : Prop := iteTellsUptoRow.holds Tryz.pinned (OpenSpec.upto iteTellsSpec)

end Rows
end Go.Proofs.YtbackhbcbbkhfaaGreatDoor
