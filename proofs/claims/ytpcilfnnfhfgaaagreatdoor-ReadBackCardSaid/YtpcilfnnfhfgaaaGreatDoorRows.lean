/-
  NARROWER THAN 'FOR EVERY INPUT', by the rows' own cells (each row's printed sentence says how): ReadTells: laid · ReadBuilds: laid · ReadBack: laid.
  DERIVED. THE GIVEN ROWS OF THIS SEAT. 3 by the template 'for every input the law returns true; each argument reads behind the call as it read before'; 0 by the template 'total and deterministic' (their statements: YtpcilfnnfhfgaaaGreatDoorTotals.lean).
  GIVEN WITH THE SEED: the statements are not yours to turn. If you find one false, say at which input.
  Laid BY PROGRAM, IN A SANDBOX (cutbox-rows.mjs): the forced cells as the released guide's own fill.sh prints them over the translation 9b77c1957a7f63e1… (all of the seat's roots in one cut). By AI agents, Wed Nov 11 2026. No macro, syntax, notation, axiom, sorry.
-/
import Derived.Test.YtpcilfnnfhfgaaaGreatDoorChecked
import GoSem.Claim
import GoSem.ClaimJoined
import GoSem.ClaimMapViews
import Derived.JoinedTies
import Derived.KernelRfl
namespace Go.Proofs.YtpcilfnnfhfgaaaGreatDoor
/- THE CELL 'sum', in the pinned program and in every row, IS THE sha256 OF THE DUMP (.gsa) THAT YtpcilfnnfhfgaaaGreatDoorProg.lean LOADS. Nothing in Lean hashes anything: it is a label: what it is worth is what the hold of that sum in a sandbox is worth. -/
noncomputable def Tryz.pinned : Pinned := { name := "ytpcilfnnfhfgaaagreatdoor", sum := "9b77c1957a7f63e163d2e06789d7f2d629bd3beae0e6a0f1324520ba6eba143d", checked := Tryz.checked }
namespace Rows
def none {H : Type} : Left H := { results := [], args := [] }

/- WHAT THE LISTED PACKAGE-LEVEL VARIABLES READ AS WHEN THE CALL BEGINS. Each datum BY PROGRAM (the guide's laid-datum.mjs) off the statement by which the dump's own 'gosem.cut.vars' lays the variable. In a bare row this is a premise. The card (YtpcilfnnfhfgaaaGreatDoorCards.lean) ties it to the program's text. -/
def laid_bower_tab_lowWords {H : Type} : DataW H := .agg [.lit (.int .u64 12297829382473034410), .lit (.int .u64 14757395258967641292), .lit (.int .u64 17361641481138401520), .lit (.int .u64 18374966859414961920), .lit (.int .u64 18446462603027742720), .lit (.int .u64 18446744069414584320)]

/-- 'bowerlaw08.ReadTells': WHATEVER THE INPUT: true; the input reads as it did. -/
def readTellsSpec : ChangeSpec := { name := "readTells", fn := fun _ => fun
  | [d1, d2, d3, d4, d5, d6] => { results := [.lit (.bool true)], args := [d1, d2, d3, d4, d5, d6] }
  | _ => none }
def readTellsRow : OpenClaim := { program := "ytpcilfnnfhfgaaagreatdoor", sum := "9b77c1957a7f63e163d2e06789d7f2d629bd3beae0e6a0f1324520ba6eba143d", func := "bower/bowerlaw08.ReadTells", spec := "readTells", unfollowed := true, recurses := true, named := ["bower/tab.lowWords"], plainKeys := false, apart := false, laid := [("bower/tab.lowWords", laid_bower_tab_lowWords)] }
def ReadTellsSaid : Prop := readTellsRow.holds Tryz.pinned (OpenSpec.ofChange readTellsSpec)

/-- ITS FALSE NEIGHBOUR: 'it returns false'. Refute it at one input. -/
def readTellsWrong : ChangeSpec := { name := "readTells", fn := fun _ => fun
  | [d1, d2, d3, d4, d5, d6] => { results := [.lit (.bool false)], args := [d1, d2, d3, d4, d5, d6] }
  | _ => none }
def ReadTellsWrongFalsely : Prop := readTellsRow.holds Tryz.pinned (OpenSpec.ofChange readTellsWrong)

/-- 'bowerlaw08.ReadBuilds': WHATEVER THE INPUT: true; the input reads as it did. -/
def readBuildsSpec : ChangeSpec := { name := "readBuilds", fn := fun _ => fun
  | [d1, d2, d3] => { results := [.lit (.bool true)], args := [d1, d2, d3] }
  | _ => none }
def readBuildsRow : OpenClaim := { program := "ytpcilfnnfhfgaaagreatdoor", sum := "9b77c1957a7f63e163d2e06789d7f2d629bd3beae0e6a0f1324520ba6eba143d", func := "bower/bowerlaw08.ReadBuilds", spec := "readBuilds", unfollowed := true, recurses := true, named := ["bower/tab.lowWords"], plainKeys := false, apart := false, laid := [("bower/tab.lowWords", laid_bower_tab_lowWords)] }
def ReadBuildsSaid : Prop := readBuildsRow.holds Tryz.pinned (OpenSpec.ofChange readBuildsSpec)

/-- ITS FALSE NEIGHBOUR: 'it returns false'. Refute it at one input. -/
def readBuildsWrong : ChangeSpec := { name := "readBuilds", fn := fun _ => fun
  | [d1, d2, d3] => { results := [.lit (.bool false)], args := [d1, d2, d3] }
  | _ => none }
def ReadBuildsWrongFalsely : Prop := readBuildsRow.holds Tryz.pinned (OpenSpec.ofChange readBuildsWrong)

/-- 'bowerlaw08.ReadBack': WHATEVER THE INPUT: true; the input reads as it did. -/
def readBackSpec : ChangeSpec := { name := "readBack", fn := fun _ => fun
  | [d1, d2, d3, d4] => { results := [.lit (.bool true)], args := [d1, d2, d3, d4] }
  | _ => none }
def readBackRow : OpenClaim := { program := "ytpcilfnnfhfgaaagreatdoor", sum := "9b77c1957a7f63e163d2e06789d7f2d629bd3beae0e6a0f1324520ba6eba143d", func := "bower/bowerlaw08.ReadBack", spec := "readBack", unfollowed := true, recurses := true, named := ["bower/tab.lowWords"], plainKeys := false, apart := false, laid := [("bower/tab.lowWords", laid_bower_tab_lowWords)] }
def ReadBackSaid : Prop := readBackRow.holds Tryz.pinned (OpenSpec.ofChange readBackSpec)

/-- ITS FALSE NEIGHBOUR: 'it returns false'. Refute it at one input. -/
def readBackWrong : ChangeSpec := { name := "readBack", fn := fun _ => fun
  | [d1, d2, d3, d4] => { results := [.lit (.bool false)], args := [d1, d2, d3, d4] }
  | _ => none }
def ReadBackWrongFalsely : Prop := readBackRow.holds Tryz.pinned (OpenSpec.ofChange readBackWrong)

/- THE SECOND FORM. 'bulk': how many values and letters a reading holds, each counted each time it is reached (what is shared counts as often as it is met; a slice's spare places count too). A statement '..UptoSaid' is the law's where the arguments, and the package variables that the reading takes, are together of bulk at most 1048576: NARROWER than '..Said'. Prove '..Said' where nothing that the law and all that it calls make is longer than what came in: it says more and counts as full. Else prove '..UptoSaid'. A law counts once. -/
mutual
def uptoBulk {H : Type} : DataW H → Nat
  | .lit (.string bytes) => bytes.length + 1
  | .lit _ => 1
  | .nil => 1
  | .ptr d => uptoBulk d + 1
  | .slice elems spare => uptoBulkAll elems + uptoBulkAll spare + 1
  | .agg parts => uptoBulkAll parts + 1
  | .iface _ d => uptoBulk d + 1
  | .map entries => uptoBulkEntries entries + 1
  | .held _ => 1
def uptoBulkAll {H : Type} : List (DataW H) → Nat
  | [] => 0
  | d :: r => uptoBulk d + uptoBulkAll r
def uptoBulkEntries {H : Type} : List (Lit × DataW H) → Nat
  | [] => 0
  | x :: r => uptoBulkEntry x + uptoBulkEntries r
def uptoBulkEntry {H : Type} : Lit × DataW H → Nat
  | (.string bytes, d) => bytes.length + uptoBulk d + 1
  | (_, d) => uptoBulk d + 1
 end
def uptoSmall : (H : Type) → List (DataW H) → Bool := fun _ ds => decide (uptoBulkAll ds ≤ 1048576)
def OpenSpec.upto (s : _root_.Go.ChangeSpec) : _root_.Go.OpenSpec := { _root_.Go.OpenSpec.ofChange s with cond := some uptoSmall }

/-- 'bowerlaw08.ReadTells', WHERE WHAT IT READS IS OF BULK AT MOST 1048576: true; the input reads as it did. -/
def readTellsUptoRow : OpenClaim := { program := "ytpcilfnnfhfgaaagreatdoor", sum := "9b77c1957a7f63e163d2e06789d7f2d629bd3beae0e6a0f1324520ba6eba143d", func := "bower/bowerlaw08.ReadTells", spec := "readTells", unfollowed := true, recurses := true, named := ["bower/tab.lowWords"], plainKeys := false, apart := false, laid := [("bower/tab.lowWords", laid_bower_tab_lowWords)], narrowed := true }
def ReadTellsUptoSaid : Prop := readTellsUptoRow.holds Tryz.pinned (OpenSpec.upto readTellsSpec)

/-- 'bowerlaw08.ReadBuilds', WHERE WHAT IT READS IS OF BULK AT MOST 1048576: true; the input reads as it did. -/
def readBuildsUptoRow : OpenClaim := { program := "ytpcilfnnfhfgaaagreatdoor", sum := "9b77c1957a7f63e163d2e06789d7f2d629bd3beae0e6a0f1324520ba6eba143d", func := "bower/bowerlaw08.ReadBuilds", spec := "readBuilds", unfollowed := true, recurses := true, named := ["bower/tab.lowWords"], plainKeys := false, apart := false, laid := [("bower/tab.lowWords", laid_bower_tab_lowWords)], narrowed := true }
def ReadBuildsUptoSaid : Prop := readBuildsUptoRow.holds Tryz.pinned (OpenSpec.upto readBuildsSpec)

/-- 'bowerlaw08.ReadBack', WHERE WHAT IT READS IS OF BULK AT MOST 1048576: true; the input reads as it did. -/
def readBackUptoRow : OpenClaim := { program := "ytpcilfnnfhfgaaagreatdoor", sum := "9b77c1957a7f63e163d2e06789d7f2d629bd3beae0e6a0f1324520ba6eba143d", func := "bower/bowerlaw08.ReadBack", spec := "readBack", unfollowed := true, recurses := true, named := ["bower/tab.lowWords"], plainKeys := false, apart := false, laid := [("bower/tab.lowWords", laid_bower_tab_lowWords)], narrowed := true }
def ReadBackUptoSaid : Prop := readBackUptoRow.holds Tryz.pinned (OpenSpec.upto readBackSpec)

end Rows
end Go.Proofs.YtpcilfnnfhfgaaaGreatDoor
