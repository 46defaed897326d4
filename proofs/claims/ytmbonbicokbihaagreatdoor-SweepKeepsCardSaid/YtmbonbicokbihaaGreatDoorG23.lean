/-
  Texts of this proof, one behind the other: ReadI, Inst12.
-/
import Derived.Test.YtmbonbicokbihaaGreatDoorG20
import Derived.Test.YtmbonbicokbihaaGreatDoorG22
import Derived.Test.YtmbonbicokbihaaGreatDoorG17
import Derived.Test.YtmbonbicokbihaaGreatDoorG10
import Derived.Test.YtmbonbicokbihaaGreatDoorG15
import Derived.Test.YtmbonbicokbihaaGreatDoorG18
/-
  The code's package read keeps its contracts.
-/
namespace Go.Proofs.YtmbonbicokbihaaGreatDoor
open Go Go.RowKit

theorem readC {StAt : World → Nat → (Nat → Prop) → MS → Prop} (H : StoreC StAt) : ReadC StAt where
  table hL h ok n hn := readTable H ok 8 n _ hL h (ok.dep_le n) hn
  reach h ok roots v hv hl hr := readReach H h ok roots v hv hl hr
  build hL hlow h ok f := readBuild H 8 _ f _ _ hL hlow h ok (supN_8 f)

end Go.Proofs.YtmbonbicokbihaaGreatDoor

/-
  The laws of layer 12 over the landed code.
-/
namespace Go.Proofs.YtmbonbicokbihaaGreatDoor
open Go Go.RowKit

theorem reachC {StAt : World → Nat → (Nat → Prop) → MS → Prop} (H : StoreC StAt) : ReachC StAt where
  reach h ok roots v hv hl hr := readReach H h ok roots v hv hl hr

theorem sweepKeeps (l : List Fn) (keep : List Bool) (swaps : List Int) (vl vb vs : Value) (w : World) (hL : LowW w) (hl : SliceF w vl l) (_ : l.length ≤ maxLen) (hb : Reads encB w vb keep) (_ : keep.length ≤ maxLen) (_ : ∀ a ∈ keep, True) (hs : Reads encI w vs swaps) (_ : swaps.length ≤ maxLen) (hwf : ∀ n ∈ swaps, (Lit.int .i64 n).wf = true) :
    Calls Tryz.prog 3 #[vl, vb, vs] w fun e w' => e = .returned (.bool true) ∧ Below w.heap.size w w' :=
  sweepKeeps' storeC (readC storeC) (sweepC storeC (reachC storeC)) (fun W _ => up12 storeC (sweepC storeC (reachC storeC)) W) l keep swaps vl vb vs w hL hl hb hs hwf

end Go.Proofs.YtmbonbicokbihaaGreatDoor
