/-
  Texts of this proof, one behind the other: Inst12.
-/
import Derived.Test.YtmbonbicokbihaaGreatG13
import Derived.Test.YtmbonbicokbihaaGreatG21
import Derived.Test.YtmbonbicokbihaaGreatG18
import Derived.Test.YtmbonbicokbihaaGreatG19
/-
  The laws of layer 12 over the landed code.
-/
namespace Go.Proofs.YtmbonbicokbihaaGreat
open Go Go.RowKit

theorem reachC {StAt : World → Nat → (Nat → Prop) → MS → Prop} (H : StoreC StAt) : ReachC StAt where
  reach h ok roots v hv hl hr := readReach H h ok roots v hv hl hr

theorem sweepTells (most : Int) (l : List D7) (roots : List Int) (more : List D7) (v vr vm : Value) (w : World) (hv : Reads encD7 w v l) (hl : l.length ≤ maxLen) (hwf : ∀ d ∈ l, d.good)
    (hr : Reads encI w vr roots) (hrl : roots.length ≤ maxLen) (hrw : ∀ r ∈ roots, (Lit.int .i64 r).wf = true) (hm : Reads encD7 w vm more) (hml : more.length ≤ maxLen) (hmw : ∀ d ∈ more, d.good) :
    Calls Tryz.prog 3 #[.int .i64 most, v, vr, vm] w fun e w' => e = .returned (.bool true) ∧ Below w.heap.size w w' :=
  sweepTells' storeC (sweepC storeC (reachC storeC)) most l roots more v vr vm w hv hl hwf hr hrl hrw hm hml hmw

end Go.Proofs.YtmbonbicokbihaaGreat
