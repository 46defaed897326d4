/-
  Texts of this proof, one behind the other: Inst10, Open, Open3.
-/
import Derived.Test.YtclkckinpjkglaaDoorG11
import Derived.Test.YtclkckinpjkglaaDoorG17
import Derived.Test.YtclkckinpjkglaaDoorG19
import Derived.Test.YtclkckinpjkglaaDoorG20
import Derived.Test.YtclkckinpjkglaaDoorRows
import Derived.Test.YtclkckinpjkglaaDoorG14
import Derived.ProofKit
import Derived.OpenShut
import Derived.LaidLaws
import Derived.ChangeVars
import Derived.Laws.IdiomArrays
import Derived.Stop.Joined
import Derived.Test.YtclkckinpjkglaaDoorG7
import Derived.Deep.Slices
import Derived.Carry
import Derived.SizedLaws
/-
  The laws of layer 10 over the landed code.
-/
namespace Go.Proofs.YtclkckinpjkglaaDoor
open Go Go.RowKit

theorem operSwaps (f g : Fn) (w : World) (hL : LowW w) :
    Calls Tryd.prog 3 #[fv f, fv g] w fun e w' => e = .returned (.bool true) ∧ Below w.heap.size w w' :=
  operSwaps' storeC (readC storeC) (iteC storeC) (operC (iteC storeC)) (fun W _ => up10 storeC (iteC storeC) (operC (iteC storeC)) W) f g w hL

end Go.Proofs.YtclkckinpjkglaaDoor

/-
  How a function of eight variables comes in and reads; the table of words as it is laid.
-/
namespace Go.Proofs.YtclkckinpjkglaaDoor
open Go Go.ChangeShapes Go.WideShapes Go.ChangeAt Go.RowKit

/-- The function of four words. -/
def ofWords (a b c d : Nat) : Fn := ofRow fun x => if x < 64 then a.testBit x else if x < 128 then b.testBit (x - 64) else if x < 192 then c.testBit (x - 128) else d.testBit (x - 192)

set_option maxRecDepth 100000 in
theorem wd_of_bits (f : Fn) (i a : Nat) (ha : a < 2 ^ 64) (h : ∀ j, j < 64 → f.getLsbD (64 * i + j) = a.testBit j) : wd f i = a := by
  refine Nat.eq_of_testBit_eq fun j => ?_
  unfold wd
  rw [BitVec.testBit_toNat, BitVec.getLsbD_extractLsb']
  by_cases hj : j < 64
  · rw [h j hj]; simp [hj]
  · have : a.testBit j = false := Nat.testBit_lt_two_pow (Nat.lt_of_lt_of_le ha (Nat.pow_le_pow_right (by decide) (by omega)))
    rw [this]; simp [hj]

set_option maxRecDepth 100000 in
theorem wd_ofWords (a b c d : Nat) (ha : a < 2 ^ 64) (hb : b < 2 ^ 64) (hc : c < 2 ^ 64) (hd : d < 2 ^ 64) :
    wd (ofWords a b c d) 0 = a ∧ wd (ofWords a b c d) 1 = b ∧ wd (ofWords a b c d) 2 = c ∧ wd (ofWords a b c d) 3 = d := by
  refine ⟨wd_of_bits _ _ _ ha fun j hj => ?_, wd_of_bits _ _ _ hb fun j hj => ?_, wd_of_bits _ _ _ hc fun j hj => ?_, wd_of_bits _ _ _ hd fun j hj => ?_⟩
  · rw [ofWords, ofRow_bit _ _ (by omega), if_pos (by omega), show 64 * 0 + j = j by omega]
  · rw [ofWords, ofRow_bit _ _ (by omega), if_neg (by omega), if_pos (by omega), show 64 * 1 + j - 64 = j by omega]
  · rw [ofWords, ofRow_bit _ _ (by omega), if_neg (by omega), if_neg (by omega), if_pos (by omega), show 64 * 2 + j - 128 = j by omega]
  · rw [ofWords, ofRow_bit _ _ (by omega), if_neg (by omega), if_neg (by omega), if_neg (by omega), show 64 * 3 + j - 192 = j by omega]

/-- What it reads as. -/
def datF {H : Type} (f : Fn) : DataW H := .agg [.lit (.int .u64 (wd f 0)), .lit (.int .u64 (wd f 1)), .lit (.int .u64 (wd f 2)), .lit (.int .u64 (wd f 3))]

set_option maxRecDepth 100000 in
theorem Tryd.cellsF : Tryd.prog.cellsOf 24 = 4 := by kernel_rfl
set_option maxRecDepth 100000 in
theorem Tryd.cellsU : Tryd.prog.cellsOf 22 = 1 := by kernel_rfl
set_option maxRecDepth 100000 in
theorem Tryd.own : ownKnob Tryd.prog.godebug = none := by kernel_rfl

set_option maxRecDepth 100000 in
theorem list4 {α : Type} (l : List α) (h : (⟨l⟩ : Array α).size = 4) : ∃ a b c d, l = [a, b, c, d] := by
  match l, h with
  | [a, b, c, d], _ => exact ⟨a, b, c, d, rfl⟩

set_option maxRecDepth 100000 in
theorem wf_u64 {n : Int} (h : (Lit.int .u64 n).wf = true) : ∃ m : Nat, n = (m : Int) ∧ m < 2 ^ 64 := by
  simp [Lit.wf, IntKind.min, IntKind.max, IntKind.signed, IntKind.bits] at h
  exact ⟨n.toNat, by omega, by omega⟩

set_option maxRecDepth 100000 in
theorem wd_wf (f : Fn) (i : Nat) : (Lit.int .u64 (wd f i)).wf = true := by
  have := wd_lt f i
  simp [Lit.wf, IntKind.min, IntKind.max, IntKind.signed, IntKind.bits]
  omega

section
variable {H : Type} {enc : TypeId × Value → H} {w : World} {base : Nat} {spare : Nat → Bool} {held : Bool}

set_option maxRecDepth 100000 in
theorem open_fn {r : Go.Reach} {b0 : Nat} {v : Value} {d : DataW H} {ps : List MemPlace} (hval : Value.okWide Tryd.prog w r b0 24 v) (hd : DataW.Trod enc Tryd.prog w base spare held 24 v d ps) :
    ∃ f : Fn, v = fv f ∧ d = datF f ∧ ps = [] := by
  obtain ⟨cs, rfl, hsz, _⟩ : ∃ cs, v = .agg cs ∧ cs.size = Tryd.prog.cellsOf 24 ∧ Row.okWide Tryd.prog w r b0 24 cs := by
    simpa [Value.okWide, Tryd.underlying24] using hval
  rw [Tryd.cellsF] at hsz
  obtain ⟨l⟩ := cs
  obtain ⟨c0, c1, c2, c3, rfl⟩ := list4 l hsz
  obtain ⟨fuel, hf⟩ := hd
  obtain ⟨y0, y1, y2, y3, m, hx, hy0, hy1, hy2, hy3⟩ := trod_array4 Tryd.underlying24 Tryd.cellsU hf
  obtain ⟨x0, e0, rfl, w0⟩ := DataW.trod_int Tryd.underlying22 hy0
  obtain ⟨x1, e1, rfl, w1⟩ := DataW.trod_int Tryd.underlying22 hy1
  obtain ⟨x2, e2, rfl, w2⟩ := DataW.trod_int Tryd.underlying22 hy2
  obtain ⟨x3, e3, rfl, w3⟩ := DataW.trod_int Tryd.underlying22 hy3
  simp at e0 e1 e2 e3
  subst e0 e1 e2 e3
  simp only [Prod.mk.injEq] at hx
  obtain ⟨rfl, rfl⟩ := hx
  obtain ⟨a, rfl, ha⟩ := wf_u64 w0
  obtain ⟨b, rfl, hb⟩ := wf_u64 w1
  obtain ⟨c, rfl, hc⟩ := wf_u64 w2
  obtain ⟨e, rfl, he⟩ := wf_u64 w3
  obtain ⟨i0, i1, i2, i3⟩ := wd_ofWords a b c e ha hb hc he
  exact ⟨ofWords a b c e, by rw [fv, i0, i1, i2, i3], by rw [datF, i0, i1, i2, i3], rfl⟩

set_option maxRecDepth 100000 in
theorem shut_fn (f : Fn) : DataW.Trod enc Tryd.prog w base spare held 24 (fv f) (datF f) [] :=
  ⟨2, by simp [fv, datF, DataW.trod, Value.cells, Tryd.underlying24, Tryd.underlying22, Tryd.cellsF, Tryd.cellsU, wd_wf, show List.range 4 = [0, 1, 2, 3] from rfl]⟩
end

/-- The table's cells. -/
def lowCells : Array Value := #[.int .u64 12297829382473034410, .int .u64 14757395258967641292, .int .u64 17361641481138401520, .int .u64 18374966859414961920, .int .u64 18446462603027742720, .int .u64 18446744069414584320]

set_option maxRecDepth 100000 in
theorem Tryd.low : Tryd.prog.globalNamed "bower/tab.lowWords" = some 0 := by kernel_rfl
set_option maxRecDepth 100000 in
theorem Tryd.lowType : (Tryd.prog.globals[0]?).map (·.type) = some 94 := by kernel_rfl
set_option maxRecDepth 100000 in
theorem Tryd.cellsLow : Tryd.prog.cellsOf 94 = 6 := by kernel_rfl

set_option maxRecDepth 100000 in
theorem list6 {α : Type} (l : List α) (h : l.length = 6) : ∃ a b c d e f, l = [a, b, c, d, e, f] := by
  match l, h with
  | [a, b, c, d, e, f], _ => exact ⟨a, b, c, d, e, f, rfl⟩

set_option maxRecDepth 100000 in
theorem low_of_laid {W : World} (h : laidMet Tryd.prog [("bower/tab.lowWords", Rows.laid_bower_tab_lowWords)] W) : W.var? Tryd.prog "bower/tab.lowWords" = some lowCells := by
  obtain ⟨ps, ⟨g, t, cs, fuel, p, q, hg, ht, hvar, hd, _, _⟩, _⟩ := h
  obtain rfl := Option.some.inj (Tryd.low.symm.trans hg)
  obtain rfl := Option.some.inj (Tryd.lowType.symm.trans ht)
  rw [hvar]
  congr 1
  obtain ⟨l⟩ := cs
  cases fuel with
  | zero => simp [DataW.trod] at hd
  | succ fuel =>
    simp only [DataW.trod, Tryd.underlying94, Tryd.cellsLow, Tryd.cellsU] at hd
    split at hd
    · rename_i hl
      obtain ⟨c0, c1, c2, c3, c4, c5, rfl⟩ := list6 l (by simpa using hl)
      have e : List.range 6 = [0, 1, 2, 3, 4, 5] := rfl
      rw [e] at hd
      simp only [Option.map_eq_some_iff, List.mapM_cons, List.mapM_nil, Option.bind_eq_bind, Option.bind_eq_some_iff, Option.pure_def, Option.some.injEq] at hd
      obtain ⟨xs, ⟨y0, h0, _, ⟨y1, h1, _, ⟨y2, h2, _, ⟨y3, h3, _, ⟨y4, h4, _, ⟨y5, h5, _, rfl, rfl⟩, rfl⟩, rfl⟩, rfl⟩, rfl⟩, rfl⟩, hx⟩ := hd
      obtain ⟨n0, e0, rfl, _⟩ := DataW.trod_int Tryd.underlying22 h0
      obtain ⟨n1, e1, rfl, _⟩ := DataW.trod_int Tryd.underlying22 h1
      obtain ⟨n2, e2, rfl, _⟩ := DataW.trod_int Tryd.underlying22 h2
      obtain ⟨n3, e3, rfl, _⟩ := DataW.trod_int Tryd.underlying22 h3
      obtain ⟨n4, e4, rfl, _⟩ := DataW.trod_int Tryd.underlying22 h4
      obtain ⟨n5, e5, rfl, _⟩ := DataW.trod_int Tryd.underlying22 h5
      simp at e0 e1 e2 e3 e4 e5
      subst e0 e1 e2 e3 e4 e5
      simp [Rows.laid_bower_tab_lowWords] at hx
      obtain ⟨⟨rfl, rfl, rfl, rfl, rfl, rfl⟩, _⟩ := hx
      rfl
    · cases hd

set_option maxRecDepth 100000 in
theorem lowW_of_laid {W : World} (h : laidMet Tryd.prog [("bower/tab.lowWords", Rows.laid_bower_tab_lowWords)] W) : LowW W := by
  intro i hi
  rw [World.var?_cell Tryd.low (low_of_laid h) i]
  rcases (by omega : i = 0 ∨ i = 1 ∨ i = 2 ∨ i = 3 ∨ i = 4 ∨ i = 5) with rfl | rfl | rfl | rfl | rfl | rfl <;> rfl

/-- A world in which the table is laid. -/
noncomputable def laidWorld (os : Os) : World :=
  { World.holding Tryd.prog os ⟨#[], #[], []⟩ with heap := (World.holding Tryd.prog os ⟨#[], #[], []⟩).heap.modify 0 fun
      | .cells _ t frozen => .cells lowCells t frozen
      | o => o }

set_option maxRecDepth 100000 in
theorem laidWorld_row (os : Os) (args : Array Value) : ((laidWorld os).forCall (fun _ _ => 0) ⟨#[], args, []⟩).memory.heap[0]? = some (.cells lowCells 94 (0, 0)) := by kernel_rfl

set_option maxRecDepth 100000 in
theorem laidWorld_met (os : Os) (args : Array Value) : laidMet Tryd.prog [("bower/tab.lowWords", Rows.laid_bower_tab_lowWords)] ((laidWorld os).forCall (fun _ _ => 0) ⟨#[], args, []⟩).memory :=
  ⟨_, ⟨0, 94, lowCells, 8, [], [], by kernel_rfl, by kernel_rfl, by kernel_rfl, by kernel_rfl, rfl, rfl⟩, by decide, fun b off h => by
    have h' : MemPlace.cell b off ∈ [MemPlace.cell 0 0, .cell 0 1, .cell 0 2, .cell 0 3, .cell 0 4, .cell 0 5] := h
    have hb : b = 0 := by
      simp at h'
      omega
    subst hb
    refine ⟨⟨_, _, laidWorld_row os args⟩, fun u v hc => ?_⟩
    simp only [World.cell?, laidWorld_row os args] at hc
    simp at h'
    rcases h' with rfl | rfl | rfl | rfl | rfl | rfl <;> simp [lowCells] at hc⟩

end Go.Proofs.YtclkckinpjkglaaDoor

/-
  How slices of functions and orders come in; arguments that read behind a call as they did.
-/
namespace Go.Proofs.YtclkckinpjkglaaDoor
open Go Go.ChangeShapes Go.WideShapes Go.ChangeAt Go.RowKit

theorem Tryd.laidOut : laidOutB Tryd.prog = true := by kernel_rfl

section
variable {H : Type} {enc : TypeId × Value → H}

set_option maxRecDepth 100000 in
theorem trodAll_stays {P : Program} (hl : laidOutB P = true) {W W' : World} (hb : Below W.heap.size W W') : ∀ {ts : List TypeId} {vs : List Value} {ds : List (DataW H)} {ps : List MemPlace}, (∀ t ∈ ts, P.readableRec t = true ∧ t < P.types.size) →
    DataW.TrodAll enc P W 0 (fun _ => true) true ts vs ds ps → (∀ x ∈ ps, x.block < W.heap.size) → DataW.TrodAll enc P W' 0 (fun b => decide (b < W.heap.size)) true ts vs ds ps
  | [], [], [], _, _, h, _ => h
  | _ :: _, _ :: _, _ :: _, _, hT, ⟨p, q, h1, h2, e⟩, hs =>
    ⟨p, q, Below.trod hl (hT _ (List.mem_cons.2 (Or.inl rfl))).1 (hT _ (List.mem_cons.2 (Or.inl rfl))).2 h1 hb (fun x hx => hs x (by rw [e]; exact List.mem_append_left _ hx)),
      trodAll_stays hl hb (fun t ht => hT t (List.mem_cons.2 (Or.inr ht))) h2 (fun x hx => hs x (by rw [e]; exact List.mem_append_right _ hx)), e⟩

variable {w : World} {base : Nat} {spare : Nat → Bool} {held : Bool}

set_option maxRecDepth 100000 in
theorem trod_fn {fuel : Nat} {cs : List Value} {x : DataW H × List MemPlace} (hlen : cs.length = 4) (h : DataW.trod enc Tryd.prog w base spare held fuel 24 cs = some x) :
    ∃ f : Fn, cs = [.int .u64 (wd f 0), .int .u64 (wd f 1), .int .u64 (wd f 2), .int .u64 (wd f 3)] := by
  obtain ⟨c0, c1, c2, c3, rfl⟩ := list4 cs (by simpa using hlen)
  obtain ⟨y0, y1, y2, y3, m, hx, hy0, hy1, hy2, hy3⟩ := trod_array4 Tryd.underlying24 Tryd.cellsU h
  obtain ⟨x0, e0, _, w0⟩ := DataW.trod_int Tryd.underlying22 hy0
  obtain ⟨x1, e1, _, w1⟩ := DataW.trod_int Tryd.underlying22 hy1
  obtain ⟨x2, e2, _, w2⟩ := DataW.trod_int Tryd.underlying22 hy2
  obtain ⟨x3, e3, _, w3⟩ := DataW.trod_int Tryd.underlying22 hy3
  simp at e0 e1 e2 e3
  subst e0 e1 e2 e3
  obtain ⟨a, rfl, ha⟩ := wf_u64 w0
  obtain ⟨b, rfl, hb⟩ := wf_u64 w1
  obtain ⟨c, rfl, hc⟩ := wf_u64 w2
  obtain ⟨e, rfl, he⟩ := wf_u64 w3
  obtain ⟨i0, i1, i2, i3⟩ := wd_ofWords a b c e ha hb hc he
  exact ⟨ofWords a b c e, by rw [i0, i1, i2, i3]⟩

set_option maxRecDepth 100000 in
theorem list8 {α : Type} (l : List α) (h : l.length = 8) : ∃ a b c d e f g i, l = [a, b, c, d, e, f, g, i] := by
  match l, h with
  | [a, b, c, d, e, f, g, i], _ => exact ⟨a, b, c, d, e, f, g, i, rfl⟩

set_option maxRecDepth 100000 in
theorem Tryd.cellsO : Tryd.prog.cellsOf 43 = 8 := by kernel_rfl
set_option maxRecDepth 100000 in
theorem Tryd.cellsI : Tryd.prog.cellsOf 3 = 1 := by kernel_rfl

set_option maxRecDepth 100000 in
/-- An order that came in. -/
theorem open_order {r : Go.Reach} {b0 : Nat} {v : Value} {d : DataW H} {ps : List MemPlace} (hval : Value.okWide Tryd.prog w r b0 43 v) (hd : DataW.Trod enc Tryd.prog w base spare held 43 v d ps) :
    ∃ o : Nat → Int, v = ov o ∧ ∀ i, (Lit.int .i64 (o i)).wf = true := by
  obtain ⟨cs, rfl, hsz, _⟩ : ∃ cs, v = .agg cs ∧ cs.size = Tryd.prog.cellsOf 43 ∧ Row.okWide Tryd.prog w r b0 43 cs := by
    simpa [Value.okWide, Tryd.underlying43] using hval
  rw [Tryd.cellsO] at hsz
  obtain ⟨l⟩ := cs
  obtain ⟨c0, c1, c2, c3, c4, c5, c6, c7, rfl⟩ := list8 l (by simpa using hsz)
  obtain ⟨fuel, hf⟩ := hd
  obtain ⟨xs, m, _, _, _, hxl, hget⟩ := DataW.trod_array Tryd.underlying43 hf
  rw [Tryd.cellsI] at hget
  have key : ∀ i (c : Value), i < 8 → ((Value.agg #[c0, c1, c2, c3, c4, c5, c6, c7]).cells.toList.drop (i * 1)).take 1 = [c] → ∃ n, c = .int .i64 n ∧ (Lit.int .i64 n).wf = true := fun i c hi hc => by
    have h1 := hget i hi
    rw [hc, List.getElem?_eq_getElem (by omega)] at h1
    obtain ⟨n, e, _, hw⟩ := DataW.trod_int Tryd.underlying3 h1
    exact ⟨n, by simpa using e, hw⟩
  obtain ⟨n0, rfl, w0⟩ := key 0 c0 (by decide) rfl
  obtain ⟨n1, rfl, w1⟩ := key 1 c1 (by decide) rfl
  obtain ⟨n2, rfl, w2⟩ := key 2 c2 (by decide) rfl
  obtain ⟨n3, rfl, w3⟩ := key 3 c3 (by decide) rfl
  obtain ⟨n4, rfl, w4⟩ := key 4 c4 (by decide) rfl
  obtain ⟨n5, rfl, w5⟩ := key 5 c5 (by decide) rfl
  obtain ⟨n6, rfl, w6⟩ := key 6 c6 (by decide) rfl
  obtain ⟨n7, rfl, w7⟩ := key 7 c7 (by decide) rfl
  refine ⟨fun i => [n0, n1, n2, n3, n4, n5, n6, n7].getD i 0, rfl, fun i => ?_⟩
  rcases Nat.lt_or_ge i 8 with hi | hi
  · rcases (by omega : i = 0 ∨ i = 1 ∨ i = 2 ∨ i = 3 ∨ i = 4 ∨ i = 5 ∨ i = 6 ∨ i = 7) with rfl | rfl | rfl | rfl | rfl | rfl | rfl | rfl <;> assumption
  · have e : [n0, n1, n2, n3, n4, n5, n6, n7].getD i 0 = 0 := by simp [List.getD, List.getElem?_eq_none (show [n0, n1, n2, n3, n4, n5, n6, n7].length ≤ i by simpa using hi)]
    simp only [e]
    decide
end


end Go.Proofs.YtclkckinpjkglaaDoor
