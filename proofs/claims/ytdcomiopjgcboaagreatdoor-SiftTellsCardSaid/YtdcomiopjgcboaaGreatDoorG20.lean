/-
  Texts of this proof, one behind the other: SiftT, Open, Open3, OpenG.
-/
import Derived.Test.YtdcomiopjgcboaaGreatDoorG17
import Derived.Test.YtdcomiopjgcboaaGreatDoorG19
import Derived.Test.YtdcomiopjgcboaaGreatDoorG15
import Derived.Test.YtdcomiopjgcboaaGreatDoorRows
import Derived.Test.YtdcomiopjgcboaaGreatDoorG13
import Derived.ProofKit
import Derived.OpenShut
import Derived.LaidLaws
import Derived.ChangeVars
import Derived.Laws.IdiomArrays
import Derived.Stop.Joined
import Derived.Test.YtdcomiopjgcboaaGreatDoorG16
import Derived.Test.YtdcomiopjgcboaaGreatDoorG5
import Derived.Deep.Slices
import Derived.Carry
import Derived.SizedLaws
import Derived.Test.YtdcomiopjgcboaaGreatDoorG2
/-
  SiftTells over contracts.
-/
namespace Go.Proofs.YtdcomiopjgcboaaGreatDoor
open Go Go.RowKit

theorem MS.sift_err (s : MS) (roots : List Int) (v grow : Int) : 0 ≤ (s.sift roots v grow).1 ∧ (s.sift roots v grow).1 ≤ 8 := by
  unfold MS.sift
  split <;> (refine ⟨?_, ?_⟩ <;> dsimp only <;> omega)
theorem MS.siftAll_err (s : MS) (roots : List Int) (grow : Int) : 0 ≤ (s.siftAll roots grow).1 ∧ (s.siftAll roots grow).1 ≤ 8 := by
  unfold MS.siftAll
  split <;> (refine ⟨?_, ?_⟩ <;> dsimp only <;> omega)

set_option maxRecDepth 100000 in
set_option maxHeartbeats 8000000 in
theorem siftTells' {StAt : World → Nat → (Nat → Prop) → MS → Prop} (H : StoreC StAt) (R : ReadC StAt) (C : SiftC StAt)
    (most : Int) (k : List Fn) (sw roots : List Int) (x grow : Int) (all : Bool) (vk vs vr : Value) (w : World) (hL : LowW w) (hk : SliceF w vk k) (hs : Reads encI w vs sw) (hsw : ∀ a ∈ sw, (Lit.int .i64 a).wf = true) (hr : Reads encI w vr roots) (hrw : ∀ a ∈ roots, (Lit.int .i64 a).wf = true) :
    Calls Tryz.prog 3 #[.int .i64 most, vk, vs, vr, .int .i64 x, .int .i64 grow, .bool all] w fun e w' => e = .returned (.bool true) ∧ Below w.heap.size w w' := by
  obtain ⟨ar, cr, rfl⟩ := hr.form
  go_enter Tryz.func3, Tryz.ntmps3
  go_wp2_with fail
  refine (up13 H C _).mono ?_
  rintro e w1 ⟨rfl, hb1⟩
  have HB := lawBuilt H R most k sw vk vs w1 (hL.keep hb1) (hk.keep hb1 (Nat.le_refl _)) (hs.keep hb1) hsw
  go_wp2_with fail
  refine HB.mono ?_
  clear HB hk hs hsw hL
  rintro e w2 (⟨rfl, hb2⟩ | ⟨bA, bM, FA, FM, s, rfl, ok, P⟩)
  · go_wp2
    go_ret
    exact ⟨rfl, hb1.trans (hb2.mono hb1.size)⟩
  by_cases hl20 : roots.length ≤ 20
  · have hl3 : ¬ 20 < (roots.length : Int) := by omega
    have hp1 := ok.toBase.picks_le (l := roots) (fun n hn => le_of_wf (hrw n hn))
    have hp2 := ok.toBase.picks_ge (l := roots) (fun n hn => ge_of_wf (hrw n hn))
    have hpl := MS.picks_length s roots
    have HN := lawNodes P.m ok.toBase roots _ (hr.keep (hb1.trans (P.below.mono hb1.size))) (by omega) hrw
    have hrp : ∀ r ∈ s.picks roots, r ≤ 9223372036854775807 ∧ -9223372036854775808 ≤ r := fun r hr => ⟨hp1 r hr, hp2 r hr⟩
    have hpl2 : (s.picks roots).length ≤ 100000 := by omega
    generalize s.picks roots = pk at *
    have hltA := H.lt P.a
    have hltM := P.m.lt
    replace P := Lib.hid P
    clear hr
    go_wp2_with fail
    refine HN.mono ?_
    rintro e w3 ⟨vs, rfl, RS⟩
    clear HN
    have P3 := P.out.keep H RS.below
    have hnA : ∀ g, vs.ownBlock = Option.some g → ¬ FA g := fun g hg hf => by have := RS.new g hg; have := hltA g hf; omega
    have hnM : ∀ g, vs.ownBlock = Option.some g → ¬ FM g := fun g hg hf => by have := RS.new g hg; have := hltM g hf; omega
    clear P
    cases all
    · -- one variable
      have hC := C.sift P3.a ok pk vs (RootsAt.of_owns RS.own hnA) hpl2 hrp x grow
      have hD := fun W (hV : RefSAt W bM FM s) (hrd : RootsAt W FM vs pk) => refSSift hV ok pk vs hrd hpl2 hp1 x grow
      have hE := s.sift_err pk x grow
      generalize s.sift pk x grow = z at *
      obtain ⟨z1, S⟩ := z
      dsimp only at *
      have HC := fun V => lawCode z1 V hE.1 hE.2
      replace P3 := Lib.hid P3
      go_wp2_with fail
      refine hC.mono ?_
      rintro e w4 ⟨rfl, FA4, hA4, hK4, hW4⟩
      have P4 := P3.out.code H hA4 hK4 hW4
      have hrd := RootsAt.of_owns (F := FM) (RS.own.keep hK4 hnA) hnM
      replace P4 := Lib.hid P4
      clear hC hA4 hK4 hW4 P3
      go_wp2_with fail
      refine (HC _).mono ?_
      rintro e w5 ⟨rfl, rfl⟩
      go_wp2_with fail
      refine (hD _ P4.out.m hrd).mono ?_
      rintro e w6 ⟨rfl, okS, FM6, hM6, hK6, hW6⟩
      have P6 := P4.out.ref H hM6 hK6 hW6
      clear hD hM6 hK6 hW6 P4 hrd
      have hSm := lawSame H P6 okS
      replace P6 := Lib.hid P6
      go_wp2_with fail
      refine hSm.mono ?_
      rintro e w7 ⟨rfl, hb7⟩
      have P7 := P6.out.keep H hb7
      go_wp2
      go_ret
      exact ⟨rfl, hb1.trans (P7.below.mono hb1.size)⟩
    · -- all of them
      have hC := C.all P3.a ok pk vs (RootsAt.of_owns RS.own hnA) hpl2 hrp grow
      have hD := fun W (hV : RefSAt W bM FM s) (hrd : RootsAt W FM vs pk) => refSSiftAll hV ok pk vs hrd hpl2 hp1 grow
      have hE := s.siftAll_err pk grow
      generalize s.siftAll pk grow = z at *
      obtain ⟨z1, S⟩ := z
      dsimp only at *
      have HC := fun V => lawCode z1 V hE.1 hE.2
      replace P3 := Lib.hid P3
      go_wp2_with fail
      refine hC.mono ?_
      rintro e w4 ⟨rfl, FA4, hA4, hK4, hW4⟩
      have P4 := P3.out.code H hA4 hK4 hW4
      have hrd := RootsAt.of_owns (F := FM) (RS.own.keep hK4 hnA) hnM
      replace P4 := Lib.hid P4
      clear hC hA4 hK4 hW4 P3
      go_wp2_with fail
      refine (HC _).mono ?_
      rintro e w5 ⟨rfl, rfl⟩
      go_wp2_with fail
      refine (hD _ P4.out.m hrd).mono ?_
      rintro e w6 ⟨rfl, okS, FM6, hM6, hK6, hW6⟩
      have P6 := P4.out.ref H hM6 hK6 hW6
      clear hD hM6 hK6 hW6 P4 hrd
      have hSm := lawSame H P6 okS
      replace P6 := Lib.hid P6
      go_wp2_with fail
      refine hSm.mono ?_
      rintro e w7 ⟨rfl, hb7⟩
      have P7 := P6.out.keep H hb7
      go_wp2
      go_ret
      exact ⟨rfl, hb1.trans (P7.below.mono hb1.size)⟩
  · have hl3 : 20 < (roots.length : Int) := by omega
    go_wp2
    go_ret
    exact ⟨rfl, hb1.trans (P.below.mono hb1.size)⟩

end Go.Proofs.YtdcomiopjgcboaaGreatDoor

/-
  How a function of eight variables comes in and reads; the table of words as it is laid.
-/
namespace Go.Proofs.YtdcomiopjgcboaaGreatDoor
open Go Go.ChangeShapes Go.WideShapes Go.ChangeAt Go.RowKit

/-- The function of four words. -/
def ofWords (a b c d : Nat) : Fn := ofRow fun x => if x < 64 then a.testBit x else if x < 128 then b.testBit (x - 64) else if x < 192 then c.testBit (x - 128) else d.testBit (x - 192)

set_option maxRecDepth 100000 in
theorem wd_of_bits (f : Fn) (i a : Nat) (ha : a < 2 ^ 64) (h : ∀ j, j < 64 → f.getLsbD (64 * i + j) = a.testBit j) : wd f i = a := by
  refine Nat.eq_of_testBit_eq fun j => ?_
  unfold wd
  rw [BitVec.testBit_toNat, BitVec.getLsbD_extractLsb']
  by_cases hj : j < 64
  · rw [h j hj]; simp [hj]
  · have : a.testBit j = false := Nat.testBit_lt_two_pow (Nat.lt_of_lt_of_le ha (Nat.pow_le_pow_right (by decide) (by omega)))
    rw [this]; simp [hj]

set_option maxRecDepth 100000 in
theorem wd_ofWords (a b c d : Nat) (ha : a < 2 ^ 64) (hb : b < 2 ^ 64) (hc : c < 2 ^ 64) (hd : d < 2 ^ 64) :
    wd (ofWords a b c d) 0 = a ∧ wd (ofWords a b c d) 1 = b ∧ wd (ofWords a b c d) 2 = c ∧ wd (ofWords a b c d) 3 = d := by
  refine ⟨wd_of_bits _ _ _ ha fun j hj => ?_, wd_of_bits _ _ _ hb fun j hj => ?_, wd_of_bits _ _ _ hc fun j hj => ?_, wd_of_bits _ _ _ hd fun j hj => ?_⟩
  · rw [ofWords, ofRow_bit _ _ (by omega), if_pos (by omega), show 64 * 0 + j = j by omega]
  · rw [ofWords, ofRow_bit _ _ (by omega), if_neg (by omega), if_pos (by omega), show 64 * 1 + j - 64 = j by omega]
  · rw [ofWords, ofRow_bit _ _ (by omega), if_neg (by omega), if_neg (by omega), if_pos (by omega), show 64 * 2 + j - 128 = j by omega]
  · rw [ofWords, ofRow_bit _ _ (by omega), if_neg (by omega), if_neg (by omega), if_neg (by omega), show 64 * 3 + j - 192 = j by omega]

/-- What it reads as. -/
def datF {H : Type} (f : Fn) : DataW H := .agg [.lit (.int .u64 (wd f 0)), .lit (.int .u64 (wd f 1)), .lit (.int .u64 (wd f 2)), .lit (.int .u64 (wd f 3))]

set_option maxRecDepth 100000 in
theorem Tryz.cellsF : Tryz.prog.cellsOf 46 = 4 := by kernel_rfl
set_option maxRecDepth 100000 in
theorem Tryz.cellsU : Tryz.prog.cellsOf 44 = 1 := by kernel_rfl
set_option maxRecDepth 100000 in
theorem Tryz.own : ownKnob Tryz.prog.godebug = none := by kernel_rfl

set_option maxRecDepth 100000 in
theorem list4 {α : Type} (l : List α) (h : (⟨l⟩ : Array α).size = 4) : ∃ a b c d, l = [a, b, c, d] := by
  match l, h with
  | [a, b, c, d], _ => exact ⟨a, b, c, d, rfl⟩

set_option maxRecDepth 100000 in
theorem wf_u64 {n : Int} (h : (Lit.int .u64 n).wf = true) : ∃ m : Nat, n = (m : Int) ∧ m < 2 ^ 64 := by
  simp [Lit.wf, IntKind.min, IntKind.max, IntKind.signed, IntKind.bits] at h
  exact ⟨n.toNat, by omega, by omega⟩

set_option maxRecDepth 100000 in
theorem wd_wf (f : Fn) (i : Nat) : (Lit.int .u64 (wd f i)).wf = true := by
  have := wd_lt f i
  simp [Lit.wf, IntKind.min, IntKind.max, IntKind.signed, IntKind.bits]
  omega

section
variable {H : Type} {enc : TypeId × Value → H} {w : World} {base : Nat} {spare : Nat → Bool} {held : Bool}

set_option maxRecDepth 100000 in
theorem open_fn {r : Go.Reach} {b0 : Nat} {v : Value} {d : DataW H} {ps : List MemPlace} (hval : Value.okWide Tryz.prog w r b0 46 v) (hd : DataW.Trod enc Tryz.prog w base spare held 46 v d ps) :
    ∃ f : Fn, v = fv f ∧ d = datF f ∧ ps = [] := by
  obtain ⟨cs, rfl, hsz, _⟩ : ∃ cs, v = .agg cs ∧ cs.size = Tryz.prog.cellsOf 46 ∧ Row.okWide Tryz.prog w r b0 46 cs := by
    simpa [Value.okWide, Tryz.underlying46] using hval
  rw [Tryz.cellsF] at hsz
  obtain ⟨l⟩ := cs
  obtain ⟨c0, c1, c2, c3, rfl⟩ := list4 l hsz
  obtain ⟨fuel, hf⟩ := hd
  obtain ⟨y0, y1, y2, y3, m, hx, hy0, hy1, hy2, hy3⟩ := trod_array4 Tryz.underlying46 Tryz.cellsU hf
  obtain ⟨x0, e0, rfl, w0⟩ := DataW.trod_int Tryz.underlying44 hy0
  obtain ⟨x1, e1, rfl, w1⟩ := DataW.trod_int Tryz.underlying44 hy1
  obtain ⟨x2, e2, rfl, w2⟩ := DataW.trod_int Tryz.underlying44 hy2
  obtain ⟨x3, e3, rfl, w3⟩ := DataW.trod_int Tryz.underlying44 hy3
  simp at e0 e1 e2 e3
  subst e0 e1 e2 e3
  simp only [Prod.mk.injEq] at hx
  obtain ⟨rfl, rfl⟩ := hx
  obtain ⟨a, rfl, ha⟩ := wf_u64 w0
  obtain ⟨b, rfl, hb⟩ := wf_u64 w1
  obtain ⟨c, rfl, hc⟩ := wf_u64 w2
  obtain ⟨e, rfl, he⟩ := wf_u64 w3
  obtain ⟨i0, i1, i2, i3⟩ := wd_ofWords a b c e ha hb hc he
  exact ⟨ofWords a b c e, by rw [fv, i0, i1, i2, i3], by rw [datF, i0, i1, i2, i3], rfl⟩

set_option maxRecDepth 100000 in
theorem shut_fn (f : Fn) : DataW.Trod enc Tryz.prog w base spare held 46 (fv f) (datF f) [] :=
  ⟨2, by simp [fv, datF, DataW.trod, Value.cells, Tryz.underlying46, Tryz.underlying44, Tryz.cellsF, Tryz.cellsU, wd_wf, show List.range 4 = [0, 1, 2, 3] from rfl]⟩
end

/-- The table's cells. -/
def lowCells : Array Value := #[.int .u64 12297829382473034410, .int .u64 14757395258967641292, .int .u64 17361641481138401520, .int .u64 18374966859414961920, .int .u64 18446462603027742720, .int .u64 18446744069414584320]

set_option maxRecDepth 100000 in
theorem Tryz.low : Tryz.prog.globalNamed "bower/tab.lowWords" = some 0 := by kernel_rfl
set_option maxRecDepth 100000 in
theorem Tryz.lowType : (Tryz.prog.globals[0]?).map (·.type) = some 150 := by kernel_rfl
set_option maxRecDepth 100000 in
theorem Tryz.cellsLow : Tryz.prog.cellsOf 150 = 6 := by kernel_rfl

set_option maxRecDepth 100000 in
theorem list6 {α : Type} (l : List α) (h : l.length = 6) : ∃ a b c d e f, l = [a, b, c, d, e, f] := by
  match l, h with
  | [a, b, c, d, e, f], _ => exact ⟨a, b, c, d, e, f, rfl⟩

set_option maxRecDepth 100000 in
theorem low_of_laid {W : World} (h : laidMet Tryz.prog [("bower/tab.lowWords", Rows.laid_bower_tab_lowWords)] W) : W.var? Tryz.prog "bower/tab.lowWords" = some lowCells := by
  obtain ⟨ps, ⟨g, t, cs, fuel, p, q, hg, ht, hvar, hd, _, _⟩, _⟩ := h
  obtain rfl := Option.some.inj (Tryz.low.symm.trans hg)
  obtain rfl := Option.some.inj (Tryz.lowType.symm.trans ht)
  rw [hvar]
  congr 1
  obtain ⟨l⟩ := cs
  cases fuel with
  | zero => simp [DataW.trod] at hd
  | succ fuel =>
    simp only [DataW.trod, Tryz.underlying150, Tryz.cellsLow, Tryz.cellsU] at hd
    split at hd
    · rename_i hl
      obtain ⟨c0, c1, c2, c3, c4, c5, rfl⟩ := list6 l (by simpa using hl)
      have e : List.range 6 = [0, 1, 2, 3, 4, 5] := rfl
      rw [e] at hd
      simp only [Option.map_eq_some_iff, List.mapM_cons, List.mapM_nil, Option.bind_eq_bind, Option.bind_eq_some_iff, Option.pure_def, Option.some.injEq] at hd
      obtain ⟨xs, ⟨y0, h0, _, ⟨y1, h1, _, ⟨y2, h2, _, ⟨y3, h3, _, ⟨y4, h4, _, ⟨y5, h5, _, rfl, rfl⟩, rfl⟩, rfl⟩, rfl⟩, rfl⟩, rfl⟩, hx⟩ := hd
      obtain ⟨n0, e0, rfl, _⟩ := DataW.trod_int Tryz.underlying44 h0
      obtain ⟨n1, e1, rfl, _⟩ := DataW.trod_int Tryz.underlying44 h1
      obtain ⟨n2, e2, rfl, _⟩ := DataW.trod_int Tryz.underlying44 h2
      obtain ⟨n3, e3, rfl, _⟩ := DataW.trod_int Tryz.underlying44 h3
      obtain ⟨n4, e4, rfl, _⟩ := DataW.trod_int Tryz.underlying44 h4
      obtain ⟨n5, e5, rfl, _⟩ := DataW.trod_int Tryz.underlying44 h5
      simp at e0 e1 e2 e3 e4 e5
      subst e0 e1 e2 e3 e4 e5
      simp [Rows.laid_bower_tab_lowWords] at hx
      obtain ⟨⟨rfl, rfl, rfl, rfl, rfl, rfl⟩, _⟩ := hx
      rfl
    · cases hd

set_option maxRecDepth 100000 in
theorem lowW_of_laid {W : World} (h : laidMet Tryz.prog [("bower/tab.lowWords", Rows.laid_bower_tab_lowWords)] W) : LowW W := by
  intro i hi
  rw [World.var?_cell Tryz.low (low_of_laid h) i]
  rcases (by omega : i = 0 ∨ i = 1 ∨ i = 2 ∨ i = 3 ∨ i = 4 ∨ i = 5) with rfl | rfl | rfl | rfl | rfl | rfl <;> rfl

/-- A world in which the table is laid. -/
noncomputable def laidWorld (os : Os) : World :=
  { World.holding Tryz.prog os ⟨#[], #[], []⟩ with heap := (World.holding Tryz.prog os ⟨#[], #[], []⟩).heap.modify 0 fun
      | .cells _ t frozen => .cells lowCells t frozen
      | o => o }

set_option maxRecDepth 100000 in
theorem laidWorld_row (os : Os) (args : Array Value) : ((laidWorld os).forCall (fun _ _ => 0) ⟨#[], args, []⟩).memory.heap[0]? = some (.cells lowCells 150 (0, 0)) := by kernel_rfl

set_option maxRecDepth 100000 in
theorem laidWorld_met (os : Os) (args : Array Value) : laidMet Tryz.prog [("bower/tab.lowWords", Rows.laid_bower_tab_lowWords)] ((laidWorld os).forCall (fun _ _ => 0) ⟨#[], args, []⟩).memory :=
  ⟨_, ⟨0, 150, lowCells, 8, [], [], by kernel_rfl, by kernel_rfl, by kernel_rfl, by kernel_rfl, rfl, rfl⟩, by decide, fun b off h => by
    have h' : MemPlace.cell b off ∈ [MemPlace.cell 0 0, .cell 0 1, .cell 0 2, .cell 0 3, .cell 0 4, .cell 0 5] := h
    have hb : b = 0 := by
      simp at h'
      omega
    subst hb
    refine ⟨⟨_, _, laidWorld_row os args⟩, fun u v hc => ?_⟩
    simp only [World.cell?, laidWorld_row os args] at hc
    simp at h'
    rcases h' with rfl | rfl | rfl | rfl | rfl | rfl <;> simp [lowCells] at hc⟩

end Go.Proofs.YtdcomiopjgcboaaGreatDoor

/-
  How slices of functions and orders come in; arguments that read behind a call as they did.
-/
namespace Go.Proofs.YtdcomiopjgcboaaGreatDoor
open Go Go.ChangeShapes Go.WideShapes Go.ChangeAt Go.RowKit


section
variable {H : Type} {enc : TypeId × Value → H}

set_option maxRecDepth 100000 in
theorem trodAll_stays {P : Program} (hl : laidOutB P = true) {W W' : World} (hb : Below W.heap.size W W') : ∀ {ts : List TypeId} {vs : List Value} {ds : List (DataW H)} {ps : List MemPlace}, (∀ t ∈ ts, P.readableRec t = true ∧ t < P.types.size) →
    DataW.TrodAll enc P W 0 (fun _ => true) true ts vs ds ps → (∀ x ∈ ps, x.block < W.heap.size) → DataW.TrodAll enc P W' 0 (fun b => decide (b < W.heap.size)) true ts vs ds ps
  | [], [], [], _, _, h, _ => h
  | _ :: _, _ :: _, _ :: _, _, hT, ⟨p, q, h1, h2, e⟩, hs =>
    ⟨p, q, Below.trod hl (hT _ (List.mem_cons.2 (Or.inl rfl))).1 (hT _ (List.mem_cons.2 (Or.inl rfl))).2 h1 hb (fun x hx => hs x (by rw [e]; exact List.mem_append_left _ hx)),
      trodAll_stays hl hb (fun t ht => hT t (List.mem_cons.2 (Or.inr ht))) h2 (fun x hx => hs x (by rw [e]; exact List.mem_append_right _ hx)), e⟩

variable {w : World} {base : Nat} {spare : Nat → Bool} {held : Bool}

set_option maxRecDepth 100000 in
theorem trod_fn {fuel : Nat} {cs : List Value} {x : DataW H × List MemPlace} (hlen : cs.length = 4) (h : DataW.trod enc Tryz.prog w base spare held fuel 46 cs = some x) :
    ∃ f : Fn, cs = [.int .u64 (wd f 0), .int .u64 (wd f 1), .int .u64 (wd f 2), .int .u64 (wd f 3)] := by
  obtain ⟨c0, c1, c2, c3, rfl⟩ := list4 cs (by simpa using hlen)
  obtain ⟨y0, y1, y2, y3, m, hx, hy0, hy1, hy2, hy3⟩ := trod_array4 Tryz.underlying46 Tryz.cellsU h
  obtain ⟨x0, e0, _, w0⟩ := DataW.trod_int Tryz.underlying44 hy0
  obtain ⟨x1, e1, _, w1⟩ := DataW.trod_int Tryz.underlying44 hy1
  obtain ⟨x2, e2, _, w2⟩ := DataW.trod_int Tryz.underlying44 hy2
  obtain ⟨x3, e3, _, w3⟩ := DataW.trod_int Tryz.underlying44 hy3
  simp at e0 e1 e2 e3
  subst e0 e1 e2 e3
  obtain ⟨a, rfl, ha⟩ := wf_u64 w0
  obtain ⟨b, rfl, hb⟩ := wf_u64 w1
  obtain ⟨c, rfl, hc⟩ := wf_u64 w2
  obtain ⟨e, rfl, he⟩ := wf_u64 w3
  obtain ⟨i0, i1, i2, i3⟩ := wd_ofWords a b c e ha hb hc he
  exact ⟨ofWords a b c e, by rw [i0, i1, i2, i3]⟩

set_option maxRecDepth 100000 in
theorem cellsL_at (l : List Fn) (j : Nat) (u : Value) (h : (cellsL l)[j]? = some u) : ∃ (i r : Nat) (hi : i < l.length), r < 4 ∧ j = i * 4 + r ∧ u = .int .u64 (wd l[i] r) := by
  have hj : j < (cellsL l).length := by
    rcases Nat.lt_or_ge j (cellsL l).length with h' | h'
    · exact h'
    · rw [List.getElem?_eq_none h'] at h; cases h
  rw [cellsL_length] at hj
  have hi : j / 4 < l.length := by omega
  have e : j = j / 4 * 4 + j % 4 := by omega
  have h2 := cellsL_get l (j / 4) hi (j % 4) (by omega)
  rw [← e] at h2
  exact ⟨j / 4, j % 4, hi, by omega, e, Option.some.inj (h.symm.trans h2)⟩

set_option maxRecDepth 100000 in
/-- A slice of functions that came in. -/
theorem open_fns {r : Go.Reach} {b0 : Nat} {v : Value} {d : DataW H} {ps : List MemPlace} (hval : Value.okWide Tryz.prog w r b0 22 v) (hd : DataW.Trod enc Tryz.prog w base spare held 22 v d ps) :
    ∃ l : List Fn, SliceF w v l ∧ l.length ≤ maxLen ∧ ((l = [] ∧ d = .nil) ∨ ∃ xs ys, d = .slice xs ys ∧ xs.length = l.length) := by
  obtain ⟨a, len, cap, rfl⟩ := okWide_slice Tryz.underlying22 hval
  obtain ⟨fuel, hf⟩ := hd
  rcases Deep.open_slice Tryz.underlying22 hf with ⟨hcs, hx⟩ | ⟨ad, len', cap', m, n, D, Pl, hcs, _, hl, hm, hmm, hx, hall⟩
  · have hcs' : Value.slice a len cap = .slice none 0 0 := by simpa [Value.cells] using hcs
    rw [hcs']
    exact ⟨[], .inl ⟨rfl, rfl⟩, Nat.zero_le _, .inl ⟨rfl, congrArg Prod.fst hx⟩⟩
  · have hcs' : Value.slice a len cap = .slice (some ad) len' cap' := by simpa [Value.cells] using hcs
    rw [hcs']
    have hle : len' ≤ m := by rw [hmm]; split <;> omega
    have hall2 : ∀ i, i < len' → ∃ f : Fn, ∀ j, j < 4 → w.cell? (ad.add (i * 4 + j)) = some (.int .u64 (wd f j)) := fun i hi => by
      obtain ⟨cs', h1, h2⟩ := hall i (by omega)
      rw [Tryz.cellsF] at h1
      obtain ⟨_, hlen, hc⟩ := World.cells?_some h1
      obtain ⟨f, rfl⟩ := trod_fn hlen h2
      refine ⟨f, fun j hj => ?_⟩
      have h3 := hc j hj
      rw [Addr.add_add] at h3
      rw [h3]
      rcases (by omega : j = 0 ∨ j = 1 ∨ j = 2 ∨ j = 3) with rfl | rfl | rfl | rfl <;> rfl
    obtain ⟨F, hF⟩ := Deep.choose_lt (α := Fn) hall2
    refine ⟨(List.range len').map F, .inr ⟨ad, cap', by simp, fun j u hj => ?_⟩, by simp; omega, .inr ⟨_, _, congrArg Prod.fst hx, by simp⟩⟩
    obtain ⟨i, q, hi, hq, rfl, rfl⟩ := cellsL_at _ j u hj
    have hi' : i < len' := by simpa using hi
    rw [hF i hi' q hq]
    simp

set_option maxRecDepth 100000 in
theorem list8 {α : Type} (l : List α) (h : l.length = 8) : ∃ a b c d e f g i, l = [a, b, c, d, e, f, g, i] := by
  match l, h with
  | [a, b, c, d, e, f, g, i], _ => exact ⟨a, b, c, d, e, f, g, i, rfl⟩

set_option maxRecDepth 100000 in
theorem Tryz.cellsO : Tryz.prog.cellsOf 49 = 8 := by kernel_rfl
set_option maxRecDepth 100000 in
theorem Tryz.cellsI : Tryz.prog.cellsOf 3 = 1 := by kernel_rfl

set_option maxRecDepth 100000 in
/-- An order that came in. -/
theorem open_order {r : Go.Reach} {b0 : Nat} {v : Value} {d : DataW H} {ps : List MemPlace} (hval : Value.okWide Tryz.prog w r b0 49 v) (hd : DataW.Trod enc Tryz.prog w base spare held 49 v d ps) :
    ∃ o : Nat → Int, v = ov o ∧ ∀ i, (Lit.int .i64 (o i)).wf = true := by
  obtain ⟨cs, rfl, hsz, _⟩ : ∃ cs, v = .agg cs ∧ cs.size = Tryz.prog.cellsOf 49 ∧ Row.okWide Tryz.prog w r b0 49 cs := by
    simpa [Value.okWide, Tryz.underlying49] using hval
  rw [Tryz.cellsO] at hsz
  obtain ⟨l⟩ := cs
  obtain ⟨c0, c1, c2, c3, c4, c5, c6, c7, rfl⟩ := list8 l (by simpa using hsz)
  obtain ⟨fuel, hf⟩ := hd
  obtain ⟨xs, m, _, _, _, hxl, hget⟩ := DataW.trod_array Tryz.underlying49 hf
  rw [Tryz.cellsI] at hget
  have key : ∀ i (c : Value), i < 8 → ((Value.agg #[c0, c1, c2, c3, c4, c5, c6, c7]).cells.toList.drop (i * 1)).take 1 = [c] → ∃ n, c = .int .i64 n ∧ (Lit.int .i64 n).wf = true := fun i c hi hc => by
    have h1 := hget i hi
    rw [hc, List.getElem?_eq_getElem (by omega)] at h1
    obtain ⟨n, e, _, hw⟩ := DataW.trod_int Tryz.underlying3 h1
    exact ⟨n, by simpa using e, hw⟩
  obtain ⟨n0, rfl, w0⟩ := key 0 c0 (by decide) rfl
  obtain ⟨n1, rfl, w1⟩ := key 1 c1 (by decide) rfl
  obtain ⟨n2, rfl, w2⟩ := key 2 c2 (by decide) rfl
  obtain ⟨n3, rfl, w3⟩ := key 3 c3 (by decide) rfl
  obtain ⟨n4, rfl, w4⟩ := key 4 c4 (by decide) rfl
  obtain ⟨n5, rfl, w5⟩ := key 5 c5 (by decide) rfl
  obtain ⟨n6, rfl, w6⟩ := key 6 c6 (by decide) rfl
  obtain ⟨n7, rfl, w7⟩ := key 7 c7 (by decide) rfl
  refine ⟨fun i => [n0, n1, n2, n3, n4, n5, n6, n7].getD i 0, rfl, fun i => ?_⟩
  rcases Nat.lt_or_ge i 8 with hi | hi
  · rcases (by omega : i = 0 ∨ i = 1 ∨ i = 2 ∨ i = 3 ∨ i = 4 ∨ i = 5 ∨ i = 6 ∨ i = 7) with rfl | rfl | rfl | rfl | rfl | rfl | rfl | rfl <;> assumption
  · have e : [n0, n1, n2, n3, n4, n5, n6, n7].getD i 0 = 0 := by simp [List.getD, List.getElem?_eq_none (show [n0, n1, n2, n3, n4, n5, n6, n7].length ≤ i by simpa using hi)]
    simp only [e]
    decide
end

set_option maxRecDepth 100000 in
/-- By the reach. -/
theorem fns_short {H : Type} {ts : List TypeId} {ds : List (DataW H)} (h : (DataW.weightsEach Tryz.prog ts ds).all (· ≤ reachBytes) = true) {j : Nat} {l : List Fn} {d : DataW H} (ht : ts[j]? = some 22) (hd : ds[j]? = some d)
    (hl : (l = [] ∧ d = .nil) ∨ ∃ xs ys, d = .slice xs ys ∧ xs.length = l.length) : l.length ≤ 4611686018427387 := by
  rcases hl with ⟨rfl, _⟩ | ⟨xs, ys, rfl, hx⟩
  · exact Nat.zero_le _
  · have h1 := sized_slice h ht hd Tryz.underlying22
    rw [show Tryz.prog.bytesOf 46 = 32 by kernel_rfl, show reachBytes = 140737488351232 by kernel_rfl] at h1
    omega

end Go.Proofs.YtdcomiopjgcboaaGreatDoor

/-
  How arguments come in: slices of whatever elements; arguments that read behind a call as they did. No card: nothing is laid.
-/
namespace Go.Proofs.YtdcomiopjgcboaaGreatDoor
open Go Go.ChangeShapes Go.WideShapes Go.ChangeAt Go.RowKit

theorem Tryz.ownG : ownKnob Tryz.prog.godebug = none := by kernel_rfl
theorem Tryz.laidOutG : laidOutB Tryz.prog = true := by kernel_rfl
theorem Tryz.cellsOfInt : Tryz.prog.cellsOf 3 = 1 := by kernel_rfl

section
variable {H : Type} {enc : TypeId × Value → H}

theorem argsStay {P : Program} (hl : laidOutB P = true) {W W' : World} (hb : Below W.heap.size W W') : ∀ {ts : List TypeId} {vs : List Value} {ds : List (DataW H)} {ps : List MemPlace}, (∀ t ∈ ts, P.readableRec t = true ∧ t < P.types.size) →
    DataW.TrodAll enc P W 0 (fun _ => true) true ts vs ds ps → (∀ x ∈ ps, x.block < W.heap.size) → DataW.TrodAll enc P W' 0 (fun b => decide (b < W.heap.size)) true ts vs ds ps
  | [], [], [], _, _, h, _ => h
  | _ :: _, _ :: _, _ :: _, _, hT, ⟨p, q, h1, h2, e⟩, hs =>
    ⟨p, q, Below.trod hl (hT _ (List.mem_cons.2 (Or.inl rfl))).1 (hT _ (List.mem_cons.2 (Or.inl rfl))).2 h1 hb (fun x hx => hs x (by rw [e]; exact List.mem_append_left _ hx)),
      argsStay hl hb (fun t ht => hT t (List.mem_cons.2 (Or.inr ht))) h2 (fun x hx => hs x (by rw [e]; exact List.mem_append_right _ hx)), e⟩

variable {w : World} {base : Nat} {spare : Nat → Bool} {held : Bool}

theorem Enc.all_at {P : Program} {α : Type} (E : Enc P α) (l : List α) (j : Nat) (u : Value) (h : (E.all l)[j]? = some u) : ∃ (i r : Nat) (hi : i < l.length), r < E.size ∧ j = i * E.size + r ∧ (E.cells l[i])[r]? = some u := by
  have hj : j < (E.all l).length := by
    rcases Nat.lt_or_ge j (E.all l).length with h' | h'
    · exact h'
    · rw [List.getElem?_eq_none h'] at h; cases h
  rw [E.all_length] at hj
  have hp := E.pos
  have hi : j / E.size < l.length := (Nat.div_lt_iff_lt_mul hp).2 hj
  have hr : j % E.size < E.size := Nat.mod_lt _ hp
  have e : j = j / E.size * E.size + j % E.size := by rw [Nat.mul_comm]; exact (Nat.div_add_mod j E.size).symm
  have h2 := E.all_get l (j / E.size) hi (j % E.size) hr
  rw [← e] at h2
  exact ⟨j / E.size, j % E.size, hi, hr, e, h2.symm.trans h⟩

set_option maxRecDepth 100000 in
/-- A slice that came in. -/
theorem open_list {α : Type} [Inhabited α] (E : Enc Tryz.prog α) (good : α → Prop) (hsz : Tryz.prog.cellsOf E.elem = E.size)
    (hel : ∀ fuel cs x, cs.length = E.size → DataW.trod enc Tryz.prog w base spare held fuel E.elem cs = some x → ∃ a, cs = E.cells a ∧ good a)
    {r : Go.Reach} {b0 : Nat} {v : Value} {d : DataW H} {ps : List MemPlace} (hval : Value.okWide Tryz.prog w r b0 E.slice v) (hd : DataW.Trod enc Tryz.prog w base spare held E.slice v d ps) :
    ∃ l : List α, Reads E w v l ∧ l.length ≤ maxLen ∧ ∀ a ∈ l, good a := by
  obtain ⟨a, len, cap, rfl⟩ := okWide_slice E.und hval
  obtain ⟨fuel, hf⟩ := hd
  rcases Deep.open_slice E.und hf with ⟨hcs, hx⟩ | ⟨ad, len', cap', m, n, D, Pl, hcs, _, hl, hm, hmm, hx, hall⟩
  · have hcs' : Value.slice a len cap = .slice none 0 0 := by simpa [Value.cells] using hcs
    rw [hcs']
    exact ⟨[], .inl ⟨rfl, rfl⟩, Nat.zero_le _, fun _ h => by cases h⟩
  · have hcs' : Value.slice a len cap = .slice (some ad) len' cap' := by simpa [Value.cells] using hcs
    rw [hcs']
    have hle : len' ≤ m := by rw [hmm]; split <;> omega
    have hall2 : ∀ i, i < len' → ∃ f : α, (∀ j, j < E.size → w.cell? (ad.add (i * E.size + j)) = (E.cells f)[j]?) ∧ good f := fun i hi => by
      obtain ⟨cs', h1, h2⟩ := hall i (by omega)
      rw [hsz] at h1
      obtain ⟨_, hlen, hc⟩ := World.cells?_some h1
      obtain ⟨f, rfl, hg⟩ := hel _ _ _ hlen h2
      refine ⟨f, fun j hj => ?_, hg⟩
      have h3 := hc j hj
      rwa [Addr.add_add] at h3
    obtain ⟨F, hF⟩ := Deep.choose_lt (α := α) hall2
    refine ⟨(List.range len').map F, .inr ⟨ad, cap', by simp, fun j u hj => ?_⟩, by simp; omega, fun x hx => ?_⟩
    · obtain ⟨i, q, hi, hq, rfl, hu⟩ := E.all_at _ j u hj
      have hi' : i < len' := by simpa using hi
      rw [(hF i hi').1 q hq]
      simpa using hu
    · obtain ⟨i, hi, rfl⟩ := List.mem_map.1 hx
      exact (hF i (List.mem_range.1 hi)).2

set_option maxRecDepth 100000 in
theorem open_ints_list {r : Go.Reach} {b0 : Nat} {v : Value} {d : DataW H} {ps : List MemPlace} (hval : Value.okWide Tryz.prog w r b0 23 v) (hd : DataW.Trod enc Tryz.prog w base spare held 23 v d ps) :
    ∃ l : List Int, Reads encI w v l ∧ l.length ≤ maxLen ∧ ∀ a ∈ l, (Lit.int .i64 a).wf = true :=
  open_list encI (fun a => (Lit.int .i64 a).wf = true) Tryz.cellsOfInt (fun fuel cs x _ h => by
    obtain ⟨n, e, _, hw⟩ := DataW.trod_int Tryz.underlying3 h
    exact ⟨n, e, hw⟩) hval hd
end

end Go.Proofs.YtdcomiopjgcboaaGreatDoor
