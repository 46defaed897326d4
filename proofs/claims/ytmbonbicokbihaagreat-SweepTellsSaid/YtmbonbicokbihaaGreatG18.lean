/-
  Texts of this proof, one behind the other: Idle, OneS, Up12, OrdEq, Law7, Do7, Up7, Plays7.
-/
import Derived.Test.YtmbonbicokbihaaGreatG3
import Derived.Test.YtmbonbicokbihaaGreatG7
import Derived.Test.YtmbonbicokbihaaGreatG5
import Derived.Test.YtmbonbicokbihaaGreatG10
import Derived.Test.YtmbonbicokbihaaGreatG17
import Derived.ChangeKeysEq
import Derived.WalkKit
import Derived.KernelRfl
import Derived.Deep.RegionHeld3
/-
  Eight slices of numbers in one variable, each somebody's own.
-/
namespace Go.Proofs.YtmbonbicokbihaaGreat
open Go Go.RowKit

/-- Eight slices, as the program holds them. -/
def iv8 (V : Nat → Value) : Value := .agg #[V 0, V 1, V 2, V 3, V 4, V 5, V 6, V 7]
/-- Block b is a variable that holds eight slices. -/
def HoldsI (w : World) (b : Nat) (V : Nat → Value) : Prop := w.heap[b]? = some (.cells #[V 0, V 1, V 2, V 3, V 4, V 5, V 6, V 7] 55 (0, 0))
theorem HoldsI.lt {w : World} {b : Nat} {V : Nat → Value} (h : HoldsI w b V) : b < w.heap.size := (Array.getElem?_eq_some_iff.1 h).1
theorem HoldsI.block {w w' : World} {b : Nat} {V : Nat → Value} (h : HoldsI w b V) (hb : w'.heap[b]? = w.heap[b]?) : HoldsI w' b V := hb.trans h
theorem HoldsI.keep {w w' : World} {b : Nat} {V : Nat → Value} {F : Nat → Prop} (h : HoldsI w b V) (hb : Keeps F w w') (hF : ¬ F b) : HoldsI w' b V := h.block (hb.block b h.lt hF)
theorem HoldsI.below {w w' : World} {b : Nat} {V : Nat → Value} (h : HoldsI w b V) (hb : Below w.heap.size w w') : HoldsI w' b V := h.block (hb.block b h.lt)
theorem HoldsI.new (w : World) (V : Nat → Value) : HoldsI (w.alloc (.cells #[V 0, V 1, V 2, V 3, V 4, V 5, V 6, V 7] 55)) w.heap.size V := heap_alloc_new _ _
theorem HoldsI.cell {w : World} {b : Nat} {V : Nat → Value} (h : HoldsI w b V) (i : Nat) (hi : i < 8) : w.cell? ⟨b, i, none⟩ = some (V i) := by
  rw [cell_of_row _ _ _ _ _ _ h]
  rcases (by omega : i = 0 ∨ i = 1 ∨ i = 2 ∨ i = 3 ∨ i = 4 ∨ i = 5 ∨ i = 6 ∨ i = 7) with rfl | rfl | rfl | rfl | rfl | rfl | rfl | rfl <;> rfl
theorem HoldsI.free {w : World} {b : Nat} {V : Nat → Value} (h : HoldsI w b V) (j : Nat) : w.frozen? ⟨b, j, none⟩ = false := frozen_of_row _ _ _ _ _ h
/-- One of them, another. -/
def putV {α : Type} (V : Nat → α) (i : Nat) (x : α) : Nat → α := fun j => if j = i then x else V j
theorem HoldsI.set {w : World} {b : Nat} {V : Nat → Value} (h : HoldsI w b V) (i : Nat) (hi : i < 8) (x : Value) : HoldsI (w.setCell ⟨b, i, none⟩ x) b (putV V i x) := by
  have h1 := heap_setCell_same w b i _ _ x h
  unfold HoldsI
  rw [h1]
  rcases (by omega : i = 0 ∨ i = 1 ∨ i = 2 ∨ i = 3 ∨ i = 4 ∨ i = 5 ∨ i = 6 ∨ i = 7) with rfl | rfl | rfl | rfl | rfl | rfl | rfl | rfl <;> rfl
theorem HoldsI.other {w : World} {b c : Nat} {V : Nat → Value} (h : HoldsI w b V) (hne : b ≠ c) (i : Nat) (x : Value) : HoldsI (w.setCell ⟨c, i, none⟩ x) b V := h.block (Below.heap_setCell _ _ _ _ hne)
/-- All of them written. -/
theorem HoldsI.set8 {w : World} {b : Nat} {V : Nat → Value} (h : HoldsI w b V) (U : Nat → Value) :
    HoldsI ((((((((w.setCell ⟨b, 0, none⟩ (U 0)).setCell ⟨b, 1, none⟩ (U 1)).setCell ⟨b, 2, none⟩ (U 2)).setCell ⟨b, 3, none⟩ (U 3)).setCell ⟨b, 4, none⟩ (U 4)).setCell ⟨b, 5, none⟩ (U 5)).setCell ⟨b, 6, none⟩ (U 6)).setCell ⟨b, 7, none⟩ (U 7)) b U :=
  ((((((((h.set 0 (by decide) (U 0)).set 1 (by decide) (U 1)).set 2 (by decide) (U 2)).set 3 (by decide) (U 3)).set 4 (by decide) (U 4)).set 5 (by decide) (U 5)).set 6 (by decide) (U 6)).set 7 (by decide) (U 7))
theorem keeps_set8 {b : Nat} {w : World} {x0 x1 x2 x3 x4 x5 x6 x7 : Value} :
    Keeps (fun g => g = b) w ((((((((w.setCell ⟨b, 0, none⟩ x0).setCell ⟨b, 1, none⟩ x1).setCell ⟨b, 2, none⟩ x2).setCell ⟨b, 3, none⟩ x3).setCell ⟨b, 4, none⟩ x4).setCell ⟨b, 5, none⟩ x5).setCell ⟨b, 6, none⟩ x6).setCell ⟨b, 7, none⟩ x7) :=
  have k : ∀ (w : World) (i : Nat) (x : Value), Keeps (fun g => g = b) w (w.setCell ⟨b, i, none⟩ x) := fun w i x => Keeps.of_setCell (fun g => g = b) w ⟨b, i, none⟩ x rfl
  ((((((((k _ _ _).and (k _ _ _)).and (k _ _ _)).and (k _ _ _)).and (k _ _ _)).and (k _ _ _)).and (k _ _ _)).and (k _ _ _))
theorem ret_holdsI {fn : Func} {p : Tmp} {tmps : Array Value} {w : World} {b : Nat} {V : Nat → Value} (h : fn.results = #[.cell p 55]) (hp : tmps.getD p undef = .pointer (some ⟨b, 0, none⟩)) (hh : HoldsI w b V) :
    (results fn tmps).run Tryz.prog w = .ok (iv8 V) w :=
  results_cell_row h tmps w b _ _ _ _ hp hh Tryz.underlying55 rfl (by kernel_rfl)

/-- Eight slices of somebody's own, apart, in a variable b; what they hold was made since B. -/
structure Idle (w : World) (B b : Nat) (V : Nat → Value) (L : Nat → List Int) : Prop where
  holds : HoldsI w b V
  size : B ≤ w.heap.size
  ahead : b < B
  own : ∀ k, k < 8 → Owns encI w (V k) (L k)
  low : ∀ k, k < 8 → ∀ g, (V k).ownBlock = some g → B ≤ g
  apart : ∀ j k, j < 8 → k < 8 → j ≠ k → ∀ g, (V j).ownBlock = some g → (V k).ownBlock = some g → False
section
variable {w w' : World} {B b : Nat} {V : Nat → Value} {L : Nat → List Int}
theorem Idle.start (h : HoldsI w b (fun _ => .slice none 0 0)) : Idle w w.heap.size b (fun _ => .slice none 0 0) (fun _ => []) :=
  ⟨h, Nat.le_refl _, h.lt, fun _ _ => Owns.nil _ _, (fun _ _ g h => by cases h), (fun _ _ _ _ _ g h => by cases h)⟩
theorem Idle.keep (h : Idle w B b V L) (hb : Below w.heap.size w w') : Idle w' B b V L :=
  ⟨h.holds.below hb, Nat.le_trans h.size hb.size, h.ahead, fun k hk => (h.own k hk).block fun g hg => hb.block g ((h.own k hk).lt g hg), h.low, h.apart⟩
theorem Idle.sub (h : Idle w B b V L) (u : Sub w) : Idle u.1 B b V L := h.keep u.2
/-- One more in one of them. -/
theorem Idle.push (h : Idle w B b V L) {k : Nat} (hk : k < 8) {v : Value} {l : List Int} (hown : Owns encI w' v l) (hgr : w.grownBy w' (V k).ownBlock) (hat : v.ownBlock = (V k).ownBlock ∨ v.ownBlock = some w.heap.size) :
    Idle (w'.setCell ⟨b, k, none⟩ v) B b (putV V k v) (putV L k l) := by
  have hab := h.ahead
  have hb' : HoldsI w' b V := h.holds.block (hgr.block b h.holds.lt (fun e => by have := h.low k hk b e.symm; omega))
  have hsz := hgr.size
  have hvg : ∀ g, v.ownBlock = some g → B ≤ g := fun g hg => by
    rcases hat with e | e
    · exact h.low k hk g (e ▸ hg)
    · rw [e] at hg; cases hg; exact h.size
  have hset : ∀ {u : Value} {l' : List Int}, Owns encI w' u l' → (∀ g, u.ownBlock = some g → B ≤ g) → Owns encI (w'.setCell ⟨b, k, none⟩ v) u l' := fun ho hne => ho.block fun g hg => Below.heap_setCell _ _ _ _ (by have := hne g hg; show g ≠ b; omega)
  refine ⟨hb'.set k hk v, ?_, hab, fun j hj => ?_, fun j hj g hg => ?_, fun i j hi hj hij g h1 h2 => ?_⟩
  · have := h.size; simp only [World.setCell, Array.size_modify]; omega
  · by_cases e : j = k
    · subst e
      simp only [putV, if_true]
      exact hset hown hvg
    · simp only [putV, if_neg e]
      exact hset ((h.own j hj).block fun g hg => hgr.block g ((h.own j hj).lt g hg) fun e2 => h.apart j k hj hk e g hg e2.symm) fun g hg => h.low j hj g hg
  · by_cases e : j = k
    · subst e
      simp only [putV, if_true] at hg
      exact hvg g hg
    · simp only [putV, if_neg e] at hg
      exact h.low j hj g hg
  · have key : ∀ i, i < 8 → i ≠ k → ∀ g, (V i).ownBlock = some g → v.ownBlock = some g → False := fun i hi hik g h1 h2 => by
      rcases hat with e | e
      · exact h.apart i k hi hk hik g h1 (e ▸ h2)
      · rw [e] at h2; cases h2
        have := (h.own i hi).lt _ h1
        omega
    by_cases e1 : i = k
    · subst e1
      have e2 : j ≠ i := fun e => hij e.symm
      simp only [putV, if_true] at h1
      simp only [putV, if_neg e2] at h2
      exact key j hj e2 g h2 h1
    · simp only [putV, if_neg e1] at h1
      by_cases e2 : j = k
      · subst e2
        simp only [putV, if_true] at h2
        exact key i hi e1 g h1 h2
      · simp only [putV, if_neg e2] at h2
        exact h.apart i j hi hj hij g h1 h2
theorem Idle.pushKeeps (h : Idle w B b V L) {k : Nat} (hk : k < 8) {v : Value} (hgr : w.grownBy w' (V k).ownBlock) {w0 : World} (hw : Keeps (fun g => g = b) w0 w) (hB : w0.heap.size ≤ B) :
    Keeps (fun g => g = b) w0 (w'.setCell ⟨b, k, none⟩ v) := by
  have h1 : Keeps (fun g => w0.heap.size ≤ g) w w' := Keeps.of_grown hgr fun g e => Nat.le_trans hB (h.low k hk g e)
  have h2 := Keeps.of_setCell (fun g => g = b) w' ⟨b, k, none⟩ v rfl
  refine ⟨h2.os.trans (h1.os.trans hw.os), h2.tape.trans (h1.tape.trans hw.tape), h2.output.trans (h1.output.trans hw.output), Nat.le_trans hw.size (Nat.le_trans h1.size h2.size), fun g hg hne => ?_⟩
  have hg1 := Nat.lt_of_lt_of_le hg hw.size
  have hg2 := Nat.lt_of_lt_of_le hg1 h1.size
  exact (h2.block g hg2 hne).trans ((h1.block g hg1 (by omega)).trans (hw.block g hg hne))
theorem Idle.pushCell (h : Idle w B b V L) {k : Nat} (hk : k < 8) (hgr : w.grownBy w' (V k).ownBlock) : w'.cell? ⟨b, k, none⟩ = some (V k) ∧ w'.frozen? ⟨b, k, none⟩ = false := by
  have hb' : HoldsI w' b V := h.holds.block (hgr.block b h.holds.lt (fun e => by have := h.low k hk b e.symm; have := h.ahead; omega))
  exact ⟨hb'.cell k hk, hb'.free k⟩
/-- Each is a slice. -/
theorem Idle.form (h : Idle w B b V L) : ∃ (A : Nat → Option Addr) (C : Nat → Nat), Idle w B b (fun k => .slice (A k) (L k).length (C k)) L := by
  have hA : ∀ k, ∃ x : Option Addr × Nat, k < 8 → V k = .slice x.1 (L k).length x.2 := fun k => by
    by_cases hk : k < 8
    · obtain ⟨a, c, e, _⟩ := (h.own k hk).form
      exact ⟨(a, c), fun _ => e⟩
    · exact ⟨(none, 0), fun q => absurd q hk⟩
  obtain ⟨X, hX⟩ := Classical.axiomOfChoice hA
  refine ⟨fun k => (X k).1, fun k => (X k).2, ?_, h.size, h.ahead, fun k hk => hX k hk ▸ h.own k hk, fun k hk g hg => h.low k hk g (hX k hk ▸ hg), fun j k hj hk hjk g h1 h2 => h.apart j k hj hk hjk g (hX j hj ▸ h1) (hX k hk ▸ h2)⟩
  have := h.holds
  unfold HoldsI at *
  rw [this, hX 0 (by decide), hX 1 (by decide), hX 2 (by decide), hX 3 (by decide), hX 4 (by decide), hX 5 (by decide), hX 6 (by decide), hX 7 (by decide)]
theorem Idle.congr (h : Idle w B b V L) {M : Nat → List Int} (he : ∀ k, k < 8 → L k = M k) : Idle w B b V M :=
  ⟨h.holds, h.size, h.ahead, fun k hk => he k hk ▸ h.own k hk, h.low, h.apart⟩
end

end Go.Proofs.YtmbonbicokbihaaGreat

/-
  A store of one node.
-/
namespace Go.Proofs.YtmbonbicokbihaaGreat
open Go Go.RowKit

/-- One node. -/
def oneS : MS := ⟨⟨3, 1, [0], []⟩, [⟨0, 0, 1⟩], plainO⟩
theorem up7_a : (MS.none 3).mk 0 0 1 [] = (2, 0, oneS) := rfl
theorem up7_b : oneS.mk 0 0 1 [] = (2, 0, oneS) := rfl
theorem up7_c : oneS.mk 1 1 1 [] = (1, 0, oneS) := rfl
theorem up7_n : nodeV oneS 2 = .tuple #[.agg #[.int .i64 0, .int .i64 0, .int .i64 1], .bool true] := rfl
theorem up7_l : oneS.all.length = 1 := rfl
theorem up7_r : oneS.room = 2 := rfl
theorem oneS_ok : oneS.Ok := by
  have := (MS.none_ok 3 (by decide)).made 0 0 1
  rwa [up7_a] at this

end Go.Proofs.YtmbonbicokbihaaGreat

/-
  The document's example of layer 12, over contracts.
-/
namespace Go.Proofs.YtmbonbicokbihaaGreat
open Go Go.RowKit

theorem oneS_has : ∀ n, oneS.has n = true → n ∈ [(2 : Int)] := fun n hn => by
  have : n ∈ oneS.all := oneS_ok.toBase.mem_all.2 hn
  rwa [show oneS.all = [2] from rfl] at this

set_option maxRecDepth 100000 in
set_option maxHeartbeats 4000000 in
theorem up12 {StAt : World → Nat → (Nat → Prop) → MS → Prop} (H : StoreC StAt) (C : SweepC StAt) (w : World) : Calls Tryz.prog 4 #[] w fun e w' => e = .returned (.bool true) ∧ Below w.heap.size w w' := by
  go_enter Tryz.func4, Tryz.ntmps4
  go_wp2_with fail
  refine (H.new 3 w (by decide) (by decide)).mono ?_
  rintro e w1 ⟨b, rfl, ⟨F, hA, hF⟩, hb⟩
  have M := H.make hA (MS.none_ok 3 (by decide)) 0 0 1 (by decide) (by decide)
  rw [show (3 : Int).toNat = 3 from rfl, up7_a] at M
  dsimp only at M
  rw [errV0] at M
  go_wp2_with fail
  refine M.mono ?_
  rintro e w2 ⟨rfl, F2, hA2, hK, hW⟩
  have R := UpS.step hb hF hA2 hK hW
  clear hA hF hb hA2 hK hW M
  obtain ⟨⟨F, hA, hF⟩, hb⟩ := R
  obtain ⟨e1, e2⟩ := oneS_ok.sweep_all oneS_has
  have okS := (oneS_ok.swept [2]).1.ok
  obtain ⟨e3, e4⟩ := okS.sweep_none
  have hO := ownsOne w2 2
  have hba : Below w2.heap.size w2 (w2.alloc (.cells #[.int .i64 2] 3)) := (Below.refl _ _).alloc (Nat.le_refl _) _
  have hA3 := H.below hA hba
  have hR : RootsAt (w2.alloc (.cells #[.int .i64 2] 3)) F (.slice (some ⟨w2.heap.size, 0, none⟩) 1 1) [2] := RootsAt.of_owns hO (fun g hg hf => by have := H.lt hA g hf; have e : w2.heap.size = g := Option.some.inj hg; omega)
  have M := C.sweep hA3 oneS_ok [2] _ hR (by decide) (by decide)
  rw [e1] at M
  have hb3 := hb.trans (hba.mono hb.size)
  have e5 : (oneS.sweep [2]).2.all.length = 1 := by rw [e2]; rfl
  rw [e2] at e3
  clear hA hA3 hR hO hb hba
  generalize (oneS.sweep [2]).2 = S at *
  go_wp2_with fail
  generalize w2.alloc (.cells #[.int .i64 2] 3) = w3 at *
  refine M.mono ?_
  rintro e w4 ⟨rfl, F4, hA4, hK, hW⟩
  have R := UpS.step hb3 hF hA4 hK hW
  clear hF hb3 hA4 hK hW M
  obtain ⟨⟨F, hA, hF⟩, hb⟩ := R
  have M := H.live hA okS
  rw [e5] at M
  go_wp2_with fail
  refine M.mono ?_
  rintro e w5 ⟨rfl, hb5⟩
  have hA5 := H.below hA hb5
  replace hb := hb.trans (hb5.mono hb.size)
  have M := C.sweep hA5 okS [] _ (RootsAt.none _ _) (by decide) (fun r h => by cases h)
  rw [e3, show ((oneS.all.length : Nat) : Int) = 1 from rfl] at M
  have okT := (okS.swept []).1.ok
  generalize (S.sweep []).2 = T at *
  clear hA hb5
  go_wp2_with fail
  refine M.mono ?_
  rintro e w6 ⟨rfl, F6, hA6, hK, hW⟩
  have R := UpS.step hb hF hA6 hK hW
  clear hF hb hA6 hK hW M hA5
  obtain ⟨⟨F, hA, hF⟩, hb⟩ := R
  have M := H.live hA okT
  rw [e4] at M
  go_wp2_with fail
  refine M.mono ?_
  rintro e w7 ⟨rfl, hb7⟩
  replace hb := hb.trans (hb7.mono hb.size)
  clear hA hF M hb7
  go_wp2
  go_ret
  exact ⟨rfl, hb⟩

end Go.Proofs.YtmbonbicokbihaaGreat

/-
  Orders compared.
-/
namespace Go.Proofs.YtmbonbicokbihaaGreat
open Go Go.RowKit

theorem run_equal_same (d : Nat) (a0 a1 a2 a3 a4 a5 a6 a7 : Int) (w : World) : (Op.equalIn (d + 1 + 1) 57 (.agg #[.int .i64 a0, .int .i64 a1, .int .i64 a2, .int .i64 a3, .int .i64 a4, .int .i64 a5, .int .i64 a6, .int .i64 a7]) (.agg #[.int .i64 a0, .int .i64 a1, .int .i64 a2, .int .i64 a3, .int .i64 a4, .int .i64 a5, .int .i64 a6, .int .i64 a7])).run Tryz.prog w = .ok true w := by
  obtain ⟨i, hi⟩ : ∃ i, Tryz.prog.info? 3 = some i := info_of_underlying Tryz.underlying3
  rw [run_equalIn_array w (d + 1) _ _ Tryz.underlying57 hi]
  have hc : Tryz.prog.cellsOf 3 = 1 := by kernel_rfl
  have hr : List.range 8 = [0, 1, 2, 3, 4, 5, 6, 7] := rfl
  rw [hc, hr]
  have hq : ∀ (w : World) (a b : Int), (Op.equalIn (d + 1) 3 (.int .i64 a) (.int .i64 b)).run Tryz.prog w = .ok (a == b) w := fun w a b => run_equalIn_int w d _ _ _ _ _ Tryz.underlying3
  simp [Op.eqItems, part, go_sem, hq]

theorem run_eql_same (a0 a1 a2 a3 a4 a5 a6 a7 : Int) (w : World) : (binOp .eql 57 (.agg #[.int .i64 a0, .int .i64 a1, .int .i64 a2, .int .i64 a3, .int .i64 a4, .int .i64 a5, .int .i64 a6, .int .i64 a7]) (.agg #[.int .i64 a0, .int .i64 a1, .int .i64 a2, .int .i64 a3, .int .i64 a4, .int .i64 a5, .int .i64 a6, .int .i64 a7])).run Tryz.prog w = .ok (.bool true) w := by
  rw [run_eql_struct, run_equal_same 9998]
  rfl
theorem run_neq_same (a0 a1 a2 a3 a4 a5 a6 a7 : Int) (w : World) : (binOp .neq 57 (.agg #[.int .i64 a0, .int .i64 a1, .int .i64 a2, .int .i64 a3, .int .i64 a4, .int .i64 a5, .int .i64 a6, .int .i64 a7]) (.agg #[.int .i64 a0, .int .i64 a1, .int .i64 a2, .int .i64 a3, .int .i64 a4, .int .i64 a5, .int .i64 a6, .int .i64 a7])).run Tryz.prog w = .ok (.bool false) w := by
  rw [run_neq_struct, run_equal_same 9998]
  rfl
theorem run_guard_order (op : BinOp) (x y : Operand) (a b : Array Value) (w : World) : (eqGuard op 57 x y (.agg a) (.agg b)).run Tryz.prog w = .ok () w :=
  run_eqGuard_agg w op _ x y _ _ (by kernel_rfl)
theorem run_equal_same' (a0 a1 a2 a3 a4 a5 a6 a7 : Int) (w : World) : (Op.equalIn 10000 57 (.agg #[.int .i64 a0, .int .i64 a1, .int .i64 a2, .int .i64 a3, .int .i64 a4, .int .i64 a5, .int .i64 a6, .int .i64 a7]) (.agg #[.int .i64 a0, .int .i64 a1, .int .i64 a2, .int .i64 a3, .int .i64 a4, .int .i64 a5, .int .i64 a6, .int .i64 a7])).run Tryz.prog w = .ok true w := run_equal_same 9998 _ _ _ _ _ _ _ _ w

end Go.Proofs.YtmbonbicokbihaaGreat

/-
  Layer 7's law: the two stores compared; a deed.
-/
namespace Go.Proofs.YtmbonbicokbihaaGreat
open Go Go.RowKit
attribute [local go_sem] run_equal_same' run_eql_same run_neq_same run_guard_order

theorem run_neq_nodes (a0 a1 a2 : Int) (w : World) : (binOp .neq 50 (.agg #[.int .i64 a0, .int .i64 a1, .int .i64 a2]) (.agg #[.int .i64 a0, .int .i64 a1, .int .i64 a2])).run Tryz.prog w = .ok (.bool false) w := by
  have hq : ∀ (w : World) (a b : Int), (Op.equalIn 9999 3 (.int .i64 a) (.int .i64 b)).run Tryz.prog w = .ok (a == b) w := fun w a b => run_equalIn_int w 9998 _ _ _ _ _ Tryz.underlying3
  rw [run_neq_struct, run_equalIn_agg w 9999 _ _ _ (by kernel_rfl) (by kernel_rfl)]
  simp [Op.eqFields, part, go_sem, hq]

section
variable {StAt : World → Nat → (Nat → Prop) → MS → Prop} {w0 W W' : World} {bA bM : Nat} {FA FM FA' FM' : Nat → Prop} {sA sM s' : MS}
/-- The order's cells. -/
def OrdAt (w : World) (b : Nat) (o : Nat → Int) : Prop := w.cell? ⟨b, 2, none⟩ = some (.int .i64 (o 0)) ∧ w.cell? ⟨b, 3, none⟩ = some (.int .i64 (o 1)) ∧ w.cell? ⟨b, 4, none⟩ = some (.int .i64 (o 2)) ∧ w.cell? ⟨b, 5, none⟩ = some (.int .i64 (o 3)) ∧
    w.cell? ⟨b, 6, none⟩ = some (.int .i64 (o 4)) ∧ w.cell? ⟨b, 7, none⟩ = some (.int .i64 (o 5)) ∧ w.cell? ⟨b, 8, none⟩ = some (.int .i64 (o 6)) ∧ w.cell? ⟨b, 9, none⟩ = some (.int .i64 (o 7))
theorem P2.order (h : P2 StAt w0 bA bM FA FM sA sM W) : OrdAt W bM sM.o := by
  obtain ⟨_, _, _, _, hR⟩ := h.m
  exact hR.order
end

set_option maxRecDepth 100000 in
set_option maxHeartbeats 8000000 in
theorem lawSame {StAt : World → Nat → (Nat → Prop) → MS → Prop} (H : StoreC StAt) {w0 w : World} {bA bM : Nat} {FA FM : Nat → Prop} {s : MS} (P : P2 StAt w0 bA bM FA FM s s w) (ok : s.Ok) :
    Calls Tryz.prog 10 #[.pointer (some ⟨bA, 0, none⟩), .pointer (some ⟨bM, 0, none⟩)] w fun e w' => e = .returned (.int .i64 1) ∧ Below w.heap.size w w' := by
  have hal : s.all.length ≤ 20000 := Nat.le_trans (numsTo_filter_length s.has s.N.length) ok.toBase.few
  go_enter Tryz.func10, Tryz.ntmps10
  go_wp2_with fail
  refine (refSAll P.m ok.toBase).mono ?_
  rintro e w1 ⟨vA, rfl, RA⟩
  replace P := P.keep H RA.below
  obtain ⟨aA, cA, rfl, _⟩ := RA.own.form
  replace P := P.keep H (Below.refl w1.heap.size w1).drew
  have hb1 := RA.below.drew
  have hA := RA.own.reads.keep (Below.refl w1.heap.size w1).drew
  clear RA
  go_wp2
  have hS0 := P.order
  simp only [OrdAt] at hS0
  replace P := Lib.hid P
  replace hA := Lib.hid hA
  replace H := Lib.hid H
  go_region_held3 (fun w' => w'.cell? ⟨bM, 2, none⟩ = some (.int .i64 (s.o 0)) ∧ w'.cell? ⟨bM, 3, none⟩ = some (.int .i64 (s.o 1)) ∧ w'.cell? ⟨bM, 4, none⟩ = some (.int .i64 (s.o 2)) ∧ w'.cell? ⟨bM, 5, none⟩ = some (.int .i64 (s.o 3)) ∧
    w'.cell? ⟨bM, 6, none⟩ = some (.int .i64 (s.o 4)) ∧ w'.cell? ⟨bM, 7, none⟩ = some (.int .i64 (s.o 5)) ∧ w'.cell? ⟨bM, 8, none⟩ = some (.int .i64 (s.o 6)) ∧ w'.cell? ⟨bM, 9, none⟩ = some (.int .i64 (s.o 7))) (first | assumption)
    (first
      | (go_at_call 31; refine (H.out.all P.out.a ok).mono ?_; rintro e W1 ⟨v1, rfl, R1⟩; have P1 := Lib.hid (P.out.keep H.out R1.below); have hb2 := hb1.trans (R1.below.mono hb1.size); have hA1 := Lib.hid (hA.out.keep R1.below); have hS1 := P1.out.order; simp only [OrdAt] at hS1)
      | (go_at_call 30; refine (lawInts s.all v1 _ _ R1.own.reads hA1.out (by omega)).mono ?_; rintro e W2 ⟨rfl, R2⟩; have P2 := Lib.hid (P1.out.keep H.out R2); have hb3 := hb2.trans (R2.mono hb2.size); have hA2 := Lib.hid (hA1.out.keep R2); have hS2 := P2.out.order; simp only [OrdAt] at hS2)
      | (go_at_call 13; refine (H.out.live P2.out.a ok).mono ?_; rintro e W3 ⟨rfl, R3⟩; have P3 := Lib.hid (P2.out.keep H.out R3); have hb4 := hb3.trans (R3.mono hb3.size); have hA3 := Lib.hid (hA2.out.keep R3); have hS3 := P3.out.order; simp only [OrdAt] at hS3)
      | (go_at_call 32; refine (H.out.room P3.out.a ok).mono ?_; rintro e W4 ⟨rfl, R4⟩; have P4 := Lib.hid (P3.out.keep H.out R4); have hb5 := hb4.trans (R4.mono hb4.size); have hA4 := Lib.hid (hA3.out.keep R4); have hS4 := P4.out.order; simp only [OrdAt] at hS4)
      | (go_at_call 33; refine (refSRoom P4.out.m ok.toBase).mono ?_; rintro e W5 ⟨rfl, R5⟩; have P5 := Lib.hid (P4.out.keep H.out R5); have hb6 := hb5.trans (R5.mono hb5.size); have hA5 := Lib.hid (hA4.out.keep R5); have hS5 := P5.out.order; simp only [OrdAt] at hS5)
      | (go_at_call 26; refine (H.out.order P5.out.a ok).mono ?_; rintro e W6 ⟨rfl, R6⟩; have P6 := Lib.hid (P5.out.keep H.out R6); have hb7 := hb6.trans (R6.mono hb6.size); have hA6 := Lib.hid (hA5.out.keep R6); have hS6 := P6.out.order; simp only [OrdAt] at hS6; simp only [ov]))
  replace P := P6.out
  replace hA := hA6.out
  replace H := H.out
  clear hS0 hS1 hS2 hS3 hS4 hS5 hS6 P1 P2 P3 P4 P5 P6 hA1 hA2 hA3 hA4 hA5 hA6 R1 R2 R3 R4 R5 R6 hb1 hb2 hb3 hb4 hb5 hb6
  go_wp2
  go_loopw [6] (fun i wr => ∃ k : Nat, k ≤ s.all.length ∧ i = .int .i64 k ∧ Below W6.heap.size W6 wr) (fun i _ => s.all.length - (intOf i).toNat)
  case atStart => exact ⟨0, Nat.zero_le _, rfl, Below.refl _ _⟩
  case round =>
    obtain ⟨k, hk, rfl, hb⟩ := hrel
    by_cases hlt : k < s.all.length
    · replace P := P.keep H hb
      obtain ⟨ad, rfl, hc⟩ := (hA.keep hb).intAt k hlt
      have hhas : s.has s.all[k] = true := ok.toBase.mem_all.1 (List.getElem_mem hlt)
      generalize s.all[k] = n at *
      have hle := ok.toBase.has_le hhas
      have hk0 : (0 : Int) ≤ (k : Int) := by omega
      have hk1 : (k : Int) < (s.all.length : Int) := by omega
      have HA := H.node P.a ok n (by omega)
      have HM := fun V (hV : Below wr.heap.size wr V) => refSNode (P.m.below hV) ok.toBase n (by omega)
      simp only [nodeV, hhas, if_true, nv] at HA HM
      generalize s.nd n = x at *
      obtain ⟨x0, x1, x2⟩ := x
      dsimp only at HA HM
      have hq := run_neq_nodes x0 x1 x2
      clear hA P
      go_wp2_with fail
      refine HA.mono ?_
      rintro e w2 ⟨rfl, hb2⟩
      have hb3 := hb2.alloc hb2.size (.cells #[.int .i64 x0, .int .i64 x1, .int .i64 x2] 50)
      have y0 := HoldsN.new w2 ⟨x0, x1, x2⟩
      dsimp only at y0
      have hc3 := (hb3.cell (p := ad.add k) (block_lt_of_cell hc)).trans hc
      go_wp2_with fail
      generalize w2.alloc (.cells #[.int .i64 x0, .int .i64 x1, .int .i64 x2] 50) = W3 at *
      refine (HM _ hb3).mono ?_
      rintro e w4 ⟨rfl, hb4⟩
      replace y0 := y0.below hb4
      replace hb4 := hb3.trans (hb4.mono hb3.size)
      clear HA HM hc3 hc
      have z0 := HoldsN.new w4 ⟨x0, x1, x2⟩
      have hb5 : Below wr.heap.size wr (w4.alloc (.cells #[.int .i64 x0, .int .i64 x1, .int .i64 x2] 50)) := hb4.alloc hb4.size _
      have y1 : HoldsN (w4.alloc (.cells #[.int .i64 x0, .int .i64 x1, .int .i64 x2] 50)) w2.heap.size ⟨x0, x1, x2⟩ := y0.keep (Keeps.of_alloc noBlock _ _) (fun h => h)
      dsimp only at z0
      obtain ⟨a0, a1, a2⟩ := y1.cells
      obtain ⟨c0, c1, c2⟩ := z0.cells
      dsimp only at a0 a1 a2 c0 c1 c2
      clear y0 y1 z0
      go_wp2
      exact ⟨⟨k + 1, by omega, by go_num, hb.trans (hb5.mono hb.size)⟩, by simp [intOf]; omega⟩
    · obtain rfl : k = s.all.length := by omega
      go_wp2
      go_ret
      exact ⟨rfl, hb7.trans (hb.mono hb7.size)⟩

end Go.Proofs.YtmbonbicokbihaaGreat

/-
  Layer 7's law: a deed.
-/
namespace Go.Proofs.YtmbonbicokbihaaGreat
open Go Go.RowKit

theorem le_of_wf {n : Int} (h : (Lit.int .i64 n).wf = true) : n ≤ 9223372036854775807 := by
  simp only [Lit.wf, Bool.and_eq_true, decide_eq_true_eq] at h
  exact h.2
theorem ge_of_wf {n : Int} (h : (Lit.int .i64 n).wf = true) : -9223372036854775808 ≤ n := by
  simp only [Lit.wf, Bool.and_eq_true, decide_eq_true_eq] at h
  exact h.1
theorem pick_wf {n by' : Int} (h : 0 < by') (h2 : by' ≤ 1000) : n % by' ≤ 9223372036854775807 := by
  have := Int.emod_lt_of_pos n h; omega

set_option maxRecDepth 100000 in
set_option maxHeartbeats 8000000 in
theorem lawDo {StAt : World → Nat → (Nat → Prop) → MS → Prop} (H : StoreC StAt) {w0 w : World} {bA bM : Nat} {FA FM : Nat → Prop} {s : MS} (P : P2 StAt w0 bA bM FA FM s s w) (ok : s.Ok) (What A B C : Int) (raw : Bool)
    (wW : (Lit.int .i64 What).wf = true) (wA : (Lit.int .i64 A).wf = true) (wB : (Lit.int .i64 B).wf = true) (wC : (Lit.int .i64 C).wf = true) :
    Calls Tryz.prog 6 #[.pointer (some ⟨bA, 0, none⟩), .pointer (some ⟨bM, 0, none⟩), .agg #[.int .i64 What, .int .i64 A, .int .i64 B, .int .i64 C, .bool raw]] w fun e w' => e = .returned (.int .i64 1) ∧ ∃ s' FA' FM', s'.Ok ∧ P2 StAt w0 bA bM FA' FM' s' s' w' := by
  have bA0 := le_of_wf wA
  have bB := ok.toBase.pick_le (raw := raw) (le_of_wf wB)
  have bC := ok.toBase.pick_le (raw := raw) (le_of_wf wC)
  have bA1 := ok.toBase.pick_le (raw := raw) (le_of_wf wA)
  have gA0 := ge_of_wf wA
  have gB := ok.toBase.pick_ge (raw := raw) (ge_of_wf wB)
  have gC := ok.toBase.pick_ge (raw := raw) (ge_of_wf wC)
  have gA1 := ok.toBase.pick_ge (raw := raw) (ge_of_wf wA)
  have p1 := Int.emod_nonneg What (show (8 : Int) ≠ 0 by decide)
  have p2 := Int.emod_lt_of_pos What (show (0 : Int) < 8 by decide)
  have pk := fun V => lawPick What 8 V (by decide) (by decide) wW
  have pk7 := fun V => lawPick A 7 V (by decide) (by decide) wA
  have pk8 := fun V => lawPick A 8 V (by decide) (by decide) wA
  have nB := fun V (hV : Below w.heap.size w V) => lawNode (P.m.below hV) ok.toBase B raw wB
  have nC := fun V (hV : Below w.heap.size w V) => lawNode (P.m.below hV) ok.toBase C raw wC
  have nA := fun V (hV : Below w.heap.size w V) => lawNode (P.m.below hV) ok.toBase A raw wA
  generalize What % 8 = p at *
  generalize s.pick B raw = lo at *
  generalize s.pick C raw = hi at *
  generalize s.pick A raw = an at *
  go_enter Tryz.func6, Tryz.ntmps6
  go_wp2_with fail
  have hD := heap_alloc_new w (.cells #[.int .i64 What, .int .i64 A, .int .i64 B, .int .i64 C, .bool raw] 31)
  have hb : Below w.heap.size w (w.alloc (.cells #[.int .i64 What, .int .i64 A, .int .i64 B, .int .i64 C, .bool raw] 31)) := by go_grown
  generalize w.alloc (.cells #[.int .i64 What, .int .i64 A, .int .i64 B, .int .i64 C, .bool raw] 31) = W at *
  have hDl := row_lt hD
  refine (nB _ hb).mono ?_
  rintro e w1 ⟨rfl, hb1⟩
  replace hD := (hb1.block _ hDl).trans hD
  replace hb := hb.trans (hb1.mono hb.size)
  have d3 : w1.cell? ⟨w.heap.size, 3, none⟩ = some (.int .i64 C) := by rw [cell_of_row _ _ _ _ _ _ hD]; rfl
  have d4 : w1.cell? ⟨w.heap.size, 4, none⟩ = some (.bool raw) := by rw [cell_of_row _ _ _ _ _ _ hD]; rfl
  clear hb1 hDl nB
  go_wp2_with fail
  have hDl := row_lt hD
  refine (nC _ hb).mono ?_
  rintro e w2 ⟨rfl, hb1⟩
  replace hD := (hb1.block _ hDl).trans hD
  replace hb := hb.trans (hb1.mono hb.size)
  clear hb1 hDl nC d3 d4
  have d0 : w2.cell? ⟨w.heap.size, 0, none⟩ = some (.int .i64 What) := by rw [cell_of_row _ _ _ _ _ _ hD]; rfl
  have d4 : w2.cell? ⟨w.heap.size, 4, none⟩ = some (.bool raw) := by rw [cell_of_row _ _ _ _ _ _ hD]; rfl
  go_wp2_with fail
  refine (pk _).mono ?_
  rintro e w3 ⟨rfl, rfl⟩
  clear pk d0
  replace P := P.keep H hb
  have nA' := nA _ hb
  clear nA hD
  by_cases h4 : p = 4
  · subst h4
    go_wp2_with fail
    refine nA'.mono ?_
    rintro e w3 ⟨rfl, hb3⟩
    replace P := P.keep H hb3
    clear nA' d4 hb3 pk7 pk8
    have hE := s.free_err an
    go_wp2_with fail
    refine (H.free P.a ok an ⟨bA1, gA1⟩).mono ?_
    rintro e w4 ⟨rfl, FA1, hA1, hK1, hW1⟩
    replace P := P.code H hA1 hK1 hW1
    clear hA1 hK1 hW1
    go_wp2_with fail
    refine (lawCode _ _ hE.1 hE.2).mono ?_
    rintro e wx ⟨rfl, rfl⟩
    go_wp2_with fail
    refine (refSFree P.m ok.toBase an bA1).mono ?_
    rintro e w5 ⟨rfl, FM1, hM1, hK1, hW1⟩
    replace P := P.ref H hM1 hK1 hW1
    have ok' := ok.freed an
    clear hM1 hK1 hW1
    generalize (s.free an).1 = E at *
    generalize (s.free an).2 = S at *
    go_wp2
    go_ret
    exact ⟨rfl, S, _, _, ok', P⟩
  clear nA'
  by_cases h5 : p = 5
  · subst h5
    clear pk8 d4
    go_wp2_with fail
    refine (pk7 _).mono ?_
    rintro e w3 ⟨rfl, rfl⟩
    clear pk7
    generalize A % 7 = l at *
    have hE := s.swap_err l
    go_wp2_with fail
    refine (H.swap P.a ok l).mono ?_
    rintro e w4 ⟨rfl, FA1, hA1, hK1, hW1⟩
    replace P := P.code H hA1 hK1 hW1
    clear hA1 hK1 hW1
    go_wp2_with fail
    refine (lawCode _ _ hE.1 hE.2).mono ?_
    rintro e wx ⟨rfl, rfl⟩
    go_wp2_with fail
    refine (refSSwap P.m ok l).mono ?_
    rintro e w5 ⟨rfl, FM1, hM1, hK1, hW1⟩
    replace P := P.ref H hM1 hK1 hW1
    have ok' := ok.swapped l
    clear hM1 hK1 hW1
    generalize (s.swap l).1 = E at *
    generalize (s.swap l).2 = S at *
    go_wp2
    go_ret
    exact ⟨rfl, S, _, _, ok', P⟩
  clear pk7
  by_cases h6 : p = 6
  · subst h6
    clear pk8 d4
    have HA := H.node P.a ok A ⟨bA0, gA0⟩
    have HM := fun V (hV : Below w2.heap.size w2 V) => refSNode (P.m.below hV) ok.toBase A bA0
    unfold nodeV nv at HA HM
    generalize (if s.has A then s.nd A else ⟨0, 0, 0⟩) = x at *
    generalize s.has A = hh at *
    obtain ⟨x0, x1, x2⟩ := x
    dsimp only at HA HM
    have hq := run_neq_nodes x0 x1 x2
    go_wp2_with fail
    refine HA.mono ?_
    rintro e w3 ⟨rfl, hb3⟩
    have hb4 := hb3.alloc hb3.size (.cells #[.int .i64 x0, .int .i64 x1, .int .i64 x2] 50)
    have y0 := HoldsN.new w3 ⟨x0, x1, x2⟩
    dsimp only at y0
    go_wp2_with fail
    generalize w3.alloc (.cells #[.int .i64 x0, .int .i64 x1, .int .i64 x2] 50) = W3 at *
    refine (HM _ hb4).mono ?_
    rintro e w4 ⟨rfl, hb5⟩
    replace y0 := y0.below hb5
    replace hb4 := hb4.trans (hb5.mono hb4.size)
    clear HA HM hb5 hb3
    have z0 := HoldsN.new w4 ⟨x0, x1, x2⟩
    have hb5 : Below w2.heap.size w2 (w4.alloc (.cells #[.int .i64 x0, .int .i64 x1, .int .i64 x2] 50)) := hb4.alloc hb4.size _
    have y1 : HoldsN (w4.alloc (.cells #[.int .i64 x0, .int .i64 x1, .int .i64 x2] 50)) w3.heap.size ⟨x0, x1, x2⟩ := y0.keep (Keeps.of_alloc noBlock _ _) (fun h => h)
    dsimp only at z0
    obtain ⟨a0, a1, a2⟩ := y1.cells
    obtain ⟨c0, c1, c2⟩ := z0.cells
    dsimp only at a0 a1 a2 c0 c1 c2
    clear y0 y1 z0
    go_wp2
    go_ret
    exact ⟨rfl, s, _, _, ok, P.keep H hb5⟩
  by_cases h7 : p = 7
  · subst h7
    clear pk8 d4
    have hE := s.swap_err A
    go_wp2_with fail
    refine (H.swap P.a ok A).mono ?_
    rintro e w4 ⟨rfl, FA1, hA1, hK1, hW1⟩
    replace P := P.code H hA1 hK1 hW1
    clear hA1 hK1 hW1
    go_wp2_with fail
    refine (lawCode _ _ hE.1 hE.2).mono ?_
    rintro e wx ⟨rfl, rfl⟩
    go_wp2_with fail
    refine (refSSwap P.m ok A).mono ?_
    rintro e w5 ⟨rfl, FM1, hM1, hK1, hW1⟩
    replace P := P.ref H hM1 hK1 hW1
    have ok' := ok.swapped A
    clear hM1 hK1 hW1
    generalize (s.swap A).1 = E at *
    generalize (s.swap A).2 = S at *
    go_wp2
    go_ret
    exact ⟨rfl, S, _, _, ok', P⟩
  have e4 : (p == 4) = false := by rw [beq_eq_false_iff_ne]; exact h4
  have e5 : (p == 5) = false := by rw [beq_eq_false_iff_ne]; exact h5
  have e6 : (p == 6) = false := by rw [beq_eq_false_iff_ne]; exact h6
  have e7 : (p == 7) = false := by rw [beq_eq_false_iff_ne]; exact h7
  clear h4 h5 h6 h7
  cases raw
  · go_wp2_with fail
    refine (pk8 _).mono ?_
    rintro e w3 ⟨rfl, rfl⟩
    clear pk8
    generalize A % 8 = v at *
    have hE := s.mk_err v lo hi []
    go_wp2_with fail
    refine (H.make P.a ok v lo hi ⟨bB, gB⟩ ⟨bC, gC⟩).mono ?_
    rintro e w4 ⟨rfl, FA1, hA1, hK1, hW1⟩
    replace P := P.code H hA1 hK1 hW1
    clear hA1 hK1 hW1
    go_wp2_with fail
    refine (refSMk P.m ok.toBase v lo hi bB bC).mono ?_
    rintro e w5 ⟨rfl, FM1, hM1, hK1, hW1⟩
    replace P := P.ref H hM1 hK1 hW1
    have ok' := ok.made v lo hi
    clear hM1 hK1 hW1
    have HC := fun V => lawCode (s.mk v lo hi []).2.1 V hE.1 hE.2
    generalize s.mk v lo hi [] = r at *
    obtain ⟨r0, r1, S⟩ := r
    dsimp only at *
    go_wp2_with fail
    refine (HC _).mono ?_
    rintro e wx ⟨rfl, rfl⟩
    clear HC
    go_wp2
    go_ret
    exact ⟨rfl, S, _, _, ok', P⟩
  · clear pk8
    have hE := s.mk_err A lo hi []
    go_wp2_with fail
    refine (H.make P.a ok A lo hi ⟨bB, gB⟩ ⟨bC, gC⟩).mono ?_
    rintro e w4 ⟨rfl, FA1, hA1, hK1, hW1⟩
    replace P := P.code H hA1 hK1 hW1
    clear hA1 hK1 hW1
    go_wp2_with fail
    refine (refSMk P.m ok.toBase A lo hi bB bC).mono ?_
    rintro e w5 ⟨rfl, FM1, hM1, hK1, hW1⟩
    replace P := P.ref H hM1 hK1 hW1
    have ok' := ok.made A lo hi
    clear hM1 hK1 hW1
    have HC := fun V => lawCode (s.mk A lo hi []).2.1 V hE.1 hE.2
    generalize s.mk A lo hi [] = r at *
    obtain ⟨r0, r1, S⟩ := r
    dsimp only at *
    go_wp2_with fail
    refine (HC _).mono ?_
    rintro e wx ⟨rfl, rfl⟩
    clear HC
    go_wp2
    go_ret
    exact ⟨rfl, S, _, _, ok', P⟩

end Go.Proofs.YtmbonbicokbihaaGreat

/-
  The document's example of layer 7; a store and its model at the beginning.
-/
namespace Go.Proofs.YtmbonbicokbihaaGreat
open Go Go.RowKit


end Go.Proofs.YtmbonbicokbihaaGreat

/-
  StorePlays: the walk.
-/
namespace Go.Proofs.YtmbonbicokbihaaGreat
open Go Go.RowKit

/-- A deed. -/
structure D7 where
  what : Int
  a : Int
  b : Int
  c : Int
  raw : Bool
def D7.good (d : D7) : Prop := (Lit.int .i64 d.what).wf = true ∧ (Lit.int .i64 d.a).wf = true ∧ (Lit.int .i64 d.b).wf = true ∧ (Lit.int .i64 d.c).wf = true

/-- A deed's cells. -/
def encD7 : Enc Tryz.prog D7 where
  slice := 22
  elem := 31
  size := 5
  bytes := 40
  cells d := [.int .i64 d.what, .int .i64 d.a, .int .i64 d.b, .int .i64 d.c, .bool d.raw]
  zero := .agg #[.int .i64 0, .int .i64 0, .int .i64 0, .int .i64 0, .bool false]
  und := Tryz.underlying22
  info := info_of _ _ _ _ _ (by kernel_rfl)
  zsize := rfl
  pos := by decide
  few := by decide
  len _ := rfl
  one d u h := by
    simp only [List.mem_cons, List.not_mem_nil, or_false] at h
    rcases h with rfl | rfl | rfl | rfl | rfl <;> rfl

theorem deedAt7 {w : World} {a : Option Addr} {cap : Nat} {l : List D7} (h : Reads encD7 w (.slice a l.length cap) l) (i : Nat) (hi : i < l.length) : ∃ ad, a = some ad ∧ w.cell? (ad.add (i * 5)) = some (.int .i64 l[i].what) ∧
    w.cell? ⟨(ad.add (i * 5)).block, (ad.add (i * 5)).off + 1, none⟩ = some (.int .i64 l[i].a) ∧ w.cell? ⟨(ad.add (i * 5)).block, (ad.add (i * 5)).off + 2, none⟩ = some (.int .i64 l[i].b) ∧
    w.cell? ⟨(ad.add (i * 5)).block, (ad.add (i * 5)).off + 3, none⟩ = some (.int .i64 l[i].c) ∧ w.cell? ⟨(ad.add (i * 5)).block, (ad.add (i * 5)).off + 4, none⟩ = some (.bool l[i].raw) := by
  obtain ⟨ad, rfl, H⟩ := h.at i hi
  have h0 := H 0 (by decide)
  have h1 := H 1 (by decide)
  have h2 := H 2 (by decide)
  have h3 := H 3 (by decide)
  have h4 := H 4 (by decide)
  simp only [encD7] at h1 h2 h3 h4
  rw [← Addr.add_add, Addr.add, if_neg (by omega)] at h1 h2 h3 h4
  exact ⟨ad, rfl, by simpa [encD7] using h0, by simpa using h1, by simpa using h2, by simpa using h3, by simpa using h4⟩

set_option maxRecDepth 100000 in
set_option maxHeartbeats 4000000 in
theorem lawBegin {StAt : World → Nat → (Nat → Prop) → MS → Prop} (H : StoreC StAt) (most : Int) (w : World) (h0 : 0 ≤ most) (h1 : most ≤ 20000) :
    Calls Tryz.prog 5 #[.int .i64 most] w fun e w' => ∃ bA bM FA FM, e = .returned (.tuple #[.pointer (some ⟨bA, 0, none⟩), .pointer (some ⟨bM, 0, none⟩)]) ∧ P2 StAt w bA bM FA FM (MS.none most.toNat) (MS.none most.toNat) w' := by
  go_enter Tryz.func5, Tryz.ntmps5
  go_wp2_with fail
  refine (H.new most w h0 h1).mono ?_
  rintro e w1 ⟨b, rfl, ⟨F, hA, hF⟩, hb⟩
  go_wp2_with fail
  refine (refSNew most _ h0).mono ?_
  rintro e w2 ⟨b2, rfl, ⟨F2, hM, hF2⟩, hb2⟩
  have P : P2 StAt w b b2 F F2 (MS.none most.toNat) (MS.none most.toNat) w2 := ⟨H.below hA hb2, hM, fun k hk e => by have := H.lt hA k hk; have := hF2 k e; omega, hF, fun k hk => Nat.le_trans hb.size (hF2 k hk), hb.trans (hb2.mono hb.size)⟩
  go_wp2
  go_ret2
  exact ⟨b, b2, F, F2, rfl, P⟩

set_option maxRecDepth 100000 in
set_option maxHeartbeats 4000000 in
theorem lawBegin_no {StAt : World → Nat → (Nat → Prop) → MS → Prop} (H : StoreC StAt) (most : Int) (w : World) (h : most < 0 ∨ 20000 < most) :
    Calls Tryz.prog 5 #[.int .i64 most] w fun e w' => e = .returned (.tuple #[.pointer none, .pointer none]) ∧ Below w.heap.size w w' := by
  go_enter Tryz.func5, Tryz.ntmps5
  go_wp2_with fail
  refine (H.no most w h).mono ?_
  rintro e w1 ⟨rfl, hb⟩
  go_wp2
  go_ret2
  exact ⟨rfl, hb⟩


end Go.Proofs.YtmbonbicokbihaaGreat
