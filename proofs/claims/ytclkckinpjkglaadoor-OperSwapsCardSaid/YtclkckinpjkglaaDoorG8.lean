/-
  Texts of this proof, one behind the other: Arena, RefA, Help, ArenaS, RefP, Perm, StoreC.
-/
import Derived.Test.YtclkckinpjkglaaDoorG3
import Derived.Test.YtclkckinpjkglaaDoorG1
import Derived.Lib.IfaceEq
import Derived.Test.YtclkckinpjkglaaDoorG7
import Derived.BigQuiet
import Derived.Deep.QuietTactic
import Derived.WalkKit
import Derived.RegionTactic
import Derived.KernelRfl
import Derived.Lib.Hide
import Derived.Test.YtclkckinpjkglaaDoorG5
/-
  Walks of package arena.
-/
namespace Go.Proofs.YtclkckinpjkglaaDoor
open Go Go.RowKit

/-- The blocks of a thing of one block and two slices. -/
def foot2 (b : Nat) (v1 v2 : Value) (k : Nat) : Prop := k = b ∨ v1.ownBlock = some k ∨ v2.ownBlock = some k

/-- At block b stands an arena of so many numbers, with these flags, and these given back. -/
structure ArenaR (w : World) (b : Nat) (v1 v2 : Value) (most : Int) (tk : List Bool) (bk : List Int) : Prop where
  row : w.heap[b]? = some (.cells #[.int .i64 most, v1, v2] 73 (0, 0))
  taken : Owns encB w v1 tk
  back : Owns encI w v2 bk
  apart1 : v1.ownBlock ≠ some b
  apart2 : v2.ownBlock ≠ some b
  apart : ∀ g, v1.ownBlock = some g → v2.ownBlock ≠ some g

theorem row_lt {w : World} {b : Nat} {o : Obj} (h : w.heap[b]? = some o) : b < w.heap.size := (Array.getElem?_eq_some_iff.1 h).1

section
variable {w w' : World} {b : Nat} {v1 v2 : Value} {most : Int} {tk : List Bool} {bk : List Int}

theorem ArenaR.lt (h : ArenaR w b v1 v2 most tk bk) : ∀ k, foot2 b v1 v2 k → k < w.heap.size := by
  rintro k (rfl | hk | hk)
  · exact row_lt h.row
  · exact h.taken.lt k hk
  · exact h.back.lt k hk

theorem ArenaR.block (h : ArenaR w b v1 v2 most tk bk) (hb : ∀ k, foot2 b v1 v2 k → w'.heap[k]? = w.heap[k]?) : ArenaR w' b v1 v2 most tk bk :=
  ⟨(hb b (.inl rfl)).trans h.row, h.taken.block fun g hg => hb g (.inr (.inl hg)), h.back.block fun g hg => hb g (.inr (.inr hg)), h.apart1, h.apart2, h.apart⟩

theorem ArenaR.keep (h : ArenaR w b v1 v2 most tk bk) {F : Nat → Prop} (hb : Keeps F w w') (hF : ∀ k, foot2 b v1 v2 k → ¬ F k) : ArenaR w' b v1 v2 most tk bk :=
  h.block fun k hk => hb.block k (h.lt k hk) (hF k hk)

theorem ArenaR.alloc (h : ArenaR w b v1 v2 most tk bk) (o : Obj) : ArenaR (w.alloc o) b v1 v2 most tk bk := h.block fun k hk => heap_alloc_old _ _ (h.lt k hk)

theorem ArenaR.cells (h : ArenaR w b v1 v2 most tk bk) : w.cell? ⟨b, 0, none⟩ = some (.int .i64 most) ∧ w.cell? ⟨b, 1, none⟩ = some v1 ∧ w.cell? ⟨b, 2, none⟩ = some v2 :=
  ⟨by rw [cell_of_row _ _ _ _ _ _ h.row]; rfl, by rw [cell_of_row _ _ _ _ _ _ h.row]; rfl, by rw [cell_of_row _ _ _ _ _ _ h.row]; rfl⟩

theorem ArenaR.free (h : ArenaR w b v1 v2 most tk bk) (j : Nat) : w.frozen? ⟨b, j, none⟩ = false := frozen_of_row _ _ _ _ _ h.row

theorem ArenaR.forms (h : ArenaR w b v1 v2 most tk bk) : ∃ a1 c1 a2 c2, v1 = .slice a1 tk.length c1 ∧ v2 = .slice a2 bk.length c2 := by
  obtain ⟨a1, c1, e1, _⟩ := h.taken.form
  obtain ⟨a2, c2, e2, _⟩ := h.back.form
  exact ⟨a1, c1, a2, c2, e1, e2⟩
end

set_option maxRecDepth 100000 in
theorem arenaMany {w : World} {b : Nat} {v1 v2 : Value} {most : Int} {tk : List Bool} {bk : List Int} (h : ArenaR w b v1 v2 most tk bk) (hb : bk.length ≤ tk.length) (ht : tk.length ≤ 20000) :
    Calls Tryd.prog 58 #[.pointer (some ⟨b, 0, none⟩)] w fun e w' => e = .returned (.int .i64 (tk.length - bk.length)) ∧ Below w.heap.size w w' := by
  obtain ⟨a1, k1, a2, k2, rfl, rfl⟩ := h.forms
  obtain ⟨c0, c1, c2⟩ := h.cells
  clear h
  have h1 : (0 : Int) ≤ (tk.length : Int) - bk.length := by omega
  have h2 : (tk.length : Int) - bk.length ≤ 20000 := by omega
  go_enter Tryd.func58, Tryd.ntmps58
  go_wp2
  go_region
  go_wp2
  go_ret
  exact ⟨rfl, by go_grown⟩

/-- Is it taken? -/
def flagAt (tk : List Bool) (n : Int) : Bool := decide (0 ≤ n) && tk.getD n.toNat false

set_option maxRecDepth 100000 in
theorem arenaHas {w : World} {b : Nat} {v1 v2 : Value} {most : Int} {tk : List Bool} {bk : List Int} (h : ArenaR w b v1 v2 most tk bk) (n : Int) :
    Calls Tryd.prog 56 #[.pointer (some ⟨b, 0, none⟩), .int .i64 n] w fun e w' => e = .returned (.bool (flagAt tk n)) ∧ w = w' := by
  by_cases h0 : 0 ≤ n
  · obtain ⟨m, rfl⟩ := Int.eq_ofNat_of_zero_le h0
    by_cases h1 : m < tk.length
    · obtain ⟨g, cap, rfl, hc, hm⟩ := h.taken.some (by omega)
      have e : flagAt tk (m : Int) = tk[m] := by simp [flagAt, List.getD, h1]
      rw [e]
      have cm := h.taken.boolAt m h1
      obtain ⟨c0, c1, c2⟩ := h.cells
      have hlt : (m : Int) < (tk.length : Int) := by omega
      clear h
      go_enter Tryd.func56, Tryd.ntmps56
      go_wp2
      go_ret
      exact ⟨rfl, rfl⟩
    · have e : flagAt tk (m : Int) = false := by simp [flagAt, List.getD, h1]
      rw [e]
      obtain ⟨a1, k1, a2, k2, rfl, rfl⟩ := h.forms
      obtain ⟨c0, c1, c2⟩ := h.cells
      have hlt : ¬ (m : Int) < (tk.length : Int) := by omega
      clear h
      go_enter Tryd.func56, Tryd.ntmps56
      go_wp2
      go_ret
      exact ⟨rfl, rfl⟩
  · have e : flagAt tk n = false := by simp [flagAt, h0]
    rw [e]
    clear h
    go_enter Tryd.func56, Tryd.ntmps56
    go_wp2
    go_ret
    exact ⟨rfl, rfl⟩

section
variable {w w' : World} {b : Nat} {v1 v2 : Value} {most : Int} {tk : List Bool} {bk : List Int}

/-- The second slice stored anew. -/
theorem ArenaR.setBack (h : ArenaR w b v1 v2 most tk bk) {v : Value} {l : List Int} (hv : Owns encI w v l) (h1 : v.ownBlock ≠ some b) (h2 : ∀ g, v1.ownBlock = some g → v.ownBlock ≠ some g) : ArenaR (w.setCell ⟨b, 2, none⟩ v) b v1 v most tk l :=
  ⟨heap_setCell_same w b 2 _ _ v h.row, h.taken.block fun g hg => Below.heap_setCell _ _ _ _ (fun e => h.apart1 (by rw [hg, e])), hv.block fun g hg => Below.heap_setCell _ _ _ _ (fun e => h1 (by rw [hg, e])), h.apart1, h1, h2⟩
theorem ArenaR.setTaken (h : ArenaR w b v1 v2 most tk bk) {v : Value} {l : List Bool} (hv : Owns encB w v l) (h1 : v.ownBlock ≠ some b) (h2 : ∀ g, v.ownBlock = some g → v2.ownBlock ≠ some g) : ArenaR (w.setCell ⟨b, 1, none⟩ v) b v v2 most l bk :=
  ⟨heap_setCell_same w b 1 _ _ v h.row, hv.block fun g hg => Below.heap_setCell _ _ _ _ (fun e => h1 (by rw [hg, e])), h.back.block fun g hg => Below.heap_setCell _ _ _ _ (fun e => h.apart2 (by rw [hg, e])), h1, h.apart2, h2⟩
/-- A flag written. -/
theorem ArenaR.setFlag {g c n : Nat} (h : ArenaR w b (.slice (some ⟨g, 0, none⟩) tk.length c) v2 most tk bk) (hn : n < tk.length) (x : Bool) : ArenaR (w.setCell ⟨g, n, none⟩ (.bool x)) b (.slice (some ⟨g, 0, none⟩) tk.length c) v2 most (tk.set n x) bk :=
  ⟨(Below.heap_setCell _ _ _ _ (fun e => h.apart1 (by rw [e]; rfl))).trans h.row, h.taken.put rfl rfl hn, h.back.block fun k hk => Below.heap_setCell _ _ _ _ (fun e => h.apart g rfl (by rw [hk, e])), h.apart1, h.apart2, h.apart⟩
end

set_option maxRecDepth 100000 in
set_option maxHeartbeats 1000000 in
theorem arenaTakeAgain {w : World} {b : Nat} {v1 v2 : Value} {most : Int} {tk : List Bool} {bk : List Int} {n : Nat} (h : ArenaR w b v1 v2 most tk (bk ++ [(n : Int)])) (hn : n < tk.length) (hb : bk.length < 1000000) :
    Calls Tryd.prog 59 #[.pointer (some ⟨b, 0, none⟩)] w fun e w' => e = .returned (.int .i64 n) ∧ ∃ v1' v2', ArenaR w' b v1' v2' most (tk.set n true) bk ∧ Keeps (foot2 b v1 v2) w w' ∧ Within w (foot2 b v1 v2) (foot2 b v1' v2') := by
  have hl : (bk ++ [(n : Int)]).length = bk.length + 1 := by simp
  obtain ⟨g1, k1, rfl, hc1, hm1⟩ := h.taken.some (by omega)
  obtain ⟨g2, k2, rfl, hc2, hm2⟩ := h.back.some (by omega)
  have cn : w.cell? ⟨g2, bk.length, none⟩ = some (.int .i64 (n : Int)) := by
    have := h.back.intAt bk.length (by omega)
    simpa using this
  have ht := h.back.take (n := bk.length) (by omega)
  rw [List.take_left' rfl] at ht
  have hS := h.setBack ht h.apart2 h.apart
  have hF := hS.setFlag hn true
  have z1 := h.free 2
  have z2 : (w.setCell ⟨b, 2, none⟩ (.slice (some ⟨g2, 0, none⟩) bk.length k2)).frozen? ⟨g1, n, none⟩ = false := hS.taken.free n
  have cf := hS.taken.boolAt n hn
  have cb := hS.cells.2.1
  obtain ⟨c0, c1, c2⟩ := h.cells
  have hk : Keeps (foot2 b (.slice (some ⟨g1, 0, none⟩) tk.length k1) (.slice (some ⟨g2, 0, none⟩) (bk ++ [(n : Int)]).length k2)) w ((w.setCell ⟨b, 2, none⟩ (.slice (some ⟨g2, 0, none⟩) bk.length k2)).setCell ⟨g1, n, none⟩ (.bool true)) :=
    (Keeps.of_setCell _ w ⟨b, 2, none⟩ _ (.inl rfl)).and (Keeps.of_setCell _ _ ⟨g1, n, none⟩ _ (.inr (.inl rfl)))
  have HF := Lib.hid hF
  have HK := Lib.hid hk
  clear h ht hS hF hk
  rw [hl] at *
  have hlt : (n : Int) < (tk.length : Int) := by omega
  have hn0 : (0 : Int) ≤ (n : Int) := by omega
  have hb0 : (bk.length : Int) < 1000000 := by omega
  go_enter Tryd.func59, Tryd.ntmps59
  go_wp2
  go_ret
  exact ⟨rfl, _, _, HF.out, HK.out, fun k hk => .inl hk⟩

section
variable {w w' : World} {b : Nat} {v1 v2 v' : Value} {most : Int} {tk : List Bool} {bk : List Int}

theorem ArenaR.appTaken (h : ArenaR w b v1 v2 most tk bk) {l : List Bool} (ho : Owns encB w' v' l) (hg : w.grownBy w' v1.ownBlock) (hat : v'.ownBlock = v1.ownBlock ∨ v'.ownBlock = some w.heap.size) :
    w'.cell? ⟨b, 1, none⟩ = some v1 ∧ w'.frozen? ⟨b, 1, none⟩ = false ∧ ArenaR (w'.setCell ⟨b, 1, none⟩ v') b v' v2 most l bk ∧ Keeps (foot2 b v1 v2) w (w'.setCell ⟨b, 1, none⟩ v') ∧ Within w (foot2 b v1 v2) (foot2 b v' v2) := by
  have hrow : w'.heap[b]? = some (.cells #[.int .i64 most, v1, v2] 73 (0, 0)) := (hg.block b (row_lt h.row) (fun e => h.apart1 e.symm)).trans h.row
  have hb1 : v'.ownBlock ≠ some b := fun e => by
    rcases hat with hat | hat
    · exact h.apart1 (hat ▸ e)
    · have := row_lt h.row; rw [hat] at e; injection e; omega
  have hap : ∀ g, v'.ownBlock = some g → v2.ownBlock ≠ some g := fun g hg1 e => by
    rcases hat with hat | hat
    · exact h.apart g (hat ▸ hg1) e
    · have := h.back.lt g e; rw [hat] at hg1; injection hg1; omega
  refine ⟨by rw [cell_of_row _ _ _ _ _ _ hrow]; rfl, frozen_of_row _ _ _ _ _ hrow, ⟨heap_setCell_same w' b 1 _ _ v' hrow, ho.block fun g hg => Below.heap_setCell _ _ _ _ (fun e => hb1 (by rw [hg, e])),
    (h.back.block fun g hg1 => hg.block g (h.back.lt g hg1) (fun e => h.apart g e.symm hg1)).block fun g hg => Below.heap_setCell _ _ _ _ (fun e => h.apart2 (by rw [hg, e])), hb1, h.apart2, hap⟩,
    (Keeps.of_grown hg (fun k hk => .inr (.inl hk))).and (Keeps.of_setCell _ _ ⟨b, 1, none⟩ _ (.inl rfl)), ?_⟩
  rintro k (rfl | hk | hk)
  · exact .inl (.inl rfl)
  · rcases hat with hat | hat
    · exact .inl (.inr (.inl (hat ▸ hk)))
    · rw [hat] at hk; injection hk with hk; exact .inr (by omega)
  · exact .inl (.inr (.inr hk))

theorem ArenaR.appBack (h : ArenaR w b v1 v2 most tk bk) {l : List Int} (ho : Owns encI w' v' l) (hg : w.grownBy w' v2.ownBlock) (hat : v'.ownBlock = v2.ownBlock ∨ v'.ownBlock = some w.heap.size) :
    w'.cell? ⟨b, 2, none⟩ = some v2 ∧ w'.frozen? ⟨b, 2, none⟩ = false ∧ ArenaR (w'.setCell ⟨b, 2, none⟩ v') b v1 v' most tk l ∧ Keeps (foot2 b v1 v2) w (w'.setCell ⟨b, 2, none⟩ v') ∧ Within w (foot2 b v1 v2) (foot2 b v1 v') := by
  have hrow : w'.heap[b]? = some (.cells #[.int .i64 most, v1, v2] 73 (0, 0)) := (hg.block b (row_lt h.row) (fun e => h.apart2 e.symm)).trans h.row
  have hb1 : v'.ownBlock ≠ some b := fun e => by
    rcases hat with hat | hat
    · exact h.apart2 (hat ▸ e)
    · have := row_lt h.row; rw [hat] at e; injection e; omega
  have hap : ∀ g, v1.ownBlock = some g → v'.ownBlock ≠ some g := fun g hg1 e => by
    rcases hat with hat | hat
    · exact h.apart g hg1 (hat ▸ e)
    · have := h.taken.lt g hg1; rw [hat] at e; injection e; omega
  refine ⟨by rw [cell_of_row _ _ _ _ _ _ hrow]; rfl, frozen_of_row _ _ _ _ _ hrow, ⟨heap_setCell_same w' b 2 _ _ v' hrow,
    (h.taken.block fun g hg1 => hg.block g (h.taken.lt g hg1) (fun e => h.apart g hg1 e.symm)).block fun g hg => Below.heap_setCell _ _ _ _ (fun e => h.apart1 (by rw [hg, e])),
    ho.block fun g hg => Below.heap_setCell _ _ _ _ (fun e => hb1 (by rw [hg, e])), h.apart1, hb1, hap⟩,
    (Keeps.of_grown hg (fun k hk => .inr (.inr hk))).and (Keeps.of_setCell _ _ ⟨b, 2, none⟩ _ (.inl rfl)), ?_⟩
  rintro k (rfl | hk | hk)
  · exact .inl (.inl rfl)
  · exact .inl (.inr (.inl hk))
  · rcases hat with hat | hat
    · exact .inl (.inr (.inr (hat ▸ hk)))
    · rw [hat] at hk; injection hk with hk; exact .inr (by omega)
end

set_option maxRecDepth 100000 in
set_option maxHeartbeats 1000000 in
theorem arenaTakeNew {w : World} {b : Nat} {v1 v2 : Value} {most : Int} {tk : List Bool} {bk : List Int} (h : ArenaR w b v1 v2 most tk bk) (ht : tk.length ≤ 20000) :
    Calls Tryd.prog 60 #[.pointer (some ⟨b, 0, none⟩)] w fun e w' => e = .returned (.int .i64 tk.length) ∧ ∃ v1' v2', ArenaR w' b v1' v2' most (tk ++ [true]) bk ∧ Keeps (foot2 b v1 v2) w w' ∧ Within w (foot2 b v1 v2) (foot2 b v1' v2') := by
  have hA := h.alloc (.cells #[.bool true] 4)
  have hsrc := oneB w true w.heap.size rfl
  have hlen : tk.length + [true].length ≤ 1000000 := by simp; omega
  have hl : (tk ++ [true]).length = tk.length + 1 := by simp
  obtain ⟨a1, k1, a2, k2, rfl, rfl⟩ := h.forms
  obtain ⟨c0, c1, c2⟩ := h.cells
  have hkA := Keeps.of_alloc (foot2 b (.slice a1 tk.length k1) (.slice a2 bk.length k2)) w (.cells #[.bool true] 4)
  have hsz : w.heap.size ≤ (w.alloc (.cells #[.bool true] 4)).heap.size := hkA.size
  clear h
  go_enter Tryd.func60, Tryd.ntmps60
  go_wp2_with (at_builtin; refine appendB rfl (.tmp 13) (.tmp 14) rfl _ _ tk [true] rfl hA.taken rfl hsrc hlen ?_; intro v' w2 hown hgr hat; obtain ⟨d1, z1, hR, hK, hW⟩ := hA.appTaken hown hgr hat; obtain ⟨a', k', e', _⟩ := hown.form; rw [hl] at e'; subst e'; clear hown hgr hat)
  go_ret
  exact ⟨rfl, _, _, hR, hkA.and hK, fun k hk => (hW k hk).imp id (fun e => Nat.le_trans hsz e)⟩


set_option maxRecDepth 100000 in
theorem arenaNew (most : Int) (w : World) (h0 : 0 ≤ most) (h1 : most ≤ 20000) :
    Calls Tryd.prog 18 #[.int .i64 most] w fun e w' => e = .returned (.pointer (some ⟨w.heap.size, 0, none⟩)) ∧ ArenaR w' w.heap.size (.slice none 0 0) (.slice none 0 0) most [] [] ∧ Below w.heap.size w w' := by
  have h2 : ¬ most < 0 := by omega
  have h3 : ¬ 20000 < most := by omega
  go_enter Tryd.func18, Tryd.ntmps18
  go_wp2
  go_ret
  exact ⟨rfl, ⟨heap_alloc_new _ _, Owns.nil _ _, Owns.nil _ _, (fun h => by cases h), (fun h => by cases h), (fun _ h => by cases h)⟩, by go_grown⟩

set_option maxRecDepth 100000 in
theorem arenaNo (most : Int) (w : World) (h : most < 0 ∨ 20000 < most) :
    Calls Tryd.prog 18 #[.int .i64 most] w fun e w' => e = .returned (.pointer none) ∧ w = w' := by
  by_cases h0 : most < 0
  · go_enter Tryd.func18, Tryd.ntmps18
    go_wp2
    go_ret
    exact ⟨rfl, rfl⟩
  · have h1 : 20000 < most := by omega
    go_enter Tryd.func18, Tryd.ntmps18
    go_wp2
    go_ret
    exact ⟨rfl, rfl⟩

theorem arenaMany_sub {W : World} {b : Nat} {v1 v2 : Value} {most : Int} {tk : List Bool} {bk : List Int} (h : ArenaR W b v1 v2 most tk bk) (hb : bk.length ≤ tk.length) (ht : tk.length ≤ 20000) (u : Sub W) :
    Calls Tryd.prog 58 #[.pointer (some ⟨b, 0, none⟩)] u.1 fun e w'' => e = .returned (.int .i64 (tk.length - bk.length)) ∧ ∃ x : Sub W, w'' = x.1 :=
  (arenaMany (h.keep (F := noBlock) (Keeps.of_below u.2 _) (fun _ _ h => h)) hb ht).mono fun _ w' ⟨he, hw⟩ => ⟨he, ⟨w', u.2.trans (hw.mono u.2.size)⟩, rfl⟩

set_option maxRecDepth 100000 in
set_option maxHeartbeats 1000000 in
theorem arenaTake_full {w : World} {b : Nat} {v1 v2 : Value} {most : Int} {tk : List Bool} {bk : List Int} (h : ArenaR w b v1 v2 most tk bk) (hb : bk.length ≤ tk.length) (ht : tk.length ≤ 20000) (hf : (tk.length : Int) - bk.length = most) :
    Calls Tryd.prog 49 #[.pointer (some ⟨b, 0, none⟩)] w fun e w' => e = .returned (.tuple #[.int .i64 0, .iface 69 (.int .i64 2)]) ∧ Below w.heap.size w w' := by
  have c0 : ∀ u : Sub w, u.1.cell? ⟨b, 0, none⟩ = some (.int .i64 most) := fun u => (h.keep (F := noBlock) (Keeps.of_below u.2 _) (fun _ _ h => h)).cells.1
  have hM := arenaMany_sub h hb ht
  rw [hf] at hM
  clear h hf
  go_enter Tryd.func49, Tryd.ntmps49
  go_wp2
  refine wp_region_quiet_all (C := fun w' => ∃ u : Sub w, w' = u.1) (by kernel_rfl) (by kernel_rfl) (InSub.drew w) ?_
  go_big_quiet_step (fail)
  go_big_quiet_step (exact hM _)
  iterate 5 (go_big_quiet_step (fail))
  refine wpQuiet_nil ?_
  clear c0 hM
  intro w' hw'
  obtain ⟨u, rfl⟩ := hw'
  have hk := u.2
  generalize u.1 = w1 at *
  go_wp2
  go_ret2
  exact ⟨rfl, hk⟩

set_option maxRecDepth 100000 in
set_option maxHeartbeats 1000000 in
theorem arenaTake_new {w : World} {b : Nat} {v1 v2 : Value} {most : Int} {tk : List Bool} (h : ArenaR w b v1 v2 most tk []) (ht : tk.length ≤ 20000) (hf : (tk.length : Int) ≠ most) :
    Calls Tryd.prog 49 #[.pointer (some ⟨b, 0, none⟩)] w fun e w' => e = .returned (.tuple #[.int .i64 tk.length, .nilIface]) ∧ ∃ v1' v2', ArenaR w' b v1' v2' most (tk ++ [true]) [] ∧ Keeps (foot2 b v1 v2) w w' ∧ Within w (foot2 b v1 v2) (foot2 b v1' v2') := by
  have hfb : ((tk.length : Int) == most) = false := by rw [beq_eq_false_iff_ne]; omega
  have c0 : ∀ u : Sub w, u.1.cell? ⟨b, 0, none⟩ = some (.int .i64 most) := fun u => (h.keep (F := noBlock) (Keeps.of_below u.2 _) (fun _ _ h => h)).cells.1
  have hM := arenaMany_sub h (Nat.zero_le _) ht
  have H := Lib.hid h
  clear h
  go_enter Tryd.func49, Tryd.ntmps49
  go_wp2
  refine wp_region_quiet_all (C := fun w' => ∃ u : Sub w, w' = u.1) (by kernel_rfl) (by kernel_rfl) (InSub.drew w) ?_
  go_big_quiet_step (fail)
  go_big_quiet_step (exact hM _)
  iterate 5 (go_big_quiet_step (fail))
  refine wpQuiet_nil ?_
  clear c0 hM
  intro w' hw'
  obtain ⟨u, rfl⟩ := hw'
  have hk := u.2
  generalize u.1 = w1 at *
  have h1 := H.out.keep (F := noBlock) (Keeps.of_below hk _) (fun _ _ h => h)
  clear H
  obtain ⟨a1, k1, a2, k2, rfl, rfl⟩ := h1.forms
  obtain ⟨c0, c1, c2⟩ := h1.cells
  go_wp2_with fail
  refine (arenaTakeNew h1 ht).mono ?_
  rintro e w2 ⟨rfl, v1', v2', hR, hK, hW⟩
  clear c0 c1 c2 h1
  go_wp2
  go_ret2
  exact ⟨rfl, v1', v2', hR, (Keeps.of_below hk _).and hK, fun k h => (hW k h).imp id (fun e => Nat.le_trans hk.size e)⟩

set_option maxRecDepth 100000 in
set_option maxHeartbeats 1000000 in
theorem arenaTake_again {w : World} {b : Nat} {v1 v2 : Value} {most : Int} {tk : List Bool} {bk : List Int} {n : Nat} (h : ArenaR w b v1 v2 most tk (bk ++ [(n : Int)])) (hb : bk.length < tk.length) (hn : n < tk.length) (ht : tk.length ≤ 20000) (hf : (tk.length : Int) - (bk.length + 1) ≠ most) :
    Calls Tryd.prog 49 #[.pointer (some ⟨b, 0, none⟩)] w fun e w' => e = .returned (.tuple #[.int .i64 n, .nilIface]) ∧ ∃ v1' v2', ArenaR w' b v1' v2' most (tk.set n true) bk ∧ Keeps (foot2 b v1 v2) w w' ∧ Within w (foot2 b v1 v2) (foot2 b v1' v2') := by
  have hl : (bk ++ [(n : Int)]).length = bk.length + 1 := by simp
  have hfb : ((tk.length : Int) - ((bk.length : Int) + 1) == most) = false := by rw [beq_eq_false_iff_ne]; omega
  have hpos : (0 : Int) < (bk.length : Int) + 1 := by omega
  have c0 : ∀ u : Sub w, u.1.cell? ⟨b, 0, none⟩ = some (.int .i64 most) := fun u => (h.keep (F := noBlock) (Keeps.of_below u.2 _) (fun _ _ h => h)).cells.1
  have hM := arenaMany_sub h (by rw [hl]; omega) ht
  rw [hl] at hM
  have H := Lib.hid h
  clear h
  go_enter Tryd.func49, Tryd.ntmps49
  go_wp2
  refine wp_region_quiet_all (C := fun w' => ∃ u : Sub w, w' = u.1) (by kernel_rfl) (by kernel_rfl) (InSub.drew w) ?_
  go_big_quiet_step (fail)
  go_big_quiet_step (exact hM _)
  iterate 5 (go_big_quiet_step (fail))
  refine wpQuiet_nil ?_
  clear c0 hM
  intro w' hw'
  obtain ⟨u, rfl⟩ := hw'
  have hk := u.2
  generalize u.1 = w1 at *
  have h1 := H.out.keep (F := noBlock) (Keeps.of_below hk _) (fun _ _ h => h)
  clear H
  obtain ⟨a1, k1, a2, k2, rfl, rfl⟩ := h1.forms
  obtain ⟨c0, c1, c2⟩ := h1.cells
  rw [hl] at c2
  go_wp2_with fail
  refine (arenaTakeAgain h1 hn (by omega)).mono ?_
  rintro e w2 ⟨rfl, v1', v2', hR, hK, hW⟩
  clear c0 c1 c2 h1
  go_wp2
  go_ret2
  exact ⟨rfl, v1', v2', hR, (Keeps.of_below hk _).and hK, fun k h => (hW k h).imp id (fun e => Nat.le_trans hk.size e)⟩

end Go.Proofs.YtclkckinpjkglaaDoor

/-
  Walks of the document's layer 4; Pick and Code.
-/
namespace Go.Proofs.YtclkckinpjkglaaDoor
open Go Go.RowKit


end Go.Proofs.YtclkckinpjkglaaDoor

/-
  Walks of Pick and Code.
-/
namespace Go.Proofs.YtclkckinpjkglaaDoor
open Go Go.RowKit

theorem neg_lt_tmod (n : Int) {m : Int} (h : 0 < m) : -m < n.tmod m := by
  have := Int.tmod_lt_of_pos (-n) h
  rw [Int.neg_tmod] at this
  omega

theorem pick_mod (n by' : Int) (h : 0 < by') : (n.tmod by' < 0 → n.tmod by' + by' = n % by') ∧ (¬ n.tmod by' < 0 → n.tmod by' = n % by') := by
  have h1 := Int.emod_nonneg n (show by' ≠ 0 by omega)
  have h2 := Int.emod_lt_of_pos n h
  have h3 := Int.tmod_lt_of_pos n h
  have h5 := neg_lt_tmod n h
  have h6 : (n.tmod by') % by' = n % by' := by
    rw [Int.tmod_def, Int.sub_emod, Int.mul_emod_right]; simp
  constructor
  · intro h4
    rw [← h6, ← Int.add_emod_right, Int.emod_eq_of_lt (by omega) (by omega)]
  · intro h4
    rw [← h6, Int.emod_eq_of_lt (by omega) (by omega)]


/-- An error of this number; 0: none. -/
def errV (c : Int) : Value := if c = 0 then .nilIface else .iface 69 (.int .i64 c)


end Go.Proofs.YtclkckinpjkglaaDoor

/-
  The code's arena and the document's, by what is taken and what was given back.
-/
namespace Go.Proofs.YtclkckinpjkglaaDoor
open Go Go.RowKit

/-- At block b, in the blocks F, stands the code's arena in this state. -/
def ArenaAt (w : World) (b : Nat) (F : Nat → Prop) (s : AS) : Prop := ∃ v1 v2, F = foot2 b v1 v2 ∧ ArenaR w b v1 v2 s.most s.flags s.B

section
variable {w w' : World} {b : Nat} {F G : Nat → Prop} {s : AS}

theorem ArenaAt.lt (h : ArenaAt w b F s) (k : Nat) (hk : F k) : k < w.heap.size := by obtain ⟨v1, v2, rfl, h⟩ := h; exact h.lt k hk
theorem ArenaAt.keep (h : ArenaAt w b F s) (hb : Keeps G w w') (hF : ∀ k, F k → ¬ G k) : ArenaAt w' b F s := by obtain ⟨v1, v2, rfl, h⟩ := h; exact ⟨v1, v2, rfl, h.keep hb hF⟩
theorem ArenaAt.below (h : ArenaAt w b F s) (hb : Below w.heap.size w w') : ArenaAt w' b F s := h.keep (Keeps.of_below hb noBlock) (fun _ _ h => h)

theorem arenaManyS (h : ArenaAt w b F s) (ok : s.Ok) : Calls Tryd.prog 58 #[.pointer (some ⟨b, 0, none⟩)] w fun e w' => e = .returned (.int .i64 s.T.length) ∧ Below w.heap.size w w' := by
  obtain ⟨v1, v2, rfl, h⟩ := h
  have hl := ok.len
  have h1 := ok.nextLe
  have h2 := ok.mostLe
  have H := arenaMany h (by rw [s.flags_length]; omega) (by rw [s.flags_length]; omega)
  rwa [s.flags_length, show (s.next : Int) - s.B.length = s.T.length by omega] at H

theorem arenaHasS (h : ArenaAt w b F s) (ok : s.Ok) (n : Int) : Calls Tryd.prog 56 #[.pointer (some ⟨b, 0, none⟩), .int .i64 n] w fun e w' => e = .returned (.bool (decide (n ∈ s.T))) ∧ w = w' := by
  obtain ⟨v1, v2, rfl, h⟩ := h
  have H := arenaHas h n
  rwa [flagAt, ok.flag] at H

theorem arenaNewS (most : Int) (w : World) (h0 : 0 ≤ most) (h1 : most ≤ 20000) :
    Calls Tryd.prog 18 #[.int .i64 most] w fun e w' => e = .returned (.pointer (some ⟨w.heap.size, 0, none⟩)) ∧ (∃ F, ArenaAt w' w.heap.size F ⟨most.toNat, 0, [], []⟩ ∧ ∀ k, F k → w.heap.size ≤ k) ∧ Below w.heap.size w w' := by
  refine (arenaNew most w h0 h1).mono fun e w' ⟨he, hR, hb⟩ => ⟨he, ⟨_, ⟨.slice none 0 0, .slice none 0 0, rfl, ?_⟩, ?_⟩, hb⟩
  · simp only [AS.flags, List.range_zero, List.map_nil]
    rwa [Int.toNat_of_nonneg h0]
  · rintro k (rfl | hk | hk)
    · exact Nat.le_refl _
    · cases hk
    · cases hk

theorem arenaTakeS (h : ArenaAt w b F s) (ok : s.Ok) : Calls Tryd.prog 49 #[.pointer (some ⟨b, 0, none⟩)] w fun e w' => e = .returned (.tuple #[.int .i64 s.takeN, errV s.takeE]) ∧ ∃ F', ArenaAt w' b F' s.take ∧ Keeps F w w' ∧ Within w F F' := by
  obtain ⟨v1, v2, rfl, h⟩ := h
  have hl := ok.len
  have h1 := ok.nextLe
  have h2 := ok.mostLe
  have hfl := s.flags_length
  by_cases hf : s.T.length = s.most
  · obtain ⟨e1, e2, e3⟩ := AS.Ok.take_full hf
    rw [e1, e2, e3]
    refine (arenaTake_full h (by omega) (by omega) (by omega)).mono fun e w' ⟨he, hb⟩ => ⟨he, _, ⟨v1, v2, rfl, h.keep (F := noBlock) (Keeps.of_below hb _) (fun _ _ h => h)⟩, Keeps.of_below hb _, Within.refl _ _⟩
  · rcases last_or_nil s.B with hb | ⟨l, n, hb⟩
    · obtain ⟨e1, e2, e3⟩ := AS.Ok.take_new hf hb
      rw [e1, e2, e3]
      rw [hb] at h
      have H := arenaTake_new h (by omega) (by rw [hb] at hl; simp at hl; omega)
      rw [hfl] at H
      refine H.mono fun e w' ⟨he, v1', v2', hR, hK, hW⟩ => ⟨he, _, ⟨v1', v2', rfl, ?_⟩, hK, hW⟩
      rw [s.flags_new]
      simp only [hb]
      exact hR
    · obtain ⟨e1, e2, e3⟩ := AS.Ok.take_again hf hb
      rw [e1, e2, e3]
      rw [hb] at h
      have hin := (ok.all n).1 (.inr (by rw [hb]; simp))
      have hbl : s.B.length = l.length + 1 := by rw [hb]; simp
      obtain ⟨m, rfl⟩ := Int.eq_ofNat_of_zero_le hin.1
      have hm : m < s.next := by omega
      refine (arenaTake_again h (by omega) (by omega) (by omega) (by omega)).mono fun e w' ⟨he, v1', v2', hR, hK, hW⟩ => ⟨he, _, ⟨v1', v2', rfl, ?_⟩, hK, hW⟩
      rw [s.flags_again m l hm]
      exact hR




end

end Go.Proofs.YtclkckinpjkglaaDoor

/-
  Walks of the document's layer 6: Level, May, Swap.
-/
namespace Go.Proofs.YtclkckinpjkglaaDoor
open Go Go.RowKit



/-- Where the first k places were looked at. -/
def swapTo (o : Nat → Int) (l : Int) (k : Nat) : Nat → Int := if 0 ≤ l ∧ l < (k : Int) then swapO o l else o

theorem setO_swap (o : Nat → Int) (k : Nat) (hk : k < 7) : setO (setO o k (o (k + 1))) (k + 1) (o k) = swapO o (k : Int) := by
  funext j
  have h : 0 ≤ (k : Int) ∧ (k : Int) ≤ 6 := by omega
  unfold setO swapO
  rw [if_pos h]
  by_cases h1 : j = k + 1
  · subst h1
    rw [if_pos rfl, if_neg (by omega), if_pos (by omega)]
    rfl
  · rw [if_neg h1]
    by_cases h2 : j = k
    · subst h2; rw [if_pos rfl, if_pos rfl]
    · rw [if_neg h2, if_neg (by omega), if_neg (by omega)]


end Go.Proofs.YtclkckinpjkglaaDoor

/-
  Walks of package perm.
-/
namespace Go.Proofs.YtclkckinpjkglaaDoor
open Go Go.RowKit

theorem run_index_order (o : Nat → Int) (n : Nat) (hn : n < 8) (w : World) : (Instr.index 43 (.agg #[.int .i64 (o 0), .int .i64 (o 1), .int .i64 (o 2), .int .i64 (o 3), .int .i64 (o 4), .int .i64 (o 5), .int .i64 (o 6), .int .i64 (o 7)]) (.int .i64 (n : Int))).run Tryd.prog w = .ok (.int .i64 (o n)) w := by
  rcases (by omega : n = 0 ∨ n = 1 ∨ n = 2 ∨ n = 3 ∨ n = 4 ∨ n = 5 ∨ n = 6 ∨ n = 7) with rfl | rfl | rfl | rfl | rfl | rfl | rfl | rfl <;> kernel_rfl

set_option maxRecDepth 100000 in
set_option maxHeartbeats 1000000 in
theorem permLevel (o : Nat → Int) (v : Int) (w : World) :
    Calls Tryd.prog 32 #[ov o, .int .i64 v] w fun e w' => e = .returned (.int .i64 (levO o v)) ∧ Below w.heap.size w w' := by
  simp only [ov]
  go_enter Tryd.func32, Tryd.ntmps32
  go_wp2
  have hb : Below w.heap.size w (w.alloc (.cells #[.int .i64 (o 0), .int .i64 (o 1), .int .i64 (o 2), .int .i64 (o 3), .int .i64 (o 4), .int .i64 (o 5), .int .i64 (o 6), .int .i64 (o 7)] 43)) := by go_grown
  generalize w.alloc (.cells #[.int .i64 (o 0), .int .i64 (o 1), .int .i64 (o 2), .int .i64 (o 3), .int .i64 (o 4), .int .i64 (o 5), .int .i64 (o 6), .int .i64 (o 7)] 43) = W at *
  go_loop [8] (fun i => ∃ n : Nat, n ≤ 8 ∧ i = .int .i64 n ∧ Hid (levO o v = lf o v (8 - n) n)) (fun i => 8 - (intOf i).toNat)
  case atStart => exact ⟨0, by omega, rfl, rfl⟩
  case round =>
    obtain ⟨n, hn, rfl, hr⟩ := hrel
    by_cases hlt : n < 8
    · have hs : levO o v = if o n = v then (n : Int) else lf o v (8 - (n + 1)) (n + 1) := by
        have := hr.out
        rw [show 8 - n = (8 - (n + 1)) + 1 by omega] at this
        exact this
      clear hr
      have hx := run_index_order o n hlt
      have hn8 : (n : Int) < 8 := by omega
      generalize hy : o n = y at *
      clear hy
      split at hs
      · rename_i hv
        have hvb := beq_iff_eq.2 hv
        replace hs := Lib.hid hs
        clear hv
        go_wp2
        go_ret
        exact ⟨by rw [hs.out]; rfl, hb⟩
      · rename_i hv
        have hvb := beq_eq_false_iff_ne.2 hv
        replace hs := Lib.hid hs
        clear hv
        go_wp2
        exact ⟨⟨n + 1, by omega, by go_num, hs⟩, by simp [intOf]; omega⟩
    · obtain rfl : n = 8 := by omega
      go_wp2
      go_ret
      exact ⟨by rw [hr.out]; rfl, hb⟩



end Go.Proofs.YtclkckinpjkglaaDoor

/-
  What is asked of the code's store, whatever it is; the two stores side by side; helpers of the laws.
-/
namespace Go.Proofs.YtclkckinpjkglaaDoor
open Go Go.RowKit

/-- Each call, by the state. -/
structure StoreC (StAt : World → Nat → (Nat → Prop) → MS → Prop) : Prop where ofAll ::
  lt : ∀ {w b F s}, StAt w b F s → ∀ k, F k → k < w.heap.size
  keep : ∀ {w w' b F s} {G : Nat → Prop}, StAt w b F s → Keeps G w w' → (∀ k, F k → ¬ G k) → StAt w' b F s
  new : ∀ (most : Int) (w : World), 0 ≤ most → most ≤ 20000 → Calls Tryd.prog 5 #[.int .i64 most] w fun e w' => ∃ b, e = .returned (.pointer (some ⟨b, 0, none⟩)) ∧ (∃ F, StAt w' b F (MS.none most.toNat) ∧ ∀ k, F k → w.heap.size ≤ k) ∧ Below w.heap.size w w'
  no : ∀ (most : Int) (w : World), most < 0 ∨ 20000 < most → Calls Tryd.prog 5 #[.int .i64 most] w fun e w' => e = .returned (.pointer none) ∧ Below w.heap.size w w'
  make : ∀ {w b F s}, StAt w b F s → s.Ok → ∀ v lo hi : Int, (lo ≤ 9223372036854775807 ∧ -9223372036854775808 ≤ lo) → (hi ≤ 9223372036854775807 ∧ -9223372036854775808 ≤ hi) → Calls Tryd.prog 17 #[.pointer (some ⟨b, 0, none⟩), .int .i64 v, .int .i64 lo, .int .i64 hi] w fun e w' => e = .returned (.tuple #[.int .i64 (s.mk v lo hi []).1, errV (s.mk v lo hi []).2.1]) ∧ ∃ F', StAt w' b F' (s.mk v lo hi []).2.2 ∧ Keeps F w w' ∧ Within w F F'
  node : ∀ {w b F s}, StAt w b F s → s.Ok → ∀ n : Int, (n ≤ 9223372036854775807 ∧ -9223372036854775808 ≤ n) → Calls Tryd.prog 26 #[.pointer (some ⟨b, 0, none⟩), .int .i64 n] w fun e w' => e = .returned (nodeV s n) ∧ Below w.heap.size w w'
  order : ∀ {w b F s}, StAt w b F s → s.Ok → Calls Tryd.prog 21 #[.pointer (some ⟨b, 0, none⟩)] w fun e w' => e = .returned (ov s.o) ∧ Below w.heap.size w w'

theorem StoreC.below {StAt : World → Nat → (Nat → Prop) → MS → Prop} (H : StoreC StAt) {w w' : World} {b : Nat} {F : Nat → Prop} {s : MS} (h : StAt w b F s) (hb : Below w.heap.size w w') : StAt w' b F s := H.keep h (Keeps.of_below hb noBlock) (fun _ _ h => h)
theorem StoreC.sub {StAt : World → Nat → (Nat → Prop) → MS → Prop} (H : StoreC StAt) {w : World} {b : Nat} {F : Nat → Prop} {s : MS} (h : StAt w b F s) (u : Sub w) : StAt u.1 b F s := H.below h u.2


theorem errV0 : errV 0 = .nilIface := rfl
theorem UpS.step {StAt : World → Nat → (Nat → Prop) → MS → Prop} {w w1 w2 : World} {b : Nat} {F F2 : Nat → Prop} {s : MS} (hb : Below w.heap.size w w1) (hF : ∀ k, F k → w.heap.size ≤ k) (hA2 : StAt w2 b F2 s) (hK : Keeps F w1 w2) (hW : Within w1 F F2) :
    (∃ F, StAt w2 b F s ∧ ∀ k, F k → w.heap.size ≤ k) ∧ Below w.heap.size w w2 :=
  ⟨⟨F2, hA2, fun k hk => (hW k hk).elim (hF k) (fun h => Nat.le_trans hb.size h)⟩, hb.trans (hK.below hb.size hF)⟩

theorem MS.mk_err (s : MS) (v lo hi : Int) (but : List Int) : 0 ≤ (s.mk v lo hi but).2.1 ∧ (s.mk v lo hi but).2.1 ≤ 8 := by
  unfold MS.mk
  split
  · (refine ⟨?_, ?_⟩ <;> dsimp only <;> omega)
  · split
    · (refine ⟨?_, ?_⟩ <;> dsimp only <;> omega)
    · split
      · (refine ⟨?_, ?_⟩ <;> dsimp only <;> omega)
      · have : 0 ≤ s.ar.takeE ∧ s.ar.takeE ≤ 8 := by unfold AS.takeE; split <;> decide
        split
        · exact this
        · (refine ⟨?_, ?_⟩ <;> dsimp only <;> omega)
theorem MS.free_err (s : MS) (n : Int) : 0 ≤ (s.free n).1 ∧ (s.free n).1 ≤ 8 := by
  unfold MS.free
  split
  · (refine ⟨?_, ?_⟩ <;> dsimp only <;> omega)
  · show 0 ≤ s.ar.giveE (n - 2) ∧ s.ar.giveE (n - 2) ≤ 8
    unfold AS.giveE
    split <;> decide
theorem MS.swap_err (s : MS) (l : Int) : 0 ≤ (s.swap l).1 ∧ (s.swap l).1 ≤ 8 := by
  unfold MS.swap
  split
  · (refine ⟨?_, ?_⟩ <;> dsimp only <;> omega)
  · dsimp only
    split <;> (refine ⟨?_, ?_⟩ <;> dsimp only <;> omega)



end Go.Proofs.YtclkckinpjkglaaDoor
