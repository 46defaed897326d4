/-
  Texts of this proof, one behind the other: UniqS, Arena, RefA.
-/
import Derived.Test.YtipocmbplcdmjaaGreatDoorG4
import Derived.Test.YtipocmbplcdmjaaGreatDoorG2
import Derived.Test.YtipocmbplcdmjaaGreatDoorG1
/-
  The code's table of pairs, by its state.
-/
namespace Go.Proofs.YtipocmbplcdmjaaGreatDoor
open Go Go.RowKit

/-- At block b, in the blocks F, stands the code's table in this state. -/
def UniqAt (w : World) (b : Nat) (F : Nat → Prop) (s : TS) : Prop := ∃ g cap T, F = (fun k => k = b ∨ k = g) ∧ UniqV w b g cap s.slots s.L.length T ∧ TInv s.slots (homeN s.slots) T s.L

theorem Places.of {n : Nat} (hp : ∃ k, n = 2 ^ k) (h8 : 8 ≤ n) (hM : n ≤ 1000000) : Places n := by
  obtain ⟨k, rfl⟩ := hp
  refine ⟨⟨k, rfl, Nat.le_of_not_lt fun h => ?_⟩, hM, h8⟩
  have : 2 ^ 63 ≤ 2 ^ k := Nat.pow_le_pow_right (by decide) h
  omega

theorem TS.Ok.new : TS.Ok ⟨[], 8⟩ := ⟨List.nodup_nil, by simp, ⟨3, rfl⟩, Nat.le_refl _⟩

theorem TS.put_no {s : TS} {e : Ent} (h : (s.get e.1).2 = true) : s.put e = s := by simp [TS.put, h]
theorem TS.put_yes {s : TS} {e : Ent} (h : (s.get e.1).2 = false) : s.put e = ⟨s.L ++ [e], if s.L.length + 1 > s.slots / 2 then 2 * s.slots else s.slots⟩ := by simp [TS.put, h]

theorem TS.get_cases (s : TS) (ap : Apart s.L) (k : Int × Int) : ((∀ e ∈ s.L, e.1 ≠ k) ∧ s.get k = (0, false)) ∨ ∃ e ∈ s.L, e.1 = k ∧ s.get k = (e.2, true) := by
  by_cases h : ∃ e ∈ s.L, e.1 = k
  · obtain ⟨e, he, rfl⟩ := h
    exact .inr ⟨e, he, rfl, TS.get_yes ap he⟩
  · have h1 : ∀ e ∈ s.L, e.1 ≠ k := fun e he hk => h ⟨e, he, hk⟩
    exact .inl ⟨h1, TS.get_no h1⟩

theorem TS.Ok.put {s : TS} (ok : s.Ok) (e : Ent) : (s.put e).Ok := by
  rcases s.get_cases ok.apart e.1 with ⟨hno, hg⟩ | ⟨x, hx, hxe, hg⟩
  · rw [TS.put_yes (by rw [hg])]
    have h1 := ok.half
    have h2 := ok.least
    obtain ⟨k, hk⟩ := ok.pow
    refine ⟨?_, ?_, ?_, ?_⟩
    · have : Apart (e :: s.L) := by
        simp only [Apart, List.map_cons, List.nodup_cons, List.mem_map, not_exists, not_and]
        exact ⟨fun x hx hk => hno x hx hk, ok.apart⟩
      exact this.perm (by have := List.perm_append_comm (l₁ := [e]) (l₂ := s.L); simpa using this)
    · show 2 * (s.L ++ [e]).length ≤ if s.L.length + 1 > s.slots / 2 then 2 * s.slots else s.slots
      rw [List.length_append]
      simp only [List.length_singleton]
      split <;> omega
    · show ∃ k, (if s.L.length + 1 > s.slots / 2 then 2 * s.slots else s.slots) = 2 ^ k
      split
      · exact ⟨k + 1, by rw [Nat.pow_succ, hk]; omega⟩
      · exact ⟨k, hk⟩
    · show 8 ≤ if s.L.length + 1 > s.slots / 2 then 2 * s.slots else s.slots
      split <;> omega
  · rw [TS.put_no (by rw [hg])]; exact ok

theorem TS.Ok.drop {s : TS} (ok : s.Ok) (k : Int × Int) : (s.drop k).Ok := by
  have h1 := ok.half
  have h2 : (s.L.filter (fun e => e.1 != k)).length ≤ s.L.length := List.length_filter_le _ _
  refine ⟨?_, ?_, ok.pow, ok.least⟩
  · exact ok.apart.sublist (List.Sublist.map _ List.filter_sublist)
  · show 2 * (s.L.filter (fun e => e.1 != k)).length ≤ s.slots
    omega

section
variable {w w' : World} {b : Nat} {F G : Nat → Prop} {s : TS}

theorem UniqAt.keep (h : UniqAt w b F s) (hb : Keeps G w w') (hF : ∀ k, F k → ¬ G k) : UniqAt w' b F s := by
  obtain ⟨g, cap, T, rfl, h, H⟩ := h
  exact ⟨g, cap, T, rfl, h.keep hb hF, H⟩
theorem UniqAt.below (h : UniqAt w b F s) (hb : Below w.heap.size w w') : UniqAt w' b F s := h.keep (Keeps.of_below hb noBlock) (fun _ _ h => h)
theorem UniqAt.lt (h : UniqAt w b F s) (k : Nat) (hk : F k) : k < w.heap.size := by
  obtain ⟨g, cap, T, rfl, h, H⟩ := h
  rcases hk with rfl | rfl
  · exact h.ltb
  · exact h.ltg

theorem uniqNewS (w : World) : Calls Tryz.prog 34 #[] w fun e w' => e = .returned (.pointer (some ⟨w.heap.size + 1, 0, none⟩)) ∧ (∃ F, UniqAt w' (w.heap.size + 1) F ⟨[], 8⟩ ∧ ∀ k, F k → w.heap.size ≤ k) ∧ Below w.heap.size w w' := by
  refine (uniqNew w).mono fun e w' ⟨he, hR, hb⟩ => ⟨he, ⟨_, ⟨w.heap.size, 8, _, rfl, ⟨List.length_replicate, hR⟩, TInv.bare 8 (homeN 8) (fun k => homeN_lt (by decide) k)⟩, ?_⟩, hb⟩
  rintro k (rfl | rfl) <;> omega

theorem uniqGetS (h : UniqAt w b F s) (ok : s.Ok) (hM : s.slots ≤ 1000000) (k1 k2 : Int) : Calls Tryz.prog 89 #[.pointer (some ⟨b, 0, none⟩), .int .i64 k1, .int .i64 k2] w fun e w' => e = .returned (.tuple #[.int .i64 (s.get (k1, k2)).1, .bool (s.get (k1, k2)).2]) ∧ Below w.heap.size w w' := by
  obtain ⟨g, cap, T, rfl, h, H⟩ := h
  have hl := Places.of ok.pow ok.least hM
  have h1 := ok.half
  have h8 := ok.least
  obtain ⟨c, Fd⟩ := found_exists H.len H.home (by have := H.perm.length_eq; omega) (k1, k2)
  rcases H.search Fd with ⟨h2, h3⟩ | ⟨e, he, hk, h2⟩
  · have := uniqGetV h hl k1 k2 Fd h2
    rwa [TS.get_no h3]
  · have := uniqGetV h hl k1 k2 Fd h2
    have hg := TS.get_yes ok.apart he
    rw [hk] at hg
    rwa [hg]

theorem uniqPutS (h : UniqAt w b F s) (ok : s.Ok) (hM : 2 * s.slots ≤ 1000000) (k1 k2 x : Int) : Calls Tryz.prog 94 #[.pointer (some ⟨b, 0, none⟩), .int .i64 k1, .int .i64 k2, .int .i64 x] w fun e w' => e = .returned (.bool (s.putB (k1, k2))) ∧ ∃ F', UniqAt w' b F' (s.put ((k1, k2), x)) ∧ Keeps F w w' ∧ Within w F F' := by
  obtain ⟨g, cap, T, rfl, h, H⟩ := h
  have h8 := ok.least
  have hl := Places.of ok.pow ok.least (by omega)
  obtain ⟨k, hk⟩ := ok.pow
  have hl2 := Places.of (n := 2 * s.slots) ⟨k + 1, by rw [Nat.pow_succ, hk]; omega⟩ (by omega) hM
  rcases s.get_cases ok.apart (k1, k2) with ⟨hno, hg⟩ | ⟨e, he, hk, hg⟩
  · rw [TS.put_yes (e := ((k1, k2), x)) (by rw [hg])]
    unfold TS.putB
    rw [hg]
    refine (uniqPutYes h H hl hl2 ok.half k1 k2 x hno).mono fun e w' ⟨he, g', cap', n', T', hn', hv, hT, hK, hg'⟩ => ⟨he, _, ⟨g', cap', T', rfl, ?_, ?_⟩, hK, ?_⟩
    · subst hn'; rw [List.length_append]; exact hv
    · subst hn'; exact hT
    · rintro i (rfl | rfl)
      · exact .inl (.inl rfl)
      · rcases hg' with rfl | hg'
        · exact .inl (.inr rfl)
        · exact .inr hg'
  · rw [TS.put_no (e := ((k1, k2), x)) (by rw [hg])]
    unfold TS.putB
    rw [hg]
    exact (uniqPutNo h H hl ok.half k1 k2 x he hk).mono fun e w' ⟨he, hb⟩ => ⟨he, _, ⟨g, cap, T, rfl, h.below hb, H⟩, Keeps.of_below hb _, Within.refl _ _⟩

theorem uniqDropS (h : UniqAt w b F s) (ok : s.Ok) (hM : s.slots ≤ 1000000) (k1 k2 : Int) : Calls Tryz.prog 47 #[.pointer (some ⟨b, 0, none⟩), .int .i64 k1, .int .i64 k2] w fun e w' => e = .returned (.bool (s.dropB (k1, k2))) ∧ ∃ F', UniqAt w' b F' (s.drop (k1, k2)) ∧ Keeps F w w' ∧ Within w F F' := by
  obtain ⟨g, cap, T, rfl, h, H⟩ := h
  have hl := Places.of ok.pow ok.least hM
  rcases s.get_cases ok.apart (k1, k2) with ⟨hno, hg⟩ | ⟨e, he, hk, hg⟩
  · have hs : s.drop (k1, k2) = s := by unfold TS.drop; rw [filter_no hno]
    rw [hs]
    unfold TS.dropB
    rw [hg]
    exact (uniqDropNo h H hl ok.half k1 k2 hno).mono fun e w' ⟨he, hb⟩ => ⟨he, _, ⟨g, cap, T, rfl, h.below hb, H⟩, Keeps.of_below hb _, Within.refl _ _⟩
  · have hp := filter_yes ok.apart he
    obtain ⟨⟨e1, e2⟩, e3⟩ := e
    simp only at hk
    injection hk with hk1 hk2
    subst hk1 hk2
    unfold TS.dropB
    rw [hg]
    exact (uniqDropYes h H hl ok.half hp).mono fun r w' ⟨he, T', hv, hT, hK⟩ => ⟨he, _, ⟨g, cap, T', rfl, hv, hT⟩, hK, Within.refl _ _⟩
end

end Go.Proofs.YtipocmbplcdmjaaGreatDoor

/-
  Walks of package arena.
-/
namespace Go.Proofs.YtipocmbplcdmjaaGreatDoor
open Go Go.RowKit

/-- The blocks of a thing of one block and two slices. -/
def foot2 (b : Nat) (v1 v2 : Value) (k : Nat) : Prop := k = b ∨ v1.ownBlock = some k ∨ v2.ownBlock = some k

/-- At block b stands an arena of so many numbers, with these flags, and these given back. -/
structure ArenaR (w : World) (b : Nat) (v1 v2 : Value) (most : Int) (tk : List Bool) (bk : List Int) : Prop where
  row : w.heap[b]? = some (.cells #[.int .i64 most, v1, v2] 103 (0, 0))
  taken : Owns encB w v1 tk
  back : Owns encI w v2 bk
  apart1 : v1.ownBlock ≠ some b
  apart2 : v2.ownBlock ≠ some b
  apart : ∀ g, v1.ownBlock = some g → v2.ownBlock ≠ some g

theorem row_lt {w : World} {b : Nat} {o : Obj} (h : w.heap[b]? = some o) : b < w.heap.size := (Array.getElem?_eq_some_iff.1 h).1

section
variable {w w' : World} {b : Nat} {v1 v2 : Value} {most : Int} {tk : List Bool} {bk : List Int}

theorem ArenaR.lt (h : ArenaR w b v1 v2 most tk bk) : ∀ k, foot2 b v1 v2 k → k < w.heap.size := by
  rintro k (rfl | hk | hk)
  · exact row_lt h.row
  · exact h.taken.lt k hk
  · exact h.back.lt k hk

theorem ArenaR.block (h : ArenaR w b v1 v2 most tk bk) (hb : ∀ k, foot2 b v1 v2 k → w'.heap[k]? = w.heap[k]?) : ArenaR w' b v1 v2 most tk bk :=
  ⟨(hb b (.inl rfl)).trans h.row, h.taken.block fun g hg => hb g (.inr (.inl hg)), h.back.block fun g hg => hb g (.inr (.inr hg)), h.apart1, h.apart2, h.apart⟩

theorem ArenaR.keep (h : ArenaR w b v1 v2 most tk bk) {F : Nat → Prop} (hb : Keeps F w w') (hF : ∀ k, foot2 b v1 v2 k → ¬ F k) : ArenaR w' b v1 v2 most tk bk :=
  h.block fun k hk => hb.block k (h.lt k hk) (hF k hk)

theorem ArenaR.alloc (h : ArenaR w b v1 v2 most tk bk) (o : Obj) : ArenaR (w.alloc o) b v1 v2 most tk bk := h.block fun k hk => heap_alloc_old _ _ (h.lt k hk)

theorem ArenaR.cells (h : ArenaR w b v1 v2 most tk bk) : w.cell? ⟨b, 0, none⟩ = some (.int .i64 most) ∧ w.cell? ⟨b, 1, none⟩ = some v1 ∧ w.cell? ⟨b, 2, none⟩ = some v2 :=
  ⟨by rw [cell_of_row _ _ _ _ _ _ h.row]; rfl, by rw [cell_of_row _ _ _ _ _ _ h.row]; rfl, by rw [cell_of_row _ _ _ _ _ _ h.row]; rfl⟩

theorem ArenaR.free (h : ArenaR w b v1 v2 most tk bk) (j : Nat) : w.frozen? ⟨b, j, none⟩ = false := frozen_of_row _ _ _ _ _ h.row

theorem ArenaR.forms (h : ArenaR w b v1 v2 most tk bk) : ∃ a1 c1 a2 c2, v1 = .slice a1 tk.length c1 ∧ v2 = .slice a2 bk.length c2 := by
  obtain ⟨a1, c1, e1, _⟩ := h.taken.form
  obtain ⟨a2, c2, e2, _⟩ := h.back.form
  exact ⟨a1, c1, a2, c2, e1, e2⟩
end

set_option maxRecDepth 100000 in
theorem arenaMany {w : World} {b : Nat} {v1 v2 : Value} {most : Int} {tk : List Bool} {bk : List Int} (h : ArenaR w b v1 v2 most tk bk) (hb : bk.length ≤ tk.length) (ht : tk.length ≤ 20000) :
    Calls Tryz.prog 35 #[.pointer (some ⟨b, 0, none⟩)] w fun e w' => e = .returned (.int .i64 (tk.length - bk.length)) ∧ Below w.heap.size w w' := by
  obtain ⟨a1, k1, a2, k2, rfl, rfl⟩ := h.forms
  obtain ⟨c0, c1, c2⟩ := h.cells
  clear h
  have h1 : (0 : Int) ≤ (tk.length : Int) - bk.length := by omega
  have h2 : (tk.length : Int) - bk.length ≤ 20000 := by omega
  go_enter Tryz.func35, Tryz.ntmps35
  go_wp2
  go_region
  go_wp2
  go_ret
  exact ⟨rfl, by go_grown⟩

/-- Is it taken? -/
def flagAt (tk : List Bool) (n : Int) : Bool := decide (0 ≤ n) && tk.getD n.toNat false

set_option maxRecDepth 100000 in
theorem arenaHas {w : World} {b : Nat} {v1 v2 : Value} {most : Int} {tk : List Bool} {bk : List Int} (h : ArenaR w b v1 v2 most tk bk) (n : Int) :
    Calls Tryz.prog 86 #[.pointer (some ⟨b, 0, none⟩), .int .i64 n] w fun e w' => e = .returned (.bool (flagAt tk n)) ∧ w = w' := by
  by_cases h0 : 0 ≤ n
  · obtain ⟨m, rfl⟩ := Int.eq_ofNat_of_zero_le h0
    by_cases h1 : m < tk.length
    · obtain ⟨g, cap, rfl, hc, hm⟩ := h.taken.some (by omega)
      have e : flagAt tk (m : Int) = tk[m] := by simp [flagAt, List.getD, h1]
      rw [e]
      have cm := h.taken.boolAt m h1
      obtain ⟨c0, c1, c2⟩ := h.cells
      have hlt : (m : Int) < (tk.length : Int) := by omega
      clear h
      go_enter Tryz.func86, Tryz.ntmps86
      go_wp2
      go_ret
      exact ⟨rfl, rfl⟩
    · have e : flagAt tk (m : Int) = false := by simp [flagAt, List.getD, h1]
      rw [e]
      obtain ⟨a1, k1, a2, k2, rfl, rfl⟩ := h.forms
      obtain ⟨c0, c1, c2⟩ := h.cells
      have hlt : ¬ (m : Int) < (tk.length : Int) := by omega
      clear h
      go_enter Tryz.func86, Tryz.ntmps86
      go_wp2
      go_ret
      exact ⟨rfl, rfl⟩
  · have e : flagAt tk n = false := by simp [flagAt, h0]
    rw [e]
    clear h
    go_enter Tryz.func86, Tryz.ntmps86
    go_wp2
    go_ret
    exact ⟨rfl, rfl⟩

section
variable {w w' : World} {b : Nat} {v1 v2 : Value} {most : Int} {tk : List Bool} {bk : List Int}

/-- The second slice stored anew. -/
theorem ArenaR.setBack (h : ArenaR w b v1 v2 most tk bk) {v : Value} {l : List Int} (hv : Owns encI w v l) (h1 : v.ownBlock ≠ some b) (h2 : ∀ g, v1.ownBlock = some g → v.ownBlock ≠ some g) : ArenaR (w.setCell ⟨b, 2, none⟩ v) b v1 v most tk l :=
  ⟨heap_setCell_same w b 2 _ _ v h.row, h.taken.block fun g hg => Below.heap_setCell _ _ _ _ (fun e => h.apart1 (by rw [hg, e])), hv.block fun g hg => Below.heap_setCell _ _ _ _ (fun e => h1 (by rw [hg, e])), h.apart1, h1, h2⟩
/-- A flag written. -/
theorem ArenaR.setFlag {g c n : Nat} (h : ArenaR w b (.slice (some ⟨g, 0, none⟩) tk.length c) v2 most tk bk) (hn : n < tk.length) (x : Bool) : ArenaR (w.setCell ⟨g, n, none⟩ (.bool x)) b (.slice (some ⟨g, 0, none⟩) tk.length c) v2 most (tk.set n x) bk :=
  ⟨(Below.heap_setCell _ _ _ _ (fun e => h.apart1 (by rw [e]; rfl))).trans h.row, h.taken.put rfl rfl hn, h.back.block fun k hk => Below.heap_setCell _ _ _ _ (fun e => h.apart g rfl (by rw [hk, e])), h.apart1, h.apart2, h.apart⟩
end

set_option maxRecDepth 100000 in
set_option maxHeartbeats 1000000 in
theorem arenaTakeAgain {w : World} {b : Nat} {v1 v2 : Value} {most : Int} {tk : List Bool} {bk : List Int} {n : Nat} (h : ArenaR w b v1 v2 most tk (bk ++ [(n : Int)])) (hn : n < tk.length) (hb : bk.length < 1000000) :
    Calls Tryz.prog 98 #[.pointer (some ⟨b, 0, none⟩)] w fun e w' => e = .returned (.int .i64 n) ∧ ∃ v1' v2', ArenaR w' b v1' v2' most (tk.set n true) bk ∧ Keeps (foot2 b v1 v2) w w' ∧ Within w (foot2 b v1 v2) (foot2 b v1' v2') := by
  have hl : (bk ++ [(n : Int)]).length = bk.length + 1 := by simp
  obtain ⟨g1, k1, rfl, hc1, hm1⟩ := h.taken.some (by omega)
  obtain ⟨g2, k2, rfl, hc2, hm2⟩ := h.back.some (by omega)
  have cn : w.cell? ⟨g2, bk.length, none⟩ = some (.int .i64 (n : Int)) := by
    have := h.back.intAt bk.length (by omega)
    simpa using this
  have ht := h.back.take (n := bk.length) (by omega)
  rw [List.take_left' rfl] at ht
  have hS := h.setBack ht h.apart2 h.apart
  have hF := hS.setFlag hn true
  have z1 := h.free 2
  have z2 : (w.setCell ⟨b, 2, none⟩ (.slice (some ⟨g2, 0, none⟩) bk.length k2)).frozen? ⟨g1, n, none⟩ = false := hS.taken.free n
  have cf := hS.taken.boolAt n hn
  have cb := hS.cells.2.1
  obtain ⟨c0, c1, c2⟩ := h.cells
  have hk : Keeps (foot2 b (.slice (some ⟨g1, 0, none⟩) tk.length k1) (.slice (some ⟨g2, 0, none⟩) (bk ++ [(n : Int)]).length k2)) w ((w.setCell ⟨b, 2, none⟩ (.slice (some ⟨g2, 0, none⟩) bk.length k2)).setCell ⟨g1, n, none⟩ (.bool true)) :=
    (Keeps.of_setCell _ w ⟨b, 2, none⟩ _ (.inl rfl)).and (Keeps.of_setCell _ _ ⟨g1, n, none⟩ _ (.inr (.inl rfl)))
  have HF := Lib.hid hF
  have HK := Lib.hid hk
  clear h ht hS hF hk
  rw [hl] at *
  have hlt : (n : Int) < (tk.length : Int) := by omega
  have hn0 : (0 : Int) ≤ (n : Int) := by omega
  have hb0 : (bk.length : Int) < 1000000 := by omega
  go_enter Tryz.func98, Tryz.ntmps98
  go_wp2
  go_ret
  exact ⟨rfl, _, _, HF.out, HK.out, fun k hk => .inl hk⟩

section
variable {w w' : World} {b : Nat} {v1 v2 v' : Value} {most : Int} {tk : List Bool} {bk : List Int}

theorem ArenaR.appTaken (h : ArenaR w b v1 v2 most tk bk) {l : List Bool} (ho : Owns encB w' v' l) (hg : w.grownBy w' v1.ownBlock) (hat : v'.ownBlock = v1.ownBlock ∨ v'.ownBlock = some w.heap.size) :
    w'.cell? ⟨b, 1, none⟩ = some v1 ∧ w'.frozen? ⟨b, 1, none⟩ = false ∧ ArenaR (w'.setCell ⟨b, 1, none⟩ v') b v' v2 most l bk ∧ Keeps (foot2 b v1 v2) w (w'.setCell ⟨b, 1, none⟩ v') ∧ Within w (foot2 b v1 v2) (foot2 b v' v2) := by
  have hrow : w'.heap[b]? = some (.cells #[.int .i64 most, v1, v2] 103 (0, 0)) := (hg.block b (row_lt h.row) (fun e => h.apart1 e.symm)).trans h.row
  have hb1 : v'.ownBlock ≠ some b := fun e => by
    rcases hat with hat | hat
    · exact h.apart1 (hat ▸ e)
    · have := row_lt h.row; rw [hat] at e; injection e; omega
  have hap : ∀ g, v'.ownBlock = some g → v2.ownBlock ≠ some g := fun g hg1 e => by
    rcases hat with hat | hat
    · exact h.apart g (hat ▸ hg1) e
    · have := h.back.lt g e; rw [hat] at hg1; injection hg1; omega
  refine ⟨by rw [cell_of_row _ _ _ _ _ _ hrow]; rfl, frozen_of_row _ _ _ _ _ hrow, ⟨heap_setCell_same w' b 1 _ _ v' hrow, ho.block fun g hg => Below.heap_setCell _ _ _ _ (fun e => hb1 (by rw [hg, e])),
    (h.back.block fun g hg1 => hg.block g (h.back.lt g hg1) (fun e => h.apart g e.symm hg1)).block fun g hg => Below.heap_setCell _ _ _ _ (fun e => h.apart2 (by rw [hg, e])), hb1, h.apart2, hap⟩,
    (Keeps.of_grown hg (fun k hk => .inr (.inl hk))).and (Keeps.of_setCell _ _ ⟨b, 1, none⟩ _ (.inl rfl)), ?_⟩
  rintro k (rfl | hk | hk)
  · exact .inl (.inl rfl)
  · rcases hat with hat | hat
    · exact .inl (.inr (.inl (hat ▸ hk)))
    · rw [hat] at hk; injection hk with hk; exact .inr (by omega)
  · exact .inl (.inr (.inr hk))

end

set_option maxRecDepth 100000 in
set_option maxHeartbeats 1000000 in
theorem arenaTakeNew {w : World} {b : Nat} {v1 v2 : Value} {most : Int} {tk : List Bool} {bk : List Int} (h : ArenaR w b v1 v2 most tk bk) (ht : tk.length ≤ 20000) :
    Calls Tryz.prog 99 #[.pointer (some ⟨b, 0, none⟩)] w fun e w' => e = .returned (.int .i64 tk.length) ∧ ∃ v1' v2', ArenaR w' b v1' v2' most (tk ++ [true]) bk ∧ Keeps (foot2 b v1 v2) w w' ∧ Within w (foot2 b v1 v2) (foot2 b v1' v2') := by
  have hA := h.alloc (.cells #[.bool true] 4)
  have hsrc := oneB w true w.heap.size rfl
  have hlen : tk.length + [true].length ≤ 1000000 := by simp; omega
  have hl : (tk ++ [true]).length = tk.length + 1 := by simp
  obtain ⟨a1, k1, a2, k2, rfl, rfl⟩ := h.forms
  obtain ⟨c0, c1, c2⟩ := h.cells
  have hkA := Keeps.of_alloc (foot2 b (.slice a1 tk.length k1) (.slice a2 bk.length k2)) w (.cells #[.bool true] 4)
  have hsz : w.heap.size ≤ (w.alloc (.cells #[.bool true] 4)).heap.size := hkA.size
  clear h
  go_enter Tryz.func99, Tryz.ntmps99
  go_wp2_with (at_builtin; refine appendB rfl (.tmp 13) (.tmp 14) rfl _ _ tk [true] rfl hA.taken rfl hsrc hlen ?_; intro v' w2 hown hgr hat; obtain ⟨d1, z1, hR, hK, hW⟩ := hA.appTaken hown hgr hat; obtain ⟨a', k', e', _⟩ := hown.form; rw [hl] at e'; subst e'; clear hown hgr hat)
  go_ret
  exact ⟨rfl, _, _, hR, hkA.and hK, fun k hk => (hW k hk).imp id (fun e => Nat.le_trans hsz e)⟩

set_option maxRecDepth 100000 in
theorem arenaNew (most : Int) (w : World) (h0 : 0 ≤ most) (h1 : most ≤ 20000) :
    Calls Tryz.prog 33 #[.int .i64 most] w fun e w' => e = .returned (.pointer (some ⟨w.heap.size, 0, none⟩)) ∧ ArenaR w' w.heap.size (.slice none 0 0) (.slice none 0 0) most [] [] ∧ Below w.heap.size w w' := by
  have h2 : ¬ most < 0 := by omega
  have h3 : ¬ 20000 < most := by omega
  go_enter Tryz.func33, Tryz.ntmps33
  go_wp2
  go_ret
  exact ⟨rfl, ⟨heap_alloc_new _ _, Owns.nil _ _, Owns.nil _ _, (fun h => by cases h), (fun h => by cases h), (fun _ h => by cases h)⟩, by go_grown⟩

set_option maxRecDepth 100000 in
theorem arenaNo (most : Int) (w : World) (h : most < 0 ∨ 20000 < most) :
    Calls Tryz.prog 33 #[.int .i64 most] w fun e w' => e = .returned (.pointer none) ∧ w = w' := by
  by_cases h0 : most < 0
  · go_enter Tryz.func33, Tryz.ntmps33
    go_wp2
    go_ret
    exact ⟨rfl, rfl⟩
  · have h1 : 20000 < most := by omega
    go_enter Tryz.func33, Tryz.ntmps33
    go_wp2
    go_ret
    exact ⟨rfl, rfl⟩

theorem arenaMany_sub {W : World} {b : Nat} {v1 v2 : Value} {most : Int} {tk : List Bool} {bk : List Int} (h : ArenaR W b v1 v2 most tk bk) (hb : bk.length ≤ tk.length) (ht : tk.length ≤ 20000) (u : Sub W) :
    Calls Tryz.prog 35 #[.pointer (some ⟨b, 0, none⟩)] u.1 fun e w'' => e = .returned (.int .i64 (tk.length - bk.length)) ∧ ∃ x : Sub W, w'' = x.1 :=
  (arenaMany (h.keep (F := noBlock) (Keeps.of_below u.2 _) (fun _ _ h => h)) hb ht).mono fun _ w' ⟨he, hw⟩ => ⟨he, ⟨w', u.2.trans (hw.mono u.2.size)⟩, rfl⟩

set_option maxRecDepth 100000 in
set_option maxHeartbeats 1000000 in
theorem arenaTake_full {w : World} {b : Nat} {v1 v2 : Value} {most : Int} {tk : List Bool} {bk : List Int} (h : ArenaR w b v1 v2 most tk bk) (hb : bk.length ≤ tk.length) (ht : tk.length ≤ 20000) (hf : (tk.length : Int) - bk.length = most) :
    Calls Tryz.prog 90 #[.pointer (some ⟨b, 0, none⟩)] w fun e w' => e = .returned (.tuple #[.int .i64 0, .iface 56 (.int .i64 2)]) ∧ Below w.heap.size w w' := by
  have c0 : ∀ u : Sub w, u.1.cell? ⟨b, 0, none⟩ = some (.int .i64 most) := fun u => (h.keep (F := noBlock) (Keeps.of_below u.2 _) (fun _ _ h => h)).cells.1
  have hM := arenaMany_sub h hb ht
  rw [hf] at hM
  clear h hf
  go_enter Tryz.func90, Tryz.ntmps90
  go_wp2
  refine wp_region_quiet_all (C := fun w' => ∃ u : Sub w, w' = u.1) (by kernel_rfl) (by kernel_rfl) (InSub.drew w) ?_
  go_big_quiet_step (fail)
  go_big_quiet_step (exact hM _)
  iterate 5 (go_big_quiet_step (fail))
  refine wpQuiet_nil ?_
  clear c0 hM
  intro w' hw'
  obtain ⟨u, rfl⟩ := hw'
  have hk := u.2
  generalize u.1 = w1 at *
  go_wp2
  go_ret2
  exact ⟨rfl, hk⟩

set_option maxRecDepth 100000 in
set_option maxHeartbeats 1000000 in
theorem arenaTake_new {w : World} {b : Nat} {v1 v2 : Value} {most : Int} {tk : List Bool} (h : ArenaR w b v1 v2 most tk []) (ht : tk.length ≤ 20000) (hf : (tk.length : Int) ≠ most) :
    Calls Tryz.prog 90 #[.pointer (some ⟨b, 0, none⟩)] w fun e w' => e = .returned (.tuple #[.int .i64 tk.length, .nilIface]) ∧ ∃ v1' v2', ArenaR w' b v1' v2' most (tk ++ [true]) [] ∧ Keeps (foot2 b v1 v2) w w' ∧ Within w (foot2 b v1 v2) (foot2 b v1' v2') := by
  have hfb : ((tk.length : Int) == most) = false := by rw [beq_eq_false_iff_ne]; omega
  have c0 : ∀ u : Sub w, u.1.cell? ⟨b, 0, none⟩ = some (.int .i64 most) := fun u => (h.keep (F := noBlock) (Keeps.of_below u.2 _) (fun _ _ h => h)).cells.1
  have hM := arenaMany_sub h (Nat.zero_le _) ht
  have H := Lib.hid h
  clear h
  go_enter Tryz.func90, Tryz.ntmps90
  go_wp2
  refine wp_region_quiet_all (C := fun w' => ∃ u : Sub w, w' = u.1) (by kernel_rfl) (by kernel_rfl) (InSub.drew w) ?_
  go_big_quiet_step (fail)
  go_big_quiet_step (exact hM _)
  iterate 5 (go_big_quiet_step (fail))
  refine wpQuiet_nil ?_
  clear c0 hM
  intro w' hw'
  obtain ⟨u, rfl⟩ := hw'
  have hk := u.2
  generalize u.1 = w1 at *
  have h1 := H.out.keep (F := noBlock) (Keeps.of_below hk _) (fun _ _ h => h)
  clear H
  obtain ⟨a1, k1, a2, k2, rfl, rfl⟩ := h1.forms
  obtain ⟨c0, c1, c2⟩ := h1.cells
  go_wp2_with fail
  refine (arenaTakeNew h1 ht).mono ?_
  rintro e w2 ⟨rfl, v1', v2', hR, hK, hW⟩
  clear c0 c1 c2 h1
  go_wp2
  go_ret2
  exact ⟨rfl, v1', v2', hR, (Keeps.of_below hk _).and hK, fun k h => (hW k h).imp id (fun e => Nat.le_trans hk.size e)⟩

set_option maxRecDepth 100000 in
set_option maxHeartbeats 1000000 in
theorem arenaTake_again {w : World} {b : Nat} {v1 v2 : Value} {most : Int} {tk : List Bool} {bk : List Int} {n : Nat} (h : ArenaR w b v1 v2 most tk (bk ++ [(n : Int)])) (hb : bk.length < tk.length) (hn : n < tk.length) (ht : tk.length ≤ 20000) (hf : (tk.length : Int) - (bk.length + 1) ≠ most) :
    Calls Tryz.prog 90 #[.pointer (some ⟨b, 0, none⟩)] w fun e w' => e = .returned (.tuple #[.int .i64 n, .nilIface]) ∧ ∃ v1' v2', ArenaR w' b v1' v2' most (tk.set n true) bk ∧ Keeps (foot2 b v1 v2) w w' ∧ Within w (foot2 b v1 v2) (foot2 b v1' v2') := by
  have hl : (bk ++ [(n : Int)]).length = bk.length + 1 := by simp
  have hfb : ((tk.length : Int) - ((bk.length : Int) + 1) == most) = false := by rw [beq_eq_false_iff_ne]; omega
  have hpos : (0 : Int) < (bk.length : Int) + 1 := by omega
  have c0 : ∀ u : Sub w, u.1.cell? ⟨b, 0, none⟩ = some (.int .i64 most) := fun u => (h.keep (F := noBlock) (Keeps.of_below u.2 _) (fun _ _ h => h)).cells.1
  have hM := arenaMany_sub h (by rw [hl]; omega) ht
  rw [hl] at hM
  have H := Lib.hid h
  clear h
  go_enter Tryz.func90, Tryz.ntmps90
  go_wp2
  refine wp_region_quiet_all (C := fun w' => ∃ u : Sub w, w' = u.1) (by kernel_rfl) (by kernel_rfl) (InSub.drew w) ?_
  go_big_quiet_step (fail)
  go_big_quiet_step (exact hM _)
  iterate 5 (go_big_quiet_step (fail))
  refine wpQuiet_nil ?_
  clear c0 hM
  intro w' hw'
  obtain ⟨u, rfl⟩ := hw'
  have hk := u.2
  generalize u.1 = w1 at *
  have h1 := H.out.keep (F := noBlock) (Keeps.of_below hk _) (fun _ _ h => h)
  clear H
  obtain ⟨a1, k1, a2, k2, rfl, rfl⟩ := h1.forms
  obtain ⟨c0, c1, c2⟩ := h1.cells
  rw [hl] at c2
  go_wp2_with fail
  refine (arenaTakeAgain h1 hn (by omega)).mono ?_
  rintro e w2 ⟨rfl, v1', v2', hR, hK, hW⟩
  clear c0 c1 c2 h1
  go_wp2
  go_ret2
  exact ⟨rfl, v1', v2', hR, (Keeps.of_below hk _).and hK, fun k h => (hW k h).imp id (fun e => Nat.le_trans hk.size e)⟩

end Go.Proofs.YtipocmbplcdmjaaGreatDoor

/-
  Walks of the document's layer 4; Pick and Code.
-/
namespace Go.Proofs.YtipocmbplcdmjaaGreatDoor
open Go Go.RowKit

theorem in_step {l : List Int} {n : Int} {i : Nat} (hi : i < l.length) (h : n ∉ l.take i) : (l[i] = n → n ∈ l) ∧ (l[i] ≠ n → n ∉ l.take (i + 1)) := by
  refine ⟨fun e => e ▸ List.getElem_mem hi, fun e h1 => ?_⟩
  rw [List.take_succ_eq_append_getElem hi, List.mem_append] at h1
  exact h1.elim h (fun h1 => e (List.mem_singleton.1 h1).symm)

set_option maxRecDepth 100000 in
theorem refIn (l : List Int) (n : Int) (v : Value) (w : World) (hv : Reads encI w v l) (_hl : l.length ≤ 1000000) :
    Calls Tryz.prog 97 #[v, .int .i64 n] w fun e w' => e = .returned (.bool (decide (n ∈ l))) ∧ w = w' := by
  obtain ⟨a, cap, rfl⟩ := hv.form
  go_enter Tryz.func97, Tryz.ntmps97
  go_wp2
  go_loop [5] (fun i => ∃ k : Nat, k ≤ l.length ∧ i = .int .i64 k ∧ Hid (n ∉ l.take k)) (fun i => l.length - (intOf i).toNat)
  case atStart => exact ⟨0, Nat.zero_le _, rfl, by simp [Hid]⟩
  case round =>
    obtain ⟨k, hk, rfl, hn⟩ := hrel
    by_cases hlt : k < l.length
    · obtain ⟨ad, rfl, hc⟩ := hv.intAt k hlt
      obtain ⟨hy, hno⟩ := in_step hlt hn.out
      have hk0 : (0 : Int) ≤ (k : Int) := by omega
      have hk1 : (k : Int) < (l.length : Int) := by omega
      generalize l[k] = x at *
      by_cases hx : x = n
      · have hxb : (x == n) = true := by rw [beq_iff_eq]; exact hx
        have HY := Lib.hid (hy hx)
        clear hx hy hno hv
        go_wp2
        go_ret
        exact ⟨by rw [decide_eq_true HY.out]; rfl, rfl⟩
      · have hxb : (x == n) = false := by rw [beq_eq_false_iff_ne]; exact hx
        have HN := Lib.hid (hno hx)
        clear hx hy hno hv hn
        go_wp2
        exact ⟨⟨k + 1, by omega, by go_num, HN.out⟩, by simp [intOf]; omega⟩
    · clear hv
      go_wp2
      go_ret
      exact ⟨by rw [decide_eq_false (fun e => hn.out (by rw [List.take_of_length_le (by omega)]; exact e))]; rfl, rfl⟩

/-- A list without a number. -/
def without (l : List Int) (n : Int) : List Int := l.filter fun x => x != n

theorem without_step {l : List Int} {n : Int} {i : Nat} (hi : i < l.length) : (l[i] = n → without (l.take (i + 1)) n = without (l.take i) n) ∧ (l[i] ≠ n → without (l.take (i + 1)) n = without (l.take i) n ++ [l[i]]) := by
  unfold without
  rw [List.take_succ_eq_append_getElem hi, List.filter_append]
  constructor
  · intro e; simp [e]
  · intro e; simp [e]

theorem without_length (l : List Int) (n : Int) : (without l n).length ≤ l.length := List.length_filter_le _ _

set_option maxRecDepth 100000 in
set_option maxHeartbeats 1000000 in
theorem refWithout (l : List Int) (n : Int) (v : Value) (w : World) (hv : Reads encI w v l) (hl : l.length ≤ 100000) :
    Calls Tryz.prog 96 #[v, .int .i64 n] w fun e w' => ∃ v', e = .returned v' ∧ WRel w (without l n) v' w' := by
  obtain ⟨a, cap, rfl⟩ := hv.form
  go_enter Tryz.func96, Tryz.ntmps96
  go_wp2
  go_loopw [5, 6] (fun vo i wr => ∃ k : Nat, k ≤ l.length ∧ i = .int .i64 k ∧ WRel w (without (l.take k) n) vo wr) (fun _ i _ => l.length - (intOf i).toNat)
  case atStart => exact ⟨0, Nat.zero_le _, rfl, Owns.nil _ _, (fun g h => by cases h), Below.refl _ _⟩
  case round =>
    obtain ⟨k, hk, rfl, R⟩ := hrel
    by_cases hlt : k < l.length
    · obtain ⟨ad, rfl, hc⟩ := (hv.keep R.below).intAt k hlt
      obtain ⟨hy, hno⟩ := without_step (n := n) hlt
      have hlen := without_length (l.take k) n
      have hk0 : (0 : Int) ≤ (k : Int) := by omega
      have hk1 : (k : Int) < (l.length : Int) := by omega
      generalize l[k] = x at *
      by_cases hx : x = n
      · have hxb : (x == n) = true := by rw [beq_iff_eq]; exact hx
        have HY := Lib.hid (hy hx)
        clear hx hy hno hv
        go_wp2
        exact ⟨⟨k + 1, by omega, by go_num, by rw [HY.out]; exact R⟩, by simp [intOf]; omega⟩
      · have hxb : (x == n) = false := by rw [beq_eq_false_iff_ne]; exact hx
        have HN := Lib.hid (hno hx)
        have hA := R.own.alloc (.cells #[.int .i64 x] 3)
        have hsrc := oneI wr x wr.heap.size rfl
        have hln : (without (l.take k) n).length + [x].length ≤ 1000000 := by simp at hlen ⊢; omega
        clear hx hy hno hv
        go_wp2_with (at_builtin; refine appendI rfl (.tmp 19) (.tmp 24) rfl _ _ (without (l.take k) n) [x] rfl hA rfl hsrc hln ?_; intro v' w2 hown hgr hat)
        refine ⟨⟨k + 1, by omega, by go_num, by rw [HN.out]; exact hown, fun g hg => ?_, ?_⟩, by simp [intOf]; omega⟩
        · rcases hat with hat | hat
          · exact R.new g (hat ▸ hg)
          · rw [hat] at hg; injection hg with hg; have := R.below.size; simp at hg; omega
        · exact (R.below.alloc R.below.size _).grown hgr (by have := R.below.size; simp; omega) R.new
    · clear hv
      go_wp2
      go_ret
      refine ⟨_, rfl, ?_⟩
      rw [List.take_of_length_le (by omega)] at R
      exact R

/-- At block b stands the document's arena. -/
structure RefR (w : World) (b : Nat) (v1 v2 : Value) (most : Int) (T B : List Int) (next : Int) : Prop where
  row : w.heap[b]? = some (.cells #[.int .i64 most, v1, v2, .int .i64 next] 100 (0, 0))
  taken : Owns encI w v1 T
  back : Owns encI w v2 B
  apart1 : v1.ownBlock ≠ some b
  apart2 : v2.ownBlock ≠ some b
  apart : ∀ g, v1.ownBlock = some g → v2.ownBlock ≠ some g

section
variable {w w' : World} {b : Nat} {v1 v2 v' : Value} {most next : Int} {T B : List Int}

theorem RefR.lt (h : RefR w b v1 v2 most T B next) : ∀ k, foot2 b v1 v2 k → k < w.heap.size := by
  rintro k (rfl | hk | hk)
  · exact row_lt h.row
  · exact h.taken.lt k hk
  · exact h.back.lt k hk

theorem RefR.block (h : RefR w b v1 v2 most T B next) (hb : ∀ k, foot2 b v1 v2 k → w'.heap[k]? = w.heap[k]?) : RefR w' b v1 v2 most T B next :=
  ⟨(hb b (.inl rfl)).trans h.row, h.taken.block fun g hg => hb g (.inr (.inl hg)), h.back.block fun g hg => hb g (.inr (.inr hg)), h.apart1, h.apart2, h.apart⟩

theorem RefR.keep (h : RefR w b v1 v2 most T B next) {F : Nat → Prop} (hb : Keeps F w w') (hF : ∀ k, foot2 b v1 v2 k → ¬ F k) : RefR w' b v1 v2 most T B next :=
  h.block fun k hk => hb.block k (h.lt k hk) (hF k hk)
theorem RefR.below (h : RefR w b v1 v2 most T B next) (hb : Below w.heap.size w w') : RefR w' b v1 v2 most T B next := h.block fun k hk => hb.block k (h.lt k hk)
theorem RefR.alloc (h : RefR w b v1 v2 most T B next) (o : Obj) : RefR (w.alloc o) b v1 v2 most T B next := h.block fun k hk => heap_alloc_old _ _ (h.lt k hk)

theorem RefR.cells (h : RefR w b v1 v2 most T B next) : w.cell? ⟨b, 0, none⟩ = some (.int .i64 most) ∧ w.cell? ⟨b, 1, none⟩ = some v1 ∧ w.cell? ⟨b, 2, none⟩ = some v2 ∧ w.cell? ⟨b, 3, none⟩ = some (.int .i64 next) :=
  ⟨by rw [cell_of_row _ _ _ _ _ _ h.row]; rfl, by rw [cell_of_row _ _ _ _ _ _ h.row]; rfl, by rw [cell_of_row _ _ _ _ _ _ h.row]; rfl, by rw [cell_of_row _ _ _ _ _ _ h.row]; rfl⟩

theorem RefR.free (h : RefR w b v1 v2 most T B next) (j : Nat) : w.frozen? ⟨b, j, none⟩ = false := frozen_of_row _ _ _ _ _ h.row

theorem RefR.forms (h : RefR w b v1 v2 most T B next) : ∃ a1 c1 a2 c2, v1 = .slice a1 T.length c1 ∧ v2 = .slice a2 B.length c2 := by
  obtain ⟨a1, c1, e1, _⟩ := h.taken.form
  obtain ⟨a2, c2, e2, _⟩ := h.back.form
  exact ⟨a1, c1, a2, c2, e1, e2⟩

/-- The second slice stored anew. -/
theorem RefR.setBack (h : RefR w b v1 v2 most T B next) {l : List Int} (hv : Owns encI w v' l) (h1 : v'.ownBlock ≠ some b) (h2 : ∀ g, v1.ownBlock = some g → v'.ownBlock ≠ some g) : RefR (w.setCell ⟨b, 2, none⟩ v') b v1 v' most T l next :=
  ⟨heap_setCell_same w b 2 _ _ v' h.row, h.taken.block fun g hg => Below.heap_setCell _ _ _ _ (fun e => h.apart1 (by rw [hg, e])), hv.block fun g hg => Below.heap_setCell _ _ _ _ (fun e => h1 (by rw [hg, e])), h.apart1, h1, h2⟩
theorem RefR.setTaken (h : RefR w b v1 v2 most T B next) {l : List Int} (hv : Owns encI w v' l) (h1 : v'.ownBlock ≠ some b) (h2 : ∀ g, v'.ownBlock = some g → v2.ownBlock ≠ some g) : RefR (w.setCell ⟨b, 1, none⟩ v') b v' v2 most l B next :=
  ⟨heap_setCell_same w b 1 _ _ v' h.row, hv.block fun g hg => Below.heap_setCell _ _ _ _ (fun e => h1 (by rw [hg, e])), h.back.block fun g hg => Below.heap_setCell _ _ _ _ (fun e => h.apart2 (by rw [hg, e])), h1, h.apart2, h2⟩
theorem RefR.setNext (h : RefR w b v1 v2 most T B next) (n : Int) : RefR (w.setCell ⟨b, 3, none⟩ (.int .i64 n)) b v1 v2 most T B n :=
  ⟨heap_setCell_same w b 3 _ _ _ h.row, h.taken.block fun g hg => Below.heap_setCell _ _ _ _ (fun e => h.apart1 (by rw [hg, e])), h.back.block fun g hg => Below.heap_setCell _ _ _ _ (fun e => h.apart2 (by rw [hg, e])), h.apart1, h.apart2, h.apart⟩

/-- A slice of what was made since. -/
theorem RefR.newTaken (h : RefR w b v1 v2 most T B next) {l : List Int} (h2 : WRel w l v' w') : RefR w' b v1 v2 most T B next ∧ RefR (w'.setCell ⟨b, 1, none⟩ v') b v' v2 most l B next ∧ Keeps (foot2 b v1 v2) w (w'.setCell ⟨b, 1, none⟩ v') ∧ Within w (foot2 b v1 v2) (foot2 b v' v2) := by
  have h1 := h.below h2.below
  have hb := row_lt h.row
  refine ⟨h1, h1.setTaken h2.own (fun e => by have := h2.new _ e; omega) (fun g hg e => by have := h2.new _ hg; have := h.back.lt g e; omega), (Keeps.of_below h2.below _).and (Keeps.of_setCell _ _ ⟨b, 1, none⟩ _ (.inl rfl)), ?_⟩
  rintro k (rfl | hk | hk)
  · exact .inl (.inl rfl)
  · exact .inr (h2.new k hk)
  · exact .inl (.inr (.inr hk))
theorem RefR.newBack (h : RefR w b v1 v2 most T B next) {l : List Int} (h2 : WRel w l v' w') : RefR w' b v1 v2 most T B next ∧ RefR (w'.setCell ⟨b, 2, none⟩ v') b v1 v' most T l next ∧ Keeps (foot2 b v1 v2) w (w'.setCell ⟨b, 2, none⟩ v') ∧ Within w (foot2 b v1 v2) (foot2 b v1 v') := by
  have h1 := h.below h2.below
  have hb := row_lt h.row
  refine ⟨h1, h1.setBack h2.own (fun e => by have := h2.new _ e; omega) (fun g hg e => by have := h2.new _ e; have := h.taken.lt g hg; omega), (Keeps.of_below h2.below _).and (Keeps.of_setCell _ _ ⟨b, 2, none⟩ _ (.inl rfl)), ?_⟩
  rintro k (rfl | hk | hk)
  · exact .inl (.inl rfl)
  · exact .inl (.inr (.inl hk))
  · exact .inr (h2.new k hk)

theorem RefR.appTaken (h : RefR w b v1 v2 most T B next) {l : List Int} (ho : Owns encI w' v' l) (hg : w.grownBy w' v1.ownBlock) (hat : v'.ownBlock = v1.ownBlock ∨ v'.ownBlock = some w.heap.size) :
    w'.cell? ⟨b, 1, none⟩ = some v1 ∧ w'.frozen? ⟨b, 1, none⟩ = false ∧ RefR (w'.setCell ⟨b, 1, none⟩ v') b v' v2 most l B next ∧ Keeps (foot2 b v1 v2) w (w'.setCell ⟨b, 1, none⟩ v') ∧ Within w (foot2 b v1 v2) (foot2 b v' v2) := by
  have hrow : w'.heap[b]? = some (.cells #[.int .i64 most, v1, v2, .int .i64 next] 100 (0, 0)) := (hg.block b (row_lt h.row) (fun e => h.apart1 e.symm)).trans h.row
  have hb1 : v'.ownBlock ≠ some b := fun e => by
    rcases hat with hat | hat
    · exact h.apart1 (hat ▸ e)
    · have := row_lt h.row; rw [hat] at e; injection e; omega
  have hap : ∀ g, v'.ownBlock = some g → v2.ownBlock ≠ some g := fun g hg1 e => by
    rcases hat with hat | hat
    · exact h.apart g (hat ▸ hg1) e
    · have := h.back.lt g e; rw [hat] at hg1; injection hg1; omega
  refine ⟨by rw [cell_of_row _ _ _ _ _ _ hrow]; rfl, frozen_of_row _ _ _ _ _ hrow, ⟨heap_setCell_same w' b 1 _ _ v' hrow, ho.block fun g hg => Below.heap_setCell _ _ _ _ (fun e => hb1 (by rw [hg, e])),
    (h.back.block fun g hg1 => hg.block g (h.back.lt g hg1) (fun e => h.apart g e.symm hg1)).block fun g hg => Below.heap_setCell _ _ _ _ (fun e => h.apart2 (by rw [hg, e])), hb1, h.apart2, hap⟩,
    (Keeps.of_grown hg (fun k hk => .inr (.inl hk))).and (Keeps.of_setCell _ _ ⟨b, 1, none⟩ _ (.inl rfl)), ?_⟩
  rintro k (rfl | hk | hk)
  · exact .inl (.inl rfl)
  · rcases hat with hat | hat
    · exact .inl (.inr (.inl (hat ▸ hk)))
    · rw [hat] at hk; injection hk with hk; exact .inr (by omega)
  · exact .inl (.inr (.inr hk))

end

set_option maxRecDepth 100000 in
theorem refHas {w : World} {b : Nat} {v1 v2 : Value} {most next : Int} {T B : List Int} (h : RefR w b v1 v2 most T B next) (n : Int) (hl : T.length ≤ 100000) :
    Calls Tryz.prog 84 #[.pointer (some ⟨b, 0, none⟩), .int .i64 n] w fun e w' => e = .returned (.bool (decide (n ∈ T))) ∧ w = w' := by
  obtain ⟨c0, c1, c2, c3⟩ := h.cells
  obtain ⟨a1, k1, a2, k2, rfl, rfl⟩ := h.forms
  go_enter Tryz.func84, Tryz.ntmps84
  go_wp2_with fail
  refine (refIn T n _ _ h.taken.reads (by omega)).mono ?_
  rintro e w1 ⟨rfl, rfl⟩
  go_wp2
  go_ret
  exact ⟨rfl, rfl⟩

set_option maxRecDepth 100000 in
set_option maxHeartbeats 1000000 in
theorem refTake_full {w : World} {b : Nat} {v1 v2 : Value} {next : Int} {T B : List Int} (h : RefR w b v1 v2 (T.length : Int) T B next) :
    Calls Tryz.prog 81 #[.pointer (some ⟨b, 0, none⟩)] w fun e w' => e = .returned (.tuple #[.int .i64 0, .int .i64 2]) ∧ Below w.heap.size w w' := by
  obtain ⟨c0, c1, c2, c3⟩ := h.cells
  obtain ⟨a1, k1, a2, k2, rfl, rfl⟩ := h.forms
  clear h
  go_enter Tryz.func81, Tryz.ntmps81
  go_wp2
  go_region
  go_wp2
  go_ret2
  exact ⟨rfl, by go_grown⟩

set_option maxRecDepth 100000 in
set_option maxHeartbeats 1000000 in
theorem refTake_new {w : World} {b : Nat} {v1 v2 : Value} {most next : Int} {T : List Int} (h : RefR w b v1 v2 most T [] next) (hf : (T.length : Int) ≠ most) (hl : T.length ≤ 100000) (hn0 : 0 ≤ next) (hn1 : next ≤ 100000) :
    Calls Tryz.prog 81 #[.pointer (some ⟨b, 0, none⟩)] w fun e w' => e = .returned (.tuple #[.int .i64 next, .int .i64 0]) ∧ ∃ v1' v2', RefR w' b v1' v2' most (T ++ [next]) [] (next + 1) ∧ Keeps (foot2 b v1 v2) w w' ∧ Within w (foot2 b v1 v2) (foot2 b v1' v2') := by
  have hfb : ((T.length : Int) == most) = false := by rw [beq_eq_false_iff_ne]; exact hf
  clear hf
  obtain ⟨c0, c1, c2, c3⟩ := h.cells
  obtain ⟨a1, k1, a2, k2, rfl, rfl⟩ := h.forms
  have z3 := h.free 3
  have h2 := h.setNext (next + 1)
  have d1 := h2.cells.2.1
  have hA := h2.alloc (.cells #[.int .i64 next] 3)
  have hsrc := oneI (w.setCell ⟨b, 3, none⟩ (.int .i64 (next + 1))) next w.heap.size (by simp [World.setCell])
  have hk := Keeps.of_setCell (foot2 b (.slice a1 T.length k1) (.slice a2 ([] : List Int).length k2)) w ⟨b, 3, none⟩ (.int .i64 (next + 1)) (.inl rfl)
  have hkA := hk.and (Keeps.of_alloc (foot2 b (.slice a1 T.length k1) (.slice a2 ([] : List Int).length k2)) (w.setCell ⟨b, 3, none⟩ (.int .i64 (next + 1))) (.cells #[.int .i64 next] 3))
  have hlen : T.length + [next].length ≤ 1000000 := by simp; omega
  have hl : (T ++ [next]).length = T.length + 1 := by simp
  have HK := Lib.hid hkA
  clear h h2 hk hkA
  simp only [List.length_nil] at *
  go_enter Tryz.func81, Tryz.ntmps81
  go_wp2
  go_region
  go_wp2_with (at_builtin; refine appendI rfl (.tmp 57) (.tmp 59) rfl _ _ T [next] rfl hA.taken rfl hsrc hlen ?_; intro v' w2 hown hgr hat; obtain ⟨q1, z1, hR, hK, hW⟩ := RefR.appTaken (hA.block fun _ _ => by rfl) hown hgr hat; obtain ⟨a', k', e', _⟩ := hown.form; rw [hl] at e'; subst e'; clear hown hgr hat)
  go_ret2
  exact ⟨rfl, _, _, hR, (HK.out.and (Keeps.of_drew _ _)).and hK, fun k hk => (hW k hk).imp id (fun e => Nat.le_trans (HK.out.and (Keeps.of_drew _ _)).size e)⟩

set_option maxRecDepth 100000 in
set_option maxHeartbeats 2000000 in
theorem refTake_again {w : World} {b : Nat} {v1 v2 : Value} {most next : Int} {T B : List Int} {n : Int} (h : RefR w b v1 v2 most T (B ++ [n]) next) (hf : (T.length : Int) ≠ most) (hl : T.length ≤ 100000) (hlB : B.length ≤ 90000) (hnd : (B ++ [n]).Nodup) :
    Calls Tryz.prog 81 #[.pointer (some ⟨b, 0, none⟩)] w fun e w' => e = .returned (.tuple #[.int .i64 n, .int .i64 0]) ∧ ∃ v1' v2', RefR w' b v1' v2' most (T ++ [n]) B next ∧ Keeps (foot2 b v1 v2) w w' ∧ Within w (foot2 b v1 v2) (foot2 b v1' v2') := by
  have hfb : ((T.length : Int) == most) = false := by rw [beq_eq_false_iff_ne]; exact hf
  clear hf
  have hl2 : (B ++ [n]).length = B.length + 1 := by simp
  obtain ⟨c0, c1, c2, c3⟩ := h.cells
  obtain ⟨a1, k1, _, _, rfl, _⟩ := h.forms
  obtain ⟨g2, k2, rfl, hc2, hm2⟩ := h.back.some (by omega)
  have cn : w.cell? ⟨g2, B.length, none⟩ = some (.int .i64 n) := by
    have := h.back.intAt B.length (by omega)
    simpa using this
  have hpos : (0 : Int) < (B.length : Int) + 1 := by omega
  have hb0 : (B.length : Int) ≤ 90000 := by omega
  have HW := fun w0 (h0 : RefR w0 b (.slice a1 T.length k1) (.slice (some ⟨g2, 0, none⟩) (B ++ [n]).length k2) most T (B ++ [n]) next) => refWithout (B ++ [n]) n _ _ h0.back.reads (by omega)
  have ew : without (B ++ [n]) n = B := filter_last hnd
  rw [ew] at HW
  have H := Lib.hid h
  clear h ew hnd
  rw [hl2] at *
  go_enter Tryz.func81, Tryz.ntmps81
  go_wp2
  go_region
  go_wp2
  go_region
  go_wp2_with fail
  refine (HW _ (H.out.block fun _ _ => by rfl)).mono ?_
  rintro e w1 ⟨v', rfl, hW⟩
  obtain ⟨h1, h2, hk, hwi⟩ := RefR.newBack (H.out.block fun _ _ => by rfl) hW
  obtain ⟨a', k', e', _⟩ := hW.own.form
  subst e'
  clear c0 c1 c2 c3 H HW hW cn
  obtain ⟨c0, c1, c2, c3⟩ := h1.cells
  have z1 := h1.free 2
  have d1 := h2.cells.2.1
  clear h1
  have hA := h2.alloc (.cells #[.int .i64 n] 3)
  have hsrc := oneI (w1.setCell ⟨b, 2, none⟩ (.slice a' B.length k')) n w1.heap.size (by simp [World.setCell])
  have hlen : T.length + [n].length ≤ 1000000 := by simp; omega
  have hkA := Keeps.of_alloc (foot2 b (.slice a1 T.length k1) (.slice a' B.length k')) (w1.setCell ⟨b, 2, none⟩ (.slice a' B.length k')) (.cells #[.int .i64 n] 3)
  have hl : (T ++ [n]).length = T.length + 1 := by simp
  have HK := Lib.hid hk
  have HW := Lib.hid hwi
  clear h2 hk hwi
  go_wp2_with (at_builtin; refine appendI rfl (.tmp 57) (.tmp 59) rfl _ _ T [n] rfl hA.taken rfl hsrc hlen ?_; intro v' w2 hown hgr hat; obtain ⟨q1, z1, hR, hK, hW⟩ := hA.appTaken hown hgr hat; obtain ⟨a'', k'', e'', _⟩ := hown.form; rw [hl] at e''; subst e''; clear hown hgr hat)
  go_ret2
  have HK2 := Keeps.and (Keeps.and (Keeps.of_drew _ w) (Keeps.of_drew _ _)) HK.out
  exact ⟨rfl, _, _, hR, HK2.trans (hkA.and hK) HW.out, HW.out.trans hW (Nat.le_trans HK.out.size hkA.size)⟩

end Go.Proofs.YtipocmbplcdmjaaGreatDoor
