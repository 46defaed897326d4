/-
  What is asked of the code's store, whatever it is; the two stores side by side; helpers of the laws.
-/
import Derived.Test.YtbnjbnjhpccomaaRefS4
import Derived.Test.YtbnjbnjhpccomaaHelp
namespace Go.Proofs.Ytbnjbnjhpccomaa
open Go Go.RowKit

/-- Each call, by the state. -/
structure StoreC (StAt : World → Nat → (Nat → Prop) → MS → Prop) : Prop where ofAll ::
  lt : ∀ {w b F s}, StAt w b F s → ∀ k, F k → k < w.heap.size
  keep : ∀ {w w' b F s} {G : Nat → Prop}, StAt w b F s → Keeps G w w' → (∀ k, F k → ¬ G k) → StAt w' b F s
  new : ∀ (most : Int) (w : World), 0 ≤ most → most ≤ 20000 → Calls Try.prog 7 #[.int .i64 most] w fun e w' => ∃ b, e = .returned (.pointer (some ⟨b, 0, none⟩)) ∧ (∃ F, StAt w' b F (MS.none most.toNat) ∧ ∀ k, F k → w.heap.size ≤ k) ∧ Below w.heap.size w w'
  no : ∀ (most : Int) (w : World), most < 0 ∨ 20000 < most → Calls Try.prog 7 #[.int .i64 most] w fun e w' => e = .returned (.pointer none) ∧ Below w.heap.size w w'
  make : ∀ {w b F s}, StAt w b F s → s.Ok → ∀ v lo hi : Int, (lo ≤ 9223372036854775807 ∧ -9223372036854775808 ≤ lo) → (hi ≤ 9223372036854775807 ∧ -9223372036854775808 ≤ hi) → Calls Try.prog 19 #[.pointer (some ⟨b, 0, none⟩), .int .i64 v, .int .i64 lo, .int .i64 hi] w fun e w' => e = .returned (.tuple #[.int .i64 (s.mk v lo hi []).1, errV (s.mk v lo hi []).2.1]) ∧ ∃ F', StAt w' b F' (s.mk v lo hi []).2.2 ∧ Keeps F w w' ∧ Within w F F'
  node : ∀ {w b F s}, StAt w b F s → s.Ok → ∀ n : Int, (n ≤ 9223372036854775807 ∧ -9223372036854775808 ≤ n) → Calls Try.prog 12 #[.pointer (some ⟨b, 0, none⟩), .int .i64 n] w fun e w' => e = .returned (nodeV s n) ∧ Below w.heap.size w w'
  swap : ∀ {w b F s}, StAt w b F s → s.Ok → ∀ l : Int, Calls Try.prog 16 #[.pointer (some ⟨b, 0, none⟩), .int .i64 l] w fun e w' => e = .returned (errV (s.swap l).1) ∧ ∃ F', StAt w' b F' (s.swap l).2 ∧ Keeps F w w' ∧ Within w F F'
  all : ∀ {w b F s}, StAt w b F s → s.Ok → Calls Try.prog 10 #[.pointer (some ⟨b, 0, none⟩)] w fun e w' => ∃ v', e = .returned v' ∧ WRel w s.all v' w'
  free : ∀ {w b F s}, StAt w b F s → s.Ok → ∀ n : Int, (n ≤ 9223372036854775807 ∧ -9223372036854775808 ≤ n) → Calls Try.prog 26 #[.pointer (some ⟨b, 0, none⟩), .int .i64 n] w fun e w' => e = .returned (errV (s.free n).1) ∧ ∃ F', StAt w' b F' (s.free n).2 ∧ Keeps F w w' ∧ Within w F F'
  order : ∀ {w b F s}, StAt w b F s → s.Ok → Calls Try.prog 11 #[.pointer (some ⟨b, 0, none⟩)] w fun e w' => e = .returned (ov s.o) ∧ Below w.heap.size w w'
  live : ∀ {w b F s}, StAt w b F s → s.Ok → Calls Try.prog 20 #[.pointer (some ⟨b, 0, none⟩)] w fun e w' => e = .returned (.int .i64 s.all.length) ∧ Below w.heap.size w w'
  room : ∀ {w b F s}, StAt w b F s → s.Ok → Calls Try.prog 21 #[.pointer (some ⟨b, 0, none⟩)] w fun e w' => e = .returned (.int .i64 s.room) ∧ Below w.heap.size w w'

theorem StoreC.below {StAt : World → Nat → (Nat → Prop) → MS → Prop} (H : StoreC StAt) {w w' : World} {b : Nat} {F : Nat → Prop} {s : MS} (h : StAt w b F s) (hb : Below w.heap.size w w') : StAt w' b F s := H.keep h (Keeps.of_below hb noBlock) (fun _ _ h => h)
theorem StoreC.sub {StAt : World → Nat → (Nat → Prop) → MS → Prop} (H : StoreC StAt) {w : World} {b : Nat} {F : Nat → Prop} {s : MS} (h : StAt w b F s) (u : Sub w) : StAt u.1 b F s := H.below h u.2

/-- Both stores, apart from each other and from all that stood in w0. -/
structure P2 (StAt : World → Nat → (Nat → Prop) → MS → Prop) (w0 : World) (bA bM : Nat) (FA FM : Nat → Prop) (sA sM : MS) (W : World) : Prop where
  a : StAt W bA FA sA
  m : RefSAt W bM FM sM
  apart : ∀ k, FA k → ¬ FM k
  lowA : ∀ k, FA k → w0.heap.size ≤ k
  lowM : ∀ k, FM k → w0.heap.size ≤ k
  below : Below w0.heap.size w0 W

section
variable {StAt : World → Nat → (Nat → Prop) → MS → Prop} {w0 W W' : World} {bA bM : Nat} {FA FM FA' FM' : Nat → Prop} {sA sM s' : MS}

theorem P2.keep (H : StoreC StAt) (h : P2 StAt w0 bA bM FA FM sA sM W) (hb : Below W.heap.size W W') : P2 StAt w0 bA bM FA FM sA sM W' :=
  ⟨H.below h.a hb, h.m.below hb, h.apart, h.lowA, h.lowM, h.below.trans (hb.mono h.below.size)⟩
theorem P2.code (_H : StoreC StAt) (h : P2 StAt w0 bA bM FA FM sA sM W) (hA : StAt W' bA FA' s') (hK : Keeps FA W W') (hW : Within W FA FA') : P2 StAt w0 bA bM FA' FM s' sM W' :=
  ⟨hA, h.m.keep hK (fun k h1 h2 => h.apart k h2 h1), fun k h1 h2 => (hW k h1).elim (fun h3 => h.apart k h3 h2) (fun h3 => by have := h.m.lt k h2; omega),
    fun k h1 => (hW k h1).elim (h.lowA k) (fun h3 => Nat.le_trans h.below.size h3), h.lowM, h.below.trans (hK.below h.below.size h.lowA)⟩
theorem P2.ref (H : StoreC StAt) (h : P2 StAt w0 bA bM FA FM sA sM W) (hM : RefSAt W' bM FM' s') (hK : Keeps FM W W') (hW : Within W FM FM') : P2 StAt w0 bA bM FA FM' sA s' W' :=
  ⟨H.keep h.a hK (fun k h1 h2 => h.apart k h1 h2), hM, fun k h1 h2 => (hW k h2).elim (fun h3 => h.apart k h1 h3) (fun h3 => by have := H.lt h.a k h1; omega),
    h.lowA, fun k h1 => (hW k h1).elim (h.lowM k) (fun h3 => Nat.le_trans h.below.size h3), h.below.trans (hK.below h.below.size h.lowM)⟩
theorem P2.sub (H : StoreC StAt) (h : P2 StAt w0 bA bM FA FM sA sM W) (u : Sub W) : P2 StAt w0 bA bM FA FM sA sM u.1 := h.keep H u.2
end

theorem MS.mk_err (s : MS) (v lo hi : Int) (but : List Int) : 0 ≤ (s.mk v lo hi but).2.1 ∧ (s.mk v lo hi but).2.1 ≤ 8 := by
  unfold MS.mk
  split
  · (refine ⟨?_, ?_⟩ <;> dsimp only <;> omega)
  · split
    · (refine ⟨?_, ?_⟩ <;> dsimp only <;> omega)
    · split
      · (refine ⟨?_, ?_⟩ <;> dsimp only <;> omega)
      · have : 0 ≤ s.ar.takeE ∧ s.ar.takeE ≤ 8 := by unfold AS.takeE; split <;> decide
        split
        · exact this
        · (refine ⟨?_, ?_⟩ <;> dsimp only <;> omega)
theorem MS.free_err (s : MS) (n : Int) : 0 ≤ (s.free n).1 ∧ (s.free n).1 ≤ 8 := by
  unfold MS.free
  split
  · (refine ⟨?_, ?_⟩ <;> dsimp only <;> omega)
  · show 0 ≤ s.ar.giveE (n - 2) ∧ s.ar.giveE (n - 2) ≤ 8
    unfold AS.giveE
    split <;> decide
theorem MS.swap_err (s : MS) (l : Int) : 0 ≤ (s.swap l).1 ∧ (s.swap l).1 ≤ 8 := by
  unfold MS.swap
  split
  · (refine ⟨?_, ?_⟩ <;> dsimp only <;> omega)
  · dsimp only
    split <;> (refine ⟨?_, ?_⟩ <;> dsimp only <;> omega)

set_option maxRecDepth 100000 in
set_option maxHeartbeats 1000000 in
theorem lawInts (l : List Int) (v v' : Value) (w : World) (hv : Reads encI w v l) (hv' : Reads encI w v' l) (hl : l.length ≤ 1000000) :
    Calls Try.prog 18 #[v, v'] w fun e w' => e = .returned (.int .i64 1) ∧ Below w.heap.size w w' := by
  obtain ⟨a, c, rfl⟩ := hv.form
  obtain ⟨a', c', rfl⟩ := hv'.form
  go_enter Try.func18, Try.ntmps18
  go_wp2
  go_loopw [5] (fun i wr => ∃ k : Nat, k ≤ l.length ∧ i = .int .i64 k ∧ Below w.heap.size w wr) (fun i _ => l.length - (intOf i).toNat)
  case atStart => exact ⟨0, Nat.zero_le _, rfl, Below.refl _ _⟩
  case round =>
    obtain ⟨k, hk, rfl, hb⟩ := hrel
    by_cases hlt : k < l.length
    · obtain ⟨ad, rfl, _⟩ := hv.intAt k hlt
      obtain ⟨ad', rfl, _⟩ := hv'.intAt k hlt
      have x1 : ∀ u : Sub wr, u.1.cell? (ad.add k) = some (.int .i64 l[k]) := fun u => by
        obtain ⟨ad2, e, h⟩ := (hv.keep (hb.trans (u.2.mono hb.size))).intAt k hlt
        cases e; exact h
      have x2 : ∀ u : Sub wr, u.1.cell? (ad'.add k) = some (.int .i64 l[k]) := fun u => by
        obtain ⟨ad2, e, h⟩ := (hv'.keep (hb.trans (u.2.mono hb.size))).intAt k hlt
        cases e; exact h
      have hk0 : (0 : Int) ≤ (k : Int) := by omega
      have hk1 : (k : Int) < (l.length : Int) := by omega
      clear hv hv'
      generalize l[k] = x at *
      go_wp2
      refine wp_region_quiet_all (C := fun w' => ∃ u : Sub wr, w' = u.1) (by kernel_rfl) (by kernel_rfl) (InSub.drew wr) ?_
      iterate 9 (go_big_quiet_step (fail))
      refine wpQuiet_nil ?_
      clear x1 x2
      intro w' hw'
      obtain ⟨u, rfl⟩ := hw'
      go_wp2
      exact ⟨⟨k + 1, by omega, by go_num, hb.trans (u.2.mono hb.size)⟩, by simp [intOf]; omega⟩
    · obtain rfl : k = l.length := by omega
      clear hv hv'
      go_wp2
      go_ret
      exact ⟨rfl, hb⟩

/-- A node by any number. -/
def MS.pick (s : MS) (n : Int) (raw : Bool) : Int := if raw then n else (0 :: 1 :: s.all).getD (n % ((s.all.length : Int) + 2)).toNat 0
theorem MS.Base.pick_ge {s : MS} (ok : s.Base) {n : Int} {raw : Bool} (hn : -9223372036854775808 ≤ n) : -9223372036854775808 ≤ s.pick n raw := by
  unfold MS.pick
  split
  · exact hn
  · have h1 := Int.emod_nonneg n (show (s.all.length : Int) + 2 ≠ 0 by omega)
    have h2 := Int.emod_lt_of_pos n (show 0 < (s.all.length : Int) + 2 by omega)
    have hi : (n % ((s.all.length : Int) + 2)).toNat < (0 :: 1 :: s.all).length := by simp; omega
    have hmem := List.getElem_mem hi
    rw [List.getD, List.getElem?_eq_getElem hi, Option.getD_some]
    generalize (0 :: 1 :: s.all)[(n % ((s.all.length : Int) + 2)).toNat] = x at *
    rcases List.mem_cons.1 hmem with rfl | hm
    · omega
    · rcases List.mem_cons.1 hm with rfl | hm
      · omega
      · have := ok.has_le (ok.mem_all.1 hm); omega
theorem MS.Base.pick_le {s : MS} (ok : s.Base) {n : Int} {raw : Bool} (hn : n ≤ 9223372036854775807) : s.pick n raw ≤ 9223372036854775807 := by
  unfold MS.pick
  split
  · exact hn
  · have h1 := Int.emod_nonneg n (show (s.all.length : Int) + 2 ≠ 0 by omega)
    have h2 := Int.emod_lt_of_pos n (show 0 < (s.all.length : Int) + 2 by omega)
    have hi : (n % ((s.all.length : Int) + 2)).toNat < (0 :: 1 :: s.all).length := by simp; omega
    have hmem := List.getElem_mem hi
    rw [List.getD, List.getElem?_eq_getElem hi, Option.getD_some]
    generalize (0 :: 1 :: s.all)[(n % ((s.all.length : Int) + 2)).toNat] = x at *
    rcases List.mem_cons.1 hmem with rfl | hm
    · omega
    · rcases List.mem_cons.1 hm with rfl | hm
      · omega
      · have := ok.has_le (ok.mem_all.1 hm); omega

set_option maxRecDepth 100000 in
set_option maxHeartbeats 1000000 in
theorem lawNode {w : World} {b : Nat} {F : Nat → Prop} {s : MS} (h : RefSAt w b F s) (ok : s.Base) (n : Int) (raw : Bool) (hn : (Lit.int .i64 n).wf = true) :
    Calls Try.prog 25 #[.pointer (some ⟨b, 0, none⟩), .int .i64 n, .bool raw] w fun e w' => e = .returned (.int .i64 (s.pick n raw)) ∧ Below w.heap.size w w' := by
  have hal : s.all.length ≤ 20000 := Nat.le_trans (numsTo_filter_length s.has s.N.length) ok.few
  cases raw
  · have HA := fun W (hb : Below w.heap.size w W) => refSAll (h.below hb) ok
    have h1 := Int.emod_nonneg n (show (s.all.length : Int) + 2 ≠ 0 by omega)
    have h2 := Int.emod_lt_of_pos n (show 0 < (s.all.length : Int) + 2 by omega)
    have hp : s.pick n false = (0 :: 1 :: s.all).getD (n % ((s.all.length : Int) + 2)).toNat 0 := rfl
    rw [hp]
    clear hp h
    have HP := fun W => lawPick n ((s.all.length : Int) + 2) W (by omega) (by omega) hn
    obtain ⟨J, hJ⟩ := Int.eq_ofNat_of_zero_le h1
    rw [hJ] at HP h1 h2 ⊢
    rw [Int.toNat_natCast]
    have hJl : J < (0 :: 1 :: s.all).length := by simp; omega
    rw [List.getD, List.getElem?_eq_getElem hJl, Option.getD_some]
    clear hJ
    generalize hx : (0 :: 1 :: s.all)[J] = x
    go_enter Try.func25, Try.ntmps25
    go_wp2_with fail
    have hO : Owns encI (w.alloc (.cells #[.int .i64 0, .int .i64 1] 3)) (.slice (some ⟨w.heap.size, 0, none⟩) 2 2) [0, 1] := World.ownsRow_lit w #[.int .i64 0, .int .i64 1] 2 (Nat.zero_le _) (by unfold maxLen; omega) rfl
    have hb : Below w.heap.size w (w.alloc (.cells #[.int .i64 0, .int .i64 1] 3)) := by go_grown
    generalize w.alloc (.cells #[.int .i64 0, .int .i64 1] 3) = W at *
    refine (HA W hb).mono ?_
    rintro e w1 ⟨vA, rfl, RA⟩
    clear HA
    replace hO := hO.block (w' := w1) fun g hg => RA.below.block g (hO.lt g hg)
    replace hb := hb.trans (RA.below.mono hb.size)
    have hln : ([0, 1] : List Int).length + s.all.length ≤ 1000000 := by simp; omega
    go_wp2_with (at_builtin; refine appendI rfl (.tmp 10) (.tmp 12) rfl _ _ [0, 1] s.all rfl hO rfl RA.own.reads hln ?_; intro v' w4 hown hgr hat; obtain ⟨g4, c4, e4, _, _⟩ := hown.some (by simp); have hl4 : ([0, 1] ++ s.all).length = s.all.length + 2 := (by simp); rw [hl4] at e4; subst e4)
    have hb4 := hb.grown hgr (by have := hb.size; omega) (fun g hg => by cases hg; exact Nat.le_refl _)
    have x1 : w4.cell? ⟨g4, J, none⟩ = some (.int .i64 x) := by
      rw [← hl4] at hown
      rw [← hx]
      exact hown.intAt J (by simp; omega)
    have hJ0 : (0 : Int) ≤ (J : Int) := by omega
    have hJ1 : (J : Int) < ((s.all.length + 2 : Nat) : Int) := by omega
    refine (HP _).mono ?_
    rintro e w5 ⟨rfl, rfl⟩
    clear HP hown hgr hat hb hO RA
    go_wp2
    go_ret
    exact ⟨rfl, hb4⟩
  · go_enter Try.func25, Try.ntmps25
    go_wp2
    go_ret
    exact ⟨rfl, Below.refl _ _⟩

end Go.Proofs.Ytbnjbnjhpccomaa
