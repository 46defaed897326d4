/-
  Texts of this proof, one behind the other: CoN, StoreI, Math, MathVar, Math2, Math2b, Math3.
-/
import Derived.Test.YtipocmbplcdmjaaDoorG10
import Derived.Test.YtipocmbplcdmjaaDoorG6
import Derived.WalkKit
/-
  Walks of the code's store: New.
-/
namespace Go.Proofs.YtipocmbplcdmjaaDoor
open Go Go.RowKit

/-- The row of a store that is being made. -/
def rowN (most : Int) (p : Nat → Int) (bA : Nat) (q : Nat → Value) : Obj :=
  .cells #[.int .i64 most, .int .i64 (p 0), .int .i64 (p 1), .int .i64 (p 2), .int .i64 (p 3), .int .i64 (p 4), .int .i64 (p 5), .int .i64 (p 6), .int .i64 (p 7), pv bA, q 0, q 1, q 2, q 3, q 4, q 5, q 6, q 7, .slice none 0 0] 52 (0, 0)

section
variable {w : World} {b bA : Nat} {most : Int} {p : Nat → Int} {q : Nat → Value}

theorem rowN_cells (h : w.heap[b]? = some (rowN most p bA q)) (k : Nat) (hk : k < 8) : w.cell? ⟨b, 1 + k, none⟩ = some (.int .i64 (p k)) ∧ w.cell? ⟨b, 10 + k, none⟩ = some (q k) := by
  rw [cell_of_row _ _ _ _ _ _ h, cell_of_row _ _ _ _ _ _ h]
  rcases (by omega : k = 0 ∨ k = 1 ∨ k = 2 ∨ k = 3 ∨ k = 4 ∨ k = 5 ∨ k = 6 ∨ k = 7) with rfl | rfl | rfl | rfl | rfl | rfl | rfl | rfl <;> exact ⟨rfl, rfl⟩
theorem rowN_p (h : w.heap[b]? = some (rowN most p bA q)) (k : Nat) (hk : k < 8) (x : Int) : (w.setCell ⟨b, 1 + k, none⟩ (.int .i64 x)).heap[b]? = some (rowN most (upd p k x) bA q) := by
  rw [heap_setCell_same w b (1 + k) _ _ (.int .i64 x) h]
  rcases (by omega : k = 0 ∨ k = 1 ∨ k = 2 ∨ k = 3 ∨ k = 4 ∨ k = 5 ∨ k = 6 ∨ k = 7) with rfl | rfl | rfl | rfl | rfl | rfl | rfl | rfl <;> rfl
theorem rowN_q (h : w.heap[b]? = some (rowN most p bA q)) (k : Nat) (hk : k < 8) (x : Value) : (w.setCell ⟨b, 10 + k, none⟩ x).heap[b]? = some (rowN most p bA (upd q k x)) := by
  rw [heap_setCell_same w b (10 + k) _ _ x h]
  rcases (by omega : k = 0 ∨ k = 1 ∨ k = 2 ∨ k = 3 ∨ k = 4 ∨ k = 5 ∨ k = 6 ∨ k = 7) with rfl | rfl | rfl | rfl | rfl | rfl | rfl | rfl <;> rfl

/-- A store that is being made: k of its tables are there. -/
structure NewR (w0 : World) (most : Nat) (k b bA : Nat) (FA : Nat → Prop) (p : Nat → Int) (q : Nat → Value) (bT : Nat → Nat) (FT : Nat → Nat → Prop) (w : World) : Prop where
  row : w.heap[b]? = some (rowN (most : Int) p bA q)
  ar : ArenaAt w bA FA ⟨most, 0, [], []⟩
  p1 : ∀ i, i < k → p i = (i : Int)
  q1 : ∀ i, i < k → q i = pv (bT i)
  q2 : ∀ i, k ≤ i → i < 8 → q i = .pointer none
  tab : ∀ i, i < k → UniqAt w (bT i) (FT i) ⟨[], 8⟩
  lowb : w0.heap.size ≤ b
  lowA : ∀ j, FA j → w0.heap.size ≤ j ∧ j ≠ b
  lowT : ∀ i, i < k → ∀ j, FT i j → w0.heap.size ≤ j ∧ j ≠ b ∧ ¬ FA j
  apart : ∀ i, i < k → ∀ l, l < k → i ≠ l → ∀ j, FT i j → ¬ FT l j
  below : Below w0.heap.size w0 w

theorem NewR.keep {w0 w' : World} {most k : Nat} {FA : Nat → Prop} {bT : Nat → Nat} {FT : Nat → Nat → Prop} (h : NewR w0 most k b bA FA p q bT FT w) (hb : Below w.heap.size w w') : NewR w0 most k b bA FA p q bT FT w' :=
  ⟨(hb.block b (row_lt h.row)).trans h.row, h.ar.below hb, h.p1, h.q1, h.q2, fun i hi => (h.tab i hi).below hb, h.lowb, h.lowA, h.lowT, h.apart, h.below.trans (hb.mono h.below.size)⟩
/-- A variable's place in the order. -/
theorem NewR.setP {w0 : World} {most k : Nat} {FA : Nat → Prop} {bT : Nat → Nat} {FT : Nat → Nat → Prop} (h : NewR w0 most k b bA FA p q bT FT w) (hk : k < 8) : NewR w0 most k b bA FA (upd p k (k : Int)) q bT FT (w.setCell ⟨b, 1 + k, none⟩ (.int .i64 (k : Int))) := by
  have hK := Keeps.of_setCell (fun j => j = b) w ⟨b, 1 + k, none⟩ (.int .i64 (k : Int)) rfl
  refine ⟨rowN_p h.row k hk _, h.ar.keep hK fun j hj e => (h.lowA j hj).2 e, fun i hi => ?_, h.q1, h.q2, fun i hi => (h.tab i hi).keep hK fun j hj e => (h.lowT i hi j hj).2.1 e, h.lowb, h.lowA, h.lowT, h.apart, h.below.trans (hK.below h.below.size fun j e => e ▸ h.lowb)⟩
  rw [upd_other _ _ _ (by omega)]
  exact h.p1 i hi
/-- Its table. -/
theorem NewR.setQ {w0 w' : World} {most k bN : Nat} {FA F' : Nat → Prop} {bT : Nat → Nat} {FT : Nat → Nat → Prop} (h : NewR w0 most k b bA FA p q bT FT w) (hk : k < 8) (hp : p k = (k : Int)) (hU : UniqAt w' bN F' ⟨[], 8⟩) (hF : ∀ j, F' j → w.heap.size ≤ j) (hb : Below w.heap.size w w') :
    NewR w0 most (k + 1) b bA FA p (upd q k (pv bN)) (upd bT k bN) (upd FT k F') (w'.setCell ⟨b, 10 + k, none⟩ (pv bN)) := by
  have h' := h.keep hb
  have hK := Keeps.of_setCell (fun j => j = b) w' ⟨b, 10 + k, none⟩ (pv bN) rfl
  have hlb := row_lt h.row
  refine ⟨rowN_q h'.row k hk _, h'.ar.keep hK fun j hj e => (h.lowA j hj).2 e, fun i hi => ?_, fun i hi => ?_, fun i h1 h2 => ?_, fun i hi => ?_, h.lowb, h.lowA, fun i hi j hj => ?_, fun i hi l hl hne j hj hj2 => ?_, h'.below.trans (hK.below h'.below.size fun j e => e ▸ h.lowb)⟩
  · by_cases e : i = k
    · subst e; exact hp
    · exact h.p1 i (by omega)
  · by_cases e : i = k
    · subst e; rw [upd_same, upd_same]
    · rw [upd_other _ _ _ e, upd_other _ _ _ e]; exact h.q1 i (by omega)
  · rw [upd_other _ _ _ (by omega)]; exact h.q2 i (by omega) h2
  · by_cases e : i = k
    · subst e; rw [upd_same, upd_same]; exact hU.keep hK fun j hj e => by have := hF j hj; omega
    · rw [upd_other _ _ _ e, upd_other _ _ _ e]; exact (h'.tab i (by omega)).keep hK fun j hj e => (h.lowT i (by omega) j hj).2.1 e
  · by_cases e : i = k
    · subst e
      rw [upd_same] at hj
      have := hF j hj
      exact ⟨Nat.le_trans h.below.size this, by omega, fun e => by have := h.ar.lt j e; omega⟩
    · rw [upd_other _ _ _ e] at hj; exact h.lowT i (by omega) j hj
  · by_cases e : i = k
    · subst e
      rw [upd_same] at hj
      rw [upd_other _ _ _ (Ne.symm hne)] at hj2
      have := hF j hj
      have := (h.tab l (by omega)).lt j hj2
      omega
    · rw [upd_other _ _ _ e] at hj
      by_cases e2 : l = k
      · subst e2
        rw [upd_same] at hj2
        have := hF j hj2
        have := (h.tab i (by omega)).lt j hj
        omega
      · rw [upd_other _ _ _ e2] at hj2
        exact h.apart i (by omega) l (by omega) hne j hj hj2
/-- All of them are. -/
theorem NewR.done {w0 : World} {most : Nat} {FA : Nat → Prop} {bT : Nat → Nat} {FT : Nat → Nat → Prop} (h : NewR w0 most 8 b bA FA p q bT FT w) : ∃ F, CoAt w b F (MS.none most) [] (MS.none most).refs ∧ ∀ k, F k → w0.heap.size ≤ k := by
  refine ⟨_, ⟨bA, FA, bT, FT, .slice none 0 0, [], fun _ => ⟨[], 8⟩, rfl, ⟨?_, h.ar, h.tab, Owns.nil _ _, (fun e => by cases e), fun k hk => ⟨(h.lowA k hk).2, fun e => by cases e⟩, fun i hi k hk => ⟨(h.lowT i hi k hk).2.1, (fun e => by cases e), (h.lowT i hi k hk).2.2⟩, h.apart⟩, ⟨rfl, fun i hi => (by cases hi), fun i hi => (by cases hi), fun _ _ => TS.Ok.new, fun _ _ => by decide, fun v hv e => ?_⟩⟩, ?_⟩
  · rw [h.row]
    simp only [rowN, rowC, h.p1 0 (by decide), h.p1 1 (by decide), h.p1 2 (by decide), h.p1 3 (by decide), h.p1 4 (by decide), h.p1 5 (by decide), h.p1 6 (by decide), h.p1 7 (by decide), h.q1 0 (by decide), h.q1 1 (by decide), h.q1 2 (by decide), h.q1 3 (by decide), h.q1 4 (by decide), h.q1 5 (by decide), h.q1 6 (by decide), h.q1 7 (by decide)]
    rfl
  · constructor
    · intro h1; cases h1
    · rintro ⟨h1, _⟩
      simp [MS.has, MS.none] at h1
  · rintro k (rfl | e | e | ⟨i, hi, e⟩)
    · exact h.lowb
    · cases e
    · exact (h.lowA k e).1
    · exact (h.lowT i hi k e).1
end

set_option maxRecDepth 100000 in
set_option maxHeartbeats 1000000 in
theorem coNo (most : Int) (w : World) (h : most < 0 ∨ 20000 < most) : Calls Tryd.prog 5 #[.int .i64 most] w fun e w' => e = .returned (.pointer none) ∧ Below w.heap.size w w' := by
  have H := arenaNo most w h
  go_enter Tryd.func5, Tryd.ntmps5
  go_wp2_with fail
  refine H.mono ?_
  rintro e w1 ⟨rfl, rfl⟩
  clear H
  go_wp2
  go_ret
  exact ⟨rfl, Below.refl _ _⟩

set_option maxRecDepth 100000 in
set_option maxHeartbeats 2000000 in
theorem coNew (most : Int) (w : World) (h0 : 0 ≤ most) (h1 : most ≤ 20000) : Calls Tryd.prog 5 #[.int .i64 most] w fun e w' => ∃ b, e = .returned (.pointer (some ⟨b, 0, none⟩)) ∧ (∃ F, CoAt w' b F (MS.none most.toNat) [] (MS.none most.toNat).refs ∧ ∀ k, F k → w.heap.size ≤ k) ∧ Below w.heap.size w w' := by
  obtain ⟨M, rfl⟩ := Int.eq_ofNat_of_zero_le h0
  rw [Int.toNat_natCast]
  have H := arenaNewS (M : Int) w h0 h1
  rw [Int.toNat_natCast] at H
  go_enter Tryd.func5, Tryd.ntmps5
  go_wp2_with fail
  refine H.mono ?_
  rintro e w1 ⟨rfl, ⟨FA, hA, hFA⟩, hb1⟩
  clear H
  go_wp2
  have hS : NewR w M 0 w1.heap.size w.heap.size FA (fun _ => 0) (fun _ => .pointer none) (fun _ => 0) (fun _ _ => False) (w1.alloc (rowN (M : Int) (fun _ => 0) w.heap.size (fun _ => .pointer none))) :=
    ⟨heap_alloc_new _ _, hA.below ((Below.refl _ _).alloc (Nat.le_refl _) _), fun i hi => (by omega), fun i hi => (by omega), fun _ _ _ => rfl, fun i hi => (by omega), hb1.size, fun j hj => ⟨hFA j hj, by have := hA.lt j hj; omega⟩, fun i hi => (by omega), fun i hi => (by omega), hb1.alloc hb1.size _⟩
  unfold rowN at hS
  generalize w1.alloc (.cells #[.int .i64 (M : Int), .int .i64 0, .int .i64 0, .int .i64 0, .int .i64 0, .int .i64 0, .int .i64 0, .int .i64 0, .int .i64 0, pv w.heap.size, .pointer none, .pointer none, .pointer none, .pointer none, .pointer none, .pointer none, .pointer none, .pointer none, .slice none 0 0] 52 (0, 0)) = W0 at *
  generalize w1.heap.size = b at *
  clear hA hFA hb1
  go_loopw [14] (fun i wr => ∃ (k : Nat) (p : Nat → Int) (q : Nat → Value) (bT : Nat → Nat) (FT : Nat → Nat → Prop), k ≤ 8 ∧ i = .int .i64 k ∧ NewR w M k b w.heap.size FA p q bT FT wr) (fun i _ => 8 - (intOf i).toNat)
  case atStart => exact ⟨0, _, _, _, _, by omega, rfl, hS⟩
  case round =>
    clear hS
    obtain ⟨k, p, q, bT, FT, hk, rfl, hR⟩ := hrel
    by_cases hlt : k < 8
    · have hk8 : (k : Int) < 8 := by omega
      have c1 := (rowN_cells hR.row k hlt).1
      have z1 : wr.frozen? ⟨b, 1 + k, none⟩ = false := frozen_of_row _ _ _ _ _ hR.row
      have hR1 := Lib.hid (hR.setP hlt)
      clear hR
      go_wp2
      generalize wr.setCell ⟨b, 1 + k, none⟩ (.int .i64 (k : Int)) = W1 at *
      clear c1 z1
      have hR2 := hR1.out.keep (Below.refl _ _).drew
      have hq := hR2.q2 k (Nat.le_refl _) hlt
      have c0 := (rowN_cells hR2.row k hlt).2
      rw [hq] at c0
      have z0 : W1.drew.frozen? ⟨b, 10 + k, none⟩ = false := frozen_of_row _ _ _ _ _ hR2.row
      replace hq := Lib.hid hq
      replace hR2 := Lib.hid hR2
      clear hR1
      go_region_held3 (fun _ => True) (first | trivial)
        (first
          | (go_at_call 19; refine (uniqNewS _).mono ?_; rintro e W3 ⟨rfl, ⟨F', hU, hF'⟩, hb3⟩; have hR3 := hR2.out.keep hb3; have c2 := (rowN_cells hR3.row k hlt).2; rw [hq.out] at c2; have z2 : W3.frozen? ⟨b, 10 + k, none⟩ = false := frozen_of_row _ _ _ _ _ hR3.row; have hR4 := Lib.hid (hR2.out.setQ hlt (upd_same _ _ _) hU hF' hb3); clear hR3 hU hF' hb3))
      go_wp2
      exact ⟨⟨k + 1, _, _, _, _, by omega, by go_num, hR4.out⟩, by simp [intOf]; omega⟩
    · obtain rfl : k = 8 := by omega
      obtain ⟨F, hC, hF⟩ := hR.done
      have hb := hR.below
      clear hR
      go_wp2
      go_ret
      exact ⟨b, rfl, ⟨F, hC, hF⟩, hb⟩

end Go.Proofs.YtipocmbplcdmjaaDoor

/-
  The code's store keeps the contracts.
-/
namespace Go.Proofs.YtipocmbplcdmjaaDoor
open Go Go.RowKit

theorem nodup_sub_length : ∀ (l k : List Int), l.Nodup → (∀ x ∈ l, x ∈ k) → l.length ≤ k.length
  | [], _, _, _ => Nat.zero_le _
  | a :: l, k, hn, h => by
    obtain ⟨h1, h2⟩ := List.nodup_cons.1 hn
    have ha := h a List.mem_cons_self
    have := nodup_sub_length l (k.erase a) h2 fun x hx => (List.mem_erase_of_ne (fun (e : x = a) => h1 (e ▸ hx))).2 (h x (List.mem_cons_of_mem _ hx))
    have e := List.length_erase_of_mem ha
    have := List.length_pos_of_mem ha
    simp only [List.length_cons]
    omega
theorem MS.Base.all_length {s : MS} (h : s.Base) : s.all.length = s.ar.T.length := by
  have hT : (s.ar.T.map fun k => k + 2).Nodup := by
    rw [List.Nodup, List.pairwise_map]
    exact List.Pairwise.imp (fun hne e => hne (by omega)) h.ar.nodT
  refine Nat.le_antisymm ?_ ?_
  · have := nodup_sub_length s.all (s.ar.T.map fun k => k + 2) s.all_nodup fun n hn => List.mem_map.2 ⟨n - 2, (MS.has_mem h).1 (h.mem_all.1 hn), by omega⟩
    rwa [List.length_map] at this
  · have := nodup_sub_length (s.ar.T.map fun k => k + 2) s.all hT fun n hn => by
      obtain ⟨k, hk, rfl⟩ := List.mem_map.1 hn
      exact h.mem_all.2 ((MS.has_mem h).2 (by rw [show k + 2 - 2 = k by omega]; exact hk))
    rwa [List.length_map] at this

/-- The code's store, by its state. -/
def StoreAt (w : World) (b : Nat) (F : Nat → Prop) (s : MS) : Prop := CoAt w b F s [] s.refs

theorem storeC : StoreC StoreAt where
  lt h := CoAt.lt h
  keep h := CoAt.keep h
  new most w h0 h1 := coNew most w h0 h1
  no most w h := coNo most w h
  make h ok v lo hi h1 h2 := coMk h ok v lo hi h1 h2
  node h ok n hn := coNode h ok.toBase n hn
  swap h ok l := coSwap h ok l
  all h ok := coAll h ok.toBase
  order h _ := coOrder h
  live h ok := (coLive h ok.toBase).mono fun e w' ⟨he, hb⟩ => ⟨by rw [he, ok.toBase.all_length], hb⟩
  room h ok := coRoom h ok.toBase

end Go.Proofs.YtipocmbplcdmjaaDoor

/-
  Plain mathematics of a function of eight variables as four words of 64 bits: nothing of the program is read here.
-/
namespace Go.Proofs.YtipocmbplcdmjaaDoor
open Go Go.RowKit

/-- A function of eight variables: bit x is its value in row x. -/
abbrev Fn := BitVec 256

/-- Word i of it. -/
def wd (f : Fn) (i : Nat) : Nat := (f.extractLsb' (64 * i) 64).toNat

theorem wd_lt (f : Fn) (i : Nat) : wd f i < 18446744073709551616 := (f.extractLsb' (64 * i) 64).isLt

/-- The value that the program holds. -/
def fv (f : Fn) : Value := .agg #[.int .u64 (wd f 0), .int .u64 (wd f 1), .int .u64 (wd f 2), .int .u64 (wd f 3)]

theorem wd_and (f g : Fn) (i : Nat) : bits .and .u64 (wd f i) (wd g i) = (wd (f &&& g) i : Nat) := by
  rw [bits_and_u64_nat _ _ (wd_lt f i) (wd_lt g i)]
  unfold wd
  rw [BitVec.extractLsb'_and, BitVec.toNat_and]

theorem wd_or (f g : Fn) (i : Nat) : bits .or .u64 (wd f i) (wd g i) = (wd (f ||| g) i : Nat) := by
  rw [bits_or_u64_nat _ _ (wd_lt f i) (wd_lt g i)]
  unfold wd
  rw [BitVec.extractLsb'_or, BitVec.toNat_or]

theorem bits_xor_u64_nat' (a b : Nat) (ha : a < 18446744073709551616) (hb : b < 18446744073709551616) :
    bits .xor .u64 (a : Int) (b : Int) = ((a ^^^ b : Nat) : Int) := by
  have hx : a ^^^ b < 2 ^ 64 := Nat.xor_lt_two_pow (by omega) (by omega)
  show IntKind.u64.wrap ((BitVec.ofInt 64 (a : Int) ^^^ BitVec.ofInt 64 (b : Int)).toNat : Int) = _
  rw [BitVec.toNat_xor, BitVec.ofInt_natCast, BitVec.ofInt_natCast, BitVec.toNat_ofNat, BitVec.toNat_ofNat, Nat.mod_eq_of_lt (by omega), Nat.mod_eq_of_lt (by omega), IntKind.wrap_u64]
  omega

theorem wd_not (f : Fn) (i : Nat) (hi : i < 4 := by decide) : bits .xor .u64 IntKind.u64.max (wd f i) = (wd (~~~f) i : Nat) := by
  have e : IntKind.u64.max = ((18446744073709551615 : Nat) : Int) := by decide
  rw [e, bits_xor_u64_nat' _ _ (by decide) (wd_lt f i)]
  unfold wd
  rw [show (18446744073709551615 : Nat) = (BitVec.allOnes 64).toNat by decide, ← BitVec.toNat_xor]
  congr 2
  ext k hk
  simp only [BitVec.getElem_xor, BitVec.getElem_allOnes, BitVec.getElem_extractLsb', BitVec.getLsbD_not]
  have : 64 * i + k < 256 := by omega
  simp [this]

/-- The value in row x; false, where there is no such row. -/
def atF (f : Fn) (x : Int) : Bool := if 0 ≤ x ∧ x < 256 then f.getLsbD x.toNat else false

theorem wd_bit (f : Fn) (k : Nat) : f.getLsbD k = decide (wd f (k / 64) / 2 ^ (k % 64) % 2 = 1) := by
  have h1 : (f.extractLsb' (64 * (k / 64)) 64).getLsbD (k % 64) = f.getLsbD k := by
    rw [BitVec.getLsbD_extractLsb']
    have : 64 * (k / 64) + k % 64 = k := by omega
    simp [this, Nat.mod_lt]
  rw [← h1]
  unfold wd
  rw [BitVec.getLsbD, Nat.testBit_eq_decide_div_mod_eq]

theorem atF_and (f : Fn) (k : Nat) (hk : k < 256) : (bits .and .u64 ((wd f (k / 64) : Int) / 2 ^ (k % 64)) 1 == 1) = atF f k := by
  have e : ((wd f (k / 64) : Int) / 2 ^ (k % 64)) = ((wd f (k / 64) / 2 ^ (k % 64) : Nat) : Int) := by simp
  have hlt : wd f (k / 64) / 2 ^ (k % 64) < 18446744073709551616 := Nat.lt_of_le_of_lt (Nat.div_le_self _ _) (wd_lt f _)
  rw [e, show (1 : Int) = ((1 : Nat) : Int) from rfl, bits_and_u64_nat _ _ hlt (by decide), Nat.and_one_is_mod]
  unfold atF
  rw [if_pos (by omega), Int.toNat_natCast, wd_bit]
  generalize wd f (k / 64) / 2 ^ (k % 64) % 2 = r
  rw [Bool.eq_iff_iff]
  simp
  omega

theorem atF_rem (f : Fn) (k : Nat) (hk : k < 256) : ((wd f (k / 64) : Int) / 2 ^ (k % 64) % 2 == 1) = atF f k := by
  have e : ((wd f (k / 64) : Int) / 2 ^ (k % 64) % 2) = ((wd f (k / 64) / 2 ^ (k % 64) % 2 : Nat) : Int) := by simp
  rw [e]
  unfold atF
  rw [if_pos (by omega), Int.toNat_natCast, wd_bit]
  generalize wd f (k / 64) / 2 ^ (k % 64) % 2 = r
  rw [Bool.eq_iff_iff]
  simp
  omega

theorem atF_tmod (f : Fn) (k : Nat) (hk : k < 256) : (((wd f (k / 64) : Int) / 2 ^ (k % 64)).tmod 2 == 1) = atF f k := by
  rw [Int.tmod_eq_emod_of_nonneg (Int.ediv_nonneg (Int.natCast_nonneg _) (Int.pow_nonneg (by decide)))]
  exact atF_rem f k hk

theorem ret_bool {a b : Bool} (h : a = b) : Ending.returned (.bool a) = .returned (.bool b) := by rw [h]

theorem atF_out (f : Fn) (x : Int) (h : ¬ (0 ≤ x ∧ x < 256)) : atF f x = false := if_neg h

end Go.Proofs.YtipocmbplcdmjaaDoor

/-
  Plain mathematics: the variables as functions, their words; what putting row after row comes to.
-/
namespace Go.Proofs.YtipocmbplcdmjaaDoor
open Go Go.RowKit

/-- The number whose bits below n are P's. -/
def rowNat (P : Nat → Bool) : Nat → Nat
  | 0 => 0
  | n + 1 => if P n then rowNat P n + 2 ^ n else rowNat P n

theorem rowNat_lt (P : Nat → Bool) (n : Nat) : rowNat P n < 2 ^ n := by
  induction n with
  | zero => simp [rowNat]
  | succ n ih => simp only [rowNat]; rw [Nat.pow_succ]; split <;> omega

theorem rowNat_bit (P : Nat → Bool) (n k : Nat) : (rowNat P n).testBit k = (decide (k < n) && P k) := by
  induction n with
  | zero => simp [rowNat]
  | succ n ih =>
    simp only [rowNat]
    have hlt := rowNat_lt P n
    split
    · rename_i hp
      rw [Nat.add_comm]
      rcases Nat.lt_trichotomy k n with h | h | h
      · rw [Nat.testBit_two_pow_add_gt h, ih]
        simp [h, Nat.lt_succ_of_lt h]
      · subst h
        rw [Nat.testBit_two_pow_add_eq, Nat.testBit_lt_two_pow hlt]
        simp [hp]
      · have h2 : 2 ^ n + rowNat P n < 2 ^ k :=
          Nat.lt_of_lt_of_le (by rw [Nat.pow_succ]; omega) (Nat.pow_le_pow_right (by decide) (Nat.succ_le_of_lt h))
        rw [Nat.testBit_lt_two_pow h2]
        have : ¬ k < n + 1 := by omega
        simp [this]
    · rename_i hp
      rw [ih, Bool.eq_iff_iff]
      simp
      intro hk
      constructor
      · intro h; omega
      · intro h
        rcases Nat.lt_or_ge k n with h' | h'
        · exact h'
        · obtain rfl : k = n := by omega
          exact absurd hk hp

/-- The function whose value in row x is P x. -/
def ofRow (P : Nat → Bool) : Fn := BitVec.ofNat 256 (rowNat P 256)

theorem ofRow_bit (P : Nat → Bool) (k : Nat) (hk : k < 256) : (ofRow P).getLsbD k = P k := by
  unfold ofRow
  rw [BitVec.getLsbD_ofNat, rowNat_bit]
  simp [hk]

/-- Variable v. -/
def varF (v : Nat) : Fn := ofRow (fun x => x.testBit v)

/-- Any number as a variable. -/
def varAny (v : Int) : Fn := if 0 ≤ v ∧ v < 8 then varF v.toNat else 0#256

/-- The words of the first six variables. -/
def lowV : Nat → Int
  | 0 => 12297829382473034410
  | 1 => 14757395258967641292
  | 2 => 17361641481138401520
  | 3 => 18374966859414961920
  | 4 => 18446462603027742720
  | _ => 18446744069414584320

theorem lowV_eq (v i : Nat) (hv : v < 6) (hi : i < 4) : lowV v = (wd (varF v) i : Nat) := by
  have H : ∀ v : Fin 6, ∀ i : Fin 4, lowV v = (wd (varF v) i : Nat) := by decide +kernel
  exact H ⟨v, hv⟩ ⟨i, hi⟩

theorem wd_var6 : wd (varF 6) 0 = 0 ∧ wd (varF 6) 1 = 18446744073709551615 ∧ wd (varF 6) 2 = 0 ∧ wd (varF 6) 3 = 18446744073709551615 := by decide +kernel
theorem wd_var7 : wd (varF 7) 0 = 0 ∧ wd (varF 7) 1 = 0 ∧ wd (varF 7) 2 = 18446744073709551615 ∧ wd (varF 7) 3 = 18446744073709551615 := by decide +kernel

theorem fn_ext {f g : Fn} (h : ∀ k, k < 256 → f.getLsbD k = g.getLsbD k) : f = g := BitVec.eq_of_getLsbD_eq fun k hk => h k hk

/-- What has been put when the rows below n have been. -/
def upTo (P : Nat → Bool) (n : Nat) : Fn := ofRow (fun x => decide (x < n) && P x)

theorem upTo_zero (P : Nat → Bool) : upTo P 0 = 0#256 := fn_ext fun k hk => by rw [upTo, ofRow_bit _ _ hk]; simp
theorem upTo_all (P : Nat → Bool) : upTo P 256 = ofRow P := fn_ext fun k hk => by rw [upTo, ofRow_bit _ _ hk, ofRow_bit _ _ hk]; simp [hk]

/-- f with b put in row k. -/
def putF (f : Fn) (k : Nat) (b : Bool) : Fn := if b then f ||| (1#256 <<< k) else f

theorem putF_bit (f : Fn) (k j : Nat) (b : Bool) (hj : j < 256) : (putF f k b).getLsbD j = (f.getLsbD j || (b && decide (j = k))) := by
  unfold putF
  cases b with
  | false => simp
  | true =>
    simp only [if_true, BitVec.getLsbD_or, BitVec.getLsbD_shiftLeft, BitVec.getLsbD_one, Bool.true_and]
    by_cases h : j = k
    · subst h; simp [hj]
    · have : ¬ (j - k = 0 ∧ k ≤ j) := by omega
      by_cases h2 : j < k
      · simp [h, h2]
      · have h3 : ¬ (j - k = 0) := by omega
        simp [h, h2, h3]

theorem upTo_put (P : Nat → Bool) (n : Nat) (b : Bool) (hb : b = P n) : putF (upTo P n) n b = upTo P (n + 1) := fn_ext fun k hk => by
  subst hb
  rw [putF_bit _ _ _ _ hk, upTo, upTo, ofRow_bit _ _ hk, ofRow_bit _ _ hk, Bool.eq_iff_iff]
  simp
  constructor
  · rintro (⟨h1, h2⟩ | ⟨h1, rfl⟩)
    · exact ⟨by omega, h2⟩
    · exact ⟨by omega, h1⟩
  · rintro ⟨h1, h2⟩
    rcases Nat.lt_or_ge k n with h | h
    · exact .inl ⟨h, h2⟩
    · obtain rfl : k = n := by omega
      exact .inr ⟨h2, rfl⟩

/-- One word of it. -/
theorem wd_put (f : Fn) (k i : Nat) (hi : i < 4) : wd (putF f k true) i = if i = k / 64 then wd f i ||| 2 ^ (k % 64) else wd f i := by
  have e : ∀ j, j < 64 → ((putF f k true).extractLsb' (64 * i) 64).getLsbD j = (if i = k / 64 then (f.extractLsb' (64 * i) 64) ||| (1#64 <<< (k % 64)) else f.extractLsb' (64 * i) 64).getLsbD j := by
    intro j hj
    rw [BitVec.getLsbD_extractLsb', putF_bit _ _ _ _ (by omega)]
    by_cases h : i = k / 64
    · rw [if_pos h, BitVec.getLsbD_or, BitVec.getLsbD_extractLsb', BitVec.getLsbD_shiftLeft, BitVec.getLsbD_one]
      simp only [hj, decide_true, Bool.true_and]
      congr 1
      rw [Bool.eq_iff_iff]
      simp
      omega
    · rw [if_neg h, BitVec.getLsbD_extractLsb']
      have : ¬ (64 * i + j = k) := by omega
      simp [hj, this]
  have e2 := BitVec.eq_of_getLsbD_eq e
  unfold wd
  rw [e2]
  by_cases h : i = k / 64
  · rw [if_pos h, if_pos h, BitVec.toNat_or, BitVec.toNat_shiftLeft, BitVec.toNat_one (by decide), Nat.shiftLeft_eq, Nat.one_mul, Nat.mod_eq_of_lt]
    exact Nat.pow_lt_pow_right (by decide) (Nat.mod_lt _ (by decide))
  · rw [if_neg h, if_neg h]

theorem put_same (f : Fn) (k q : Nat) (hq : k / 64 = q) (h4 : q < 4) : bits .or .u64 (wd f q) (IntKind.u64.wrap (2 ^ (k % 64))) = (wd (putF f k true) q : Nat) := by
  have hp : (2 : Nat) ^ (k % 64) < 18446744073709551616 := by
    have : (2 : Nat) ^ (k % 64) < 2 ^ 64 := Nat.pow_lt_pow_right (by decide) (Nat.mod_lt _ (by decide))
    simpa using this
  have e : IntKind.u64.wrap (2 ^ (k % 64)) = ((2 ^ (k % 64) : Nat) : Int) := by
    rw [IntKind.wrap_u64]
    have : ((2 : Int) ^ (k % 64)) = ((2 ^ (k % 64) : Nat) : Int) := by simp
    rw [this]
    clear this
    generalize (2 : Nat) ^ (k % 64) = y at hp
    omega
  rw [e, bits_or_u64_nat _ _ (wd_lt f q) hp, wd_put f k q h4, if_pos hq.symm]

theorem put_other (f : Fn) (k q i : Nat) (hq : k / 64 = q) (hi : i < 4) (hne : i ≠ q) : wd (putF f k true) i = wd f i := by
  rw [wd_put f k i hi, if_neg (by omega)]

end Go.Proofs.YtipocmbplcdmjaaDoor

/-
  Plain mathematics of layer 2: a variable set, on which a function depends, in how many rows it is true.
-/
namespace Go.Proofs.YtipocmbplcdmjaaDoor
open Go Go.RowKit

/-- Row x with variable m set to b. -/
def rowF (x m : Nat) (b : Bool) : Nat := (if x / 2 ^ m % 2 = 1 then x - 2 ^ m else x) + (if b then 2 ^ m else 0)

theorem pow8 {m : Nat} (h : m < 8) : 2 ^ m = 1 ∨ 2 ^ m = 2 ∨ 2 ^ m = 4 ∨ 2 ^ m = 8 ∨ 2 ^ m = 16 ∨ 2 ^ m = 32 ∨ 2 ^ m = 64 ∨ 2 ^ m = 128 := by
  rcases (by omega : m = 0 ∨ m = 1 ∨ m = 2 ∨ m = 3 ∨ m = 4 ∨ m = 5 ∨ m = 6 ∨ m = 7) with rfl | rfl | rfl | rfl | rfl | rfl | rfl | rfl <;> decide

theorem rowF_lt (x m : Nat) (b : Bool) (hx : x < 256) (hm : m < 8) : rowF x m b < 256 := by
  unfold rowF
  rcases pow8 hm with h | h | h | h | h | h | h | h <;> rw [h] <;> cases b <;> simp <;> split <;> omega

/-- The function with variable m set to b. -/
def cofF (f : Fn) (m : Nat) (b : Bool) : Fn := ofRow fun x => f.getLsbD (rowF x m b)

/-- The same for any number. -/
def cofAny (f : Fn) (v : Int) (b : Bool) : Fn := if 0 ≤ v ∧ v < 8 then cofF f v.toNat b else f

theorem cofF_bit (f : Fn) (m : Nat) (b : Bool) (k : Nat) (hk : k < 256) : (cofF f m b).getLsbD k = f.getLsbD (rowF k m b) := ofRow_bit _ _ hk

/-- Does row x show that f depends on variable m? -/
def shows (f : Fn) (m x : Nat) : Bool := decide (x / 2 ^ m % 2 = 0) && (f.getLsbD x != f.getLsbD (x + 2 ^ m))

/-- Does f depend on variable m? -/
def depF (f : Fn) (m : Nat) : Bool := (List.range 256).any (shows f m)

/-- The same for any number. -/
def depAny (f : Fn) (v : Int) : Bool := if 0 ≤ v ∧ v < 8 then depF f v.toNat else false

theorem depF_true {f : Fn} {m x : Nat} (hx : x < 256) (h : shows f m x = true) : depF f m = true := List.any_eq_true.2 ⟨x, List.mem_range.2 hx, h⟩
theorem depF_false {f : Fn} {m : Nat} (h : ∀ x, x < 256 → shows f m x = false) : depF f m = false := by
  rw [depF, List.any_eq_false]
  intro x hx
  rw [h x (List.mem_range.1 hx)]
  decide

/-- 2 to the power of all variables from j on, from which f depends, as the sum of 2 ^ (v - j). -/
def supFrom (f : Fn) : Nat → Nat → Nat
  | 0, _ => 0
  | n + 1, j => 2 * supFrom f n (j + 1) + (if depF f j then 1 else 0)

/-- The support. -/
def supF (f : Fn) : Nat := supFrom f 8 0

theorem supFrom_lt (f : Fn) (n : Nat) : ∀ j, supFrom f n j < 2 ^ n := by
  induction n with
  | zero => intro j; simp [supFrom]
  | succ n ih => intro j; have := ih (j + 1); simp only [supFrom]; rw [Nat.pow_succ]; split <;> omega

end Go.Proofs.YtipocmbplcdmjaaDoor

/-
  Plain mathematics of layer 2's own law: what follows of a variable set.
-/
namespace Go.Proofs.YtipocmbplcdmjaaDoor
open Go Go.RowKit

theorem rowF_test (x m : Nat) (b : Bool) (j : Nat) (hx : x < 256) (hm : m < 8) (hj : j < 8) : (rowF x m b).testBit j = if j = m then b else x.testBit j := by
  have H : ∀ x : Fin 256, ∀ m : Fin 8, ∀ b : Bool, ∀ j : Fin 8, (rowF x m b).testBit j = if (j : Nat) = m then b else (x : Nat).testBit j := by decide +kernel
  exact H ⟨x, hx⟩ ⟨m, hm⟩ b ⟨j, hj⟩

theorem row_ext {x y : Nat} (hx : x < 256) (hy : y < 256) (h : ∀ j, j < 8 → x.testBit j = y.testBit j) : x = y := by
  refine Nat.eq_of_testBit_eq fun j => ?_
  rcases Nat.lt_or_ge j 8 with hj | hj
  · exact h j hj
  · have h8 : (2 : Nat) ^ 8 ≤ 2 ^ j := Nat.pow_le_pow_right (by decide) hj
    rw [Nat.testBit_lt_two_pow (Nat.lt_of_lt_of_le hx h8), Nat.testBit_lt_two_pow (Nat.lt_of_lt_of_le hy h8)]

theorem rowF_self (x m : Nat) (hx : x < 256) (hm : m < 8) : rowF x m (x.testBit m) = x :=
  row_ext (rowF_lt _ _ _ hx hm) hx fun j hj => by
    rw [rowF_test _ _ _ _ hx hm hj]
    split
    · rename_i h; rw [h]
    · rfl

theorem rowF_rowF (x m n : Nat) (b c : Bool) (hx : x < 256) (hm : m < 8) (hn : n < 8) (h : m ≠ n) : rowF (rowF x m b) n c = rowF (rowF x n c) m b :=
  row_ext (rowF_lt _ _ _ (rowF_lt _ _ _ hx hm) hn) (rowF_lt _ _ _ (rowF_lt _ _ _ hx hn) hm) fun j hj => by
    rw [rowF_test _ _ _ _ (rowF_lt _ _ _ hx hm) hn hj, rowF_test _ _ _ _ (rowF_lt _ _ _ hx hn) hm hj, rowF_test _ _ _ _ hx hm hj, rowF_test _ _ _ _ hx hn hj]
    by_cases h1 : j = m
    · rw [if_pos h1, if_neg (by omega), if_pos h1]
    · rw [if_neg h1, if_neg h1]

theorem rowF_twice (x m : Nat) (b c : Bool) (hx : x < 256) (hm : m < 8) : rowF (rowF x m b) m c = rowF x m c :=
  row_ext (rowF_lt _ _ _ (rowF_lt _ _ _ hx hm) hm) (rowF_lt _ _ _ hx hm) fun j hj => by
    rw [rowF_test _ _ _ _ (rowF_lt _ _ _ hx hm) hm hj, rowF_test _ _ _ _ hx hm hj, rowF_test _ _ _ _ hx hm hj]
    split <;> rfl

theorem rowF_up (x m : Nat) (b : Bool) (hm : m < 8) (h : x / 2 ^ m % 2 = 0) : rowF (x + 2 ^ m) m b = rowF x m b := by
  have h1 : (x + 2 ^ m) / 2 ^ m % 2 = 1 := by rcases pow8 hm with e | e | e | e | e | e | e | e <;> rw [e] at h ⊢ <;> omega
  have h2 : ¬ x / 2 ^ m % 2 = 1 := by omega
  unfold rowF
  rw [if_pos h1, if_neg h2, Nat.add_sub_cancel]

/-- With a variable set a function doesn't depend on it. -/
theorem dep_cofF (f : Fn) (m : Nat) (b : Bool) (hm : m < 8) : depF (cofF f m b) m = false := depF_false fun x hx => by
  unfold shows
  by_cases h : x / 2 ^ m % 2 = 0
  · have hx2 : x + 2 ^ m < 256 := by rcases pow8 hm with e | e | e | e | e | e | e | e <;> rw [e] at h ⊢ <;> omega
    rw [cofF_bit _ _ _ _ hx, cofF_bit _ _ _ _ hx2, rowF_up x m b hm h]
    simp
  · rw [decide_eq_false h, Bool.false_and]

theorem dep_cof (f : Fn) (v : Int) (b : Bool) : depAny (cofAny f v b) v = false := by
  unfold depAny cofAny
  split
  · exact dep_cofF f v.toNat b (by omega)
  · rfl

theorem var_bit (m x : Nat) (hx : x < 256) : (varF m).getLsbD x = x.testBit m := by rw [varF, ofRow_bit _ _ hx]

/-- Ite by a variable of both is the function. -/
theorem ite_cof (f : Fn) (v : Int) (hv : 0 ≤ v ∧ v < 8) : (varAny v &&& cofAny f v true ||| ~~~(varAny v) &&& cofAny f v false) = f := by
  unfold varAny cofAny
  rw [if_pos hv, if_pos hv, if_pos hv]
  have hm : v.toNat < 8 := by omega
  refine fn_ext fun x hx => ?_
  rw [BitVec.getLsbD_or, BitVec.getLsbD_and, BitVec.getLsbD_and, BitVec.getLsbD_not, var_bit _ _ hx, cofF_bit _ _ _ _ hx, cofF_bit _ _ _ _ hx, decide_eq_true hx]
  have h := rowF_self x v.toNat hx hm
  cases hb : x.testBit v.toNat
  · rw [hb] at h; rw [h]; simp
  · rw [hb] at h; rw [h]; simp

theorem ite_same' (v f : Fn) : (v &&& f ||| ~~~v &&& f) = f := fn_ext fun x hx => by
  simp [hx]; cases v[x] <;> simp

end Go.Proofs.YtipocmbplcdmjaaDoor

/-
  Plain mathematics of layer 3: the top of a function in an order, the nodes of functions.
-/
namespace Go.Proofs.YtipocmbplcdmjaaDoor
open Go Go.RowKit

/-- The first of n numbers from place i on, on which f depends; -1, if there is none. -/
def topFrom (f : Fn) (o : Nat → Int) : Nat → Nat → Int
  | 0, _ => -1
  | n + 1, i => if depAny f (o i) then o i else topFrom f o n (i + 1)

/-- The top. -/
def topF (f : Fn) (o : Nat → Int) : Int := topFrom f o 8 0

/-- What is reached from functions by setting tops. -/
inductive Reach (l : List Fn) (o : Nat → Int) : Fn → Prop
  | base {f : Fn} (h : f ∈ l) : Reach l o f
  | step {f : Fn} (b : Bool) (h : Reach l o f) (hs : supF f ≠ 0) (ht : 0 ≤ topF f o) : Reach l o (cofAny f (topF f o) b)

/-- A node of these functions. -/
def IsNode (l : List Fn) (o : Nat → Int) (f : Fn) : Prop := Reach l o f ∧ supF f ≠ 0

/-- n is how many nodes there are. -/
def IsSize (l : List Fn) (o : Nat → Int) (n : Nat) : Prop := ∃ out : List Fn, out.Nodup ∧ (∀ f, f ∈ out ↔ IsNode l o f) ∧ out.length = n

theorem nodup_length_le {l k : List Fn} (hl : l.Nodup) (h : ∀ f, f ∈ l → f ∈ k) : l.length ≤ k.length := by
  induction l generalizing k with
  | nil => exact Nat.zero_le _
  | cons a l ih =>
    have hn := List.nodup_cons.1 hl
    have ha : a ∈ k := h a (List.mem_cons_self ..)
    have h2 : ∀ f, f ∈ l → f ∈ k.erase a := fun f hf => (List.mem_erase_of_ne (fun e : f = a => hn.1 (by rw [← e]; exact hf))).2 (h f (List.mem_cons_of_mem _ hf))
    have h3 := ih hn.2 h2
    rw [List.length_erase_of_mem ha] at h3
    have : 0 < k.length := List.length_pos_of_mem ha
    simp only [List.length_cons]
    omega

theorem IsSize.unique {l : List Fn} {o : Nat → Int} {n m : Nat} (h : IsSize l o n) (k : IsSize l o m) : n = m := by
  obtain ⟨a, ha, hma, rfl⟩ := h
  obtain ⟨b, hb, hmb, rfl⟩ := k
  exact Nat.le_antisymm (nodup_length_le ha fun f hf => (hmb f).2 ((hma f).1 hf)) (nodup_length_le hb fun f hf => (hma f).2 ((hmb f).1 hf))

/-- On how many variables f depends. -/
def supN (f : Fn) : Nat := (List.range 8).countP (depF f)

theorem supFrom_zero (f : Fn) (n : Nat) : ∀ j, supFrom f n j = 0 ↔ ∀ i, j ≤ i → i < j + n → depF f i = false := by
  induction n with
  | zero => intro j; simp only [supFrom, true_iff]; intro i h1 h2; omega
  | succ n ih =>
    intro j
    simp only [supFrom]
    constructor
    · intro h i h1 h2
      have hd : depF f j = false := by
        cases hd : depF f j
        · rfl
        · rw [hd] at h; simp at h
      have h0 : supFrom f n (j + 1) = 0 := by rw [hd] at h; simp at h; omega
      rcases Nat.lt_or_ge j i with hlt | hge
      · exact (ih (j + 1)).1 h0 i hlt (by omega)
      · obtain rfl : i = j := by omega
        exact hd
    · intro h
      have h0 := (ih (j + 1)).2 fun i h1 h2 => h i (by omega) (by omega)
      rw [h0, h j (Nat.le_refl _) (by omega)]
      simp

theorem supF_zero (f : Fn) : supF f = 0 ↔ ∀ i, i < 8 → depF f i = false := by
  rw [supF, supFrom_zero]
  constructor
  · intro h i hi; exact h i (Nat.zero_le _) (by omega)
  · intro h i _ hi; exact h i (by omega)

theorem topFrom_dep (f : Fn) (o : Nat → Int) (n : Nat) : ∀ i, 0 ≤ topFrom f o n i → depAny f (topFrom f o n i) = true := by
  induction n with
  | zero => intro i h; simp [topFrom] at h
  | succ n ih =>
    intro i h
    simp only [topFrom] at h ⊢
    split
    · assumption
    · rename_i hd
      rw [if_neg hd] at h
      exact ih (i + 1) h

theorem depAny_range {f : Fn} {v : Int} (h : depAny f v = true) : 0 ≤ v ∧ v < 8 := by
  unfold depAny at h
  split at h
  · assumption
  · cases h

/-- What doesn't depend on a variable doesn't with another one set. -/
theorem dep_cof_other (f : Fn) (m n : Nat) (b : Bool) (hm : m < 8) (hn : n < 8) (h : depF f n = false) : depF (cofF f m b) n = false := by
  by_cases e : m = n
  · subst e; exact dep_cofF f m b hm
  · refine depF_false fun x hx => ?_
    unfold shows
    by_cases h0 : x / 2 ^ n % 2 = 0
    · have hx2 : x + 2 ^ n < 256 := by rcases pow8 hn with e | e | e | e | e | e | e | e <;> rw [e] at h0 ⊢ <;> omega
      rw [cofF_bit _ _ _ _ hx, cofF_bit _ _ _ _ hx2]
      have hbit : x.testBit n = false := by rw [Nat.testBit_eq_decide_div_mod_eq]; simp; omega
      have e1 : x + 2 ^ n = rowF x n true := by unfold rowF; rw [if_neg (by omega), if_pos rfl]
      have e2 : rowF (x + 2 ^ n) m b = rowF x m b + 2 ^ n := by
        rw [e1, rowF_rowF x n m true b hx hn hm (Ne.symm e)]
        have hb2 : (rowF x m b).testBit n = false := by rw [rowF_test _ _ _ _ hx hm hn, if_neg (Ne.symm e)]; exact hbit
        unfold rowF at hb2 ⊢
        rw [Nat.testBit_eq_decide_div_mod_eq] at hb2
        have hb3 := of_decide_eq_false hb2
        rw [if_neg hb3]
        simp
      have hr0 : (rowF x m b) / 2 ^ n % 2 = 0 := by
        have hb2 : (rowF x m b).testBit n = false := by rw [rowF_test _ _ _ _ hx hm hn, if_neg (Ne.symm e)]; exact hbit
        rw [Nat.testBit_eq_decide_div_mod_eq] at hb2
        have := of_decide_eq_false hb2
        omega
      have hs : shows f n (rowF x m b) = false := by
        cases hs : shows f n (rowF x m b)
        · rfl
        · rw [depF_true (rowF_lt _ _ _ hx hm) hs] at h; cases h
      unfold shows at hs
      rw [decide_eq_true hr0, Bool.true_and] at hs
      rw [e2, hs, Bool.and_false]
    · rw [decide_eq_false h0, Bool.false_and]

theorem countP_lt {l : List Nat} {p q : Nat → Bool} (h : ∀ x ∈ l, p x = true → q x = true) {a : Nat} (ha : a ∈ l) (hp : p a = false) (hq : q a = true) : l.countP p < l.countP q := by
  induction l with
  | nil => cases ha
  | cons b l ih =>
    rw [List.countP_cons, List.countP_cons]
    rcases List.mem_cons.1 ha with rfl | ha
    · rw [hp, hq]
      have := List.countP_mono_left (l := l) (p := p) (q := q) fun x hx => h x (List.mem_cons_of_mem _ hx)
      simp
      omega
    · have := ih (fun x hx => h x (List.mem_cons_of_mem _ hx)) ha
      cases hb : p b
      · cases q b <;> simp <;> omega
      · rw [h b (List.mem_cons_self ..) hb]; simp; omega

/-- With its top set a function depends on fewer variables. -/
theorem supN_cof (f : Fn) (o : Nat → Int) (b : Bool) (h : 0 ≤ topF f o) : supN (cofAny f (topF f o) b) < supN f := by
  have hd := topFrom_dep f o 8 0 h
  have hr := depAny_range hd
  change 0 ≤ topF f o ∧ topF f o < 8 at hr
  change depAny f (topF f o) = true at hd
  generalize topF f o = v at *
  have hm : v.toNat < 8 := by omega
  unfold depAny at hd
  rw [if_pos hr] at hd
  unfold cofAny
  rw [if_pos hr]
  refine countP_lt (a := v.toNat) (fun x hx hp => ?_) (List.mem_range.2 hm) (dep_cofF f _ b hm) hd
  cases hx2 : depF f x
  · rw [dep_cof_other f v.toNat x b hm (List.mem_range.1 hx) hx2] at hp; cases hp
  · rfl

end Go.Proofs.YtipocmbplcdmjaaDoor
