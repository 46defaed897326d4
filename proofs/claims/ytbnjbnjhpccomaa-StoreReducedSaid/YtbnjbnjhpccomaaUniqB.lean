/-
  Walks of package uniq: mix, home, after, steps.
-/
import Derived.Test.YtbnjbnjhpccomaaArr
import Derived.Test.YtbnjbnjhpccomaaUniqM
import Derived.Laws.BitsLemmas
namespace Go.Proofs.Ytbnjbnjhpccomaa
open Go Go.RowKit

theorem and_mask (n : Int) (k : Nat) (hk : k ≤ 62) : (BitVec.ofInt 64 n &&& BitVec.ofInt 64 (((2 : Nat) ^ k : Nat) - 1)).toNat = (n % ((2 ^ k : Nat) : Int)).toNat := by
  have h1 : (2 : Nat) ^ k ≤ 2 ^ 62 := Nat.pow_le_pow_right (by decide) hk
  have h0 : 0 < (2 : Nat) ^ k := Nat.pow_pos (by decide)
  have hm : (BitVec.ofInt 64 (((2 : Nat) ^ k : Nat) - 1)).toNat = 2 ^ k - 1 := by
    rw [BitVec.toNat_ofInt]
    rw [Int.emod_eq_of_lt (by omega) (by omega)]
    omega
  have hd : ((2 ^ k : Nat) : Int) ∣ ((2 ^ 64 : Nat) : Int) := Int.ofNat_dvd.2 (Nat.pow_dvd_pow 2 (by omega))
  rw [BitVec.toNat_and, hm, Nat.and_two_pow_sub_one_eq_mod, BitVec.toNat_ofInt]
  have h2 := Int.emod_nonneg n (show ((2 ^ 64 : Nat) : Int) ≠ 0 by decide)
  apply Int.ofNat_inj.1
  rw [Int.natCast_emod, Int.toNat_of_nonneg h2, Int.emod_emod_of_dvd n hd, Int.toNat_of_nonneg (Int.emod_nonneg _ (by omega))]

/-- A mask is a remainder. -/
theorem i64_mask (n : Int) (m : Nat) (hm : ∃ k, m = 2 ^ k ∧ k ≤ 62) : bits .and .i64 n ((m : Int) - 1) = n % (m : Int) := by
  obtain ⟨k, rfl, hk⟩ := hm
  have h1 : (2 : Nat) ^ k ≤ 2 ^ 62 := Nat.pow_le_pow_right (by decide) hk
  have h0 : 0 < (2 : Nat) ^ k := Nat.pow_pos (by decide)
  show IntKind.i64.wrap ((BitVec.ofInt 64 n &&& BitVec.ofInt 64 (((2 ^ k : Nat) : Int) - 1)).toNat : Nat) = _
  rw [and_mask n k hk, IntKind.wrap_i64]
  have h2 := Int.emod_nonneg n (show ((2 ^ k : Nat) : Int) ≠ 0 by omega)
  have h3 := Int.emod_lt_of_pos n (show (0 : Int) < ((2 ^ k : Nat) : Int) by omega)
  rw [Int.toNat_of_nonneg h2]
  generalize n % ((2 ^ k : Nat) : Int) = r at *
  omega
theorem u64_mask (n : Int) (m : Nat) (hm : ∃ k, m = 2 ^ k ∧ k ≤ 62) : bits .and .u64 n ((m : Int) - 1) = n % (m : Int) := by
  obtain ⟨k, rfl, hk⟩ := hm
  have h1 : (2 : Nat) ^ k ≤ 2 ^ 62 := Nat.pow_le_pow_right (by decide) hk
  have h0 : 0 < (2 : Nat) ^ k := Nat.pow_pos (by decide)
  show IntKind.u64.wrap ((BitVec.ofInt 64 n &&& BitVec.ofInt 64 (((2 ^ k : Nat) : Int) - 1)).toNat : Nat) = _
  rw [and_mask n k hk]
  have h2 := Int.emod_nonneg n (show ((2 ^ k : Nat) : Int) ≠ 0 by omega)
  have h3 := Int.emod_lt_of_pos n (show (0 : Int) < ((2 ^ k : Nat) : Int) by omega)
  rw [Int.toNat_of_nonneg h2]
  generalize n % ((2 ^ k : Nat) : Int) = r at *
  simp only [IntKind.wrap, IntKind.bits, IntKind.signed]
  simp
  omega

/-- A step of mix. -/
def mixC (x c : Int) : Int := IntKind.u64.wrap (bits .xor .u64 x (x / 8589934592) * c)
/-- What mix makes. -/
def mixI (x : Int) : Int := bits .xor .u64 (mixC (mixC x 18397679294719823053) 14181476777654086739) (mixC (mixC x 18397679294719823053) 14181476777654086739 / 8589934592)
/-- A pair, mixed. -/
def mixP (k : Int × Int) : Int := mixI (IntKind.u64.wrap (mixI (IntKind.u64.wrap k.1) + IntKind.u64.wrap k.2))
theorem homeN_ex : ∃ f : Nat → Int × Int → Nat, ∀ n k, 0 < n → f n k < n ∧ (f n k : Int) = mixP k % (n : Int) :=
  ⟨fun n k => (mixP k % (n : Int)).toNat, fun n k h => by
    have h2 := Int.emod_nonneg (mixP k) (show (n : Int) ≠ 0 by omega)
    have h3 := Int.emod_lt_of_pos (mixP k) (show (0 : Int) < (n : Int) by omega)
    show (mixP k % (n : Int)).toNat < n ∧ (((mixP k % (n : Int)).toNat : Nat) : Int) = mixP k % (n : Int)
    omega⟩
/-- A pair's home among so many places. (Chosen, not reckoned: else the kernel reckons it, as 'generalize' leaves its term in the proof.) -/
noncomputable def homeN : Nat → Int × Int → Nat := homeN_ex.choose

theorem homeN_lt {n : Nat} (h : 0 < n) (k : Int × Int) : homeN n k < n := (homeN_ex.choose_spec n k h).1
theorem homeN_eq {n : Nat} (h : 0 < n) (k : Int × Int) : (homeN n k : Int) = mixP k % (n : Int) := (homeN_ex.choose_spec n k h).2

set_option maxRecDepth 100000 in
theorem uniqMix (x : Int) (w : World) : Calls Try.prog 74 #[.int .u64 x] w fun e w' => e = .returned (.int .u64 (mixI x)) ∧ w = w' := by
  go_enter Try.func74, Try.ntmps74
  go_wp2
  go_ret
  exact ⟨rfl, rfl⟩

/-- How many places a table may have. -/
structure Places (n : Nat) : Prop where
  pow : ∃ k, n = 2 ^ k ∧ k ≤ 62
  most : n ≤ 1000000
  least : 8 ≤ n

/-- An entry's cells. -/
def entCells : Option Ent → List Value
  | none => [.bool false, .int .i64 0, .int .i64 0, .int .i64 0]
  | some e => [.bool true, .int .i64 e.1.1, .int .i64 e.1.2, .int .i64 e.2]

/-- Places. -/
def encP : Enc Try.prog (Option Ent) where
  slice := 86
  elem := 96
  size := 4
  bytes := 32
  cells := entCells
  zero := .agg #[.bool false, .int .i64 0, .int .i64 0, .int .i64 0]
  und := Try.underlying86
  info := info_of _ _ _ _ _ (by kernel_rfl)
  zsize := by decide
  pos := by decide
  few := by decide
  len a := by cases a <;> rfl
  one a u h := by cases a <;> simp [entCells] at h <;> rcases h with rfl | rfl | rfl | rfl <;> rfl

/-- At block b stands a table with these places. -/
structure UniqR (w : World) (b : Nat) (v : Value) (many : Int) (T : List (Option Ent)) : Prop where
  row : w.heap[b]? = some (.cells #[v, .int .i64 many] 88 (0, 0))
  places : Owns encP w v T
  apart : v.ownBlock ≠ some b

/-- The blocks of a thing of one block and one slice. -/
def foot1 (b : Nat) (v : Value) (k : Nat) : Prop := k = b ∨ v.ownBlock = some k

section
variable {w w' : World} {b : Nat} {v : Value} {many : Int} {T : List (Option Ent)}

theorem row_lt' {w : World} {b : Nat} {o : Obj} (h : w.heap[b]? = some o) : b < w.heap.size := (Array.getElem?_eq_some_iff.1 h).1
theorem UniqR.lt (h : UniqR w b v many T) : ∀ k, foot1 b v k → k < w.heap.size := by
  rintro k (rfl | hk)
  · exact row_lt' h.row
  · exact h.places.lt k hk
theorem UniqR.block (h : UniqR w b v many T) (hb : ∀ k, foot1 b v k → w'.heap[k]? = w.heap[k]?) : UniqR w' b v many T :=
  ⟨(hb b (.inl rfl)).trans h.row, h.places.block fun g hg => hb g (.inr hg), h.apart⟩
theorem UniqR.keep (h : UniqR w b v many T) {F : Nat → Prop} (hb : Keeps F w w') (hF : ∀ k, foot1 b v k → ¬ F k) : UniqR w' b v many T :=
  h.block fun k hk => hb.block k (h.lt k hk) (hF k hk)
theorem UniqR.below (h : UniqR w b v many T) (hb : Below w.heap.size w w') : UniqR w' b v many T := h.keep (Keeps.of_below hb noBlock) (fun _ _ h => h)
theorem UniqR.cells (h : UniqR w b v many T) : w.cell? ⟨b, 0, none⟩ = some v ∧ w.cell? ⟨b, 1, none⟩ = some (.int .i64 many) :=
  ⟨by rw [cell_of_row _ _ _ _ _ _ h.row]; rfl, by rw [cell_of_row _ _ _ _ _ _ h.row]; rfl⟩
theorem UniqR.free (h : UniqR w b v many T) (j : Nat) : w.frozen? ⟨b, j, none⟩ = false := frozen_of_row _ _ _ _ _ h.row
theorem UniqR.form (h : UniqR w b v many T) (hl : 0 < T.length) : ∃ g cap, v = .slice (some ⟨g, 0, none⟩) T.length cap ∧ T.length ≤ cap ∧ cap ≤ maxLen := h.places.some hl
end

/-- The cells of a place. -/
theorem placeAt {w : World} {g cap : Nat} {T : List (Option Ent)} (h : Owns encP w (.slice (some ⟨g, 0, none⟩) T.length cap) T) (i : Nat) (a : Option Ent) (hi : T[i]? = some a) :
    w.cell? ⟨g, i * 4, none⟩ = (entCells a)[0]? ∧ w.cell? ⟨g, i * 4 + 1, none⟩ = (entCells a)[1]? ∧ w.cell? ⟨g, i * 4 + 2, none⟩ = (entCells a)[2]? ∧ w.cell? ⟨g, i * 4 + 3, none⟩ = (entCells a)[3]? := by
  obtain ⟨x, c, hv, _, _, _, H⟩ := h.form
  injection hv with ha _ hc
  obtain ⟨g', e, _, _, hcell⟩ := H ⟨g, 0, none⟩ ha.symm
  cases e
  obtain ⟨hil, rfl⟩ := List.getElem?_eq_some_iff.1 hi
  exact ⟨hcell i hil 0 (by decide), hcell i hil 1 (by decide), hcell i hil 2 (by decide), hcell i hil 3 (by decide)⟩

set_option maxRecDepth 100000 in
theorem uniqAfter {w : World} {b : Nat} {v : Value} {many : Int} {T : List (Option Ent)} (h : UniqR w b v many T) (hl : Places T.length) (i : Nat) (hi : i < T.length) :
    Calls Try.prog 69 #[.pointer (some ⟨b, 0, none⟩), .int .i64 i] w fun e w' => e = .returned (.int .i64 (onBy T.length i 1)) ∧ w = w' := by
  have h8 := hl.least
  have hM := hl.most
  obtain ⟨g, cap, rfl, _, _⟩ := h.form (by omega)
  obtain ⟨c0, c1⟩ := h.cells
  have hm : bits .and .i64 ((i : Int) + 1) ((T.length : Int) - 1) = (onBy T.length i 1 : Nat) := by
    rw [i64_mask _ _ hl.pow, ← onBy_mod hi, Int.natCast_emod]
    rfl
  have HM := Lib.hid hm
  clear h hm
  have hT8 : 8 ≤ (T.length : Int) := by omega
  have hTM : (T.length : Int) ≤ 1000000 := by omega
  have hiI : (i : Int) < (T.length : Int) := by omega
  go_enter Try.func69, Try.ntmps69
  go_wp2
  go_ret
  exact ⟨by rw [← HM.out]; rfl, rfl⟩

set_option maxRecDepth 100000 in
theorem uniqSteps {w : World} {b : Nat} {v : Value} {many : Int} {T : List (Option Ent)} (h : UniqR w b v many T) (hl : Places T.length) (i j : Nat) (hi : i < T.length) (hj : j < T.length) :
    Calls Try.prog 70 #[.pointer (some ⟨b, 0, none⟩), .int .i64 i, .int .i64 j] w fun e w' => e = .returned (.int .i64 (dist T.length i j)) ∧ w = w' := by
  have h8 := hl.least
  have hM := hl.most
  obtain ⟨g, cap, rfl, _, _⟩ := h.form (by omega)
  obtain ⟨c0, c1⟩ := h.cells
  have hm : bits .and .i64 ((j : Int) - (i : Int)) ((T.length : Int) - 1) = (dist T.length i j : Nat) := by
    rw [i64_mask _ _ hl.pow, dist_mod hi hj]
  have HM := Lib.hid hm
  clear h hm
  have hT8 : 8 ≤ (T.length : Int) := by omega
  have hTM : (T.length : Int) ≤ 1000000 := by omega
  have hiI : (i : Int) < (T.length : Int) := by omega
  have hjI : (j : Int) < (T.length : Int) := by omega
  go_enter Try.func70, Try.ntmps70
  go_wp2
  go_ret
  exact ⟨by rw [← HM.out]; rfl, rfl⟩

/-- A pair as a value. -/
def pairV (k : Int × Int) : Value := .agg #[.int .i64 k.1, .int .i64 k.2]

/-- Block b is a variable that holds a pair. -/
def PairAt (w : World) (b : Nat) (k : Int × Int) : Prop := w.heap[b]? = some (.cells #[.int .i64 k.1, .int .i64 k.2] 94 (0, 0))
theorem PairAt.lt {w : World} {b : Nat} {k : Int × Int} (h : PairAt w b k) : b < w.heap.size := row_lt' h
theorem PairAt.keep {w w' : World} {b : Nat} {k : Int × Int} (h : PairAt w b k) (hb : Below w.heap.size w w') : PairAt w' b k := (hb.block b h.lt).trans h
theorem PairAt.cells {w : World} {b : Nat} {k : Int × Int} (h : PairAt w b k) : w.cell? ⟨b, 0, none⟩ = some (.int .i64 k.1) ∧ w.cell? ⟨b, 1, none⟩ = some (.int .i64 k.2) :=
  ⟨by rw [cell_of_row _ _ _ _ _ _ h]; rfl, by rw [cell_of_row _ _ _ _ _ _ h]; rfl⟩
theorem PairAt.new (w : World) (k1 k2 : Int) : PairAt (w.alloc (.cells #[.int .i64 k1, .int .i64 k2] 94)) w.heap.size (k1, k2) := heap_alloc_new _ _

set_option maxRecDepth 100000 in
theorem uniqHome {w : World} {b : Nat} {v : Value} {many : Int} {T : List (Option Ent)} (h : UniqR w b v many T) (hl : Places T.length) (k : Int × Int) :
    Calls Try.prog 68 #[.pointer (some ⟨b, 0, none⟩), pairV k] w fun e w' => e = .returned (.int .i64 (homeN T.length k)) ∧ Below w.heap.size w w' := by
  have h8 := hl.least
  have hM := hl.most
  have hlt := homeN_lt (show 0 < T.length by omega) k
  have heq := homeN_eq (show 0 < T.length by omega) k
  obtain ⟨g, cap, rfl, _, _⟩ := h.form (by omega)
  obtain ⟨k1, k2⟩ := k
  have hm : bits .and .u64 (mixI (IntKind.u64.wrap (mixI (IntKind.u64.wrap k1) + IntKind.u64.wrap k2))) ((T.length : Int) - 1) = (homeN T.length (k1, k2) : Nat) := by
    rw [u64_mask _ _ hl.pow, heq]
    rfl
  clear heq
  generalize homeN T.length (k1, k2) = N at *
  have hT8 : 8 ≤ (T.length : Int) := by omega
  have hTM : (T.length : Int) ≤ 1000000 := by omega
  have hN : (N : Int) < (T.length : Int) := by omega
  unfold pairV
  go_enter Try.func68, Try.ntmps68
  go_wp2
  have hp := PairAt.new w k1 k2
  have hb : Below w.heap.size w (w.alloc (.cells #[.int .i64 k1, .int .i64 k2] 94)) := by go_grown
  replace h := h.below hb
  generalize w.alloc (.cells #[.int .i64 k1, .int .i64 k2] 94) = W at *
  have p0 : ∀ u : Sub W, u.1.cell? ⟨w.heap.size, 0, none⟩ = some (.int .i64 k1) := fun u => (hp.keep u.2).cells.1
  have p1 : ∀ u : Sub W, u.1.cell? ⟨w.heap.size, 1, none⟩ = some (.int .i64 k2) := fun u => (hp.keep u.2).cells.2
  refine wp_region_quiet_all (C := fun w' => ∃ u : Sub W, w' = u.1) (by kernel_rfl) (by kernel_rfl) (InSub.drew W) ?_
  iterate 3 (go_big_quiet_step (fail))
  go_big_quiet_step (exact subSame (uniqMix _ _))
  iterate 4 (go_big_quiet_step (fail))
  go_big_quiet_step (exact subSame (uniqMix _ _))
  go_big_quiet_step (fail)
  refine wpQuiet_nil ?_
  clear p0 p1
  intro w' hw'
  obtain ⟨u, rfl⟩ := hw'
  have hk := u.2
  replace h := h.below hk
  generalize u.1 = w1 at *
  obtain ⟨c0, c1⟩ := h.cells
  clear h hp
  generalize hX : mixI (IntKind.u64.wrap (mixI (IntKind.u64.wrap k1) + IntKind.u64.wrap k2)) = X at *
  go_wp2
  go_ret
  exact ⟨rfl, hb.trans (hk.mono hb.size)⟩

end Go.Proofs.Ytbnjbnjhpccomaa
