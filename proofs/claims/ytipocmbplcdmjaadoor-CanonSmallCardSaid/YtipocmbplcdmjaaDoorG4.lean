/-
  Texts of this proof, one behind the other: UniqB, Tame, UniqF.
-/
import Derived.Test.YtipocmbplcdmjaaDoorG3
import Derived.Laws.BitsLemmas
import Derived.BigQuiet
import Derived.Deep.QuietTactic
/-
  Walks of package uniq: mix, home, after, steps.
-/
namespace Go.Proofs.YtipocmbplcdmjaaDoor
open Go Go.RowKit

theorem and_mask (n : Int) (k : Nat) (hk : k ≤ 62) : (BitVec.ofInt 64 n &&& BitVec.ofInt 64 (((2 : Nat) ^ k : Nat) - 1)).toNat = (n % ((2 ^ k : Nat) : Int)).toNat := by
  have h1 : (2 : Nat) ^ k ≤ 2 ^ 62 := Nat.pow_le_pow_right (by decide) hk
  have h0 : 0 < (2 : Nat) ^ k := Nat.pow_pos (by decide)
  have hm : (BitVec.ofInt 64 (((2 : Nat) ^ k : Nat) - 1)).toNat = 2 ^ k - 1 := by
    rw [BitVec.toNat_ofInt]
    rw [Int.emod_eq_of_lt (by omega) (by omega)]
    omega
  have hd : ((2 ^ k : Nat) : Int) ∣ ((2 ^ 64 : Nat) : Int) := Int.ofNat_dvd.2 (Nat.pow_dvd_pow 2 (by omega))
  rw [BitVec.toNat_and, hm, Nat.and_two_pow_sub_one_eq_mod, BitVec.toNat_ofInt]
  have h2 := Int.emod_nonneg n (show ((2 ^ 64 : Nat) : Int) ≠ 0 by decide)
  apply Int.ofNat_inj.1
  rw [Int.natCast_emod, Int.toNat_of_nonneg h2, Int.emod_emod_of_dvd n hd, Int.toNat_of_nonneg (Int.emod_nonneg _ (by omega))]

/-- A mask is a remainder. -/
theorem i64_mask (n : Int) (m : Nat) (hm : ∃ k, m = 2 ^ k ∧ k ≤ 62) : bits .and .i64 n ((m : Int) - 1) = n % (m : Int) := by
  obtain ⟨k, rfl, hk⟩ := hm
  have h1 : (2 : Nat) ^ k ≤ 2 ^ 62 := Nat.pow_le_pow_right (by decide) hk
  have h0 : 0 < (2 : Nat) ^ k := Nat.pow_pos (by decide)
  show IntKind.i64.wrap ((BitVec.ofInt 64 n &&& BitVec.ofInt 64 (((2 ^ k : Nat) : Int) - 1)).toNat : Nat) = _
  rw [and_mask n k hk, IntKind.wrap_i64]
  have h2 := Int.emod_nonneg n (show ((2 ^ k : Nat) : Int) ≠ 0 by omega)
  have h3 := Int.emod_lt_of_pos n (show (0 : Int) < ((2 ^ k : Nat) : Int) by omega)
  rw [Int.toNat_of_nonneg h2]
  generalize n % ((2 ^ k : Nat) : Int) = r at *
  omega
theorem u64_mask (n : Int) (m : Nat) (hm : ∃ k, m = 2 ^ k ∧ k ≤ 62) : bits .and .u64 n ((m : Int) - 1) = n % (m : Int) := by
  obtain ⟨k, rfl, hk⟩ := hm
  have h1 : (2 : Nat) ^ k ≤ 2 ^ 62 := Nat.pow_le_pow_right (by decide) hk
  have h0 : 0 < (2 : Nat) ^ k := Nat.pow_pos (by decide)
  show IntKind.u64.wrap ((BitVec.ofInt 64 n &&& BitVec.ofInt 64 (((2 ^ k : Nat) : Int) - 1)).toNat : Nat) = _
  rw [and_mask n k hk]
  have h2 := Int.emod_nonneg n (show ((2 ^ k : Nat) : Int) ≠ 0 by omega)
  have h3 := Int.emod_lt_of_pos n (show (0 : Int) < ((2 ^ k : Nat) : Int) by omega)
  rw [Int.toNat_of_nonneg h2]
  generalize n % ((2 ^ k : Nat) : Int) = r at *
  simp only [IntKind.wrap, IntKind.bits, IntKind.signed]
  simp
  omega

/-- A step of mix. -/
def mixC (x c : Int) : Int := IntKind.u64.wrap (bits .xor .u64 x (x / 8589934592) * c)
/-- What mix makes. -/
def mixI (x : Int) : Int := bits .xor .u64 (mixC (mixC x 18397679294719823053) 14181476777654086739) (mixC (mixC x 18397679294719823053) 14181476777654086739 / 8589934592)
/-- A pair, mixed. -/
def mixP (k : Int × Int) : Int := mixI (IntKind.u64.wrap (mixI (IntKind.u64.wrap k.1) + IntKind.u64.wrap k.2))
theorem homeN_ex : ∃ f : Nat → Int × Int → Nat, ∀ n k, 0 < n → f n k < n ∧ (f n k : Int) = mixP k % (n : Int) :=
  ⟨fun n k => (mixP k % (n : Int)).toNat, fun n k h => by
    have h2 := Int.emod_nonneg (mixP k) (show (n : Int) ≠ 0 by omega)
    have h3 := Int.emod_lt_of_pos (mixP k) (show (0 : Int) < (n : Int) by omega)
    show (mixP k % (n : Int)).toNat < n ∧ (((mixP k % (n : Int)).toNat : Nat) : Int) = mixP k % (n : Int)
    omega⟩
/-- A pair's home among so many places. (Chosen, not reckoned: else the kernel reckons it, as 'generalize' leaves its term in the proof.) -/
noncomputable def homeN : Nat → Int × Int → Nat := homeN_ex.choose

theorem homeN_lt {n : Nat} (h : 0 < n) (k : Int × Int) : homeN n k < n := (homeN_ex.choose_spec n k h).1
theorem homeN_eq {n : Nat} (h : 0 < n) (k : Int × Int) : (homeN n k : Int) = mixP k % (n : Int) := (homeN_ex.choose_spec n k h).2

set_option maxRecDepth 100000 in
theorem uniqMix (x : Int) (w : World) : Calls Tryd.prog 70 #[.int .u64 x] w fun e w' => e = .returned (.int .u64 (mixI x)) ∧ w = w' := by
  go_enter Tryd.func70, Tryd.ntmps70
  go_wp2
  go_ret
  exact ⟨rfl, rfl⟩

/-- How many places a table may have. -/
structure Places (n : Nat) : Prop where
  pow : ∃ k, n = 2 ^ k ∧ k ≤ 62
  most : n ≤ 1000000
  least : 8 ≤ n

/-- An entry's cells. -/
def entCells : Option Ent → List Value
  | none => [.bool false, .int .i64 0, .int .i64 0, .int .i64 0]
  | some e => [.bool true, .int .i64 e.1.1, .int .i64 e.1.2, .int .i64 e.2]

/-- Places. -/
def encP : Enc Tryd.prog (Option Ent) where
  slice := 79
  elem := 87
  size := 4
  bytes := 32
  cells := entCells
  zero := .agg #[.bool false, .int .i64 0, .int .i64 0, .int .i64 0]
  und := Tryd.underlying79
  info := info_of _ _ _ _ _ (by kernel_rfl)
  zsize := by decide
  pos := by decide
  few := by decide
  len a := by cases a <;> rfl
  one a u h := by cases a <;> simp [entCells] at h <;> rcases h with rfl | rfl | rfl | rfl <;> rfl

/-- At block b stands a table with these places. -/
structure UniqR (w : World) (b : Nat) (v : Value) (many : Int) (T : List (Option Ent)) : Prop where
  row : w.heap[b]? = some (.cells #[v, .int .i64 many] 81 (0, 0))
  places : Owns encP w v T
  apart : v.ownBlock ≠ some b

/-- The blocks of a thing of one block and one slice. -/
def foot1 (b : Nat) (v : Value) (k : Nat) : Prop := k = b ∨ v.ownBlock = some k

section
variable {w w' : World} {b : Nat} {v : Value} {many : Int} {T : List (Option Ent)}

theorem row_lt' {w : World} {b : Nat} {o : Obj} (h : w.heap[b]? = some o) : b < w.heap.size := (Array.getElem?_eq_some_iff.1 h).1
theorem UniqR.lt (h : UniqR w b v many T) : ∀ k, foot1 b v k → k < w.heap.size := by
  rintro k (rfl | hk)
  · exact row_lt' h.row
  · exact h.places.lt k hk
theorem UniqR.block (h : UniqR w b v many T) (hb : ∀ k, foot1 b v k → w'.heap[k]? = w.heap[k]?) : UniqR w' b v many T :=
  ⟨(hb b (.inl rfl)).trans h.row, h.places.block fun g hg => hb g (.inr hg), h.apart⟩
theorem UniqR.keep (h : UniqR w b v many T) {F : Nat → Prop} (hb : Keeps F w w') (hF : ∀ k, foot1 b v k → ¬ F k) : UniqR w' b v many T :=
  h.block fun k hk => hb.block k (h.lt k hk) (hF k hk)
theorem UniqR.below (h : UniqR w b v many T) (hb : Below w.heap.size w w') : UniqR w' b v many T := h.keep (Keeps.of_below hb noBlock) (fun _ _ h => h)
theorem UniqR.cells (h : UniqR w b v many T) : w.cell? ⟨b, 0, none⟩ = some v ∧ w.cell? ⟨b, 1, none⟩ = some (.int .i64 many) :=
  ⟨by rw [cell_of_row _ _ _ _ _ _ h.row]; rfl, by rw [cell_of_row _ _ _ _ _ _ h.row]; rfl⟩
theorem UniqR.free (h : UniqR w b v many T) (j : Nat) : w.frozen? ⟨b, j, none⟩ = false := frozen_of_row _ _ _ _ _ h.row
theorem UniqR.form (h : UniqR w b v many T) (hl : 0 < T.length) : ∃ g cap, v = .slice (some ⟨g, 0, none⟩) T.length cap ∧ T.length ≤ cap ∧ cap ≤ maxLen := h.places.some hl
end

/-- The cells of a place. -/
theorem placeAt {w : World} {g cap : Nat} {T : List (Option Ent)} (h : Owns encP w (.slice (some ⟨g, 0, none⟩) T.length cap) T) (i : Nat) (a : Option Ent) (hi : T[i]? = some a) :
    w.cell? ⟨g, i * 4, none⟩ = (entCells a)[0]? ∧ w.cell? ⟨g, i * 4 + 1, none⟩ = (entCells a)[1]? ∧ w.cell? ⟨g, i * 4 + 2, none⟩ = (entCells a)[2]? ∧ w.cell? ⟨g, i * 4 + 3, none⟩ = (entCells a)[3]? := by
  obtain ⟨x, c, hv, _, _, _, H⟩ := h.form
  injection hv with ha _ hc
  obtain ⟨g', e, _, _, hcell⟩ := H ⟨g, 0, none⟩ ha.symm
  cases e
  obtain ⟨hil, rfl⟩ := List.getElem?_eq_some_iff.1 hi
  exact ⟨hcell i hil 0 (by decide), hcell i hil 1 (by decide), hcell i hil 2 (by decide), hcell i hil 3 (by decide)⟩

set_option maxRecDepth 100000 in
theorem uniqAfter {w : World} {b : Nat} {v : Value} {many : Int} {T : List (Option Ent)} (h : UniqR w b v many T) (hl : Places T.length) (i : Nat) (hi : i < T.length) :
    Calls Tryd.prog 59 #[.pointer (some ⟨b, 0, none⟩), .int .i64 i] w fun e w' => e = .returned (.int .i64 (onBy T.length i 1)) ∧ w = w' := by
  have h8 := hl.least
  have hM := hl.most
  obtain ⟨g, cap, rfl, _, _⟩ := h.form (by omega)
  obtain ⟨c0, c1⟩ := h.cells
  have hm : bits .and .i64 ((i : Int) + 1) ((T.length : Int) - 1) = (onBy T.length i 1 : Nat) := by
    rw [i64_mask _ _ hl.pow, ← onBy_mod hi, Int.natCast_emod]
    rfl
  have HM := Lib.hid hm
  clear h hm
  have hT8 : 8 ≤ (T.length : Int) := by omega
  have hTM : (T.length : Int) ≤ 1000000 := by omega
  have hiI : (i : Int) < (T.length : Int) := by omega
  go_enter Tryd.func59, Tryd.ntmps59
  go_wp2
  go_ret
  exact ⟨by rw [← HM.out]; rfl, rfl⟩

set_option maxRecDepth 100000 in
theorem uniqSteps {w : World} {b : Nat} {v : Value} {many : Int} {T : List (Option Ent)} (h : UniqR w b v many T) (hl : Places T.length) (i j : Nat) (hi : i < T.length) (hj : j < T.length) :
    Calls Tryd.prog 60 #[.pointer (some ⟨b, 0, none⟩), .int .i64 i, .int .i64 j] w fun e w' => e = .returned (.int .i64 (dist T.length i j)) ∧ w = w' := by
  have h8 := hl.least
  have hM := hl.most
  obtain ⟨g, cap, rfl, _, _⟩ := h.form (by omega)
  obtain ⟨c0, c1⟩ := h.cells
  have hm : bits .and .i64 ((j : Int) - (i : Int)) ((T.length : Int) - 1) = (dist T.length i j : Nat) := by
    rw [i64_mask _ _ hl.pow, dist_mod hi hj]
  have HM := Lib.hid hm
  clear h hm
  have hT8 : 8 ≤ (T.length : Int) := by omega
  have hTM : (T.length : Int) ≤ 1000000 := by omega
  have hiI : (i : Int) < (T.length : Int) := by omega
  have hjI : (j : Int) < (T.length : Int) := by omega
  go_enter Tryd.func60, Tryd.ntmps60
  go_wp2
  go_ret
  exact ⟨by rw [← HM.out]; rfl, rfl⟩

/-- A pair as a value. -/
def pairV (k : Int × Int) : Value := .agg #[.int .i64 k.1, .int .i64 k.2]

/-- Block b is a variable that holds a pair. -/
def PairAt (w : World) (b : Nat) (k : Int × Int) : Prop := w.heap[b]? = some (.cells #[.int .i64 k.1, .int .i64 k.2] 85 (0, 0))
theorem PairAt.lt {w : World} {b : Nat} {k : Int × Int} (h : PairAt w b k) : b < w.heap.size := row_lt' h
theorem PairAt.keep {w w' : World} {b : Nat} {k : Int × Int} (h : PairAt w b k) (hb : Below w.heap.size w w') : PairAt w' b k := (hb.block b h.lt).trans h
theorem PairAt.cells {w : World} {b : Nat} {k : Int × Int} (h : PairAt w b k) : w.cell? ⟨b, 0, none⟩ = some (.int .i64 k.1) ∧ w.cell? ⟨b, 1, none⟩ = some (.int .i64 k.2) :=
  ⟨by rw [cell_of_row _ _ _ _ _ _ h]; rfl, by rw [cell_of_row _ _ _ _ _ _ h]; rfl⟩
theorem PairAt.new (w : World) (k1 k2 : Int) : PairAt (w.alloc (.cells #[.int .i64 k1, .int .i64 k2] 85)) w.heap.size (k1, k2) := heap_alloc_new _ _

set_option maxRecDepth 100000 in
theorem uniqHome {w : World} {b : Nat} {v : Value} {many : Int} {T : List (Option Ent)} (h : UniqR w b v many T) (hl : Places T.length) (k : Int × Int) :
    Calls Tryd.prog 58 #[.pointer (some ⟨b, 0, none⟩), pairV k] w fun e w' => e = .returned (.int .i64 (homeN T.length k)) ∧ Below w.heap.size w w' := by
  have h8 := hl.least
  have hM := hl.most
  have hlt := homeN_lt (show 0 < T.length by omega) k
  have heq := homeN_eq (show 0 < T.length by omega) k
  obtain ⟨g, cap, rfl, _, _⟩ := h.form (by omega)
  obtain ⟨k1, k2⟩ := k
  have hm : bits .and .u64 (mixI (IntKind.u64.wrap (mixI (IntKind.u64.wrap k1) + IntKind.u64.wrap k2))) ((T.length : Int) - 1) = (homeN T.length (k1, k2) : Nat) := by
    rw [u64_mask _ _ hl.pow, heq]
    rfl
  clear heq
  generalize homeN T.length (k1, k2) = N at *
  have hT8 : 8 ≤ (T.length : Int) := by omega
  have hTM : (T.length : Int) ≤ 1000000 := by omega
  have hN : (N : Int) < (T.length : Int) := by omega
  unfold pairV
  go_enter Tryd.func58, Tryd.ntmps58
  go_wp2
  have hp := PairAt.new w k1 k2
  have hb : Below w.heap.size w (w.alloc (.cells #[.int .i64 k1, .int .i64 k2] 85)) := by go_grown
  replace h := h.below hb
  generalize w.alloc (.cells #[.int .i64 k1, .int .i64 k2] 85) = W at *
  have p0 : ∀ u : Sub W, u.1.cell? ⟨w.heap.size, 0, none⟩ = some (.int .i64 k1) := fun u => (hp.keep u.2).cells.1
  have p1 : ∀ u : Sub W, u.1.cell? ⟨w.heap.size, 1, none⟩ = some (.int .i64 k2) := fun u => (hp.keep u.2).cells.2
  refine wp_region_quiet_all (C := fun w' => ∃ u : Sub W, w' = u.1) (by kernel_rfl) (by kernel_rfl) (InSub.drew W) ?_
  iterate 3 (go_big_quiet_step (fail))
  go_big_quiet_step (exact subSame (uniqMix _ _))
  iterate 4 (go_big_quiet_step (fail))
  go_big_quiet_step (exact subSame (uniqMix _ _))
  go_big_quiet_step (fail)
  refine wpQuiet_nil ?_
  clear p0 p1
  intro w' hw'
  obtain ⟨u, rfl⟩ := hw'
  have hk := u.2
  replace h := h.below hk
  generalize u.1 = w1 at *
  obtain ⟨c0, c1⟩ := h.cells
  clear h hp
  generalize hX : mixI (IntKind.u64.wrap (mixI (IntKind.u64.wrap k1) + IntKind.u64.wrap k2)) = X at *
  go_wp2
  go_ret
  exact ⟨rfl, hb.trans (hk.mono hb.size)⟩

end Go.Proofs.YtipocmbplcdmjaaDoor

/-
  A region whose order is open: its first operations are quiet, one more among them makes a variable, whenever it comes up; what stands behind them waits for all. One walk in the order of the text serves every order. Nothing of the program is read here.
-/
namespace Go.Proofs.YtipocmbplcdmjaaDoor
open Go Go.RowKit

section
variable {P : Program} {ops : Array Oper} {md : Region.Mode} {W : World}

/-- The operation yields v, from whatever world it starts in which what stood in W stands, and leaves what stood there. -/
def YieldsT (P : Program) (ops : Array Oper) (W : World) (o : Oper) (v : Value) (a : Act) : Prop :=
  ∀ V, Below W.heap.size W V → YieldsIn P ops (fun w' => ∃ u : Sub V, w' = u.1) o v a

def tOp (P : Program) (ops : Array Oper) (W : World) (i : Nat) (K : Act → Prop) (a : Act) : Prop :=
  ∃ o v, ops[i]? = some o ∧ YieldsT P ops W o v a ∧ K (a.put o.dst v)

theorem tOp_mono {i : Nat} {a : Act} {K K' : Act → Prop} (h : ∀ a, K a → K' a) (hh : tOp P ops W i K a) : tOp P ops W i K' a := by
  obtain ⟨o, v, ho, hy, hk⟩ := hh
  exact ⟨o, v, ho, hy, h _ hk⟩

theorem tOp_put {j : Nat} {oi oj : Oper} {v : Value} (hj : ops[j]? = some oj) (hap : oi.apart ops oj = true)
    (hsi : ∀ cs b, oi.op ≠ .select cs b) (hsj : ∀ cs b, oj.op ≠ .select cs b) {K : Act → Prop} {a : Act}
    (hy : YieldsT P ops W oi v a) (h : tOp P ops W j K (a.put oi.dst v)) :
    tOp P ops W j (fun a' => YieldsT P ops W oi v a' ∧ K (a'.put oi.dst v)) a := by
  obtain ⟨h1, h2, h3⟩ := Oper.apart_spec hap
  obtain ⟨o, u, ho, hu, hk⟩ := h
  obtain rfl : o = oj := Option.some.inj (ho.symm.trans hj)
  refine ⟨o, u, ho, fun V hV => (hu V hV).of_same (execOp_put o hsj a oi.dst v h1).symm (wanted_put o a oi.dst v h1).symm, fun V hV => (hy V hV).of_same (execOp_put oi hsi a o.dst u h3) (wanted_put oi a o.dst u h3), ?_⟩
  rw [← Act.put_comm a v u h2]
  exact hk

/-- For 'f' more picks only operations below 'n' come up; then 'L'. -/
def headT (P : Program) (md : Region.Mode) (ops : Array Oper) (W : World) (n : Nat) (L : Array Bool → Act → Prop) : Nat → Array Bool → Act → Prop
  | 0, ls, a => L ls a
  | f + 1, ls, a => Region.ready md ops ls ≠ [] ∧ ∀ i ∈ Region.ready md ops ls, i < n ∧ tOp P ops W i (headT P md ops W n L f (ls.setIfInBounds i true)) a

theorem headT.first {n i : Nat} {oi : Oper} {v : Value} {L : Array Bool → Act → Prop} (hi : ops[i]? = some oi) (hsel : ∀ (j : Nat) (o : Oper) cs b, ops[j]? = some o → o.op ≠ .select cs b)
    {k0 : Nat} (ht : TailWaits md ops n k0) (hk0 : k0 ≤ i) (hin : i < n) (hend : ∀ ls a, L ls a → ∀ j ∈ Region.ready md ops ls, n ≤ j) (f : Nat) :
    ∀ (ls : Array Bool) (a : Act), HeadInv md ops n ls →
      (∀ j oj, ops[j]? = some oj → j ≠ i → ls.getD j true = false → (∀ e ∈ oj.after, Region.binds md e = true → e.on ≠ i) → oi.apart ops oj = true) →
      i ∈ Region.ready md ops ls → YieldsT P ops W oi v a →
      headT P md ops W n L f (ls.setIfInBounds i true) (a.put oi.dst v) → headT P md ops W n L (f + 1) ls a := by
  induction f with
  | zero =>
    intro ls a inv _ hr hy H
    refine ⟨List.ne_nil_of_mem hr, fun j hj => ⟨below_tail ht inv hk0 hin hr hj, ?_⟩⟩
    rcases Classical.em (j = i) with rfl | hne
    · exact ⟨_, _, hi, hy, H⟩
    · have h1 := hend _ _ H j (ready_mono hj hne)
      have h2 := below_tail ht inv hk0 hin hr hj
      omega
  | succ f ih =>
    intro ls a inv hfree hr hy H
    refine ⟨List.ne_nil_of_mem hr, fun j hj => ⟨below_tail ht inv hk0 hin hr hj, ?_⟩⟩
    rcases Classical.em (j = i) with rfl | hne
    · exact ⟨_, _, hi, hy, H⟩
    have hjn := below_tail ht inv hk0 hin hr hj
    obtain ⟨hjl, oj, hoj, hw⟩ := mem_ready.1 hj
    have hno : ∀ e ∈ oj.after, Region.binds md e = true → e.on ≠ i := by
      intro e he hb heq
      have h1 := hw e he hb
      rw [heq, getD_both (mem_ready.1 hr).1] at h1
      exact Bool.noConfusion h1
    have hq := tOp_put hoj (hfree j oj hoj hne hjl hno) (fun cs b => hsel i oi cs b hi) (fun cs b => hsel j oj cs b hoj) hy ((H.2 j (ready_mono hj hne)).2)
    refine tOp_mono (fun a' h3 => ih _ a' (inv.set hj hjn) ?_ (ready_mono hr (Ne.symm hne)) h3.1 (by rw [Array.setIfInBounds_comm _ _ hne]; exact h3.2)) hq
    intro k ok hk hki hkl hkn
    refine hfree k ok hk hki ?_ hkn
    rcases Classical.em (j = k) with rfl | hjk
    · exact hjl
    · rwa [getD_set_ne true hjk] at hkl

/-- The lexical walk, each value the same from every world. -/
def wpTame (P : Program) (ops : Array Oper) (W : World) (Q : Act → Prop) : List Oper → Act → Prop
  | [], a => Q a
  | o :: rest, a => ∃ v, YieldsT P ops W o v a ∧ wpTame P ops W Q rest (a.put o.dst v)

/-- The closed conditions: each operation can be taken where the text has it, and at the end the tail comes one after another. -/
def lexHeadA (md : Region.Mode) (ops : Array Oper) (g m : Nat) : Nat → Nat → Array Bool → Bool
  | 0, _, ls => Region.seqB md ops g m ls
  | f + 1, k, ls => (Region.ready md ops ls).contains k && Region.free md ops ls k && lexHeadA md ops g m f (k + 1) (ls.setIfInBounds k true)

theorem headT.lex {n g k0 : Nat} {G : Act → Prop} (hsel : Region.noSelect ops = true) (ht : TailWaits md ops n k0) (l : List Oper) :
    ∀ (k : Nat) (ls : Array Bool) (a : Act), k0 ≤ k → (∀ j, j < l.length → l[j]? = ops[k + j]?) → k + l.length < n → HeadInv md ops n ls →
      lexHeadA md ops g n l.length k ls = true → wpTame P ops W G l a →
      headT P md ops W n (fun ls' a' => Region.seqB md ops g n ls' = true ∧ G a') l.length ls a := by
  induction l with
  | nil =>
    intro k ls a _ _ _ _ hB h
    exact ⟨hB, h⟩
  | cons o l ih =>
    intro k ls a hk0 hl hk inv hB h
    have h0 : ops[k]? = some o := (hl 0 (Nat.succ_pos _)).symm
    simp only [List.length_cons, lexHeadA, Bool.and_eq_true] at hB hk
    have hkn : k < n := by omega
    have hr : k ∈ Region.ready md ops ls := by simpa using hB.1.1
    obtain ⟨v, hy, hK⟩ := h
    refine headT.first h0 (Region.noSelect_spec hsel) ht hk0 hkn (fun _ _ hL => seqB_ready hL.1) l.length ls a inv (Region.free_spec h0 hB.1.2) hr hy ?_
    refine ih (k + 1) _ _ (by omega) (fun j hj => ?_) (by omega) (inv.set hr hkn) hB.2 hK
    have := hl (j + 1) (Nat.succ_lt_succ hj)
    rw [Nat.add_right_comm, Nat.add_assoc]
    simpa using this

/-- Behind the making: every pick is quiet above the world in which it was made. -/
theorem headT.done {n g : Nat} {oc : Oper} {p : Value} {V : World} {L : Array Bool → Act → Prop} {Q : Exit → Act → World → Prop} (hV : Below W.heap.size W V)
    (hsel : ∀ (j : Nat) (o : Oper) cs b, ops[j]? = some o → o.op ≠ .select cs b) (hap : ∀ j oj, j + 1 < n → ops[j]? = some oj → oc.apart ops oj = true)
    (hc : n - 1 < n) (hL : ∀ ls a w, Below V.heap.size V w → L ls a → wpAny P md ops Q g ls (a.put oc.dst p) w) (f : Nat) :
    ∀ (ls : Array Bool) (a : Act) (w : World), ls.getD (n - 1) true = true → Below V.heap.size V w → headT P md ops W n L f ls a → wpAny P md ops Q (f + g) ls (a.put oc.dst p) w := by
  induction f with
  | zero => intro ls a w _ hw h; rw [Nat.zero_add]; exact hL _ _ _ hw h
  | succ f ih =>
    intro ls a w hm hw ⟨hne, h⟩
    rw [Nat.add_right_comm]
    refine ⟨fun h0 => (hne h0).elim, fun i hi => ?_⟩
    obtain ⟨hin, o, v, ho, hy, hk⟩ := h i hi
    have hi1 : i ≠ n - 1 := fun e => by have := (mem_ready.1 hi).1; rw [e, hm] at this; exact Bool.noConfusion this
    obtain ⟨h1, h2, _⟩ := Oper.apart_spec (hap i o (by omega) ho)
    have hy' := (hy V hV).of_same (execOp_put o (fun cs b => hsel i o cs b ho) a oc.dst p h1) (wanted_put o a oc.dst p h1)
    refine wpOp_of_qOp (C := fun w' => ∃ u : Sub V, w' = u.1) (K := fun a' => a' = (a.put o.dst v).put oc.dst p) ⟨⟨w, hw⟩, rfl⟩ ?_ (hy'.qOp ho (Act.put_comm a p v h2))
    rintro a' w' ⟨u, rfl⟩ rfl
    exact ih _ _ _ (by rcases Classical.em (i = n - 1) with e | e; exact absurd e hi1; rw [getD_set_ne true e]; exact hm) u.2 hk

/-- Ahead of it. -/
theorem headT.any {n g : Nat} {oc : Oper} {ob : Obj} {G : Act → Prop} {Q : Exit → Act → World → Prop} {k0 : Nat} (hn : 0 < n) (hoc : ops[n - 1]? = some oc) (hgd : oc.guard = none)
    (hrun : ∀ (a : Act) (w : World), (execOp a.eval oc).run P w = .ok (.value (.pointer (some ⟨w.heap.size, 0, none⟩))) (w.alloc ob))
    (hsel : ∀ (j : Nat) (o : Oper) cs b, ops[j]? = some o → o.op ≠ .select cs b) (hap : ∀ j oj, j + 1 < n → ops[j]? = some oj → oc.apart ops oj = true) (ht : TailWaits md ops n k0) (hk0 : k0 ≤ n - 1)
    (hL : ∀ ls a b w, Below W.heap.size W w → W.heap.size ≤ b → w.heap[b]? = some ob → Region.seqB md ops g n ls = true → G a → wpAny P md ops Q g ls (a.put oc.dst (.pointer (some ⟨b, 0, none⟩))) w) (f : Nat) :
    ∀ (ls : Array Bool) (a : Act) (w : World), HeadInv md ops n ls → n - 1 ∈ Region.ready md ops ls → Below W.heap.size W w →
      headT P md ops W n (fun ls' a' => Region.seqB md ops g n ls' = true ∧ G a') f (ls.setIfInBounds (n - 1) true) a → wpAny P md ops Q (f + 1 + g) ls a w := by
  have hmake : ∀ (f : Nat) (ls : Array Bool) (a : Act) (w : World), HeadInv md ops n ls → n - 1 ∈ Region.ready md ops ls → Below W.heap.size W w →
      headT P md ops W n (fun ls' a' => Region.seqB md ops g n ls' = true ∧ G a') f (ls.setIfInBounds (n - 1) true) a →
      wpOp P ops Q (n - 1) (wpAny P md ops Q (f + g) (ls.setIfInBounds (n - 1) true)) a w := by
    intro f ls a w inv hr hw H
    have hs : n - 1 < ls.size := by
      rcases Nat.lt_or_ge (n - 1) ls.size with h | h
      · exact h
      · have := (mem_ready.1 hr).1; simp [Array.getElem?_eq_none h] at this
    unfold wpOp
    rw [hoc]
    simp only [Region.wanted, hgd, if_true]
    refine .inl ?_
    unfold Oper.wp
    rw [hrun]
    show wpAny P md ops Q (f + g) (ls.setIfInBounds (n - 1) true) (a.put oc.dst _) (w.alloc ob)
    have hV : Below W.heap.size W (w.alloc ob) := hw.alloc hw.size ob
    refine headT.done hV hsel hap (by omega) (fun ls' a' w' hw' hL' => hL ls' a' _ w' (hV.trans (hw'.mono hV.size)) hw.size ?_ hL'.1 hL'.2) f _ _ _ (by simp [hs]) (Below.refl _ _) H
    have hlt : w.heap.size < (w.alloc ob).heap.size := by simp
    rw [hw'.block _ hlt]
    exact heap_alloc_new _ _
  induction f with
  | zero =>
    intro ls a w inv hr hw H
    rw [Nat.zero_add, Nat.add_comm]
    refine ⟨fun h0 => absurd h0 (List.ne_nil_of_mem hr), fun i hi => ?_⟩
    rcases Classical.em (i = n - 1) with rfl | hne
    · have := hmake 0 ls a w inv hr hw H
      rwa [Nat.zero_add] at this
    · have h1 := seqB_ready H.1 i (ready_mono hi hne)
      exact absurd hi (ht ls inv (n - 1) hk0 (by omega) (mem_ready.1 hr).1 i h1)
  | succ f ih =>
    intro ls a w inv hr hw H
    rw [Nat.add_right_comm]
    refine ⟨fun h0 => absurd h0 (List.ne_nil_of_mem hr), fun i hi => ?_⟩
    rcases Classical.em (i = n - 1) with rfl | hne
    · exact hmake (f + 1) ls a w inv hr hw H
    · obtain ⟨hin, o, v, ho, hy, hk⟩ := H.2 i (ready_mono hi hne)
      refine wpOp_of_qOp (C := fun w' => ∃ u : Sub W, w' = u.1) (K := fun a' => a' = a.put o.dst v) ⟨⟨w, hw⟩, rfl⟩ ?_ ((hy W (Below.refl _ _)).qOp ho rfl)
      rintro a' w' ⟨u, rfl⟩ rfl
      refine ih _ _ _ (inv.set hi hin) (ready_mono hr (Ne.symm hne)) u.2 ?_
      rw [Array.setIfInBounds_comm _ _ hne]
      exact hk

/-- The slots of a list's operations. -/
def slotsOk (sz : Nat) : List Oper → Bool
  | [] => true
  | o :: rest => (match o.dst with | some d => decide (d < sz) && rest.all (fun o' => o'.dst != some d) | none => false) && slotsOk sz rest

theorem wpQuiet_slot {C : World → Prop} {A : Act} {d : Tmp} (l : List Oper) : ∀ a : Act, wpQuiet P ops C (fun a' => a' = A) l a → (l.all fun o => o.dst != some d) = true → A.tmps[d]? = a.tmps[d]? := by
  have hput : ∀ (a : Act) (x : Option Tmp) (v : Value), x ≠ some d → (a.put x v).tmps[d]? = a.tmps[d]? := by
    intro a x v hx
    cases x with
    | none => rfl
    | some k => exact Array.getElem?_setIfInBounds_ne (fun e => hx (by rw [e]))
  induction l with
  | nil => intro a h _; rw [show a = A from h]
  | cons o l ih =>
    intro a h hd
    rw [List.all_cons, Bool.and_eq_true] at hd
    have hx : o.dst ≠ some d := by simpa using hd.1
    unfold wpQuiet at h
    split at h
    · obtain ⟨v, _, h2⟩ := h
      rw [ih _ h2 hd.2, hput _ _ _ hx]
    · rw [ih _ h hd.2, hput _ _ _ hx]

theorem wpTame_of {A : Act} (l : List Oper) : ∀ a : Act, slotsOk a.tmps.size l = true → (∀ V, Below W.heap.size W V → wpQuiet P ops (fun w' => ∃ u : Sub V, w' = u.1) (fun a' => a' = A) l a) → wpTame P ops W (fun a' => a' = A) l a := by
  have hsz : ∀ (a : Act) (d : Tmp) (v : Value), (a.put (some d) v).tmps.size = a.tmps.size := fun a d v => Array.size_setIfInBounds
  induction l with
  | nil => intro a _ h; exact h W (Below.refl _ _)
  | cons o l ih =>
    intro a hs h
    unfold slotsOk at hs
    rw [Bool.and_eq_true] at hs
    cases hd : o.dst with
    | none => rw [hd] at hs; exact Bool.noConfusion hs.1
    | some d =>
      rw [hd] at hs
      simp only [Bool.and_eq_true, decide_eq_true_eq] at hs
      -- of every world: the operation's value, and what follows
      have key : ∀ V, Below W.heap.size W V → ∃ v, YieldsIn P ops (fun w' => ∃ u : Sub V, w' = u.1) o v a ∧ wpQuiet P ops (fun w' => ∃ u : Sub V, w' = u.1) (fun a' => a' = A) l (a.put o.dst v) := by
        intro V hV
        have h1 := h V hV
        unfold wpQuiet at h1
        split at h1
        · rename_i hw
          obtain ⟨v, h2, h3⟩ := h1
          exact ⟨v, .inl ⟨hw, h2⟩, h3⟩
        · rename_i hw
          exact ⟨undef, .inr ⟨by simpa using hw, rfl⟩, h1⟩
      have hval : ∀ V v, wpQuiet P ops (fun w' => ∃ u : Sub V, w' = u.1) (fun a' => a' = A) l (a.put o.dst v) → A.tmps[d]? = some v := by
        intro V v h1
        rw [wpQuiet_slot l _ h1 hs.1.2, hd]
        show (a.tmps.setIfInBounds d v)[d]? = _
        rw [Array.getElem?_setIfInBounds_self_of_lt hs.1.1]
      obtain ⟨v, hy, hk⟩ := key W (Below.refl _ _)
      have hv := hval W v hk
      refine ⟨v, fun V hV => ?_, ih _ (by rw [hd, hsz]; exact hs.2) fun V hV => ?_⟩
      · obtain ⟨v', hy', hk'⟩ := key V hV
        obtain rfl : v' = v := Option.some.inj ((hval V v' hk').symm.trans hv)
        exact hy'
      · obtain ⟨v', hy', hk'⟩ := key V hV
        obtain rfl : v' = v := Option.some.inj ((hval V v' hk').symm.trans hv)
        exact hk'

/-- The closed conditions of the rule. -/
def allocTailB (md : Region.Mode) (ops : Array Oper) (n sz : Nat) : Bool :=
  Region.noSelect ops && decide (n + 1 < ops.size) && Region.sinkB md ops (n + 1) && Region.chainB md ops (n + 1) &&
    (match ops[n]? with
      | some oc => oc.guard.isNone && oc.after.isEmpty && (List.range n).all (fun j => match ops[j]? with | some oj => oc.apart ops oj | none => false)
      | none => false) &&
    lexHeadA md ops (ops.size - (n + 1)) (n + 1) n 0 ((Array.replicate ops.size false).setIfInBounds n true) && slotsOk sz (ops.toList.take n)

/-- THE RULE: n quiet operations, then one that makes a variable, in whatever order; what stands behind waits for all of them. -/
theorem wp_region_alloc_tail {id : Nat} {Q : Exit → Act → World → Prop} {a : Act} {w : World} {l : List Oper} (n : Nat) (oc : Oper) (ob : Obj) (hm : P.follows .mixedOrders = true)
    (hB : allocTailB .any l.toArray n a.tmps.size = true) (hoc : l[n]? = some oc)
    (hrun : ∀ (a : Act) (w : World), (execOp a.eval oc).run P w = .ok (.value (.pointer (some ⟨w.heap.size, 0, none⟩))) (w.alloc ob))
    (hA : ∃ A : Act, (∀ V, Below w.heap.size w V → wpQuiet P l.toArray (fun w' => ∃ u : Sub V, w' = u.1) (fun a' => a' = A) (l.take n) a) ∧
      ∀ b w', Below w.heap.size w w' → w.heap.size ≤ b → w'.heap[b]? = some ob → wpList P l.toArray Q (l.drop (n + 1)) (A.put oc.dst (.pointer (some ⟨b, 0, none⟩))) w') :
    (Code.region id l.toArray true).wp P Q a w := by
  obtain ⟨A, h, ht⟩ := hA
  simp only [allocTailB, Bool.and_eq_true, decide_eq_true_eq] at hB
  obtain ⟨⟨⟨⟨⟨⟨hsel, hn⟩, hs⟩, hc⟩, hoB⟩, hlex⟩, hslots⟩ := hB
  have hn' : n + 1 < l.length := by simpa using hn
  have hoc' : l.toArray[n]? = some oc := by simpa using hoc
  rw [hoc'] at hoB
  simp only [Bool.and_eq_true] at hoB
  obtain ⟨⟨hgd, haf⟩, hap⟩ := hoB
  have hap' : ∀ j oj, j + 1 < n + 1 → l.toArray[j]? = some oj → oc.apart l.toArray oj = true := by
    intro j oj hj hoj
    have := List.all_eq_true.1 hap j (List.mem_range.2 (by omega))
    rw [hoj] at this
    exact this
  have htl : (l.take n).length = n := by rw [List.length_take]; omega
  have hT := wpTame_of (W := w) (l.take n) a (by simpa using hslots) h
  have inv0 : HeadInv .any l.toArray (n + 1) (Array.replicate l.toArray.size false) :=
    ⟨by simp, fun j oj _ hl => by rw [getD_replicate_false] at hl; exact Bool.noConfusion hl, fun t _ h2 => getD_in (by simpa using h2) (getD_replicate_false _ _)⟩
  have hr : n ∈ Region.ready .any l.toArray (Array.replicate l.toArray.size false) := by
    refine mem_ready.2 ⟨getD_in (by simp; omega) (getD_replicate_false _ _), oc, hoc', fun e he => ?_⟩
    rw [Array.isEmpty_iff.1 haf] at he
    simp at he
  have htw : TailWaits .any l.toArray (n + 1) 0 := fun ls inv i _ hi hun => tail_waits hs hc hn inv _ i rfl hi hun
  have H := headT.lex (W := w) (g := l.toArray.size - (n + 1)) (k0 := 0) hsel htw (l.take n) 0 _ a (Nat.zero_le _) (fun j hj => by rw [htl] at hj; simp [hj]) (by omega) (inv0.set hr (by omega)) (by rw [htl]; exact hlex) hT
  rw [htl] at H
  refine wp_region_any hm ?_
  have R := headT.any (md := .any) (n := n + 1) (g := l.toArray.size - (n + 1)) (Q := Q) (k0 := 0) (oc := oc) (ob := ob) (by omega) hoc' (by simpa using hgd) hrun (Region.noSelect_spec hsel) hap' htw (by omega)
    (fun ls a' b w' hw hb hob hq hG => by
      subst hG
      have := wpAny_of_seq (md := .any) (Q' := Q) (l.drop (n + 1)) (n + 1) ls (a'.put oc.dst (.pointer (some ⟨b, 0, none⟩))) w' (fun j => by simp [List.getElem?_drop]) (by simpa using hq) (ht b w' hw hb hob)
      simpa using this) n _ a { w with drawn := w.drawn + 1 } inv0 hr (Below.refl _ w).drew H
  rwa [Nat.add_sub_cancel' (Nat.le_of_lt hn)] at R
end

end Go.Proofs.YtipocmbplcdmjaaDoor

/-
  Walks of package uniq: find, New, Get.
-/
namespace Go.Proofs.YtipocmbplcdmjaaDoor
open Go Go.RowKit

theorem run_neq_pair (a b : Int × Int) (w : World) : (binOp .neq 85 (pairV a) (pairV b)).run Tryd.prog w = .ok (.bool (!(a == b))) w := by
  have hq : ∀ (w : World) (a b : Int), (Op.equalIn 9999 3 (.int .i64 a) (.int .i64 b)).run Tryd.prog w = .ok (a == b) w := fun w a b => run_equalIn_int w 9998 _ _ _ _ _ Tryd.underlying3
  obtain ⟨a1, a2⟩ := a
  obtain ⟨b1, b2⟩ := b
  unfold pairV
  rw [run_neq_struct, run_equalIn_agg w 9999 _ _ _ (by kernel_rfl) (by kernel_rfl)]
  by_cases h : a1 = b1
  · by_cases k : a2 = b2
    · simp [Op.eqFields, part, go_sem, hq, h, k]
    · simp [Op.eqFields, part, go_sem, hq, h, k]
  · simp [Op.eqFields, part, go_sem, hq, h]

theorem run_neq_cells (a1 a2 b1 b2 : Int) (c : Bool) (hc : (!((a1, a2) == (b1, b2))) = c) (w : World) : (binOp .neq 85 (.agg #[.int .i64 a1, .int .i64 a2]) (.agg #[.int .i64 b1, .int .i64 b2])).run Tryd.prog w = .ok (.bool c) w := by
  rw [← hc]; exact run_neq_pair (a1, a2) (b1, b2) w

set_option maxRecDepth 100000 in
set_option maxHeartbeats 1000000 in
theorem uniqFind' {w : World} {b : Nat} {v : Value} {many : Int} {T : List (Option Ent)} (h : UniqR w b v many T) (hl : Places T.length) (k1 k2 : Int) {c N0 : Nat} (hN0 : homeN T.length (k1, k2) = N0) (hlt : N0 < T.length) (hc : c < T.length)
    (before : ∀ d, d < c → ∃ e : Ent, T[onBy T.length N0 d]? = some (some e) ∧ e.1 ≠ (k1, k2)) (stop : T[onBy T.length N0 c]? = some none ∨ ∃ e : Ent, T[onBy T.length N0 c]? = some (some e) ∧ e.1 = (k1, k2)) :
    Calls Tryd.prog 38 #[.pointer (some ⟨b, 0, none⟩), .agg #[.int .i64 k1, .int .i64 k2]] w fun e w' => e = .returned (.int .i64 (onBy T.length N0 c)) ∧ Below w.heap.size w w' := by
  have h8 := hl.least
  have hM := hl.most
  obtain ⟨g, cap, rfl, hq1, hq2⟩ := h.form (by omega)
  clear hq1 hq2
  have hHome : ∀ W, UniqR W b (.slice (some ⟨g, 0, none⟩) T.length cap) many T → Calls Tryd.prog 58 #[.pointer (some ⟨b, 0, none⟩), .agg #[.int .i64 k1, .int .i64 k2]] W fun e w' => e = .returned (.int .i64 N0) ∧ Below W.heap.size W w' := fun W hW => by
    have := uniqHome hW hl (k1, k2)
    rwa [hN0] at this
  clear hN0
  go_enter Tryd.func38, Tryd.ntmps38
  go_wp2_with fail
  have hp := PairAt.new w k1 k2
  have hb : Below w.heap.size w (w.alloc (.cells #[.int .i64 k1, .int .i64 k2] 85)) := by go_grown
  replace h := h.below hb
  generalize w.alloc (.cells #[.int .i64 k1, .int .i64 k2] 85) = W at *
  refine (hHome W h).mono ?_
  clear hHome
  rintro e w1 ⟨rfl, hb1⟩
  replace hp := hp.keep hb1
  replace h := h.below hb1
  replace hb := hb.trans (hb1.mono hb.size)
  clear hb1
  go_wp2_with fail
  go_loopw [5] (fun i wr => ∃ d : Nat, d ≤ c ∧ i = .int .i64 (onBy T.length N0 d) ∧ UniqR wr b (.slice (some ⟨g, 0, none⟩) T.length cap) many T ∧ PairAt wr w.heap.size (k1, k2) ∧ Below w.heap.size w wr) (fun i _ => dist T.length (intOf i).toNat (onBy T.length N0 c))
  case atStart => exact ⟨0, Nat.zero_le _, by rw [onBy_zero hlt], h, hp, hb⟩
  case round =>
    obtain ⟨d, hd, rfl, h, hp, hb⟩ := hrel
    have hdn : d < T.length := by omega
    have hin := onBy_lt hlt (Nat.le_of_lt hdn)
    by_cases hdc : d < c
    · obtain ⟨e, he, hek⟩ := before d hdc
      clear before stop
      have hnx : onBy T.length (onBy T.length N0 d) 1 = onBy T.length N0 (d + 1) := onBy_succ hlt (by omega)
      have hms : dist T.length (onBy T.length N0 d) (onBy T.length N0 c) = c - d := by
        have := dist_on (p := onBy T.length N0 c) (c := d) hlt (onBy_lt hlt (Nat.le_of_lt hc)) (by rw [dist_onBy hlt hc]; exact hd) rfl
        rw [dist_onBy hlt hc] at this
        omega
      have hms2 : dist T.length (onBy T.length N0 (d + 1)) (onBy T.length N0 c) = c - (d + 1) := by
        have := dist_on (p := onBy T.length N0 c) (c := d + 1) hlt (onBy_lt hlt (Nat.le_of_lt hc)) (by rw [dist_onBy hlt hc]; exact hdc) rfl
        rw [dist_onBy hlt hc] at this
        omega
      have hAf : ∀ n, Calls Tryd.prog 59 #[.pointer (some ⟨b, 0, none⟩), .int .i64 (onBy T.length N0 d)] (wr.drewN n) fun e w' => e = .returned (.int .i64 (onBy T.length N0 (d + 1))) ∧ wr.drewN n = w' := fun n => by
        rw [← hnx]; exact uniqAfter (h.below (below_drewN (Below.refl _ _))) hl _ hin
      obtain ⟨⟨e1, e2⟩, e3⟩ := e
      obtain ⟨q0, q1, q2, q3⟩ := placeAt h.places _ _ he
      obtain ⟨c0, c1⟩ := h.cells
      obtain ⟨p0, p1⟩ := hp.cells
      simp only [entCells, List.getElem?_cons_zero, List.getElem?_cons_succ] at q0 q1 q2
      have hq := run_neq_cells e1 e2 k1 k2 true (by simpa using hek)
      have hback : ∀ n, ∃ d' : Nat, d' ≤ c ∧ Value.int .i64 (onBy T.length N0 (d + 1)) = .int .i64 (onBy T.length N0 d') ∧ UniqR (wr.drewN n) b (.slice (some ⟨g, 0, none⟩) T.length cap) many T ∧ PairAt (wr.drewN n) w.heap.size (k1, k2) ∧ Below w.heap.size w (wr.drewN n) := fun n =>
        ⟨d + 1, hdc, rfl, h.below (below_drewN (Below.refl _ _)), hp.keep (below_drewN (Below.refl _ _)), below_drewN hb⟩
      have hless : dist T.length (onBy T.length N0 (d + 1)) (onBy T.length N0 c) < dist T.length (onBy T.length N0 d) (onBy T.length N0 c) := by omega
      have HB := Lib.hid hback
      have HL := Lib.hid hless
      clear h hp q3 hek he hnx hms hms2 hback hless
      have hinI : (onBy T.length N0 d : Int) < (T.length : Int) := by omega
      have hin0 : (0 : Int) ≤ (onBy T.length N0 d : Int) := by omega
      go_wp2
      go_quiet (fail)
      clear c0 c1 p0 p1 q0 q1 q2 hq
      go_wp2_with fail
      refine (hAf _).mono ?_
      rintro e w2 ⟨rfl, rfl⟩
      go_wp2
      exact ⟨HB.out _, HL.out⟩
    · have hdc : d = c := by omega
      subst hdc
      clear before
      rcases stop with he | ⟨e, he, hek⟩
      · obtain ⟨q0, q1, q2, q3⟩ := placeAt h.places _ _ he
        obtain ⟨c0, c1⟩ := h.cells
        obtain ⟨p0, p1⟩ := hp.cells
        simp only [entCells, List.getElem?_cons_zero] at q0
        clear h hp q1 q2 q3 he
        generalize hN : onBy T.length N0 d = N at *
        have HN := Lib.hid hN
        have hinI : (N : Int) < (T.length : Int) := by omega
        have hin0 : (0 : Int) ≤ (N : Int) := by omega
        clear hN hin
        go_wp2
        go_quiet (fail)
        go_wp2
        go_ret
        exact ⟨by rw [HN.out]; rfl, below_drewN hb⟩
      · obtain ⟨⟨e1, e2⟩, e3⟩ := e
        obtain ⟨q0, q1, q2, q3⟩ := placeAt h.places _ _ he
        obtain ⟨c0, c1⟩ := h.cells
        obtain ⟨p0, p1⟩ := hp.cells
        simp only [entCells, List.getElem?_cons_zero, List.getElem?_cons_succ] at q0 q1 q2
        have hq := run_neq_cells e1 e2 k1 k2 false (by simpa using hek)
        clear h hp q3 hek he
        generalize hN : onBy T.length N0 d = N at *
        have HN := Lib.hid hN
        have hinI : (N : Int) < (T.length : Int) := by omega
        have hin0 : (0 : Int) ≤ (N : Int) := by omega
        clear hN hin
        go_wp2
        go_quiet (fail)
        go_wp2
        go_ret
        exact ⟨by rw [HN.out]; rfl, below_drewN hb⟩

/-- Where a pair is. -/
theorem uniqFind {w : World} {b : Nat} {v : Value} {many : Int} {T : List (Option Ent)} (h : UniqR w b v many T) (hl : Places T.length) (k : Int × Int) {c : Nat} (F : Found T.length (homeN T.length) T k c) :
    Calls Tryd.prog 38 #[.pointer (some ⟨b, 0, none⟩), pairV k] w fun e w' => e = .returned (.int .i64 (onBy T.length (homeN T.length k) c)) ∧ Below w.heap.size w w' := by
  obtain ⟨k1, k2⟩ := k
  have h8 := hl.least
  exact uniqFind' h hl k1 k2 rfl (homeN_lt (by omega) _) F.lt F.before F.stop

end Go.Proofs.YtipocmbplcdmjaaDoor
