/-
  Texts of this proof, one behind the other: HandM, SlotM.
-/
import Derived.WalkKit
import Derived.Laws.Bits64
import Derived.Laws.Bits64b
/-
  A handle's number: plain mathematics.
-/
namespace Go.Proofs.Ytilcjpaifbcjaaa
open Go Go.RowKit

/-- There is such a handle. -/
def mayH (t s g : Int) : Prop := 1 ≤ t ∧ t ≤ 8 ∧ 0 ≤ s ∧ s ≤ 15 ∧ 0 ≤ g ∧ g ≤ 15

instance (t s g : Int) : Decidable (mayH t s g) := by unfold mayH; exact inferInstance

/-- Its number; 0: there is none. -/
def packN (t s g : Int) : Nat := if mayH t s g then 72057594037927936 * t.toNat + 281474976710656 * s.toNat + g.toNat else 0

/-- A number's parts. -/
def unT (h : Nat) : Nat := h / 72057594037927936
def unS (h : Nat) : Nat := h / 281474976710656 % 256
def unG (h : Nat) : Nat := h % 256

/-- Some handle's number. -/
def isH (h : Nat) : Prop := h ≠ 0 ∧ packN (unT h : Nat) (unS h : Nat) (unG h : Nat) = h

instance (h : Nat) : Decidable (isH h) := by unfold isH; exact inferInstance

/-- What a number is unpacked to. -/
def upT (h : Nat) : Int := if isH h then (unT h : Nat) else 0
def upS (h : Nat) : Int := if isH h then (unS h : Nat) else 0
def upG (h : Nat) : Int := if isH h then (unG h : Nat) else 0
def upB (h : Nat) : Bool := decide (isH h)

theorem packN_no {t s g : Int} (h : ¬ mayH t s g) : packN t s g = 0 := if_neg h

theorem packN_yes {t s g : Nat} (h : mayH t s g) : packN t s g = 72057594037927936 * t + 281474976710656 * s + g := by
  unfold packN
  rw [if_pos h]
  simp

theorem mayH.nat {t s g : Int} (h : mayH t s g) : ∃ a b c : Nat, t = a ∧ s = b ∧ g = c ∧ 1 ≤ a ∧ a ≤ 8 ∧ b ≤ 15 ∧ c ≤ 15 := by
  unfold mayH at h
  exact ⟨t.toNat, s.toNat, g.toNat, by omega, by omega, by omega, by omega, by omega, by omega, by omega⟩

theorem packN_lt (t s g : Int) : packN t s g < 18446744073709551616 := by
  by_cases h : mayH t s g
  · obtain ⟨a, b, c, rfl, rfl, rfl, h1, h2, h3, h4⟩ := h.nat
    rw [packN_yes h]
    omega
  · rw [packN_no h]; decide

theorem packN_ne {t s g : Int} (h : mayH t s g) : packN t s g ≠ 0 := by
  obtain ⟨a, b, c, rfl, rfl, rfl, h1, h2, h3, h4⟩ := h.nat
  rw [packN_yes h]
  omega

/-- What is packed is unpacked. -/
theorem packN_un {t s g : Int} (h : mayH t s g) : isH (packN t s g) ∧ (unT (packN t s g) : Int) = t ∧ (unS (packN t s g) : Int) = s ∧ (unG (packN t s g) : Int) = g := by
  have h0 := packN_ne h
  obtain ⟨a, b, c, rfl, rfl, rfl, h1, h2, h3, h4⟩ := h.nat
  have e := packN_yes h
  have e1 : unT (packN a b c) = a := by unfold unT; rw [e]; omega
  have e2 : unS (packN a b c) = b := by unfold unS; rw [e]; omega
  have e3 : unG (packN a b c) = c := by unfold unG; rw [e]; omega
  exact ⟨⟨h0, by rw [e1, e2, e3]⟩, by rw [e1], by rw [e2], by rw [e3]⟩

theorem up_yes {t s g : Int} (h : mayH t s g) : upT (packN t s g) = t ∧ upS (packN t s g) = s ∧ upG (packN t s g) = g ∧ upB (packN t s g) = true := by
  obtain ⟨e0, e1, e2, e3⟩ := packN_un h
  unfold upT upS upG upB
  rw [if_pos e0, if_pos e0, if_pos e0]
  exact ⟨e1, e2, e3, decide_eq_true e0⟩

theorem isH_zero : ¬ isH 0 := fun h => h.1 rfl

theorem up_no {t s g : Int} (h : ¬ mayH t s g) : upT (packN t s g) = 0 ∧ upS (packN t s g) = 0 ∧ upG (packN t s g) = 0 ∧ upB (packN t s g) = false := by
  rw [packN_no h]
  unfold upT upS upG upB
  rw [if_neg isH_zero, if_neg isH_zero, if_neg isH_zero]
  exact ⟨rfl, rfl, rfl, decide_eq_false isH_zero⟩

theorem up_is {h : Nat} (hi : isH h) : upT h = (unT h : Nat) ∧ upS h = (unS h : Nat) ∧ upG h = (unG h : Nat) ∧ upB h = true :=
  ⟨if_pos hi, if_pos hi, if_pos hi, decide_eq_true hi⟩

theorem up_isnt {h : Nat} (hi : ¬ isH h) : upT h = 0 ∧ upS h = 0 ∧ upG h = 0 ∧ upB h = false :=
  ⟨if_neg hi, if_neg hi, if_neg hi, decide_eq_false hi⟩

/-- What is unpacked is packed. -/
theorem pack_up {h : Nat} (hb : upB h = true) : packN (upT h) (upS h) (upG h) = h := by
  have hi : isH h := of_decide_eq_true hb
  unfold upT upS upG
  rw [if_pos hi, if_pos hi, if_pos hi]
  exact hi.2

/-- Unlike ones have unlike numbers. -/
theorem packN_inj {t s g o m : Int} (h : mayH t s g) (h' : mayH t o m) (e : packN t s g = packN t o m) : s = o ∧ g = m := by
  have a := packN_un h
  have b := packN_un h'
  rw [e] at a
  exact ⟨a.2.2.1.symm.trans b.2.2.1, a.2.2.2.symm.trans b.2.2.2⟩

/-- The three laid side by side. -/
theorem laid_or (a b c : Nat) (hb : b < 256) (hc : c < 281474976710656) : 72057594037927936 * a ||| 281474976710656 * b ||| c = 72057594037927936 * a + 281474976710656 * b + c := by
  have e1 : 72057594037927936 * a ||| 281474976710656 * b = 72057594037927936 * a + 281474976710656 * b := (Nat.two_pow_add_eq_or_of_lt (i := 56) (b := 281474976710656 * b) (by omega) a).symm
  rw [e1, show 72057594037927936 * a + 281474976710656 * b = 281474976710656 * (256 * a + b) by omega]
  exact (Nat.two_pow_add_eq_or_of_lt (i := 48) (b := c) (by omega) (256 * a + b)).symm

theorem and_255 (x : Nat) : x &&& 255 = x % 256 := Nat.and_two_pow_sub_one_eq_mod x 8

/-- A bit turned makes another number, that is still one of 64 bits. -/
theorem turn_bit (n k : Nat) (hn : n < 18446744073709551616) (hk : k < 64) : n ^^^ 2 ^ k ≠ n ∧ n ^^^ 2 ^ k < 18446744073709551616 := by
  have hp : 2 ^ k < 2 ^ 64 := Nat.pow_lt_pow_right (by decide) hk
  refine ⟨fun h => ?_, Nat.xor_lt_two_pow (n := 64) hn hp⟩
  have h1 : n ^^^ (n ^^^ 2 ^ k) = n ^^^ n := by rw [h]
  rw [← Nat.xor_assoc, Nat.xor_self, Nat.zero_xor] at h1
  have := Nat.two_pow_pos k
  omega

set_option maxRecDepth 100000 in
theorem xor_bit (n j : Nat) (hn : n < 18446744073709551616) (hj : j < 64) : bits BinOp.xor IntKind.u64 (n : Int) (IntKind.u64.wrap (2 ^ j)) = ((n ^^^ 2 ^ j : Nat) : Int) := by
  have hp : 2 ^ j < 2 ^ 64 := Nat.pow_lt_pow_right (by decide) hj
  have e : IntKind.u64.wrap (2 ^ j) = ((2 ^ j : Nat) : Int) := by
    rw [show ((2 : Int) ^ j) = ((2 ^ j : Nat) : Int) by push_cast; rfl, IntKind.wrap_u64]
    generalize 2 ^ j = y at *
    omega
  rw [e, bits_xor_u64_nat _ _ hn hp]

end Go.Proofs.Ytilcjpaifbcjaaa

/-
  A tenant's slots: plain mathematics.
-/
namespace Go.Proofs.Ytilcjpaifbcjaaa
open Go Go.RowKit

/-- The least number from n on, of k many, for which p holds; n + k: there is none. -/
def firstB (p : Nat → Bool) : Nat → Nat → Nat
  | 0, n => n
  | k + 1, n => if p n = true then n else firstB p k (n + 1)

theorem firstB_le (p : Nat → Bool) : ∀ k n, n ≤ firstB p k n ∧ firstB p k n ≤ n + k
  | 0, n => ⟨Nat.le_refl _, Nat.le_refl _⟩
  | k + 1, n => by
    unfold firstB
    split
    · exact ⟨Nat.le_refl _, by omega⟩
    · have := firstB_le p k (n + 1)
      omega

theorem firstB_is (p : Nat → Bool) : ∀ k n, firstB p k n < n + k → p (firstB p k n) = true
  | 0, n, h => by unfold firstB at h; omega
  | k + 1, n, h => by
    unfold firstB at h ⊢
    split
    · assumption
    · rename_i hn
      rw [if_neg hn] at h
      exact firstB_is p k (n + 1) (by omega)

theorem firstB_no (p : Nat → Bool) : ∀ k n i, n ≤ i → i < firstB p k n → p i = false
  | 0, n, i, h1, h2 => by unfold firstB at h2; omega
  | k + 1, n, i, h1, h2 => by
    unfold firstB at h2
    split at h2
    · omega
    · rename_i hn
      by_cases e : i = n
      · subst e; exact Bool.eq_false_iff.2 hn
      · exact firstB_no p k (n + 1) i (by omega) h2

theorem firstB_none {p : Nat → Bool} {k : Nat} (h : ¬ firstB p k 0 < k) (i : Nat) (hi : i < k) : p i = false :=
  firstB_no p k 0 i (Nat.zero_le _) (by omega)

/-- The only one for which p holds. -/
theorem firstB_one {p : Nat → Bool} {k i : Nat} (hi : i < k) (h : p i = true) (ho : ∀ j, j < k → p j = true → j = i) : firstB p k 0 = i := by
  have hlt : firstB p k 0 < k := by
    by_cases hlt : firstB p k 0 < k
    · exact hlt
    · rw [firstB_none hlt i hi] at h; cases h
  exact ho _ hlt (firstB_is p k 0 (by omega))

theorem firstB_all_no {p : Nat → Bool} {k : Nat} (h : ∀ i, i < k → p i = false) : firstB p k 0 = k := by
  have h1 := firstB_le p k 0
  rcases Nat.lt_or_ge (firstB p k 0) k with hlt | hge
  · have := firstB_is p k 0 (by omega)
    rw [h _ hlt] at this; cases this
  · omega

/-- A slot: its generation, whether it is held, its value. -/
structure Slo where
  gen : Int
  held : Bool
  val : Int

/-- It may be held. -/
def Slo.may (s : Slo) : Bool := !s.held && decide (s.gen ≤ 15)
/-- Let go. -/
def Slo.go (s : Slo) : Slo := ⟨s.gen + 1, false, 0⟩

/-- A tenant's slots, by their numbers; of those from 16 on nothing is said. -/
abbrev SF : Type := Nat → Slo

namespace SF

def zero : SF := fun _ => ⟨0, false, 0⟩

structure Ok (f : SF) : Prop where
  low : ∀ i, i < 16 → 0 ≤ (f i).gen
  top : ∀ i, i < 16 → (f i).gen ≤ 16
  held : ∀ i, i < 16 → (f i).held = true → (f i).gen ≤ 15

def put (f : SF) (i : Nat) (s : Slo) : SF := fun j => if j = i then s else f j

theorem put_same (f : SF) (i : Nat) (s : Slo) : f.put i s i = s := if_pos rfl
theorem put_other (f : SF) (i : Nat) (s : Slo) {j : Nat} (h : j ≠ i) : f.put i s j = f j := if_neg h

theorem Ok.zero : SF.zero.Ok := ⟨fun _ _ => Int.le_refl _, fun _ _ => by show (0 : Int) ≤ 16; decide, fun _ _ h => by cases h⟩

theorem Ok.put {f : SF} (ok : f.Ok) (i : Nat) {s : Slo} (h0 : 0 ≤ s.gen) (h1 : s.gen ≤ 16) (h2 : s.held = true → s.gen ≤ 15) : (f.put i s).Ok := by
  refine ⟨fun j hj => ?_, fun j hj => ?_, fun j hj hh => ?_⟩ <;> by_cases e : j = i
  · subst e; rw [put_same]; exact h0
  · rw [put_other _ _ _ e]; exact ok.low j hj
  · subst e; rw [put_same]; exact h1
  · rw [put_other _ _ _ e]; exact ok.top j hj
  · subst e; rw [put_same] at hh ⊢; exact h2 hh
  · rw [put_other _ _ _ e] at hh ⊢; exact ok.held j hj hh

/-- The least slot that may be held; 16: there is none. -/
def next (f : SF) : Nat := firstB (fun i => (f i).may) 16 0

theorem next_le (f : SF) : f.next ≤ 16 := by have := (firstB_le (fun i => (f i).may) 16 0).2; unfold next; omega
theorem next_may {f : SF} (h : f.next < 16) : (f f.next).held = false ∧ (f f.next).gen ≤ 15 := by
  have h1 := firstB_is (fun i => (f i).may) 16 0 (by unfold next at h; omega)
  have h2 : (f f.next).may = true := h1
  unfold Slo.may at h2
  rw [Bool.and_eq_true, Bool.not_eq_true', decide_eq_true_eq] at h2
  exact h2

/-- Grant: the handle, the error's number, the slots then. -/
def grantH (t : Int) (f : SF) : Nat := if f.next < 16 then packN t f.next (f f.next).gen else 0
def grantE (f : SF) : Int := if f.next < 16 then 0 else 6
def grant (f : SF) (v : Int) : SF := if f.next < 16 then f.put f.next ⟨(f f.next).gen, true, v⟩ else f

theorem Ok.grant {f : SF} (ok : f.Ok) (v : Int) : (f.grant v).Ok := by
  unfold SF.grant
  split
  · rename_i h
    have := next_may h
    exact ok.put _ (ok.low _ h) (ok.top _ h) (fun _ => this.2)
  · exact ok

theorem grantH_lt (t : Int) (f : SF) : f.grantH t < 18446744073709551616 := by
  unfold grantH
  split
  · exact packN_lt _ _ _
  · decide

/-- A slot that is held, of this handle. -/
def has (t : Int) (h : Nat) (f : SF) (i : Nat) : Bool := (f i).held && decide (packN t i (f i).gen = h)
/-- The slot that a handle holds; 16: none. -/
def find (t : Int) (h : Nat) (f : SF) : Nat := firstB (has t h f) 16 0

theorem find_le (t : Int) (h : Nat) (f : SF) : f.find t h ≤ 16 := by have := (firstB_le (has t h f) 16 0).2; unfold find; omega

theorem has_iff {t : Int} {h : Nat} {f : SF} {i : Nat} : has t h f i = true ↔ (f i).held = true ∧ packN t i (f i).gen = h := by
  unfold has; rw [Bool.and_eq_true, decide_eq_true_eq]

theorem find_has {t : Int} {h : Nat} {f : SF} (hl : f.find t h < 16) : (f (f.find t h)).held = true ∧ packN t (f.find t h) (f (f.find t h)).gen = h :=
  has_iff.1 (firstB_is (has t h f) 16 0 (by unfold find at hl; omega))

theorem find_none {t : Int} {h : Nat} {f : SF} (hl : ¬ f.find t h < 16) (i : Nat) (hi : i < 16) : ¬ ((f i).held = true ∧ packN t i (f i).gen = h) := fun hh => by
  have := firstB_none (p := has t h f) (k := 16) hl i hi
  rw [has_iff.2 hh] at this; cases this

theorem Ok.mayH {f : SF} (ok : f.Ok) {t : Int} (h1 : 1 ≤ t) (h8 : t ≤ 8) {i : Nat} (hi : i < 16) (hg : (f i).gen ≤ 15) : mayH t i (f i).gen :=
  ⟨h1, h8, by omega, by omega, ok.low i hi, hg⟩

/-- The slot of a handle that is held is the one that it names. -/
theorem Ok.find_one {f : SF} (ok : f.Ok) {t : Int} (h1 : 1 ≤ t) (h8 : t ≤ 8) {i : Nat} (hi : i < 16) (hh : (f i).held = true) {h : Nat} (he : packN t i (f i).gen = h) : f.find t h = i := by
  refine firstB_one hi (has_iff.2 ⟨hh, he⟩) fun j hj hj2 => ?_
  obtain ⟨k1, k2⟩ := has_iff.1 hj2
  have := packN_inj (ok.mayH h1 h8 hj (ok.held j hj k1)) (ok.mayH h1 h8 hi (ok.held i hi hh)) (k2.trans he.symm)
  omega

def getV (t : Int) (h : Nat) (f : SF) : Int := if f.find t h < 16 then (f (f.find t h)).val else 0
def getE (t : Int) (h : Nat) (f : SF) : Int := if f.find t h < 16 then 0 else 5
def rel (t : Int) (h : Nat) (f : SF) : SF := if f.find t h < 16 then f.put (f.find t h) (f (f.find t h)).go else f

theorem Ok.go {f : SF} (ok : f.Ok) {i : Nat} (hi : i < 16) (hh : (f i).held = true) : (f.put i (f i).go).Ok := by
  have h1 := ok.low i hi
  have h2 := ok.held i hi hh
  exact ok.put i (by unfold Slo.go; dsimp only; omega) (by unfold Slo.go; dsimp only; omega) (fun h => by cases h)

theorem Ok.rel {f : SF} (ok : f.Ok) (t : Int) (h : Nat) : (f.rel t h).Ok := by
  unfold SF.rel
  split
  · rename_i hl; exact ok.go hl (find_has hl).1
  · exact ok

/-- The numbers of those that are held, of the first n. -/
def heldsN (f : SF) (n : Nat) : List Nat := (List.range n).filter fun i => (f i).held
def helds (f : SF) : List Nat := f.heldsN 16

theorem heldsN_succ (f : SF) (n : Nat) : f.heldsN (n + 1) = f.heldsN n ++ (if (f n).held = true then [n] else []) := by
  unfold heldsN
  rw [List.range_succ, List.filter_append]
  cases hh : (f n).held <;> simp [hh]

theorem heldsN_length (f : SF) (n : Nat) : (f.heldsN n).length ≤ n := Nat.le_trans (List.length_filter_le _ _) (by simp)

theorem mem_heldsN {f : SF} {n i : Nat} : i ∈ f.heldsN n ↔ i < n ∧ (f i).held = true := by simp [heldsN]

/-- How many are held below it. -/
def rank (f : SF) (i : Nat) : Nat := (f.heldsN i).length

theorem heldsN_split (f : SF) {n : Nat} : ∀ m, n ≤ m → ∃ r, f.heldsN m = f.heldsN n ++ r
  | m, h => by
    induction m with
    | zero => obtain rfl : n = 0 := by omega
              exact ⟨[], by simp⟩
    | succ m ih =>
      rcases Nat.lt_or_ge m n with hl | hg
      · obtain rfl : n = m + 1 := by omega
        exact ⟨[], by simp⟩
      · obtain ⟨r, hr⟩ := ih hg
        exact ⟨r ++ (if (f m).held = true then [m] else []), by rw [heldsN_succ, hr, List.append_assoc]⟩

theorem rank_mono (f : SF) {n m : Nat} (h : n ≤ m) : f.rank n ≤ f.rank m := by
  obtain ⟨r, hr⟩ := f.heldsN_split m h
  unfold rank
  rw [hr, List.length_append]
  omega

theorem rank_lt {f : SF} {n m : Nat} (h : n < m) (hh : (f n).held = true) : f.rank n < f.rank m := by
  have h1 := f.rank_mono (n := n + 1) (m := m) h
  have h2 : f.rank (n + 1) = f.rank n + 1 := by unfold rank; rw [heldsN_succ, if_pos hh]; simp
  omega

theorem helds_rank {f : SF} {n : Nat} (hn : n < 16) (hh : (f n).held = true) : f.helds[f.rank n]? = some n := by
  obtain ⟨r, hr⟩ := f.heldsN_split (n := n + 1) 16 hn
  unfold helds rank
  rw [hr, heldsN_succ, if_pos hh, List.append_assoc, List.getElem?_append_right (Nat.le_refl _)]
  simp

theorem rank_of {f : SF} {k : Nat} (hk : k < f.helds.length) : f.rank f.helds[k] = k ∧ f.helds[k] < 16 ∧ (f f.helds[k]).held = true := by
  have hm := mem_heldsN.1 (List.getElem_mem hk)
  have h1 := helds_rank hm.1 hm.2
  have hnd : f.helds.Pairwise (· ≠ ·) := List.Pairwise.filter _ List.nodup_range
  obtain ⟨hl, he⟩ := List.getElem?_eq_some_iff.1 h1
  refine ⟨?_, hm.1, hm.2⟩
  rw [List.pairwise_iff_getElem] at hnd
  rcases Nat.lt_trichotomy (f.rank f.helds[k]) k with hlt | heq | hgt
  · exact absurd he (hnd _ _ hl hk hlt)
  · exact heq
  · exact absurd he.symm (hnd _ _ hk hl hgt)

/-- Some of them turned. -/
def upd (f : SF) (c : Nat → Prop) [DecidablePred c] (g : Nat → Slo) : SF := fun j => if c j then g j else f j

theorem upd_put (f : SF) (c d : Nat → Prop) [DecidablePred c] [DecidablePred d] (g : Nat → Slo) (n : Nat) (h : ∀ j, d j ↔ c j ∨ j = n) : (f.upd c g).put n (g n) = f.upd d g := by
  funext j
  by_cases e : j = n
  · subst e
    rw [put_same]
    exact (if_pos ((h j).2 (.inr rfl))).symm
  · rw [put_other _ _ _ e]
    unfold upd
    by_cases hc : c j
    · rw [if_pos hc, if_pos ((h j).2 (.inl hc))]
    · rw [if_neg hc, if_neg (fun hd => ((h j).1 hd).elim hc e)]

theorem upd_congr (f : SF) (c d : Nat → Prop) [DecidablePred c] [DecidablePred d] (g : Nat → Slo) (h : ∀ j, d j ↔ c j) : f.upd c g = f.upd d g := by
  funext j
  unfold upd
  by_cases hc : c j
  · rw [if_pos hc, if_pos ((h j).2 hc)]
  · rw [if_neg hc, if_neg (fun hd => hc ((h j).1 hd))]

theorem upd_none (f : SF) (c : Nat → Prop) [DecidablePred c] (g : Nat → Slo) (h : ∀ j, ¬ c j) : f.upd c g = f := by
  funext j
  exact if_neg (h j)

/-- Those that are held, of rank below k; of number below n. -/
def below (f : SF) (k : Nat) (j : Nat) : Prop := j < 16 ∧ (f j).held = true ∧ f.rank j < k
def upto (f : SF) (n : Nat) (j : Nat) : Prop := j < n ∧ (f j).held = true
instance (f : SF) (k : Nat) : DecidablePred (f.below k) := fun j => by unfold below; exact inferInstance
instance (f : SF) (k : Nat) : DecidablePred (f.upto k) := fun j => by unfold upto; exact inferInstance

theorem below_succ {f : SF} {k : Nat} (hk : k < f.helds.length) (j : Nat) : f.below (k + 1) j ↔ f.below k j ∨ j = f.helds[k] := by
  obtain ⟨h1, h2, h3⟩ := rank_of hk
  unfold below
  constructor
  · rintro ⟨a, b, c⟩
    by_cases e : f.rank j < k
    · exact .inl ⟨a, b, e⟩
    · refine .inr ?_
      have e2 : f.rank j = k := by omega
      have h4 := helds_rank a b
      rw [e2, List.getElem?_eq_getElem hk] at h4
      exact (Option.some.inj h4).symm
  · rintro (⟨a, b, c⟩ | rfl)
    · exact ⟨a, b, by omega⟩
    · exact ⟨h2, h3, by omega⟩

theorem below_all {f : SF} (j : Nat) : f.below f.helds.length j ↔ f.upto 16 j := by
  unfold below upto
  constructor
  · rintro ⟨a, b, _⟩; exact ⟨a, b⟩
  · rintro ⟨a, b⟩
    refine ⟨a, b, ?_⟩
    have := helds_rank a b
    exact (List.getElem?_eq_some_iff.1 this).1

theorem below_zero {f : SF} (j : Nat) : ¬ f.below 0 j := fun h => Nat.not_lt_zero _ h.2.2
theorem upto_zero {f : SF} (j : Nat) : ¬ f.upto 0 j := fun h => Nat.not_lt_zero _ h.1
theorem upto_succ {f : SF} {n : Nat} (hh : (f n).held = true) (j : Nat) : f.upto (n + 1) j ↔ f.upto n j ∨ j = n := by
  unfold upto
  constructor
  · rintro ⟨a, b⟩
    by_cases e : j = n
    · exact .inr e
    · exact .inl ⟨by omega, b⟩
  · rintro (⟨a, b⟩ | rfl)
    · exact ⟨by omega, b⟩
    · exact ⟨by omega, hh⟩
theorem upto_skip {f : SF} {n : Nat} (hh : (f n).held = false) (j : Nat) : f.upto (n + 1) j ↔ f.upto n j := by
  unfold upto
  constructor
  · rintro ⟨a, b⟩
    refine ⟨?_, b⟩
    by_cases e : j = n
    · subst e; rw [hh] at b; cases b
    · omega
  · rintro ⟨a, b⟩; exact ⟨by omega, b⟩

/-- All let go. -/
def goes (f : SF) (j : Nat) : Slo := (f j).go
def clear (f : SF) : SF := f.upd (f.upto 16) f.goes

theorem Ok.clear {f : SF} (ok : f.Ok) : f.clear.Ok := by
  refine ⟨fun i hi => ?_, fun i hi => ?_, fun i hi => ?_⟩ <;> unfold SF.clear upd goes Slo.go <;> split
  · have := ok.low i hi; dsimp only; omega
  · exact ok.low i hi
  · rename_i h; have := ok.held i hi h.2; dsimp only; omega
  · exact ok.top i hi
  · intro h; cases h
  · exact ok.held i hi

def vals (f : SF) : List Int := f.helds.map fun i : Nat => (f i).val
def hands (t : Int) (f : SF) : List Nat := f.helds.map fun i : Nat => packN t i (f i).gen

/-- Other values. -/
def lays (f : SF) (l : List Int) (j : Nat) : Slo := ⟨(f j).gen, (f j).held, l.getD (f.rank j) 0⟩
def lay (f : SF) (l : List Int) : SF := if l.length = f.helds.length then f.upd (f.upto 16) (f.lays l) else f
def layE (f : SF) (l : List Int) : Int := if l.length = f.helds.length then 0 else 1

theorem Ok.lay {f : SF} (ok : f.Ok) (l : List Int) : (f.lay l).Ok := by
  unfold SF.lay
  split
  · refine ⟨fun i hi => ?_, fun i hi => ?_, fun i hi => ?_⟩ <;> unfold upd lays <;> split
    · exact ok.low i hi
    · exact ok.low i hi
    · exact ok.top i hi
    · exact ok.top i hi
    · exact ok.held i hi
    · exact ok.held i hi
  · exact ok

end SF

end Go.Proofs.Ytilcjpaifbcjaaa
