/-
  Texts of this proof, one behind the other: LedM.
-/
import Derived.Test.YtpdkcdehbpbheaaG3
/-
  A ledger: plain mathematics.
-/
namespace Go.Proofs.Ytpdkcdehbpbheaa
open Go Go.RowKit

/-- Of each tenant its quota; below 0: it isn't there. -/
abbrev LF : Type := Nat → Int

/-- What a quota takes. -/
def amtOf (x : Int) : Int := if 0 < x then x else 0

theorem amtOf_nonneg (x : Int) : 0 ≤ amtOf x := by unfold amtOf; split <;> omega
theorem amtOf_pos {x : Int} (h : 0 ≤ x) : amtOf x = x := by unfold amtOf; split <;> omega
theorem amtOf_neg {x : Int} (h : ¬ 0 ≤ x) : amtOf x = 0 := by unfold amtOf; split <;> omega

namespace LF

def zero : LF := fun _ => -1
def put (f : LF) (i : Nat) (x : Int) : LF := fun j => if j = i then x else f j
theorem put_same (f : LF) (i : Nat) (x : Int) : f.put i x i = x := if_pos rfl
theorem put_other (f : LF) (i : Nat) (x : Int) {j : Nat} (h : j ≠ i) : f.put i x j = f j := if_neg h

/-- What tenants 1 to k have. -/
def sum (f : LF) : Nat → Int
  | 0 => 0
  | k + 1 => f.sum k + amtOf (f (k + 1))

theorem sum_succ (f : LF) (k : Nat) : f.sum (k + 1) = f.sum k + amtOf (f (k + 1)) := rfl
theorem sum_zero (f : LF) : f.sum 0 = 0 := rfl

theorem sum_nonneg (f : LF) : ∀ k, 0 ≤ f.sum k
  | 0 => Int.le_refl _
  | k + 1 => by
    have := sum_nonneg f k
    have := amtOf_nonneg (f (k + 1))
    rw [sum_succ]; omega

theorem sum_mono (f : LF) {j : Nat} : ∀ k, j ≤ k → f.sum j ≤ f.sum k
  | 0, h => by obtain rfl : j = 0 := by omega
               exact Int.le_refl _
  | k + 1, h => by
    by_cases e : j = k + 1
    · subst e; exact Int.le_refl _
    · have := sum_mono f k (by omega : j ≤ k)
      have := amtOf_nonneg (f (k + 1))
      rw [sum_succ]; omega

theorem sum_put_out (f : LF) (i : Nat) (x : Int) : ∀ k, k < i → (f.put i x).sum k = f.sum k
  | 0, _ => rfl
  | k + 1, h => by rw [sum_succ, sum_succ, sum_put_out f i x k (by omega), put_other _ _ _ (by omega)]

theorem sum_put (f : LF) (i : Nat) (x : Int) (hi : 1 ≤ i) : ∀ k, i ≤ k → (f.put i x).sum k = f.sum k - amtOf (f i) + amtOf x
  | 0, h => by omega
  | k + 1, h => by
    rw [sum_succ, sum_succ]
    by_cases e : i = k + 1
    · subst e
      rw [sum_put_out f _ x k (by omega), put_same]; omega
    · rw [sum_put f i x hi k (by omega), put_other _ _ _ (by omega)]; omega

theorem amt_le (f : LF) {i k : Nat} (hi : 1 ≤ i) (hk : i ≤ k) : amtOf (f i) ≤ f.sum k := by
  have h1 := sum_mono f k hk
  obtain ⟨j, rfl⟩ : ∃ j, i = j + 1 := ⟨i - 1, by omega⟩
  have h2 := sum_nonneg f j
  rw [sum_succ] at h1
  omega

/-- What is left. -/
def left (f : LF) (c : Int) : Int := c - f.sum 8

/-- What always holds of a ledger of capacity c. -/
structure Ok (f : LF) (c : Int) : Prop where
  cap0 : 0 ≤ c
  cap1 : c ≤ 10000
  low : ∀ i, -1 ≤ f i
  keep : f.sum 8 ≤ c

theorem Ok.zero {c : Int} (h0 : 0 ≤ c) (h1 : c ≤ 10000) : LF.zero.Ok c := ⟨h0, h1, fun _ => Int.le_refl _, h0⟩

theorem Ok.amt {f : LF} {c : Int} (ok : f.Ok c) {i : Nat} (hi : 1 ≤ i) (h8 : i ≤ 8) : amtOf (f i) ≤ 10000 := by
  have := amt_le f hi h8
  have := ok.keep
  have := ok.cap1
  omega
theorem Ok.top {f : LF} {c : Int} (ok : f.Ok c) {i : Nat} (hi : 1 ≤ i) (h8 : i ≤ 8) : f i ≤ 10000 := by
  have := ok.amt hi h8
  unfold amtOf at this
  split at this <;> omega
theorem Ok.part {f : LF} {c : Int} (ok : f.Ok c) {k : Nat} (hk : k ≤ 8) : 0 ≤ f.sum k ∧ f.sum k ≤ c ∧ 0 ≤ c ∧ c ≤ 10000 :=
  ⟨sum_nonneg f k, Int.le_trans (sum_mono f 8 hk) ok.keep, ok.cap0, ok.cap1⟩
theorem Ok.left {f : LF} {c : Int} (ok : f.Ok c) : 0 ≤ f.left c ∧ f.left c ≤ c ∧ c ≤ 10000 := by
  have := ok.part (k := 8) (by omega)
  unfold LF.left
  omega

/-- Is a tenant there? -/
def isAt (f : LF) (t : Int) : Bool := decide (1 ≤ t) && (decide (t ≤ 8) && decide (0 ≤ f t.toNat))
theorem isAt_no (f : LF) {t : Int} (h : ¬ (1 ≤ t ∧ t ≤ 8)) : f.isAt t = false := by
  unfold isAt
  by_cases h1 : 1 ≤ t
  · have : ¬ t ≤ 8 := fun h8 => h ⟨h1, h8⟩
    simp [this]
  · simp [h1]
theorem isAt_in (f : LF) {i : Nat} (hi : i < 8) : f.isAt ((i : Int) + 1) = decide (0 ≤ f (i + 1)) := by
  unfold isAt
  rw [decide_eq_true (by omega), decide_eq_true (by omega), show ((i : Int) + 1).toNat = i + 1 by omega]
  rfl
theorem isAt_iff {f : LF} {t : Int} : f.isAt t = true ↔ (1 ≤ t ∧ t ≤ 8) ∧ 0 ≤ f t.toNat := by
  unfold isAt
  rw [Bool.and_eq_true, Bool.and_eq_true, decide_eq_true_eq, decide_eq_true_eq, decide_eq_true_eq, and_assoc]

/-- Its quota. -/
def quota (f : LF) (t : Int) : Int := if f.isAt t = true then f t.toNat else 0

theorem quota_nonneg (f : LF) (t : Int) : 0 ≤ f.quota t := by
  unfold quota
  split
  · rename_i h; exact (isAt_iff.1 h).2
  · exact Int.le_refl _
theorem quota_amt (f : LF) {t : Int} (h : 1 ≤ t ∧ t ≤ 8) : f.quota t = amtOf (f t.toNat) := by
  unfold quota
  split
  · rename_i h; exact (amtOf_pos (isAt_iff.1 h).2).symm
  · rename_i hn; exact (amtOf_neg fun h0 => hn (isAt_iff.2 ⟨h, h0⟩)).symm
theorem quota_no (f : LF) {t : Int} (h : ¬ f.isAt t = true) : f.quota t = 0 := if_neg h
theorem Ok.quota {f : LF} {c : Int} (ok : f.Ok c) (t : Int) : f.quota t ≤ 10000 := by
  by_cases h : 1 ≤ t ∧ t ≤ 8
  · rw [f.quota_amt h]; exact ok.amt (by omega) (by omega)
  · have : ¬ f.isAt t = true := by rw [f.isAt_no h]; decide
    rw [f.quota_no this]; decide

/-- Admit: the error's number, the ledger then. -/
def adE (f : LF) (c t q : Int) : Int := if t < 1 ∨ 8 < t ∨ q < 0 ∨ 65535 < q then 1 else if f.isAt t = true then 3 else if f.left c < q then 2 else 0
def ad (f : LF) (c t q : Int) : LF := if f.adE c t q = 0 then f.put t.toNat q else f
/-- Leave. -/
def leE (f : LF) (t : Int) : Int := if f.isAt t = true then 0 else 4
def le (f : LF) (t : Int) : LF := if f.isAt t = true then f.put t.toNat (-1) else f

theorem adE_bounds (f : LF) (c t q : Int) : 0 ≤ f.adE c t q ∧ f.adE c t q ≤ 8 := by
  unfold adE; split
  · decide
  · split
    · decide
    · split <;> decide
theorem leE_bounds (f : LF) (t : Int) : 0 ≤ f.leE t ∧ f.leE t ≤ 8 := by unfold leE; split <;> decide

theorem adE_zero {f : LF} {c t q : Int} (h : f.adE c t q = 0) : (1 ≤ t ∧ t ≤ 8) ∧ 0 ≤ q ∧ q ≤ 65535 ∧ f.isAt t = false ∧ q ≤ f.left c := by
  unfold adE at h
  split at h
  · cases h
  · split at h
    · cases h
    · split at h
      · cases h
      · rename_i h1 h2 h3
        exact ⟨by omega, by omega, by omega, Bool.eq_false_iff.2 h2, by omega⟩

theorem Ok.ad {f : LF} {c : Int} (ok : f.Ok c) (t q : Int) : (f.ad c t q).Ok c := by
  unfold LF.ad
  split
  · rename_i h
    obtain ⟨ht, h0, h1, hi, hl⟩ := adE_zero h
    refine ⟨ok.cap0, ok.cap1, fun i => ?_, ?_⟩
    · unfold put; split
      · omega
      · exact ok.low i
    · rw [sum_put f _ q (by omega) 8 (by omega), amtOf_pos h0]
      have : amtOf (f t.toNat) = 0 := amtOf_neg fun hn => by
        rw [isAt_iff.2 ⟨ht, hn⟩] at hi; cases hi
      unfold LF.left at hl
      omega
  · exact ok
theorem Ok.le {f : LF} {c : Int} (ok : f.Ok c) (t : Int) : (f.le t).Ok c := by
  unfold LF.le
  split
  · rename_i h
    obtain ⟨ht, h0⟩ := isAt_iff.1 h
    refine ⟨ok.cap0, ok.cap1, fun i => ?_, ?_⟩
    · unfold put; split
      · omega
      · exact ok.low i
    · rw [sum_put f _ (-1) (by omega) 8 (by omega), show amtOf (-1) = 0 from rfl]
      have := amtOf_nonneg (f t.toNat)
      have := ok.keep
      omega
  · exact ok

/-- What is left behind Admit and Leave. -/
theorem ad_left {f : LF} {c t q : Int} (h : f.adE c t q = 0) : (f.ad c t q).left c = f.left c - q := by
  obtain ⟨ht, h0, h1, hi, hl⟩ := adE_zero h
  have : amtOf (f t.toNat) = 0 := amtOf_neg fun hn => by
    rw [isAt_iff.2 ⟨ht, hn⟩] at hi; cases hi
  unfold LF.ad LF.left
  rw [if_pos h, sum_put f _ q (by omega) 8 (by omega), amtOf_pos h0]
  omega
theorem ad_same {f : LF} {c t q : Int} (h : ¬ f.adE c t q = 0) : f.ad c t q = f := if_neg h
theorem le_left (f : LF) (c t : Int) : (f.le t).left c = f.left c + f.quota t := by
  unfold LF.le LF.left LF.quota
  split
  · rename_i h
    obtain ⟨ht, h0⟩ := isAt_iff.1 h
    rw [sum_put f _ (-1) (by omega) 8 (by omega), show amtOf (-1) = 0 from rfl, amtOf_pos h0]
    omega
  · omega

end LF

end Go.Proofs.Ytpdkcdehbpbheaa
