/-
  Plain mathematics of layer 3: what a list of functions still to be looked at, those that were, and the nodes among them are to each other, step by step.
-/
import Derived.Test.YtgccgjeehggagaaDoorMath3
namespace Go.Proofs.YtgccgjeehggagaaDoor
open Go Go.RowKit

/-- How many steps a function can cost at most. -/
def wt (f : Fn) : Nat := 2 ^ (supN f + 1) - 1

def wsum : List Fn → Nat
  | [] => 0
  | f :: l => wt f + wsum l

theorem wsum_append (l k : List Fn) : wsum (l ++ k) = wsum l + wsum k := by
  induction l with
  | nil => simp [wsum]
  | cons f l ih => simp only [List.cons_append, wsum, ih]; omega

theorem supN_le (f : Fn) : supN f ≤ 8 := by
  have := List.countP_le_length (p := depF f) (l := List.range 8)
  simpa [supN] using this

theorem wt_pos (f : Fn) : 1 ≤ wt f := by
  unfold wt
  have : 2 ^ 1 ≤ 2 ^ (supN f + 1) := Nat.pow_le_pow_right (by decide) (by omega)
  omega

theorem wt_le (f : Fn) : wt f ≤ 511 := by
  unfold wt
  have : 2 ^ (supN f + 1) ≤ 2 ^ 9 := Nat.pow_le_pow_right (by decide) (by have := supN_le f; omega)
  omega

theorem wsum_le (l : List Fn) : wsum l ≤ 511 * l.length := by
  induction l with
  | nil => simp [wsum]
  | cons f l ih => simp only [wsum, List.length_cons]; have := wt_le f; omega

theorem length_le_wsum (l : List Fn) : l.length ≤ wsum l := by
  induction l with
  | nil => simp [wsum]
  | cons f l ih => simp only [wsum, List.length_cons]; have := wt_pos f; omega

theorem wt_cof (f : Fn) (o : Nat → Int) (b c : Bool) (h : 0 ≤ topF f o) : wt (cofAny f (topF f o) b) + wt (cofAny f (topF f o) c) + 1 ≤ wt f := by
  have hb := supN_cof f o b h
  have hc := supN_cof f o c h
  unfold wt
  have h1 : 2 ^ (supN (cofAny f (topF f o) b) + 1) ≤ 2 ^ supN f := Nat.pow_le_pow_right (by decide) hb
  have h2 : 2 ^ (supN (cofAny f (topF f o) c) + 1) ≤ 2 ^ supN f := Nat.pow_le_pow_right (by decide) hc
  have h3 : 2 ^ 1 ≤ 2 ^ (supN (cofAny f (topF f o) b) + 1) := Nat.pow_le_pow_right (by decide) (by omega)
  have h4 : 2 ^ 1 ≤ 2 ^ (supN (cofAny f (topF f o) c) + 1) := Nat.pow_le_pow_right (by decide) (by omega)
  have h5 : 2 ^ (supN f + 1) = 2 * 2 ^ supN f := by rw [Nat.pow_succ, Nat.mul_comm]
  omega

/-- Behind k of the functions of 'work' have been looked at, 'out' are the nodes among them. -/
structure NInv (l : List Fn) (o : Nat → Int) (out work : List Fn) (k : Nat) : Prop where
  le : k ≤ work.length
  reach : ∀ f, f ∈ work → Reach l o f
  base : ∀ f, f ∈ l → f ∈ work
  closed : ∀ f, f ∈ work.take k → supF f ≠ 0 → 0 ≤ topF f o → ∀ b, cofAny f (topF f o) b ∈ work
  nodup : out.Nodup
  mem : ∀ f, f ∈ out ↔ f ∈ work.take k ∧ supF f ≠ 0
  cost : k + wsum (work.drop k) ≤ 511 * l.length

theorem NInv.start (l : List Fn) (o : Nat → Int) : NInv l o [] l 0 where
  le := Nat.zero_le _
  reach f h := .base h
  base f h := h
  closed f h := by cases h
  nodup := List.nodup_nil
  mem f := by simp
  cost := by simpa using wsum_le l

theorem NInv.len {l : List Fn} {o : Nat → Int} {out work : List Fn} {k : Nat} (h : NInv l o out work k) : work.length ≤ 511 * l.length := by
  have h1 := length_le_wsum (work.drop k)
  have h2 := h.cost
  have h3 := h.le
  rw [List.length_drop] at h1
  omega

theorem NInv.out_len {l : List Fn} {o : Nat → Int} {out work : List Fn} {k : Nat} (h : NInv l o out work k) : out.length ≤ k := by
  have h1 := nodup_length_le h.nodup fun f hf => ((h.mem f).1 hf).1
  rw [List.length_take] at h1
  omega

theorem take_one {work : List Fn} {k : Nat} (hk : k < work.length) : work.take (k + 1) = work.take k ++ [work[k]] := List.take_succ_eq_append_getElem hk
theorem drop_one {work : List Fn} {k : Nat} (hk : k < work.length) : wsum (work.drop k) = wt work[k] + wsum (work.drop (k + 1)) := by
  rw [List.drop_eq_getElem_cons hk]; rfl

theorem NInv.seen {l : List Fn} {o : Nat → Int} {out work : List Fn} {k : Nat} (h : NInv l o out work k) (hk : k < work.length) (hs : work[k] ∈ work.take k) : NInv l o out work (k + 1) := by
  have hm : ∀ f, f ∈ work.take (k + 1) ↔ f ∈ work.take k := fun f => by
    rw [take_one hk, List.mem_append, List.mem_singleton]
    exact ⟨fun h => h.elim id (fun e => e ▸ hs), .inl⟩
  have hc := h.cost
  rw [drop_one hk] at hc
  have hw := wt_pos work[k]
  exact ⟨hk, h.reach, h.base, fun f hf => h.closed f ((hm f).1 hf), h.nodup, fun f => (h.mem f).trans (by rw [hm]), by omega⟩

theorem NInv.const {l : List Fn} {o : Nat → Int} {out work : List Fn} {k : Nat} (h : NInv l o out work k) (hk : k < work.length) (hs : supF work[k] = 0) : NInv l o out work (k + 1) := by
  have hm : ∀ f, f ∈ work.take (k + 1) ↔ f ∈ work.take k ∨ f = work[k] := fun f => by
    rw [take_one hk, List.mem_append, List.mem_singleton]
  have hc := h.cost
  rw [drop_one hk] at hc
  have hw := wt_pos work[k]
  refine ⟨hk, h.reach, h.base, fun f hf hf2 => ?_, h.nodup, fun f => ?_, by omega⟩
  · rcases (hm f).1 hf with hf | rfl
    · exact h.closed f hf hf2
    · exact absurd hs hf2
  · rw [h.mem, hm]
    constructor
    · rintro ⟨a, b⟩; exact ⟨.inl a, b⟩
    · rintro ⟨a | rfl, b⟩
      · exact ⟨a, b⟩
      · exact absurd hs b

theorem nodup_snoc {l : List Fn} {f : Fn} (h : l.Nodup) (hf : f ∉ l) : (l ++ [f]).Nodup := by
  rw [List.nodup_append]
  refine ⟨h, List.nodup_cons.2 ⟨by simp, List.nodup_nil⟩, fun a ha b hb => ?_⟩
  rw [List.mem_singleton] at hb
  subst hb
  intro e
  subst e
  exact hf ha

theorem NInv.leaf {l : List Fn} {o : Nat → Int} {out work : List Fn} {k : Nat} (h : NInv l o out work k) (hk : k < work.length) (hn : work[k] ∉ work.take k) (hs : supF work[k] ≠ 0) (ht : ¬ 0 ≤ topF work[k] o) :
    NInv l o (out ++ [work[k]]) work (k + 1) := by
  have hm : ∀ f, f ∈ work.take (k + 1) ↔ f ∈ work.take k ∨ f = work[k] := fun f => by
    rw [take_one hk, List.mem_append, List.mem_singleton]
  have hc := h.cost
  rw [drop_one hk] at hc
  have hw := wt_pos work[k]
  refine ⟨hk, h.reach, h.base, fun f hf hf2 hf3 => ?_, nodup_snoc h.nodup fun hf => hn ((h.mem _).1 hf).1, fun f => ?_, by omega⟩
  · rcases (hm f).1 hf with hf | rfl
    · exact h.closed f hf hf2 hf3
    · exact absurd hf3 ht
  · rw [List.mem_append, List.mem_singleton, h.mem, hm]
    constructor
    · rintro (⟨a, b⟩ | rfl)
      · exact ⟨.inl a, b⟩
      · exact ⟨.inr rfl, hs⟩
    · rintro ⟨a | rfl, b⟩
      · exact .inl ⟨a, b⟩
      · exact .inr rfl

theorem NInv.node {l : List Fn} {o : Nat → Int} {out work : List Fn} {k : Nat} (h : NInv l o out work k) (hk : k < work.length) (hn : work[k] ∉ work.take k) (hs : supF work[k] ≠ 0) (ht : 0 ≤ topF work[k] o) :
    NInv l o (out ++ [work[k]]) (work ++ [cofAny work[k] (topF work[k] o) false, cofAny work[k] (topF work[k] o) true]) (k + 1) := by
  have htk : (work ++ [cofAny work[k] (topF work[k] o) false, cofAny work[k] (topF work[k] o) true]).take (k + 1) = work.take (k + 1) := List.take_append_of_le_length (by omega)
  have hm : ∀ f, f ∈ work.take (k + 1) ↔ f ∈ work.take k ∨ f = work[k] := fun f => by
    rw [take_one hk, List.mem_append, List.mem_singleton]
  have hc := h.cost
  rw [drop_one hk] at hc
  have hw := wt_cof work[k] o false true ht
  have hin : ∀ b, cofAny work[k] (topF work[k] o) b ∈ [cofAny work[k] (topF work[k] o) false, cofAny work[k] (topF work[k] o) true] := fun b => by cases b <;> simp
  refine ⟨by simp; omega, fun f hf => ?_, fun f hf => List.mem_append_left _ (h.base f hf), fun f hf hf2 hf3 b => ?_, nodup_snoc h.nodup fun hf => hn ((h.mem _).1 hf).1, fun f => ?_, ?_⟩
  · rcases List.mem_append.1 hf with hf | hf
    · exact h.reach f hf
    · have hr := h.reach _ (List.getElem_mem hk)
      simp only [List.mem_cons, List.not_mem_nil, or_false] at hf
      rcases hf with rfl | rfl
      · exact .step false hr hs ht
      · exact .step true hr hs ht
  · rw [htk] at hf
    rcases (hm f).1 hf with hf | rfl
    · exact List.mem_append_left _ (h.closed f hf hf2 hf3 b)
    · exact List.mem_append_right _ (hin b)
  · rw [htk, List.mem_append, List.mem_singleton, h.mem, hm]
    constructor
    · rintro (⟨a, b⟩ | rfl)
      · exact ⟨.inl a, b⟩
      · exact ⟨.inr rfl, hs⟩
    · rintro ⟨a | rfl, b⟩
      · exact .inl ⟨a, b⟩
      · exact .inr rfl
  · rw [List.drop_append_of_le_length (by omega), wsum_append]
    simp only [wsum]
    omega

theorem NInv.done {l : List Fn} {o : Nat → Int} {out work : List Fn} {k : Nat} (h : NInv l o out work k) (hk : ¬ k < work.length) : IsSize l o out.length := by
  have htk : work.take k = work := List.take_of_length_le (by omega)
  have hall : ∀ f, Reach l o f → f ∈ work := by
    intro f hf
    induction hf with
    | base h' => exact h.base _ h'
    | step b _ hs ht ih => exact h.closed _ (by rw [htk]; exact ih) hs ht b
  refine ⟨out, h.nodup, fun f => ?_, rfl⟩
  rw [h.mem, htk]
  exact ⟨fun ⟨a, b⟩ => ⟨h.reach f a, b⟩, fun ⟨a, b⟩ => ⟨hall f a, b⟩⟩

end Go.Proofs.YtgccgjeehggagaaDoor
