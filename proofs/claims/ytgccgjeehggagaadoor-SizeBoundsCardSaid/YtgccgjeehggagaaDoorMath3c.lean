/-
  Plain mathematics of layer 3: how many nodes there are is a number; what follows of it.
-/
import Derived.Test.YtgccgjeehggagaaDoorMath3b
namespace Go.Proofs.YtgccgjeehggagaaDoor
open Go Go.RowKit

theorem NInv.next {l : List Fn} {o : Nat → Int} {out work : List Fn} {k : Nat} (h : NInv l o out work k) (hk : k < work.length) : ∃ out' work', NInv l o out' work' (k + 1) := by
  by_cases hin : work[k] ∈ work.take k
  · exact ⟨_, _, h.seen hk hin⟩
  · by_cases hs : supF work[k] = 0
    · exact ⟨_, _, h.const hk hs⟩
    · by_cases ht : 0 ≤ topF work[k] o
      · exact ⟨_, _, h.node hk hin hs ht⟩
      · exact ⟨_, _, h.leaf hk hin hs ht⟩

theorem exists_size (l : List Fn) (o : Nat → Int) : ∃ n, IsSize l o n := by
  have key : ∀ d k out work, 511 * l.length - k ≤ d → NInv l o out work k → ∃ n, IsSize l o n := by
    intro d
    induction d with
    | zero =>
      intro k out work hd h
      exact ⟨_, h.done (by have := h.len; omega)⟩
    | succ d ih =>
      intro k out work hd h
      by_cases hk : k < work.length
      · obtain ⟨out', work', h'⟩ := h.next hk
        exact ih (k + 1) out' work' (by omega) h'
      · exact ⟨_, h.done hk⟩
  exact key _ 0 [] l (Nat.le_refl _) (NInv.start l o)

/-- How many nodes there are. -/
noncomputable def sizeF (l : List Fn) (o : Nat → Int) : Nat := (exists_size l o).choose
theorem sizeF_is (l : List Fn) (o : Nat → Int) : IsSize l o (sizeF l o) := (exists_size l o).choose_spec
theorem sizeF_eq {l : List Fn} {o : Nat → Int} {n : Nat} (h : IsSize l o n) : sizeF l o = n := (sizeF_is l o).unique h

theorem Reach.mono {l k : List Fn} {o : Nat → Int} (h : ∀ f, f ∈ l → f ∈ k) {f : Fn} (hf : Reach l o f) : Reach k o f := by
  induction hf with
  | base h' => exact .base (h _ h')
  | step b _ hs ht ih => exact .step b ih hs ht

theorem Reach.append {l k : List Fn} {o : Nat → Int} {f : Fn} (hf : Reach (l ++ k) o f) : Reach l o f ∨ Reach k o f := by
  induction hf with
  | base h' => exact (List.mem_append.1 h').imp .base .base
  | step b _ hs ht ih => exact ih.imp (fun h => .step b h hs ht) (fun h => .step b h hs ht)

/-- The same functions need the same nodes. -/
theorem size_same {l k : List Fn} {o : Nat → Int} (h : ∀ f, f ∈ l ↔ f ∈ k) : sizeF l o = sizeF k o := by
  obtain ⟨a, ha, hm, hl⟩ := sizeF_is l o
  refine (sizeF_eq ⟨a, ha, fun f => (hm f).trans ⟨fun ⟨p, q⟩ => ⟨p.mono fun f => (h f).1, q⟩, fun ⟨p, q⟩ => ⟨p.mono fun f => (h f).2, q⟩⟩, hl⟩).symm

/-- More functions need no fewer nodes. -/
theorem size_le {l k : List Fn} {o : Nat → Int} (h : ∀ f, f ∈ l → f ∈ k) : sizeF l o ≤ sizeF k o := by
  obtain ⟨a, ha, hma, hla⟩ := sizeF_is l o
  obtain ⟨b, hb, hmb, hlb⟩ := sizeF_is k o
  rw [← hla, ← hlb]
  exact nodup_length_le ha fun f hf => (hmb f).2 ⟨((hma f).1 hf).1.mono h, ((hma f).1 hf).2⟩

/-- No more than both parts. -/
theorem size_add (l k : List Fn) (o : Nat → Int) : sizeF (l ++ k) o ≤ sizeF l o + sizeF k o := by
  obtain ⟨a, ha, hma, hla⟩ := sizeF_is l o
  obtain ⟨b, hb, hmb, hlb⟩ := sizeF_is k o
  obtain ⟨c, hc, hmc, hlc⟩ := sizeF_is (l ++ k) o
  rw [← hla, ← hlb, ← hlc, ← List.length_append]
  refine nodup_length_le hc fun f hf => ?_
  obtain ⟨h1, h2⟩ := (hmc f).1 hf
  rcases h1.append with h | h
  · exact List.mem_append_left _ ((hma f).2 ⟨h, h2⟩)
  · exact List.mem_append_right _ ((hmb f).2 ⟨h, h2⟩)

end Go.Proofs.YtgccgjeehggagaaDoor
