/-
  Plain mathematics of layer 3: gathering the nodes of functions, one function behind the other, from the top down.
-/
import Derived.Test.YtgccgjeehggagaaDoorMath3f
namespace Go.Proofs.YtgccgjeehggagaaDoor
open Go Go.RowKit

/-- Those of 'S' and f's nodes are gathered in 'S2'. -/
structure Gath (o : Nat → Int) (f : Fn) (S S2 : List Fn) : Prop where
  sub : ∀ g, g ∈ S → g ∈ S2
  self : supF f ≠ 0 → f ∈ S2
  new : ∀ g, g ∈ S2 → g ∈ S ∨ (IsNode [f] o g ∧ ∀ b, 0 ≤ topF g o → supF (cofAny g (topF g o) b) ≠ 0 → cofAny g (topF g o) b ∈ S2)
  nodup : S2.Nodup
  len : S2.length ≤ S.length + wt f

theorem Gath.seen {o : Nat → Int} {f : Fn} {S : List Fn} (hS : S.Nodup) (h : f ∈ S) : Gath o f S S :=
  ⟨fun _ h => h, fun _ => h, fun _ h => .inl h, hS, Nat.le_add_right _ _⟩

theorem Gath.const {o : Nat → Int} {f : Fn} {S : List Fn} (hS : S.Nodup) (h : supF f = 0) : Gath o f S S :=
  ⟨fun _ h => h, fun h' => absurd h h', fun _ h => .inl h, hS, Nat.le_add_right _ _⟩

theorem Gath.leaf {o : Nat → Int} {f : Fn} {S : List Fn} (hS : S.Nodup) (hn : f ∉ S) (hs : supF f ≠ 0) (ht : ¬ 0 ≤ topF f o) : Gath o f S (S ++ [f]) := by
  refine ⟨fun _ h => List.mem_append_left _ h, fun _ => List.mem_append_right _ (List.mem_singleton.2 rfl), fun g hg => ?_, nodup_snoc hS hn, by have := wt_pos f; simp; omega⟩
  rcases List.mem_append.1 hg with hg | hg
  · exact .inl hg
  · rw [List.mem_singleton] at hg
    subst hg
    exact .inr ⟨⟨.base (List.mem_singleton.2 rfl), hs⟩, fun _ h => absurd h ht⟩

theorem Reach.trans {l : List Fn} {o : Nat → Int} {p g : Fn} (hp : Reach l o p) (h : Reach [p] o g) : Reach l o g := by
  induction h with
  | base h => rw [List.mem_singleton] at h; subst h; exact hp
  | step b _ hs ht ih => exact .step b ih hs ht

theorem Gath.node {o : Nat → Int} {f : Fn} {S S1 S2 : List Fn} (hs : supF f ≠ 0) (ht : 0 ≤ topF f o)
    (h1 : Gath o (cofAny f (topF f o) false) (S ++ [f]) S1) (h2 : Gath o (cofAny f (topF f o) true) S1 S2) : Gath o f S S2 := by
  have hf : f ∈ S2 := h2.sub _ (h1.sub _ (List.mem_append_right _ (List.mem_singleton.2 rfl)))
  have hr : ∀ b, Reach [f] o (cofAny f (topF f o) b) := fun b => .step b (.base (List.mem_singleton.2 rfl)) hs ht
  refine ⟨fun g hg => h2.sub _ (h1.sub _ (List.mem_append_left _ hg)), fun _ => hf, fun g hg => ?_, h2.nodup, ?_⟩
  · rcases h2.new g hg with hg | ⟨hn, hc⟩
    · rcases h1.new g hg with hg | ⟨hn, hc⟩
      · rcases List.mem_append.1 hg with hg | hg
        · exact .inl hg
        · rw [List.mem_singleton] at hg
          subst hg
          refine .inr ⟨⟨.base (List.mem_singleton.2 rfl), hs⟩, fun b _ hb => ?_⟩
          cases b
          · exact h2.sub _ (h1.self hb)
          · exact h2.self hb
      · exact .inr ⟨⟨(hr false).trans hn.1, hn.2⟩, fun b a1 a2 => h2.sub _ (hc b a1 a2)⟩
    · exact .inr ⟨⟨(hr true).trans hn.1, hn.2⟩, hc⟩
  · have a1 := h1.len
    have a2 := h2.len
    have a3 := wt_cof f o false true ht
    rw [List.length_append, List.length_singleton] at a1
    omega

/-- Behind i functions. -/
structure SInv (l : List Fn) (o : Nat → Int) (i : Nat) (S : List Fn) : Prop where
  nodup : S.Nodup
  node : ∀ g, g ∈ S → IsNode l o g
  has : ∀ g, g ∈ l.take i → supF g ≠ 0 → g ∈ S
  closed : ∀ g, g ∈ S → ∀ b, 0 ≤ topF g o → supF (cofAny g (topF g o) b) ≠ 0 → cofAny g (topF g o) b ∈ S
  len : S.length ≤ 511 * i

theorem SInv.start (l : List Fn) (o : Nat → Int) : SInv l o 0 [] :=
  ⟨List.nodup_nil, fun _ h => (by cases h), fun _ h => (by simp at h), fun _ h => (by cases h), Nat.le_refl _⟩

theorem SInv.step {l : List Fn} {o : Nat → Int} {i : Nat} {S S2 : List Fn} (h : SInv l o i S) (hi : i < l.length) (g : Gath o l[i] S S2) : SInv l o (i + 1) S2 := by
  refine ⟨g.nodup, fun x hx => ?_, fun x hx hs => ?_, fun x hx b a1 a2 => ?_, ?_⟩
  · rcases g.new x hx with hx | ⟨hn, _⟩
    · exact h.node x hx
    · exact ⟨hn.1.mono fun y hy => by rw [List.mem_singleton] at hy; subst hy; exact List.getElem_mem hi, hn.2⟩
  · rw [take_one hi, List.mem_append, List.mem_singleton] at hx
    rcases hx with hx | rfl
    · exact g.sub _ (h.has x hx hs)
    · exact g.self hs
  · rcases g.new x hx with hx | ⟨_, hc⟩
    · exact g.sub _ (h.closed x hx b a1 a2)
    · exact hc b a1 a2
  · have := g.len
    have := h.len
    have := wt_le l[i]
    omega

theorem SInv.done {l : List Fn} {o : Nat → Int} {S : List Fn} (h : SInv l o l.length S) : sizeF l o = S.length := by
  refine sizeF_eq ⟨S, h.nodup, fun g => ⟨h.node g, fun ⟨hr, hs⟩ => ?_⟩, rfl⟩
  have key : ∀ x, Reach l o x → supF x ≠ 0 → x ∈ S := by
    intro x hx
    induction hx with
    | base hb => exact fun hs => h.has _ (by rw [List.take_length]; exact hb) hs
    | step b _ hs ht ih => exact fun hs' => h.closed _ (ih hs) b ht hs'
  exact key g hr hs

/-- A function stays as it is with a variable set just if it doesn't depend on it. -/
theorem top_test (f : Fn) (v : Int) : (cofAny f v false == f) = !depAny f v := by
  cases hd : depAny f v
  · rw [cof_indep hd]; simp
  · rw [Bool.not_true, beq_eq_false_iff_ne]
    intro e
    have hr := depAny_range hd
    have hm : v.toNat < 8 := by omega
    have h := dep_cofF f v.toNat false hm
    rw [cofAny, if_pos hr] at e
    rw [depAny, if_pos hr, ← e, h] at hd
    cases hd

end Go.Proofs.YtgccgjeehggagaaDoor
