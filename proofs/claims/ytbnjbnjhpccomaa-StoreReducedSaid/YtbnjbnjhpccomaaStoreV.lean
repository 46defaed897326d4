/-
  Mathematics of a store of nodes: how deep a node stands, what it is in a row. Nothing of the program is read here.
-/
import Derived.Test.YtbnjbnjhpccomaaStoreM
namespace Go.Proofs.Ytbnjbnjhpccomaa

section
variable {s : MS}

/-- A constant, or a node that is there. -/
def MS.there (s : MS) (n : Int) : Bool := n == 0 || n == 1 || s.has n
theorem MS.behind_there {n v : Int} (h : s.behind n v = true) : s.there n = true := by
  rcases MS.behind_cases h with (rfl | rfl) | ⟨h, _⟩ <;> simp [MS.there, *]
theorem MS.there_cases {n : Int} (h : s.there n = true) : ((n = 0 ∨ n = 1) ∧ s.has n = false) ∨ s.has n = true := by
  simp only [MS.there, Bool.or_eq_true, beq_iff_eq] at h
  rcases h with (rfl | rfl) | h
  · exact .inl ⟨.inl rfl, rfl⟩
  · exact .inl ⟨.inr rfl, rfl⟩
  · exact .inr h
theorem MS.node_has {n : Int} (h : s.has n = true) : s.node n = some (s.nd n) := by simp [MS.node, h]
theorem MS.node_not {n : Int} (h : s.has n = false) : s.node n = none := by simp [MS.node, h]

/-- How many levels there are from a node's on. -/
def MS.dep (s : MS) (n : Int) : Nat := if s.has n then (8 - levO s.o (s.nd n).var).toNat else 0
/-- What a number is where b tells each variable, told by so many steps. -/
def MS.valF (s : MS) (b : Int → Bool) : Nat → Int → Bool
  | 0, n => n == 1
  | k + 1, n => match s.node n with
    | none => n == 1
    | some x => s.valF b k (if b x.var then x.hi else x.lo)
/-- What a number is where b tells each variable. -/
def MS.val (s : MS) (b : Int → Bool) (n : Int) : Bool := s.valF b 8 n

theorem MS.Ok.lev (h : s.Ok) {n : Int} (hn : s.has n = true) : 0 ≤ levO s.o (s.nd n).var ∧ levO s.o (s.nd n).var ≤ 7 := by
  have hv := h.var n hn
  have hr := levO_range s.o (s.nd n).var
  obtain ⟨v, hv'⟩ := Int.eq_ofNat_of_zero_le hv.1
  have := levO_nonneg.2 (mayO_iff.1 h.order v (by omega))
  rw [hv'] at hr ⊢
  exact ⟨this, hr.2⟩
theorem MS.Ok.dep_le (h : s.Ok) (n : Int) : s.dep n ≤ 8 := by
  unfold MS.dep
  split
  · rename_i hn; have := h.lev hn; omega
  · omega
theorem MS.Ok.dep_pos (h : s.Ok) {n : Int} (hn : s.has n = true) : 0 < s.dep n := by
  have := h.lev hn
  simp only [MS.dep, hn, if_true]; omega
theorem MS.Ok.dep_behind (h : s.Ok) {n m : Int} (hn : s.has n = true) (hb : s.behind m (s.nd n).var = true) : s.dep m < s.dep n := by
  have h1 := h.lev hn
  rcases MS.behind_cases hb with hc | ⟨hm, hl⟩
  · have : s.has m = false := by rcases hc with rfl | rfl <;> rfl
    simp only [MS.dep, hn, this, if_true]; simp; omega
  · have h2 := h.lev hm
    simp only [MS.dep, hn, hm, if_true]; omega
theorem MS.Ok.valF_more (h : s.Ok) (b : Int → Bool) : ∀ k n, s.dep n ≤ k → s.valF b (k + 1) n = s.valF b k n := by
  intro k
  induction k with
  | zero =>
    intro n hd
    cases hn : s.has n
    · simp [MS.valF, MS.node_not hn]
    · have := h.dep_pos hn; omega
  | succ k ih =>
    intro n hd
    cases hn : s.has n
    · simp [MS.valF, MS.node_not hn]
    · have h1 := h.dep_behind hn (h.lo n hn)
      have h2 := h.dep_behind hn (h.hi n hn)
      rw [MS.valF, MS.valF, MS.node_has hn]
      dsimp only
      split
      · exact ih _ (by omega)
      · exact ih _ (by omega)
theorem MS.Ok.valF_enough (h : s.Ok) (b : Int → Bool) {n : Int} {k : Nat} (hk : s.dep n ≤ k) : ∀ d, s.valF b (k + d) n = s.valF b k n := by
  intro d
  induction d with
  | zero => rfl
  | succ d ih => rw [← ih, ← Nat.add_assoc]; exact h.valF_more b _ _ (by omega)
theorem MS.Ok.valF_val (h : s.Ok) (b : Int → Bool) {n : Int} {k : Nat} (hk : s.dep n ≤ k) : s.valF b k n = s.val b n := by
  unfold MS.val
  have h8 := h.dep_le n
  rcases Nat.le_total k 8 with hle | hle
  · have := h.valF_enough b hk (8 - k)
    rw [show k + (8 - k) = 8 by omega] at this
    exact this.symm
  · have := h.valF_enough b h8 (k - 8)
    rw [show 8 + (k - 8) = k by omega] at this
    exact this
/-- Of a node: its Hi's, or its Lo's. -/
theorem MS.Ok.val_node (h : s.Ok) (b : Int → Bool) {n : Int} (hn : s.has n = true) : s.val b n = s.val b (if b (s.nd n).var then (s.nd n).hi else (s.nd n).lo) := by
  have h1 := h.dep_behind hn (h.lo n hn)
  have h2 := h.dep_behind hn (h.hi n hn)
  have h8 := h.dep_le n
  have : s.val b n = s.valF b 7 (if b (s.nd n).var then (s.nd n).hi else (s.nd n).lo) := by
    unfold MS.val
    rw [MS.valF, MS.node_has hn]
  rw [this]
  exact h.valF_val b (by split <;> omega)
theorem MS.val_const (b : Int → Bool) {n : Int} (hn : s.has n = false) : s.val b n = (n == 1) := by
  unfold MS.val
  rw [MS.valF, MS.node_not hn]
end

end Go.Proofs.Ytbnjbnjhpccomaa
