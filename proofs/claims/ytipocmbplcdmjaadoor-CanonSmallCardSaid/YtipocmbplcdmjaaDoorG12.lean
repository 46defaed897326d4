/-
  Texts of this proof, one behind the other: Math3b, Math3c, Math3e, Math3f, ReadM.
-/
import Derived.Test.YtipocmbplcdmjaaDoorG11
import Derived.Test.YtipocmbplcdmjaaDoorG2
/-
  Plain mathematics of layer 3: what a list of functions still to be looked at, those that were, and the nodes among them are to each other, step by step.
-/
namespace Go.Proofs.YtipocmbplcdmjaaDoor
open Go Go.RowKit

/-- How many steps a function can cost at most. -/
def wt (f : Fn) : Nat := 2 ^ (supN f + 1) - 1

def wsum : List Fn → Nat
  | [] => 0
  | f :: l => wt f + wsum l

theorem wsum_append (l k : List Fn) : wsum (l ++ k) = wsum l + wsum k := by
  induction l with
  | nil => simp [wsum]
  | cons f l ih => simp only [List.cons_append, wsum, ih]; omega

theorem supN_le (f : Fn) : supN f ≤ 8 := by
  have := List.countP_le_length (p := depF f) (l := List.range 8)
  simpa [supN] using this

theorem wt_pos (f : Fn) : 1 ≤ wt f := by
  unfold wt
  have : 2 ^ 1 ≤ 2 ^ (supN f + 1) := Nat.pow_le_pow_right (by decide) (by omega)
  omega

theorem wt_le (f : Fn) : wt f ≤ 511 := by
  unfold wt
  have : 2 ^ (supN f + 1) ≤ 2 ^ 9 := Nat.pow_le_pow_right (by decide) (by have := supN_le f; omega)
  omega

theorem wsum_le (l : List Fn) : wsum l ≤ 511 * l.length := by
  induction l with
  | nil => simp [wsum]
  | cons f l ih => simp only [wsum, List.length_cons]; have := wt_le f; omega

theorem length_le_wsum (l : List Fn) : l.length ≤ wsum l := by
  induction l with
  | nil => simp [wsum]
  | cons f l ih => simp only [wsum, List.length_cons]; have := wt_pos f; omega

theorem wt_cof (f : Fn) (o : Nat → Int) (b c : Bool) (h : 0 ≤ topF f o) : wt (cofAny f (topF f o) b) + wt (cofAny f (topF f o) c) + 1 ≤ wt f := by
  have hb := supN_cof f o b h
  have hc := supN_cof f o c h
  unfold wt
  have h1 : 2 ^ (supN (cofAny f (topF f o) b) + 1) ≤ 2 ^ supN f := Nat.pow_le_pow_right (by decide) hb
  have h2 : 2 ^ (supN (cofAny f (topF f o) c) + 1) ≤ 2 ^ supN f := Nat.pow_le_pow_right (by decide) hc
  have h3 : 2 ^ 1 ≤ 2 ^ (supN (cofAny f (topF f o) b) + 1) := Nat.pow_le_pow_right (by decide) (by omega)
  have h4 : 2 ^ 1 ≤ 2 ^ (supN (cofAny f (topF f o) c) + 1) := Nat.pow_le_pow_right (by decide) (by omega)
  have h5 : 2 ^ (supN f + 1) = 2 * 2 ^ supN f := by rw [Nat.pow_succ, Nat.mul_comm]
  omega

/-- Behind k of the functions of 'work' have been looked at, 'out' are the nodes among them. -/
structure NInv (l : List Fn) (o : Nat → Int) (out work : List Fn) (k : Nat) : Prop where
  le : k ≤ work.length
  reach : ∀ f, f ∈ work → Reach l o f
  base : ∀ f, f ∈ l → f ∈ work
  closed : ∀ f, f ∈ work.take k → supF f ≠ 0 → 0 ≤ topF f o → ∀ b, cofAny f (topF f o) b ∈ work
  nodup : out.Nodup
  mem : ∀ f, f ∈ out ↔ f ∈ work.take k ∧ supF f ≠ 0
  cost : k + wsum (work.drop k) ≤ 511 * l.length

theorem NInv.start (l : List Fn) (o : Nat → Int) : NInv l o [] l 0 where
  le := Nat.zero_le _
  reach f h := .base h
  base f h := h
  closed f h := by cases h
  nodup := List.nodup_nil
  mem f := by simp
  cost := by simpa using wsum_le l

theorem NInv.len {l : List Fn} {o : Nat → Int} {out work : List Fn} {k : Nat} (h : NInv l o out work k) : work.length ≤ 511 * l.length := by
  have h1 := length_le_wsum (work.drop k)
  have h2 := h.cost
  have h3 := h.le
  rw [List.length_drop] at h1
  omega

theorem NInv.out_len {l : List Fn} {o : Nat → Int} {out work : List Fn} {k : Nat} (h : NInv l o out work k) : out.length ≤ k := by
  have h1 := nodup_length_le h.nodup fun f hf => ((h.mem f).1 hf).1
  rw [List.length_take] at h1
  omega

theorem take_one {work : List Fn} {k : Nat} (hk : k < work.length) : work.take (k + 1) = work.take k ++ [work[k]] := List.take_succ_eq_append_getElem hk
theorem drop_one {work : List Fn} {k : Nat} (hk : k < work.length) : wsum (work.drop k) = wt work[k] + wsum (work.drop (k + 1)) := by
  rw [List.drop_eq_getElem_cons hk]; rfl

theorem NInv.seen {l : List Fn} {o : Nat → Int} {out work : List Fn} {k : Nat} (h : NInv l o out work k) (hk : k < work.length) (hs : work[k] ∈ work.take k) : NInv l o out work (k + 1) := by
  have hm : ∀ f, f ∈ work.take (k + 1) ↔ f ∈ work.take k := fun f => by
    rw [take_one hk, List.mem_append, List.mem_singleton]
    exact ⟨fun h => h.elim id (fun e => e ▸ hs), .inl⟩
  have hc := h.cost
  rw [drop_one hk] at hc
  have hw := wt_pos work[k]
  exact ⟨hk, h.reach, h.base, fun f hf => h.closed f ((hm f).1 hf), h.nodup, fun f => (h.mem f).trans (by rw [hm]), by omega⟩

theorem NInv.const {l : List Fn} {o : Nat → Int} {out work : List Fn} {k : Nat} (h : NInv l o out work k) (hk : k < work.length) (hs : supF work[k] = 0) : NInv l o out work (k + 1) := by
  have hm : ∀ f, f ∈ work.take (k + 1) ↔ f ∈ work.take k ∨ f = work[k] := fun f => by
    rw [take_one hk, List.mem_append, List.mem_singleton]
  have hc := h.cost
  rw [drop_one hk] at hc
  have hw := wt_pos work[k]
  refine ⟨hk, h.reach, h.base, fun f hf hf2 => ?_, h.nodup, fun f => ?_, by omega⟩
  · rcases (hm f).1 hf with hf | rfl
    · exact h.closed f hf hf2
    · exact absurd hs hf2
  · rw [h.mem, hm]
    constructor
    · rintro ⟨a, b⟩; exact ⟨.inl a, b⟩
    · rintro ⟨a | rfl, b⟩
      · exact ⟨a, b⟩
      · exact absurd hs b

theorem nodup_snoc {l : List Fn} {f : Fn} (h : l.Nodup) (hf : f ∉ l) : (l ++ [f]).Nodup := by
  rw [List.nodup_append]
  refine ⟨h, List.nodup_cons.2 ⟨by simp, List.nodup_nil⟩, fun a ha b hb => ?_⟩
  rw [List.mem_singleton] at hb
  subst hb
  intro e
  subst e
  exact hf ha

theorem NInv.leaf {l : List Fn} {o : Nat → Int} {out work : List Fn} {k : Nat} (h : NInv l o out work k) (hk : k < work.length) (hn : work[k] ∉ work.take k) (hs : supF work[k] ≠ 0) (ht : ¬ 0 ≤ topF work[k] o) :
    NInv l o (out ++ [work[k]]) work (k + 1) := by
  have hm : ∀ f, f ∈ work.take (k + 1) ↔ f ∈ work.take k ∨ f = work[k] := fun f => by
    rw [take_one hk, List.mem_append, List.mem_singleton]
  have hc := h.cost
  rw [drop_one hk] at hc
  have hw := wt_pos work[k]
  refine ⟨hk, h.reach, h.base, fun f hf hf2 hf3 => ?_, nodup_snoc h.nodup fun hf => hn ((h.mem _).1 hf).1, fun f => ?_, by omega⟩
  · rcases (hm f).1 hf with hf | rfl
    · exact h.closed f hf hf2 hf3
    · exact absurd hf3 ht
  · rw [List.mem_append, List.mem_singleton, h.mem, hm]
    constructor
    · rintro (⟨a, b⟩ | rfl)
      · exact ⟨.inl a, b⟩
      · exact ⟨.inr rfl, hs⟩
    · rintro ⟨a | rfl, b⟩
      · exact .inl ⟨a, b⟩
      · exact .inr rfl

theorem NInv.node {l : List Fn} {o : Nat → Int} {out work : List Fn} {k : Nat} (h : NInv l o out work k) (hk : k < work.length) (hn : work[k] ∉ work.take k) (hs : supF work[k] ≠ 0) (ht : 0 ≤ topF work[k] o) :
    NInv l o (out ++ [work[k]]) (work ++ [cofAny work[k] (topF work[k] o) false, cofAny work[k] (topF work[k] o) true]) (k + 1) := by
  have htk : (work ++ [cofAny work[k] (topF work[k] o) false, cofAny work[k] (topF work[k] o) true]).take (k + 1) = work.take (k + 1) := List.take_append_of_le_length (by omega)
  have hm : ∀ f, f ∈ work.take (k + 1) ↔ f ∈ work.take k ∨ f = work[k] := fun f => by
    rw [take_one hk, List.mem_append, List.mem_singleton]
  have hc := h.cost
  rw [drop_one hk] at hc
  have hw := wt_cof work[k] o false true ht
  have hin : ∀ b, cofAny work[k] (topF work[k] o) b ∈ [cofAny work[k] (topF work[k] o) false, cofAny work[k] (topF work[k] o) true] := fun b => by cases b <;> simp
  refine ⟨by simp; omega, fun f hf => ?_, fun f hf => List.mem_append_left _ (h.base f hf), fun f hf hf2 hf3 b => ?_, nodup_snoc h.nodup fun hf => hn ((h.mem _).1 hf).1, fun f => ?_, ?_⟩
  · rcases List.mem_append.1 hf with hf | hf
    · exact h.reach f hf
    · have hr := h.reach _ (List.getElem_mem hk)
      simp only [List.mem_cons, List.not_mem_nil, or_false] at hf
      rcases hf with rfl | rfl
      · exact .step false hr hs ht
      · exact .step true hr hs ht
  · rw [htk] at hf
    rcases (hm f).1 hf with hf | rfl
    · exact List.mem_append_left _ (h.closed f hf hf2 hf3 b)
    · exact List.mem_append_right _ (hin b)
  · rw [htk, List.mem_append, List.mem_singleton, h.mem, hm]
    constructor
    · rintro (⟨a, b⟩ | rfl)
      · exact ⟨.inl a, b⟩
      · exact ⟨.inr rfl, hs⟩
    · rintro ⟨a | rfl, b⟩
      · exact .inl ⟨a, b⟩
      · exact .inr rfl
  · rw [List.drop_append_of_le_length (by omega), wsum_append]
    simp only [wsum]
    omega

theorem NInv.done {l : List Fn} {o : Nat → Int} {out work : List Fn} {k : Nat} (h : NInv l o out work k) (hk : ¬ k < work.length) : IsSize l o out.length := by
  have htk : work.take k = work := List.take_of_length_le (by omega)
  have hall : ∀ f, Reach l o f → f ∈ work := by
    intro f hf
    induction hf with
    | base h' => exact h.base _ h'
    | step b _ hs ht ih => exact h.closed _ (by rw [htk]; exact ih) hs ht b
  refine ⟨out, h.nodup, fun f => ?_, rfl⟩
  rw [h.mem, htk]
  exact ⟨fun ⟨a, b⟩ => ⟨h.reach f a, b⟩, fun ⟨a, b⟩ => ⟨hall f a, b⟩⟩

end Go.Proofs.YtipocmbplcdmjaaDoor

/-
  Plain mathematics of layer 3: how many nodes there are is a number; what follows of it.
-/
namespace Go.Proofs.YtipocmbplcdmjaaDoor
open Go Go.RowKit

theorem NInv.next {l : List Fn} {o : Nat → Int} {out work : List Fn} {k : Nat} (h : NInv l o out work k) (hk : k < work.length) : ∃ out' work', NInv l o out' work' (k + 1) := by
  by_cases hin : work[k] ∈ work.take k
  · exact ⟨_, _, h.seen hk hin⟩
  · by_cases hs : supF work[k] = 0
    · exact ⟨_, _, h.const hk hs⟩
    · by_cases ht : 0 ≤ topF work[k] o
      · exact ⟨_, _, h.node hk hin hs ht⟩
      · exact ⟨_, _, h.leaf hk hin hs ht⟩

theorem exists_size (l : List Fn) (o : Nat → Int) : ∃ n, IsSize l o n := by
  have key : ∀ d k out work, 511 * l.length - k ≤ d → NInv l o out work k → ∃ n, IsSize l o n := by
    intro d
    induction d with
    | zero =>
      intro k out work hd h
      exact ⟨_, h.done (by have := h.len; omega)⟩
    | succ d ih =>
      intro k out work hd h
      by_cases hk : k < work.length
      · obtain ⟨out', work', h'⟩ := h.next hk
        exact ih (k + 1) out' work' (by omega) h'
      · exact ⟨_, h.done hk⟩
  exact key _ 0 [] l (Nat.le_refl _) (NInv.start l o)

/-- How many nodes there are. -/
noncomputable def sizeF (l : List Fn) (o : Nat → Int) : Nat := (exists_size l o).choose
theorem sizeF_is (l : List Fn) (o : Nat → Int) : IsSize l o (sizeF l o) := (exists_size l o).choose_spec
theorem sizeF_eq {l : List Fn} {o : Nat → Int} {n : Nat} (h : IsSize l o n) : sizeF l o = n := (sizeF_is l o).unique h

theorem Reach.mono {l k : List Fn} {o : Nat → Int} (h : ∀ f, f ∈ l → f ∈ k) {f : Fn} (hf : Reach l o f) : Reach k o f := by
  induction hf with
  | base h' => exact .base (h _ h')
  | step b _ hs ht ih => exact .step b ih hs ht

theorem Reach.append {l k : List Fn} {o : Nat → Int} {f : Fn} (hf : Reach (l ++ k) o f) : Reach l o f ∨ Reach k o f := by
  induction hf with
  | base h' => exact (List.mem_append.1 h').imp .base .base
  | step b _ hs ht ih => exact ih.imp (fun h => .step b h hs ht) (fun h => .step b h hs ht)

/-- No more than both parts. -/
theorem size_add (l k : List Fn) (o : Nat → Int) : sizeF (l ++ k) o ≤ sizeF l o + sizeF k o := by
  obtain ⟨a, ha, hma, hla⟩ := sizeF_is l o
  obtain ⟨b, hb, hmb, hlb⟩ := sizeF_is k o
  obtain ⟨c, hc, hmc, hlc⟩ := sizeF_is (l ++ k) o
  rw [← hla, ← hlb, ← hlc, ← List.length_append]
  refine nodup_length_le hc fun f hf => ?_
  obtain ⟨h1, h2⟩ := (hmc f).1 hf
  rcases h1.append with h | h
  · exact List.mem_append_left _ ((hma f).2 ⟨h, h2⟩)
  · exact List.mem_append_right _ ((hmb f).2 ⟨h, h2⟩)

end Go.Proofs.YtipocmbplcdmjaaDoor

/-
  Plain mathematics of layer 3's own law: Not, the sides of a top, constants; 77 nodes.
-/
namespace Go.Proofs.YtipocmbplcdmjaaDoor
open Go Go.RowKit

/-! ### Not -/
theorem up_lt {x m : Nat} (hx : x < 256) (hm : m < 8) (h0 : x / 2 ^ m % 2 = 0) : x + 2 ^ m < 256 := by
  rcases pow8 hm with e | e | e | e | e | e | e | e <;> rw [e] at h0 ⊢ <;> omega

theorem nodup_map {α β : Type} {l : List α} {p : α → β} (hl : l.Nodup) (h : ∀ a ∈ l, ∀ b ∈ l, p a = p b → a = b) : (l.map p).Nodup := by
  induction l with
  | nil => exact List.nodup_nil
  | cons a l ih =>
    have hn := List.nodup_cons.1 hl
    rw [List.map_cons, List.nodup_cons]
    refine ⟨fun hm => ?_, ih hn.2 fun x hx y hy => h x (List.mem_cons_of_mem _ hx) y (List.mem_cons_of_mem _ hy)⟩
    obtain ⟨b, hb, e⟩ := List.mem_map.1 hm
    have := h b (List.mem_cons_of_mem _ hb) a (List.mem_cons_self ..) e
    subst this
    exact hn.1 hb

/-! ### The sides of a top -/
theorem sup_of_dep {f : Fn} {v : Int} (h : depAny f v = true) : supF f ≠ 0 := by
  have hr := depAny_range h
  intro e
  unfold depAny at h
  rw [if_pos hr, (supF_zero f).1 e v.toNat (by omega)] at h
  cases h

theorem dep_cofAny (f : Fn) (v u : Int) (b : Bool) (h : depAny f u = false) : depAny (cofAny f v b) u = false := by
  unfold depAny cofAny at *
  by_cases hu : 0 ≤ u ∧ u < 8
  · rw [if_pos hu] at h ⊢
    by_cases hv : 0 ≤ v ∧ v < 8
    · rw [if_pos hv]; exact dep_cof_other f _ _ b (by omega) (by omega) h
    · rw [if_neg hv]; exact h
  · rw [if_neg hu]

/-! ### Constants -/

/-- All variables but a and b set to 0. -/
def projR (a b : Nat) (x : Nat) : Nat := (List.range 8).foldl (fun y v => if v = a ∨ v = b then y else rowF y v false) x
def ptR (a b : Nat) (p q : Bool) : Nat := (if p then 2 ^ a else 0) + (if q ∧ b ≠ a then 2 ^ b else 0)

theorem projR_eq (a b x : Nat) (ha : a < 8) (hb : b < 8) (hx : x < 256) : projR a b x = ptR a b (x.testBit a) (x.testBit b) := by
  have H : ∀ a : Fin 8, ∀ b : Fin 8, ∀ x : Fin 256, projR a b x = ptR a b ((x : Nat).testBit a) ((x : Nat).testBit b) := by decide +kernel
  exact H ⟨a, ha⟩ ⟨b, hb⟩ ⟨x, hx⟩

theorem indep_row (g : Fn) (v x : Nat) (hv : v < 8) (hx : x < 256) (h : depF g v = false) : g.getLsbD (rowF x v false) = g.getLsbD x := by
  have h1 : ∀ y, y < 256 → y / 2 ^ v % 2 = 0 → g.getLsbD y = g.getLsbD (y + 2 ^ v) := fun y hy h0 => by
    have hs : shows g v y = false := by
      cases hs : shows g v y
      · rfl
      · rw [depF_true hy hs] at h; cases h
    unfold shows at hs
    rw [decide_eq_true h0, Bool.true_and] at hs
    simpa using hs
  by_cases hb : x / 2 ^ v % 2 = 1
  · have e : rowF x v false = x - 2 ^ v := by unfold rowF; rw [if_pos hb]; simp
    have hle : 2 ^ v ≤ x ∧ (x - 2 ^ v) / 2 ^ v % 2 = 0 := by rcases pow8 hv with e | e | e | e | e | e | e | e <;> rw [e] at hb ⊢ <;> omega
    rw [e, h1 (x - 2 ^ v) (Nat.lt_of_le_of_lt (Nat.sub_le _ _) hx) hle.2, Nat.sub_add_cancel hle.1]
  · have e : rowF x v false = x := by unfold rowF; rw [if_neg hb]; simp
    rw [e]

theorem proj_bit (g : Fn) (a b x : Nat) (hx : x < 256) (h : ∀ v, v < 8 → v ≠ a → v ≠ b → depF g v = false) : g.getLsbD x = g.getLsbD (projR a b x) := by
  have key : ∀ (l : List Nat) (y : Nat), (∀ v ∈ l, v < 8) → y < 256 → g.getLsbD y = g.getLsbD (l.foldl (fun y v => if v = a ∨ v = b then y else rowF y v false) y) := by
    intro l
    induction l with
    | nil => intro y _ _; rfl
    | cons v l ih =>
      intro y hl hy
      rw [List.foldl_cons]
      have hv := hl v (List.mem_cons_self ..)
      by_cases hc : v = a ∨ v = b
      · rw [if_pos hc]; exact ih y (fun u hu => hl u (List.mem_cons_of_mem _ hu)) hy
      · rw [if_neg hc, ← ih (rowF y v false) (fun u hu => hl u (List.mem_cons_of_mem _ hu)) (rowF_lt _ _ _ hy hv), indep_row g v y hv hy (h v hv (fun e => hc (.inl e)) (fun e => hc (.inr e)))]
  exact key (List.range 8) x (fun v hv => List.mem_range.1 hv) hx

theorem bit_at (g : Fn) (a b x : Nat) (ha : a < 8) (hb : b < 8) (hx : x < 256) (h : ∀ v, v < 8 → v ≠ a → v ≠ b → depF g v = false) : g.getLsbD x = g.getLsbD (ptR a b (x.testBit a) (x.testBit b)) := by
  rw [proj_bit g a b x hx h, projR_eq a b x ha hb hx]

/-- A function that depends on nothing is a constant. -/
theorem const_of_sup (f : Fn) (h : supF f = 0) : f = BitVec.allOnes 256 ∨ f = 0#256 := by
  have hd := (supF_zero f).1 h
  have key : ∀ x, x < 256 → f.getLsbD x = f.getLsbD 0 := fun x hx => by
    rw [bit_at f 0 0 x (by decide) (by decide) hx (fun v hv _ _ => hd v hv)]
    cases x.testBit 0
    · rfl
    · have := indep_row f 0 1 (by decide) (by decide) (hd 0 (by decide))
      exact this.symm
  cases h0 : f.getLsbD 0
  · right
    exact fn_ext fun x hx => by rw [key x hx, h0, BitVec.getLsbD_zero]
  · left
    exact fn_ext fun x hx => by rw [key x hx, h0, BitVec.getLsbD_allOnes, decide_eq_true hx]

theorem sup_const : supF (BitVec.allOnes 256) = 0 ∧ supF (0#256) = 0 := by decide +kernel

end Go.Proofs.YtipocmbplcdmjaaDoor

/-
  Plain mathematics of layer 3's own law: in an order of all eight one function needs 77 nodes at most.
-/
namespace Go.Proofs.YtipocmbplcdmjaaDoor
open Go Go.RowKit

/-- Each variable stands somewhere in the order. -/
def Full (o : Nat → Int) : Prop := ∀ v : Nat, v < 8 → ∃ i, i < 8 ∧ o i = (v : Int)

/-- The place of the first number of n from place i on, on which f depends. -/
def posFrom (f : Fn) (o : Nat → Int) : Nat → Nat → Nat
  | 0, i => i
  | n + 1, i => if depAny f (o i) then i else posFrom f o n (i + 1)
def posF (f : Fn) (o : Nat → Int) : Nat := posFrom f o 8 0

theorem posFrom_spec (f : Fn) (o : Nat → Int) (n : Nat) : ∀ i, i ≤ posFrom f o n i ∧ posFrom f o n i ≤ i + n ∧ (∀ j, i ≤ j → j < posFrom f o n i → depAny f (o j) = false) ∧ (posFrom f o n i < i + n → depAny f (o (posFrom f o n i)) = true ∧ topFrom f o n i = o (posFrom f o n i)) ∧ (posFrom f o n i = i + n → topFrom f o n i = -1) := by
  induction n with
  | zero => intro i; refine ⟨Nat.le_refl _, Nat.le_refl _, fun j h1 h2 => ?_, fun h => ?_, fun _ => rfl⟩ <;> simp only [posFrom] at * <;> omega
  | succ n ih =>
    intro i
    simp only [posFrom, topFrom]
    by_cases hd : depAny f (o i) = true
    · rw [if_pos hd, if_pos hd]
      exact ⟨Nat.le_refl _, by omega, fun j h1 h2 => by omega, fun _ => ⟨hd, rfl⟩, fun h => by omega⟩
    · rw [if_neg hd, if_neg hd]
      obtain ⟨h1, h2, h3, h4, h5⟩ := ih (i + 1)
      refine ⟨by omega, by omega, fun j hj1 hj2 => ?_, fun h => h4 (by omega), fun h => h5 (by omega)⟩
      rcases Nat.lt_or_ge i j with h | h
      · exact h3 j h hj2
      · obtain rfl : j = i := by omega
        simpa using hd

theorem posF_spec (f : Fn) (o : Nat → Int) : posF f o ≤ 8 ∧ (∀ j, j < posF f o → depAny f (o j) = false) ∧ (posF f o < 8 → depAny f (o (posF f o)) = true ∧ topF f o = o (posF f o)) ∧ (posF f o = 8 → topF f o = -1) := by
  obtain ⟨_, h2, h3, h4, h5⟩ := posFrom_spec f o 8 0
  exact ⟨by unfold posF; omega, fun j hj => h3 j (Nat.zero_le _) hj, fun h => h4 (by unfold posF at h; omega), fun h => h5 (by unfold posF at h; omega)⟩

/-- In a full order what has no top depends on nothing. -/
theorem pos_of_sup {f : Fn} {o : Nat → Int} (ho : Full o) (h : supF f ≠ 0) : posF f o < 8 := by
  obtain ⟨h1, h2, _, _⟩ := posF_spec f o
  rcases Nat.lt_or_ge (posF f o) 8 with h' | h'
  · exact h'
  · refine absurd ((supF_zero f).2 fun v hv => ?_) h
    obtain ⟨i, hi, e⟩ := ho v hv
    have := h2 i (by omega)
    rw [e] at this
    unfold depAny at this
    rw [if_pos (by omega), Int.toNat_natCast] at this
    exact this

theorem top_neg {f : Fn} {o : Nat → Int} (ho : Full o) : topF f o = -1 ↔ supF f = 0 := by
  obtain ⟨h1, h2, h3, h4⟩ := posF_spec f o
  constructor
  · intro ht
    rcases Nat.eq_zero_or_pos (supF f) with h | h
    · exact h
    · have hp := pos_of_sup ho (by omega : supF f ≠ 0)
      obtain ⟨hd, e⟩ := h3 hp
      have := depAny_range hd
      omega
  · intro hs
    refine h4 ?_
    rcases Nat.lt_or_ge (posF f o) 8 with h' | h'
    · exact absurd hs (sup_of_dep (h3 h').1)
    · omega

/-- All that come of f by setting the first j numbers of the order. -/
def cofs (f : Fn) (o : Nat → Int) : Nat → List Fn
  | 0 => [f]
  | j + 1 => (cofs f o j).map (fun g => cofAny g (o j) false) ++ (cofs f o j).map (fun g => cofAny g (o j) true)

theorem cofs_length (f : Fn) (o : Nat → Int) (j : Nat) : (cofs f o j).length = 2 ^ j := by
  induction j with
  | zero => rfl
  | succ j ih => simp only [cofs, List.length_append, List.length_map, ih]; rw [Nat.pow_succ]; omega

theorem cofs_step {f g : Fn} {o : Nat → Int} {j : Nat} (h : g ∈ cofs f o j) (b : Bool) : cofAny g (o j) b ∈ cofs f o (j + 1) := by
  simp only [cofs, List.mem_append, List.mem_map]
  cases b
  · exact .inl ⟨g, h, rfl⟩
  · exact .inr ⟨g, h, rfl⟩

/-- What doesn't depend on a variable is as it was when it is set. -/
theorem cof_indep {g : Fn} {v : Int} {b : Bool} (h : depAny g v = false) : cofAny g v b = g := by
  unfold cofAny
  split
  · rename_i hv
    unfold depAny at h
    rw [if_pos hv] at h
    have hm : v.toNat < 8 := by omega
    refine fn_ext fun x hx => ?_
    rw [cofF_bit _ _ _ _ hx]
    have h1 := indep_row g v.toNat x hm hx h
    have h2 := indep_row g v.toNat (rowF x v.toNat b) hm (rowF_lt _ _ _ hx hm) h
    rw [rowF_twice _ _ _ _ hx hm] at h2
    rw [← h2, h1]
  · rfl

theorem cofs_up {f g : Fn} {o : Nat → Int} {p : Nat} (h : g ∈ cofs f o p) (d : Nat) : (∀ i, p ≤ i → i < p + d → depAny g (o i) = false) → g ∈ cofs f o (p + d) := by
  induction d with
  | zero => intro _; exact h
  | succ d ih =>
    intro hi
    have h1 := cofs_step (ih fun i h1 h2 => hi i h1 (by omega)) false
    rwa [cof_indep (hi (p + d) (by omega) (by omega))] at h1

theorem reach_cofs {f : Fn} {o : Nat → Int} {g : Fn} (h : Reach [f] o g) : ∃ p, (∀ i, i < p → depAny g (o i) = false) ∧ g ∈ cofs f o p := by
  induction h with
  | base h =>
    rw [List.mem_singleton] at h
    subst h
    exact ⟨0, fun i hi => by omega, List.mem_singleton.2 rfl⟩
  | step b hr hs ht ih =>
    rename_i g
    obtain ⟨p, h1, h2⟩ := ih
    obtain ⟨q1, q2, q3, q4⟩ := posF_spec g o
    have hq : posF g o < 8 := by
      rcases Nat.lt_or_ge (posF g o) 8 with h | h
      · exact h
      · have := q4 (by omega); omega
    obtain ⟨hd, e⟩ := q3 hq
    have hpq : p ≤ posF g o := by
      rcases Nat.lt_or_ge (posF g o) p with h | h
      · rw [h1 _ h] at hd; cases hd
      · exact h
    have h3 := cofs_up h2 (posF g o - p) fun i hi1 hi2 => q2 i (by omega)
    rw [show p + (posF g o - p) = posF g o by omega] at h3
    refine ⟨posF g o + 1, fun i hi => ?_, by rw [e]; exact cofs_step h3 b⟩
    rw [e]
    rcases Nat.lt_or_ge i (posF g o) with h | h
    · exact dep_cofAny _ _ _ _ (q2 i h)
    · obtain rfl : i = posF g o := by omega
      exact dep_cof _ _ _

theorem node_level {f : Fn} {o : Nat → Int} {g : Fn} (h : Reach [f] o g) (hp : posF g o < 8) : g ∈ cofs f o (posF g o) := by
  obtain ⟨p, h1, h2⟩ := reach_cofs h
  obtain ⟨q1, q2, q3, q4⟩ := posF_spec g o
  obtain ⟨hd, e⟩ := q3 hp
  have hpq : p ≤ posF g o := by
    rcases Nat.lt_or_ge (posF g o) p with h | h
    · rw [h1 _ h] at hd; cases hd
    · exact h
  have h3 := cofs_up h2 (posF g o - p) fun i hi1 hi2 => q2 i (by omega)
  rwa [show p + (posF g o - p) = posF g o by omega] at h3

theorem nodup_len {α : Type} [DecidableEq α] {l k : List α} (hl : l.Nodup) (h : ∀ f, f ∈ l → f ∈ k) : l.length ≤ k.length := by
  induction l generalizing k with
  | nil => exact Nat.zero_le _
  | cons a l ih =>
    have hn := List.nodup_cons.1 hl
    have ha : a ∈ k := h a (List.mem_cons_self ..)
    have h2 : ∀ f, f ∈ l → f ∈ k.erase a := fun f hf => (List.mem_erase_of_ne (fun e : f = a => hn.1 (by rw [← e]; exact hf))).2 (h f (List.mem_cons_of_mem _ hf))
    have h3 := ih hn.2 h2
    rw [List.length_erase_of_mem ha] at h3
    have : 0 < k.length := List.length_pos_of_mem ha
    simp only [List.length_cons]
    omega

/-- The four values of a function of two variables. -/
def pat (a b : Nat) (g : Fn) : Bool × Bool × Bool × Bool := (g.getLsbD (ptR a b false false), g.getLsbD (ptR a b false true), g.getLsbD (ptR a b true false), g.getLsbD (ptR a b true true))

theorem pat_inj {a b : Nat} (ha : a < 8) (hb : b < 8) {g h : Fn} (hg : ∀ v, v < 8 → v ≠ a → v ≠ b → depF g v = false) (hh : ∀ v, v < 8 → v ≠ a → v ≠ b → depF h v = false) (e : pat a b g = pat a b h) : g = h := by
  simp only [pat, Prod.mk.injEq] at e
  obtain ⟨e1, e2, e3, e4⟩ := e
  refine fn_ext fun x hx => ?_
  rw [bit_at g a b x ha hb hx hg, bit_at h a b x ha hb hx hh]
  cases x.testBit a <;> cases x.testBit b
  · exact e1
  · exact e2
  · exact e3
  · exact e4

/-- A function that is alike on both sides of a doesn't depend on it. -/
theorem pat_dep {a b : Nat} (ha : a < 8) (hb : b < 8) {g : Fn} (hg : ∀ v, v < 8 → v ≠ a → v ≠ b → depF g v = false) (e1 : g.getLsbD (ptR a b false false) = g.getLsbD (ptR a b true false)) (e2 : g.getLsbD (ptR a b false true) = g.getLsbD (ptR a b true true)) (hab : a ≠ b) : depF g a = false :=
  depF_false fun x hx => by
    unfold shows
    by_cases h0 : x / 2 ^ a % 2 = 0
    · have hx2 := up_lt hx ha h0
      have er : x + 2 ^ a = rowF x a true := by unfold rowF; rw [if_neg (by omega), if_pos rfl]
      have t1 : x.testBit a = false := by rw [Nat.testBit_eq_decide_div_mod_eq]; simp; omega
      have t2 : (x + 2 ^ a).testBit a = true := by rw [er, rowF_test _ _ _ _ hx ha ha, if_pos rfl]
      have t3 : (x + 2 ^ a).testBit b = x.testBit b := by rw [er, rowF_test _ _ _ _ hx ha hb, if_neg (Ne.symm hab)]
      rw [bit_at g a b x ha hb hx hg, bit_at g a b _ ha hb hx2 hg, t1, t2, t3]
      cases x.testBit b
      · rw [e1]; simp
      · rw [e2]; simp
    · rw [decide_eq_false h0, Bool.false_and]

theorem pat_one {a : Nat} (ha : a < 8) {g : Fn} (hg : ∀ v, v < 8 → v ≠ a → depF g v = false) (e1 : g.getLsbD (ptR a a false false) = g.getLsbD (ptR a a true true)) : depF g a = false :=
  depF_false fun x hx => by
    unfold shows
    by_cases h0 : x / 2 ^ a % 2 = 0
    · have hx2 := up_lt hx ha h0
      have er : x + 2 ^ a = rowF x a true := by unfold rowF; rw [if_neg (by omega), if_pos rfl]
      have t1 : x.testBit a = false := by rw [Nat.testBit_eq_decide_div_mod_eq]; simp; omega
      have t2 : (x + 2 ^ a).testBit a = true := by rw [er, rowF_test _ _ _ _ hx ha ha, if_pos rfl]
      rw [bit_at g a a x ha ha hx (fun v hv h _ => hg v hv h), bit_at g a a _ ha ha hx2 (fun v hv h _ => hg v hv h), t1, t2, e1]
      simp
    · rw [decide_eq_false h0, Bool.false_and]

end Go.Proofs.YtipocmbplcdmjaaDoor

/-
  Mathematics of layer 8: what a node is as a table; no two nodes are one function. Nothing of the program is read here.
-/
namespace Go.Proofs.YtipocmbplcdmjaaDoor
open Go Go.RowKit

/-- A bit of a row. -/
def bitO (x : Nat) (v : Int) : Bool := x.testBit v.toNat
/-- A number's table. -/
def MS.tab (s : MS) (n : Int) : Fn := ofRow fun x => s.val (bitO x) n

section
variable {s : MS}
theorem MS.tab_bit (s : MS) (n : Int) {k : Nat} (hk : k < 256) : (s.tab n).getLsbD k = s.val (bitO k) n := ofRow_bit _ _ hk
theorem MS.tab_const {n : Int} (h : s.has n = false) : s.tab n = if n = 1 then BitVec.allOnes 256 else 0#256 := fn_ext fun k hk => by
  rw [MS.tab_bit _ _ hk, MS.val_const _ h]
  by_cases h1 : n = 1
  · rw [if_pos h1, h1, BitVec.getLsbD_allOnes, decide_eq_true hk]; rfl
  · rw [if_neg h1, beq_eq_false_iff_ne.2 h1]; simp
theorem MS.Ok.var_nat (h : s.Ok) {n : Int} (hn : s.has n = true) : ∃ m : Nat, (s.nd n).var = (m : Int) ∧ m < 8 := by
  have := h.var n hn
  exact ⟨(s.nd n).var.toNat, by omega, by omega⟩
theorem varAny_nat {m : Nat} (h : m < 8) : varAny (m : Int) = varF m := by
  unfold varAny
  rw [if_pos (by omega)]
  rfl
theorem MS.Ok.tab_node (h : s.Ok) {n : Int} (hn : s.has n = true) : s.tab n = (varAny (s.nd n).var &&& s.tab (s.nd n).hi ||| ~~~(varAny (s.nd n).var) &&& s.tab (s.nd n).lo) := fn_ext fun k hk => by
  obtain ⟨m, e, hm⟩ := h.var_nat hn
  rw [MS.tab_bit _ _ hk, h.val_node _ hn, e, varAny_nat hm]
  simp only [BitVec.getLsbD_or, BitVec.getLsbD_and, BitVec.getLsbD_not, hk, decide_true, Bool.true_and, var_bit m k hk, MS.tab_bit _ _ hk]
  have hb : bitO k (m : Int) = k.testBit m := rfl
  rw [hb]
  cases k.testBit m <;> simp

/-- Rows that agree from a level on. -/
theorem MS.Ok.val_agree (h : s.Ok) {b b' : Int → Bool} {L : Int} (hb : ∀ v : Int, 0 ≤ v → v ≤ 7 → L ≤ levO s.o v → b v = b' v) :
    ∀ k n, s.dep n ≤ k → (s.has n = true → L ≤ levO s.o (s.nd n).var) → s.val b n = s.val b' n := by
  intro k
  induction k with
  | zero =>
    intro n hd _
    cases hn : s.has n
    · rw [MS.val_const _ hn, MS.val_const _ hn]
    · have := h.dep_pos hn; omega
  | succ k ih =>
    intro n hd hL
    cases hn : s.has n
    · rw [MS.val_const _ hn, MS.val_const _ hn]
    · have hv := h.var n hn
      rw [h.val_node b hn, h.val_node b' hn, hb _ hv.1 hv.2 (hL hn)]
      have d1 := h.dep_behind hn (h.lo n hn)
      have d2 := h.dep_behind hn (h.hi n hn)
      have key : ∀ m, s.behind m (s.nd n).var = true → s.dep m ≤ k → s.val b m = s.val b' m := fun m hm hd => ih m hd fun hh => by
        rw [MS.behind_node hh] at hm
        have := of_decide_eq_true hm
        have := hL hn
        omega
      split
      · exact key _ (h.hi n hn) (by omega)
      · exact key _ (h.lo n hn) (by omega)

/-- n stands from level L on. -/
def MS.from (s : MS) (L : Int) (n : Int) : Prop := s.has n = true → L ≤ levO s.o (s.nd n).var
theorem MS.from_const {L n : Int} (h : s.has n = false) : s.from L n := fun e => by rw [h] at e; cases e
theorem MS.from_behind {n v : Int} (h : s.behind n v = true) : s.from (levO s.o v + 1) n := fun hh => by
  rw [MS.behind_node hh] at h
  have := of_decide_eq_true h
  omega

theorem rowF_other {k m j : Nat} {b : Bool} (hk : k < 256) (hm : m < 8) (hj : j < 8) (h : j ≠ m) : (rowF k m b).testBit j = k.testBit j := by rw [rowF_test k m b j hk hm hj, if_neg h]
/-- A variable ahead set: nothing changes. -/
theorem MS.Ok.tab_ahead (h : s.Ok) {n : Int} {m : Nat} (hm : m < 8) (hf : s.from (levO s.o (m : Int) + 1) n) (b : Bool) {k : Nat} (hk : k < 256) : s.val (bitO (rowF k m b)) n = s.val (bitO k) n := by
  refine h.val_agree (L := levO s.o (m : Int) + 1) (fun v v0 v7 hv => ?_) _ n (Nat.le_refl _) hf
  obtain ⟨j, rfl⟩ := Int.eq_ofNat_of_zero_le v0
  have hne : j ≠ m := fun e => by subst e; omega
  exact rowF_other hk hm (by omega) hne
theorem MS.Ok.cof_ahead (h : s.Ok) {n : Int} {v : Int} (hf : s.from (levO s.o v + 1) n) (b : Bool) : cofAny (s.tab n) v b = s.tab n := by
  unfold cofAny
  split
  · rename_i hv
    refine fn_ext fun k hk => ?_
    rw [cofF_bit _ _ _ _ hk, MS.tab_bit _ _ (rowF_lt k v.toNat b hk (by omega)), MS.tab_bit _ _ hk]
    exact h.tab_ahead (by omega) (by rw [Int.toNat_of_nonneg hv.1]; exact hf) b hk
  · rfl
theorem cof_indep' {g : Fn} {v : Int} (h : ∀ b, cofAny g v b = g) : depAny g v = false := by
  have := dep_cof g v true
  rwa [h true] at this
theorem MS.Ok.dep_ahead (h : s.Ok) {n v : Int} (hf : s.from (levO s.o v + 1) n) : depAny (s.tab n) v = false := cof_indep' fun b => h.cof_ahead hf b
/-- Its variable set: a side. -/
theorem MS.Ok.cof_node (h : s.Ok) {n : Int} (hn : s.has n = true) (b : Bool) : cofAny (s.tab n) (s.nd n).var b = s.tab (if b then (s.nd n).hi else (s.nd n).lo) := by
  obtain ⟨m, e, hm⟩ := h.var_nat hn
  have fl := MS.from_behind (h.lo n hn)
  have fh := MS.from_behind (h.hi n hn)
  rw [e] at fl fh ⊢
  unfold cofAny
  rw [if_pos (by omega), Int.toNat_natCast]
  refine fn_ext fun k hk => ?_
  rw [cofF_bit _ _ _ _ hk, MS.tab_bit _ _ (rowF_lt k m b hk hm), h.val_node _ hn, e]
  have hb : bitO (rowF k m b) (m : Int) = b := by
    show (rowF k m b).testBit m = b
    rw [rowF_test k m b m hk hm hm, if_pos rfl]
  rw [hb, MS.tab_bit _ _ hk]
  cases b
  · simp only [Bool.false_eq_true, if_false]; exact h.tab_ahead hm fl false hk
  · simp only [if_true]; exact h.tab_ahead hm fh true hk

/-- NO TWO ARE ONE FUNCTION. -/
theorem MS.Ok.canon (h : s.Ok) : ∀ k n m, s.dep n ≤ k → s.dep m ≤ k → s.there n = true → s.there m = true → s.tab n = s.tab m → n = m := by
  have hconst : ∀ n m : Int, (n = 0 ∨ n = 1) → (m = 0 ∨ m = 1) → s.tab n = s.tab m → n = m := fun n m hn hm e => by
    have h0 : s.has n = false := by rcases hn with rfl | rfl <;> rfl
    have h1 : s.has m = false := by rcases hm with rfl | rfl <;> rfl
    rw [MS.tab_const h0, MS.tab_const h1] at e
    rcases hn with rfl | rfl <;> rcases hm with rfl | rfl
    · rfl
    · exact absurd e (by decide)
    · exact absurd e (by decide)
    · rfl
  intro k
  induction k with
  | zero =>
    intro n m hn hm tn tm e
    have c : ∀ n, s.dep n ≤ 0 → s.there n = true → n = 0 ∨ n = 1 := fun n hn tn => by
      rcases MS.there_cases tn with ⟨h1, _⟩ | h1
      · exact h1
      · have := h.dep_pos h1; omega
    exact hconst n m (c n hn tn) (c m hm tm) e
  | succ k ih =>
    -- a node hangs on its variable
    have hdep : ∀ n, s.dep n ≤ k + 1 → s.has n = true → depAny (s.tab n) (s.nd n).var = true := fun n hd hn => by
      cases hx : depAny (s.tab n) (s.nd n).var
      · exfalso
        have c0 := cof_indep (b := false) hx
        have c1 := cof_indep (b := true) hx
        rw [h.cof_node hn] at c0 c1
        have d1 := h.dep_behind hn (h.lo n hn)
        have d2 := h.dep_behind hn (h.hi n hn)
        exact h.unlike n hn (ih _ _ (by omega) (by omega) (MS.behind_there (h.lo n hn)) (MS.behind_there (h.hi n hn)) (c0.trans c1.symm))
      · rfl
    intro n m hn hm tn tm e
    have mixed : ∀ n m, s.dep n ≤ k + 1 → s.has n = true → s.from (levO s.o (s.nd n).var + 1) m → s.tab n = s.tab m → False := fun n m hd hh hf e => by
      have h1 := hdep n hd hh
      rw [e, h.dep_ahead hf] at h1
      cases h1
    rcases MS.there_cases tn with ⟨cn, hn0⟩ | hn1
    · rcases MS.there_cases tm with ⟨cm, _⟩ | hm1
      · exact hconst n m cn cm e
      · exact (mixed m n hm hm1 (MS.from_const hn0) e.symm).elim
    · rcases MS.there_cases tm with ⟨cm, hm0⟩ | hm1
      · exact (mixed n m hn hn1 (MS.from_const hm0) e).elim
      · have l1 := h.lev hn1
        have l2 := h.lev hm1
        rcases Int.lt_trichotomy (levO s.o (s.nd n).var) (levO s.o (s.nd m).var) with hl | hl | hl
        · exact (mixed n m hn hn1 (fun _ => by omega) e).elim
        · have ev : (s.nd n).var = (s.nd m).var := by
            obtain ⟨i, hi⟩ := Int.eq_ofNat_of_zero_le l1.1
            have p1 := lev_place (o := s.o) (v := (s.nd n).var) (l := i) hi
            have p2 := lev_place (o := s.o) (v := (s.nd m).var) (l := i) (hl.symm.trans hi)
            exact p1.symm.trans p2
          have d1 := h.dep_behind hn1 (h.lo n hn1)
          have d2 := h.dep_behind hn1 (h.hi n hn1)
          have d3 := h.dep_behind hm1 (h.lo m hm1)
          have d4 := h.dep_behind hm1 (h.hi m hm1)
          have e0 : s.tab (s.nd n).lo = s.tab (s.nd m).lo := by
            have a := h.cof_node hn1 false
            have b := h.cof_node hm1 false
            rw [e, ev] at a
            exact a.symm.trans b
          have e1 : s.tab (s.nd n).hi = s.tab (s.nd m).hi := by
            have a := h.cof_node hn1 true
            have b := h.cof_node hm1 true
            rw [e, ev] at a
            exact a.symm.trans b
          have q0 := ih _ _ (by omega) (by omega) (MS.behind_there (h.lo n hn1)) (MS.behind_there (h.lo m hm1)) e0
          have q1 := ih _ _ (by omega) (by omega) (MS.behind_there (h.hi n hn1)) (MS.behind_there (h.hi m hm1)) e1
          refine h.one n m hn1 hm1 ?_
          revert ev q0 q1
          generalize s.nd n = a
          generalize s.nd m = b
          cases a; cases b
          intro r0 r1 r2
          simp_all
        · exact (mixed m n hm hm1 (fun _ => by omega) e.symm).elim
theorem MS.Ok.tab_inj (h : s.Ok) {n m : Int} (tn : s.there n = true) (tm : s.there m = true) (e : s.tab n = s.tab m) : n = m := h.canon _ n m (Nat.le_max_left _ (s.dep m)) (Nat.le_max_right _ _) tn tm e
theorem MS.Ok.dep_var (h : s.Ok) {n : Int} (hn : s.has n = true) : depAny (s.tab n) (s.nd n).var = true := by
  cases hx : depAny (s.tab n) (s.nd n).var
  · exfalso
    have c0 := cof_indep (b := false) hx
    have c1 := cof_indep (b := true) hx
    rw [h.cof_node hn] at c0 c1
    exact h.unlike n hn (h.tab_inj (MS.behind_there (h.lo n hn)) (MS.behind_there (h.hi n hn)) (c0.trans c1.symm))
  · rfl
/-- Its variable is its top. -/
theorem MS.Ok.top_node (h : s.Ok) {n : Int} (hn : s.has n = true) : topF (s.tab n) s.o = (s.nd n).var := by
  obtain ⟨l0, l7⟩ := h.lev hn
  obtain ⟨i, hi⟩ := Int.eq_ofNat_of_zero_le l0
  have hp := lev_place (o := s.o) hi
  obtain ⟨p1, p2, p3, p4⟩ := posF_spec (s.tab n) s.o
  have hd := h.dep_var hn
  have hpi : posF (s.tab n) s.o = i := by
    rcases Nat.lt_trichotomy (posF (s.tab n) s.o) i with hlt | he | hgt
    · exfalso
      have h1 := (p3 (by omega)).1
      have hr := mayO_range h.order (i := posF (s.tab n) s.o) (by omega)
      rw [h.dep_ahead (fun _ => by rw [levO_at h.order (i := posF (s.tab n) s.o) (by omega) rfl]; omega)] at h1
      cases h1
    · exact he
    · exfalso
      have := p2 i hgt
      rw [hp, hd] at this
      cases this
  rw [(p3 (by omega)).2, hpi, hp]
end

end Go.Proofs.YtipocmbplcdmjaaDoor
