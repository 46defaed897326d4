/-
  Texts of this proof, one behind the other: NodeV, NodeH, StoreH, CoM, Arena.
-/
import Derived.Test.YtipocmbplcdmjaaDoorG3
import Derived.Test.YtipocmbplcdmjaaDoorG2
import Derived.Test.YtipocmbplcdmjaaDoorG6
import Derived.Test.YtipocmbplcdmjaaDoorG5
import Derived.Test.YtipocmbplcdmjaaDoorG4
/-
  A node, as the program holds it.
-/
namespace Go.Proofs.YtipocmbplcdmjaaDoor
open Go Go.RowKit

/-- A node, as the program holds it. -/
def nv (x : Nd) : Value := .agg #[.int .i64 x.var, .int .i64 x.lo, .int .i64 x.hi]

/-- What Node tells. -/
def nodeV (s : MS) (n : Int) : Value := .tuple #[nv (if s.has n then s.nd n else ⟨0, 0, 0⟩), .bool (s.has n)]

end Go.Proofs.YtipocmbplcdmjaaDoor

/-
  A variable that holds a node.
-/
namespace Go.Proofs.YtipocmbplcdmjaaDoor
open Go Go.RowKit

/-- Block b is a variable that holds a node. -/
def HoldsN (w : World) (b : Nat) (x : Nd) : Prop := w.heap[b]? = some (.cells #[.int .i64 x.var, .int .i64 x.lo, .int .i64 x.hi] 58 (0, 0))
theorem HoldsN.lt {w : World} {b : Nat} {x : Nd} (h : HoldsN w b x) : b < w.heap.size := (Array.getElem?_eq_some_iff.1 h).1
theorem HoldsN.keep {w w' : World} {b : Nat} {x : Nd} {F : Nat → Prop} (h : HoldsN w b x) (hb : Keeps F w w') (hF : ¬ F b) : HoldsN w' b x := (hb.block b h.lt hF).trans h
theorem HoldsN.below {w w' : World} {b : Nat} {x : Nd} (h : HoldsN w b x) (hb : Below w.heap.size w w') : HoldsN w' b x := (hb.block b h.lt).trans h
theorem HoldsN.sub {w : World} {b : Nat} {x : Nd} (h : HoldsN w b x) (u : Sub w) : HoldsN u.1 b x := h.below u.2
theorem HoldsN.cells {w : World} {b : Nat} {x : Nd} (h : HoldsN w b x) : w.cell? ⟨b, 0, none⟩ = some (.int .i64 x.var) ∧ w.cell? ⟨b, 1, none⟩ = some (.int .i64 x.lo) ∧ w.cell? ⟨b, 2, none⟩ = some (.int .i64 x.hi) :=
  ⟨by rw [cell_of_row _ _ _ _ _ _ h]; rfl, by rw [cell_of_row _ _ _ _ _ _ h]; rfl, by rw [cell_of_row _ _ _ _ _ _ h]; rfl⟩
theorem HoldsN.new (w : World) (x : Nd) : HoldsN (w.alloc (.cells #[.int .i64 x.var, .int .i64 x.lo, .int .i64 x.hi] 58)) w.heap.size x := heap_alloc_new _ _

/-- A node that is returned from a variable, with a second value. -/
theorem ret_node {fn : Func} {p q : Tmp} {tmps : Array Value} {w : World} {b : Nat} {x : Nd} {u : Value} (h : fn.results = #[.cell p 58, .tmp q]) (hp : tmps.getD p undef = .pointer (some ⟨b, 0, none⟩)) (hq : tmps.getD q undef = u)
    (hh : w.heap[b]? = some (.cells #[.int .i64 x.var, .int .i64 x.lo, .int .i64 x.hi] 58 (0, 0))) : (results fn tmps).run Tryd.prog w = .ok (.tuple #[nv x, u]) w := by
  rw [results_cell_tmp h, hp, hq]
  simp only [asAddr, Sem.run_pure, Result.andThen_ok]
  rw [run_loadVar_row w b _ _ _ _ _ hh Tryd.underlying58 rfl (by kernel_rfl)]
  rfl

end Go.Proofs.YtipocmbplcdmjaaDoor

/-
  Helpers of walks of a store.
-/
namespace Go.Proofs.YtipocmbplcdmjaaDoor
open Go Go.RowKit

theorem swapLit7 (o : Nat → Int) (l : Int) : ov (swapO o l) = .agg #[.int .i64 (swapO o l 0), .int .i64 (swapO o l 1), .int .i64 (swapO o l 2), .int .i64 (swapO o l 3), .int .i64 (swapO o l 4), .int .i64 (swapO o l 5), .int .i64 (swapO o l 6), .int .i64 (swapO o l 7)] := rfl

/-- A node stored in a variable. -/
theorem HoldsN.put {w : World} {b : Nat} {x : Nd} (h : HoldsN w b x) (y : Nd) : HoldsN (((w.setCell ⟨b, 0, none⟩ (.int .i64 y.var)).setCell ⟨b, 1, none⟩ (.int .i64 y.lo)).setCell ⟨b, 2, none⟩ (.int .i64 y.hi)) b y := by
  have r0 := heap_setCell_same _ b 0 _ _ (.int .i64 y.var) h
  have r1 := heap_setCell_same _ b 1 _ _ (.int .i64 y.lo) r0
  have r2 := heap_setCell_same _ b 2 _ _ (.int .i64 y.hi) r1
  refine Eq.trans r2 ?_
  simp
theorem HoldsN.free {w : World} {b : Nat} {x : Nd} (h : HoldsN w b x) (j : Nat) : w.frozen? ⟨b, j, none⟩ = false := frozen_of_row _ _ _ _ _ h

/-- What changes. -/
def MS.chg (s : MS) (x y : Int) (n : Int) : Bool := decide ((s.nd n).var = x) && (s.isOf (s.nd n).lo y || s.isOf (s.nd n).hi y)
theorem filter_take {α : Type} (p : α → Bool) (l : List α) (i : Nat) (hi : i < l.length) : (p l[i] = true → (l.take (i + 1)).filter p = (l.take i).filter p ++ [l[i]]) ∧ (p l[i] = false → (l.take (i + 1)).filter p = (l.take i).filter p) := by
  rw [List.take_succ_eq_append_getElem hi, List.filter_append]
  exact ⟨fun h => by simp [h], fun h => by simp [h]⟩

end Go.Proofs.YtipocmbplcdmjaaDoor

/-
  Mathematics of the code's store: beside each node how often it is had, beside each variable a table of its nodes. Nothing of the program is read here.
-/
namespace Go.Proofs.YtipocmbplcdmjaaDoor

/-- How often a node has a number. -/
def cnt (x : Nd) (m : Int) : Int := (if x.lo = m then 1 else 0) + (if x.hi = m then 1 else 0)
theorem cnt_nonneg (x : Nd) (m : Int) : 0 ≤ cnt x m := by unfold cnt; split <;> split <;> decide
theorem cnt_le (x : Nd) (m : Int) : cnt x m ≤ 2 := by unfold cnt; split <;> split <;> decide
theorem cnt_zero {x : Nd} {m : Int} : cnt x m = 0 ↔ x.lo ≠ m ∧ x.hi ≠ m := by
  unfold cnt
  by_cases h1 : x.lo = m <;> by_cases h2 : x.hi = m <;> simp [h1, h2]

/-- A sum over a list. -/
def sumL {α : Type} (l : List α) (f : α → Int) : Int := (l.map f).sum
theorem sumL_nil {α : Type} (f : α → Int) : sumL [] f = 0 := rfl
theorem sumL_cons {α : Type} (a : α) (l : List α) (f : α → Int) : sumL (a :: l) f = f a + sumL l f := by simp [sumL]
theorem sumL_append {α : Type} (l k : List α) (f : α → Int) : sumL (l ++ k) f = sumL l f + sumL k f := by simp [sumL]
theorem sumL_congr {α : Type} {l : List α} {f g : α → Int} (h : ∀ a ∈ l, f a = g a) : sumL l f = sumL l g := by
  unfold sumL; rw [List.map_congr_left h]
theorem sumL_nonneg {α : Type} {l : List α} {f : α → Int} (h : ∀ a ∈ l, 0 ≤ f a) : 0 ≤ sumL l f := by
  induction l with
  | nil => exact Int.le_refl _
  | cons a l ih =>
    rw [sumL_cons]
    have := h a List.mem_cons_self
    have := ih fun b hb => h b (List.mem_cons_of_mem _ hb)
    omega
theorem sumL_le {α : Type} {l : List α} {f : α → Int} (h : ∀ a ∈ l, f a ≤ 2) : sumL l f ≤ 2 * l.length := by
  induction l with
  | nil => exact Int.le_refl _
  | cons a l ih =>
    rw [sumL_cons, List.length_cons]
    have := h a List.mem_cons_self
    have := ih fun b hb => h b (List.mem_cons_of_mem _ hb)
    omega
theorem sumL_zero {α : Type} {l : List α} {f : α → Int} (h : ∀ a ∈ l, 0 ≤ f a) : sumL l f = 0 ↔ ∀ a ∈ l, f a = 0 := by
  induction l with
  | nil => simp [sumL]
  | cons a l ih =>
    rw [sumL_cons]
    have h1 := h a List.mem_cons_self
    have h2 := sumL_nonneg fun b hb => h b (List.mem_cons_of_mem _ hb)
    have h3 := ih fun b hb => h b (List.mem_cons_of_mem _ hb)
    constructor
    · intro e b hb
      rcases List.mem_cons.1 hb with rfl | hb
      · omega
      · exact h3.1 (by omega) b hb
    · intro e
      rw [e a List.mem_cons_self, h3.2 fun b hb => e b (List.mem_cons_of_mem _ hb)]
      rfl
/-- One of them changes. -/
theorem sumL_change {l : List Int} {f g : Int → Int} {k : Int} (hk : k ∈ l) (hn : l.Nodup) (h : ∀ a ∈ l, a ≠ k → g a = f a) : sumL l g = sumL l f - f k + g k := by
  induction l with
  | nil => cases hk
  | cons a l ih =>
    rw [sumL_cons, sumL_cons]
    obtain ⟨n1, n2⟩ := List.nodup_cons.1 hn
    rcases List.mem_cons.1 hk with rfl | hk
    · rw [sumL_congr (f := g) (g := f) fun b hb => h b (List.mem_cons_of_mem _ hb) (fun e => n1 (e ▸ hb))]
      omega
    · rw [ih hk n2 fun b hb hne => h b (List.mem_cons_of_mem _ hb) hne, h a List.mem_cons_self (fun e => n1 (e ▸ hk))]
      omega
/-- One of them goes. -/
theorem sumL_without {l : List Int} {f : Int → Int} {k : Int} (hk : k ∈ l) (hn : l.Nodup) : sumL (l.filter fun x => x != k) f = sumL l f - f k := by
  induction l with
  | nil => cases hk
  | cons a l ih =>
    obtain ⟨n1, n2⟩ := List.nodup_cons.1 hn
    rcases List.mem_cons.1 hk with rfl | hk
    · have h1 : l.filter (fun x => x != k) = l := List.filter_eq_self.2 fun b hb => by simp only [bne_iff_ne, ne_eq]; exact fun e => n1 (e ▸ hb)
      simp only [List.filter_cons, bne_self_eq_false, Bool.false_eq_true, if_false, h1, sumL_cons]
      omega
    · have h1 : (a != k) = true := by simp only [bne_iff_ne, ne_eq]; exact fun e => n1 (e ▸ hk)
      simp only [List.filter_cons, h1, if_true, sumL_cons, ih hk n2]
      omega

/-- Numbers below n, each once, are at most n. -/
theorem nodup_range_le (n : Nat) : ∀ l : List Int, l.Nodup → (∀ x ∈ l, 0 ≤ x ∧ x < n) → l.length ≤ n := by
  induction n with
  | zero =>
    intro l _ h
    cases l with
    | nil => exact Nat.le_refl _
    | cons a l => have := h a (List.mem_cons_self); omega
  | succ n ih =>
    intro l hl h
    have h1 := ih (l.erase (n : Int)) (hl.erase _) (fun x hx => by
      rw [hl.mem_erase_iff] at hx
      have := h x hx.2
      omega)
    have h2 : (l.erase (n : Int)).length = l.length - (if (n : Int) ∈ l then 1 else 0) := by
      split
      · rename_i hm; exact List.length_erase_of_mem hm
      · rename_i hm; rw [List.erase_of_not_mem hm]; rfl
    split at h2 <;> omega

/-- How often a number is had by what is there. -/
def MS.refs (s : MS) (m : Int) : Int := sumL s.ar.T fun k => cnt (s.nd (k + 2)) m

section
variable {s t : MS} {R : List Int}

theorem MS.has_mem {n : Int} (hs : s.Base) : s.has n = true ↔ n - 2 ∈ s.ar.T := by
  constructor
  · exact fun h => (hs.range h).2.2
  · intro h
    have := (hs.ar.all (n - 2)).1 (.inl h)
    simp only [MS.has, Bool.and_eq_true, decide_eq_true_eq]
    exact ⟨by omega, h⟩
theorem MS.refs_nonneg (m : Int) : 0 ≤ s.refs m := sumL_nonneg fun _ _ => cnt_nonneg _ _
theorem MS.Base.refs_le (h : s.Base) (m : Int) : s.refs m ≤ 40000 := by
  have h1 := sumL_le (l := s.ar.T) (f := fun k => cnt (s.nd (k + 2)) m) fun _ _ => cnt_le _ _
  have h2 := h.ar.len
  have h3 := h.ar.nextLe
  have h4 := h.ar.mostLe
  unfold MS.refs
  omega
theorem MS.Base.refs_zero (h : s.Base) (m : Int) : s.refs m = 0 ↔ ∀ n, s.has n = true → (s.nd n).lo ≠ m ∧ (s.nd n).hi ≠ m := by
  unfold MS.refs
  rw [sumL_zero fun _ _ => cnt_nonneg _ _]
  constructor
  · intro e n hn
    have := e (n - 2) ((MS.has_mem h).1 hn)
    rw [show n - 2 + 2 = n by omega] at this
    exact cnt_zero.1 this
  · intro e k hk
    exact cnt_zero.2 (e (k + 2) ((MS.has_mem h).2 (by rw [show k + 2 - 2 = k by omega]; exact hk)))

/-- Sides are constants, or there. -/
def MS.Closed (s : MS) : Prop := ∀ n, s.has n = true → s.there (s.nd n).lo = true ∧ s.there (s.nd n).hi = true
theorem MS.Ok.closed (h : s.Ok) : s.Closed := fun n hn => ⟨MS.behind_there (h.lo n hn), MS.behind_there (h.hi n hn)⟩
theorem MS.there_mono (h : ∀ n, s.has n = true → t.has n = true) {n : Int} (hn : s.there n = true) : t.there n = true := by
  rcases MS.there_cases hn with ⟨rfl | rfl, _⟩ | hn
  · rfl
  · rfl
  · simp [MS.there, h n hn]
theorem MS.J.closed {l : Nat} {C : List Int} (w : s.Sw l C) (hR : ∀ n ∈ R, n ∈ C) (j : MS.J s l C R t) : t.Closed := fun n hn => by
  by_cases h : n ∈ R
  · have hs := ((w.mem n).1 (hR n h)).1
    rw [j.old n hs (.inr h)]
    exact ⟨MS.there_mono j.has (w.ok.closed n hs).1, MS.there_mono j.has (w.ok.closed n hs).2⟩
  · exact ⟨MS.behind_there (j.okb.lo n hn h), MS.behind_there (j.okb.hi n hn h)⟩
/-- What is there, or a constant, is no place that is still to come. -/
theorem MS.Base.there_range (h : s.Base) {n : Int} (hn : s.there n = true) : 0 ≤ n ∧ n < (s.N.length : Int) + 2 := by
  rcases MS.there_cases hn with ⟨e, _⟩ | hn
  · omega
  · have := h.range hn; omega
theorem MS.Base.refs_new (h : s.Base) (hc : s.Closed) {m : Int} (hm : (s.N.length : Int) + 2 ≤ m) : s.refs m = 0 :=
  (h.refs_zero m).2 fun n hn => by
    have h1 := h.there_range (hc n hn).1
    have h2 := h.there_range (hc n hn).2
    exact ⟨by omega, by omega⟩

/-- By what is taken, given back, laid. -/
theorem MS.Base.refs_takeS (h : s.Base) (hf : s.ar.T.length ≠ s.ar.most) (x : Nd) (m : Int) : (s.takeS x).refs m = s.refs m + cnt x m := by
  have hT : (s.takeS x).ar.T = s.ar.T ++ [s.ar.takeN] := by
    show s.ar.take.T = _
    rcases last_or_nil s.ar.B with hb | ⟨l, n, hb⟩
    · obtain ⟨e1, _, e3⟩ := AS.Ok.take_new hf hb
      rw [e1, e3]
    · obtain ⟨e1, _, e3⟩ := AS.Ok.take_again hf hb
      rw [e1, e3]
  unfold MS.refs
  rw [hT, sumL_append, sumL_cons, sumL_nil, h.takeS_new hf x]
  have h1 := sumL_congr (l := s.ar.T) (f := fun k => cnt ((s.takeS x).nd (k + 2)) m) (g := fun k => cnt (s.nd (k + 2)) m) fun k hk => by
    rw [h.takeS_old hf x ((MS.has_mem h).2 (by rw [show k + 2 - 2 = k by omega]; exact hk))]
  rw [h1]
  omega
theorem MS.Base.refs_setNd (h : s.Base) {n : Int} (hn : s.has n = true) (x : Nd) (m : Int) : (s.setNd n x).refs m = s.refs m - cnt (s.nd n) m + cnt x m := by
  have h1 := sumL_change (l := s.ar.T) (f := fun k => cnt (s.nd (k + 2)) m) (g := fun k => cnt ((s.setNd n x).nd (k + 2)) m) ((MS.has_mem h).1 hn) h.ar.nodT fun k hk hne => by
    rw [h.setNd_ne hn ((MS.has_mem h).2 (by rw [show k + 2 - 2 = k by omega]; exact hk)) (by omega) x]
  rw [show n - 2 + 2 = n by omega, h.setNd_at hn x] at h1
  exact h1

/-- What the code keeps of a state: beside each node how often it is had; of each variable the nodes, but those of a list. -/
structure MS.Co (s : MS) (R : List Int) (f : Int → Int) (X : List (Nd × Int)) (tabs : Nat → TS) : Prop where
  len : X.length = s.N.length
  node : ∀ (i : Nat) (h : i < X.length), s.has ((i : Int) + 2) = true → X[i].1 = s.nd ((i : Int) + 2)
  above : ∀ (i : Nat) (h : i < X.length), X[i].2 = f ((i : Int) + 2)
  ok : ∀ v, v < 8 → (tabs v).Ok
  slots : ∀ v, v < 8 → (tabs v).slots ≤ 80002
  tab : ∀ v, v < 8 → ∀ e : Ent, e ∈ (tabs v).L ↔ s.has e.2 = true ∧ e.2 ∉ R ∧ s.nd e.2 = ⟨(v : Int), e.1.1, e.1.2⟩

/-- One of many. -/
def upd {α : Type} (f : Nat → α) (i : Nat) (x : α) : Nat → α := fun j => if j = i then x else f j
theorem upd_same {α : Type} (f : Nat → α) (i : Nat) (x : α) : upd f i x i = x := by simp [upd]
theorem upd_other {α : Type} (f : Nat → α) (i : Nat) (x : α) {j : Nat} (h : j ≠ i) : upd f i x j = f j := by simp [upd, h]

theorem MS.Co.few {f : Int → Int} {X : List (Nd × Int)} {tabs : Nat → TS} (c : s.Co R f X tabs) (hs : s.Base) {v : Nat} (hv : v < 8) : (tabs v).L.length ≤ 20000 := by
  have h1 : ((tabs v).L.map fun e : Ent => e.2 - 2).Nodup := by
    have ap := (c.ok v hv).apart
    unfold Apart at ap
    have hinj : ∀ a ∈ (tabs v).L, ∀ b ∈ (tabs v).L, a.2 - 2 = b.2 - 2 → a.1 = b.1 := fun a ha b hb e => by
      have e2 : a.2 = b.2 := by omega
      have h1 := ((c.tab v hv a).1 ha).2.2
      have h2 := ((c.tab v hv b).1 hb).2.2
      rw [e2, h2] at h1
      injection h1 with _ h3 h4
      exact Prod.ext h3.symm h4.symm
    rw [List.Nodup, List.pairwise_map] at ap ⊢
    exact List.Pairwise.imp_of_mem (fun ha hb hne e => hne (hinj _ ha _ hb e)) ap
  have h2 := nodup_range_le s.ar.next _ h1 fun x hx => by
    obtain ⟨e, he, rfl⟩ := List.mem_map.1 hx
    have h3 := ((c.tab v hv e).1 he).1
    exact (hs.ar.all (e.2 - 2)).1 (.inl ((MS.has_mem hs).1 h3))
  rw [List.length_map] at h2
  have h3 := hs.ar.nextLe
  have h4 := hs.ar.mostLe
  omega

/-- What a table tells is what is there. -/
theorem MS.Co.get {f : Int → Int} {X : List (Nd × Int)} {tabs : Nat → TS} (c : s.Co R f X tabs) (hs : s.Okb R) {v : Nat} (hv : v < 8) (lo hi : Int) :
    (∃ n, s.find ⟨(v : Int), lo, hi⟩ R = some n ∧ (tabs v).get (lo, hi) = (n, true)) ∨ (s.find ⟨(v : Int), lo, hi⟩ R = Option.none ∧ (tabs v).get (lo, hi) = (0, false)) := by
  cases hf : s.find ⟨(v : Int), lo, hi⟩ R with
  | some n =>
    obtain ⟨h1, h2, h3⟩ := MS.find_some hf
    exact .inl ⟨n, rfl, TS.get_yes (c.ok v hv).apart (e := ((lo, hi), n)) ((c.tab v hv _).2 ⟨h1, h3, h2⟩)⟩
  | none =>
    refine .inr ⟨rfl, TS.get_no fun e he hk => ?_⟩
    obtain ⟨h1, h2, h3⟩ := (c.tab v hv e).1 he
    rw [hk] at h3
    exact MS.find_none hs.toBase hf h1 h2 h3

/-- Places: one more, one less had. -/
def bump (X : List (Nd × Int)) (n by' : Int) : List (Nd × Int) := if n = 0 ∨ n = 1 then X else X.set (n - 2).toNat ((X.getD (n - 2).toNat (⟨0, 0, 0⟩, 0)).1, (X.getD (n - 2).toNat (⟨0, 0, 0⟩, 0)).2 + by')
theorem bump_length (X : List (Nd × Int)) (n by' : Int) : (bump X n by').length = X.length := by unfold bump; split <;> simp
theorem bump_get (X : List (Nd × Int)) (n by' : Int) (hn : 0 ≤ n) (i : Nat) (h : i < X.length) : ∃ h' : i < (bump X n by').length, (bump X n by')[i] = (X[i].1, X[i].2 + (if n = (i : Int) + 2 then by' else 0)) := by
  refine ⟨by rw [bump_length]; exact h, ?_⟩
  by_cases hc : n = 0 ∨ n = 1
  · have : ¬ n = (i : Int) + 2 := by omega
    simp [bump, hc, this]
  · simp only [bump, if_neg hc, List.getElem_set]
    by_cases e : (n - 2).toNat = i
    · have e2 : n = (i : Int) + 2 := by omega
      rw [if_pos e, if_pos e2, e]
      simp [List.getD, h]
    · have e2 : ¬ n = (i : Int) + 2 := by omega
      rw [if_neg e, if_neg e2]
      simp
theorem MS.Co.bump {f : Int → Int} {X : List (Nd × Int)} {tabs : Nat → TS} (c : s.Co R f X tabs) (n by' : Int) (hn : 0 ≤ n) : s.Co R (fun m => f m + (if n = m then by' else 0)) (bump X n by') tabs := by
  refine ⟨(bump_length _ _ _).trans c.len, fun i h hh => ?_, fun i h => ?_, c.ok, c.slots, c.tab⟩
  · have h0 : i < X.length := by rwa [bump_length] at h
    obtain ⟨_, e⟩ := bump_get X n by' hn i h0
    rw [e]
    exact c.node i h0 hh
  · have h0 : i < X.length := by rwa [bump_length] at h
    obtain ⟨_, e⟩ := bump_get X n by' hn i h0
    rw [e, c.above i h0]

/-- Laid: what was left out until now. -/
theorem MS.Co.lay {f : Int → Int} {X : List (Nd × Int)} {tabs : Nat → TS} (hs : s.Base) {n : Int} (c : s.Co (n :: R) f X tabs) (hn : s.has n = true) (hnR : n ∉ R) {v : Nat} (hv : v < 8) (lo hi : Int) (hone : ∀ m, s.has m = true → m ∉ n :: R → s.nd m ≠ ⟨(v : Int), lo, hi⟩) :
    (s.setNd n ⟨(v : Int), lo, hi⟩).Co R f (X.set (n - 2).toNat (⟨(v : Int), lo, hi⟩, (X.getD (n - 2).toNat (⟨0, 0, 0⟩, 0)).2)) (upd tabs v ((tabs v).put ((lo, hi), n))) ∧ ((tabs v).get (lo, hi)).2 = false := by
  obtain ⟨r1, r2, r3⟩ := hs.range hn
  have hno : ∀ e ∈ (tabs v).L, e.1 ≠ (lo, hi) := fun e he hk => by
    obtain ⟨h1, h2, h3⟩ := (c.tab v hv e).1 he
    rw [hk] at h3
    exact hone e.2 h1 h2 h3
  have hg := TS.get_no hno
  have hfew := c.few hs hv
  refine ⟨⟨by simp [MS.setNd, c.len], fun i h hh => ?_, fun i h => ?_, fun u hu => ?_, fun u hu => ?_, fun u hu e => ?_⟩, by rw [hg]⟩
  · rw [List.getElem_set]
    split
    · rename_i e
      rw [show (i : Int) + 2 = n by omega, hs.setNd_at hn]
    · rename_i e
      have h0 : i < X.length := by simpa using h
      have hh' : s.has ((i : Int) + 2) = true := hh
      rw [hs.setNd_ne hn hh' (by omega)]
      exact c.node i h0 hh'
  · have h0 : i < X.length := by simpa using h
    rw [List.getElem_set]
    split
    · rename_i e
      subst e
      simp only [List.getD, List.getElem?_eq_getElem h0, Option.getD_some]
      exact c.above _ h0
    · exact c.above i h0
  · by_cases e : u = v
    · subst e; rw [upd_same]; exact (c.ok u hu).put _
    · rw [upd_other _ _ _ e]; exact c.ok u hu
  · by_cases e : u = v
    · subst e
      rw [upd_same, TS.put_yes (by rw [hg])]
      have h1 := c.slots u hu
      show (if (tabs u).L.length + 1 > (tabs u).slots / 2 then 2 * (tabs u).slots else (tabs u).slots) ≤ 80002
      split <;> omega
    · rw [upd_other _ _ _ e]; exact c.slots u hu
  · have hcase : s.has e.2 = true ∧ e.2 ∉ n :: R ∧ s.nd e.2 = ⟨(u : Int), e.1.1, e.1.2⟩ ∨ e.2 = n ∧ (⟨(v : Int), lo, hi⟩ : Nd) = ⟨(u : Int), e.1.1, e.1.2⟩ ↔ (s.setNd n ⟨(v : Int), lo, hi⟩).has e.2 = true ∧ e.2 ∉ R ∧ (s.setNd n ⟨(v : Int), lo, hi⟩).nd e.2 = ⟨(u : Int), e.1.1, e.1.2⟩ := by
      by_cases he : e.2 = n
      · rw [he, hs.setNd_at hn]
        simp only [MS.setNd_has, hn, hnR, not_false_eq_true, List.mem_cons, true_or, not_true_eq_false, false_and, and_false, false_or, true_and]
      · constructor
        · rintro (⟨h1, h2, h3⟩ | ⟨h1, _⟩)
          · exact ⟨h1, fun h => h2 (List.mem_cons_of_mem _ h), by rw [hs.setNd_ne hn h1 he]; exact h3⟩
          · exact absurd h1 he
        · rintro ⟨h1, h2, h3⟩
          have h1' : s.has e.2 = true := h1
          rw [hs.setNd_ne hn h1' he] at h3
          exact .inl ⟨h1', by simp [he, h2], h3⟩
    rw [← hcase]
    by_cases hu' : u = v
    · subst hu'
      rw [upd_same, TS.put_yes (by rw [hg])]
      show e ∈ (tabs u).L ++ [((lo, hi), n)] ↔ _
      rw [List.mem_append, List.mem_singleton, c.tab u hu e]
      refine or_congr_right ⟨fun h => by subst h; exact ⟨rfl, rfl⟩, fun ⟨h1, h2⟩ => ?_⟩
      obtain ⟨⟨a, b⟩, d⟩ := e
      simp only [Nd.mk.injEq, true_and] at h2
      simp only at h1
      rw [h1, h2.1, h2.2]
    · rw [upd_other _ _ _ hu', c.tab u hu e]
      refine ⟨.inl, fun h => h.elim id fun ⟨_, h2⟩ => ?_⟩
      injection h2 with h3
      omega

/-- Left out from now on. -/
theorem MS.Co.drop {f : Int → Int} {X : List (Nd × Int)} {tabs : Nat → TS} (c : s.Co R f X tabs) {n : Int} {v : Nat} (hv : v < 8) (he : (s.nd n).var = (v : Int)) (hone : ∀ m, s.has m = true → m ∉ R → s.nd m = s.nd n → m = n) {R' : List Int} (hR' : ∀ m, m ∈ R' ↔ m ∈ R ∨ m = n) :
    s.Co R' f X (upd tabs v ((tabs v).drop ((s.nd n).lo, (s.nd n).hi))) := by
  refine ⟨c.len, c.node, c.above, fun u hu => ?_, fun u hu => ?_, fun u hu e => ?_⟩
  · by_cases e : u = v
    · subst e; rw [upd_same]; exact (c.ok u hu).drop _
    · rw [upd_other _ _ _ e]; exact c.ok u hu
  · by_cases e : u = v
    · subst e; rw [upd_same]; exact c.slots u hu
    · rw [upd_other _ _ _ e]; exact c.slots u hu
  · have hnd : s.nd n = ⟨(v : Int), (s.nd n).lo, (s.nd n).hi⟩ := by rw [← he]
    have h0 := c.tab u hu e
    by_cases hu' : u = v
    · subst hu'
      rw [upd_same]
      show e ∈ (tabs u).L.filter (fun x => x.1 != ((s.nd n).lo, (s.nd n).hi)) ↔ _
      rw [List.mem_filter, h0]
      simp only [bne_iff_ne, ne_eq, hR', not_or]
      constructor
      · rintro ⟨⟨h1, h2, h3⟩, h4⟩
        refine ⟨h1, ⟨h2, fun e' => h4 ?_⟩, h3⟩
        rw [e'] at h3
        rw [h3]
      · rintro ⟨h1, ⟨h2, h3⟩, h4⟩
        refine ⟨⟨h1, h2, h4⟩, fun e' => h3 (hone e.2 h1 h2 ?_)⟩
        have e1 := congrArg Prod.fst e'
        have e2 := congrArg Prod.snd e'
        simp only at e1 e2
        rw [h4, hnd, e1, e2]
    · rw [upd_other _ _ _ hu', h0]
      simp only [hR', not_or]
      constructor
      · rintro ⟨h1, h2, h3⟩
        refine ⟨h1, ⟨h2, fun e' => ?_⟩, h3⟩
        rw [e', hnd] at h3
        injection h3 with h4
        omega
      · rintro ⟨h1, ⟨h2, _⟩, h3⟩
        exact ⟨h1, h2, h3⟩
theorem MS.Co.order {f : Int → Int} {X : List (Nd × Int)} {tabs : Nat → TS} (c : s.Co R f X tabs) (o : Nat → Int) : MS.Co { s with o := o } R f X tabs := ⟨c.len, c.node, c.above, c.ok, c.slots, c.tab⟩

/-- Taken, and not laid yet: n is left out. -/
theorem MS.Co.take {f : Int → Int} {X : List (Nd × Int)} {tabs : Nat → TS} (c : s.Co R f X tabs) (hs : s.Base) (hf : s.ar.T.length ≠ s.ar.most) (h0 : s.ar.takeN = s.N.length → f (s.ar.takeN + 2) = 0) :
    ∃ z, (s.takeS z).Co ((s.ar.takeN + 2) :: R) f (if s.ar.takeN = s.N.length then X ++ [(⟨0, 0, 0⟩, 0)] else X) tabs := by
  obtain ⟨t0, t1, t2, t3⟩ := hs.took hf
  have hhas := fun z n => hs.takeS_has hf z n
  have hold := fun z n hn => hs.takeS_old hf z (n := n) hn
  have hnew : s.has (s.ar.takeN + 2) = false := Bool.eq_false_iff.2 fun e => by
    have := (hs.range e).2.2
    rw [show s.ar.takeN + 2 - 2 = s.ar.takeN by omega] at this
    exact t1 this
  have htab : ∀ z v, v < 8 → ∀ e : Ent, e ∈ (tabs v).L ↔ (s.takeS z).has e.2 = true ∧ e.2 ∉ (s.ar.takeN + 2) :: R ∧ (s.takeS z).nd e.2 = ⟨(v : Int), e.1.1, e.1.2⟩ := fun z v hv e => by
    rw [c.tab v hv e]
    constructor
    · rintro ⟨h1, h2, h3⟩
      refine ⟨(hhas z _).2 (.inl h1), ?_, by rw [hold z _ h1]; exact h3⟩
      simp only [List.mem_cons, not_or]
      exact ⟨fun e' => (by rw [e', hnew] at h1; cases h1), h2⟩
    · rintro ⟨h1, h2, h3⟩
      simp only [List.mem_cons, not_or] at h2
      have h4 := ((hhas z _).1 h1).resolve_right h2.1
      rw [hold z _ h4] at h3
      exact ⟨h4, h2.2, h3⟩
  by_cases e : s.ar.takeN = s.N.length
  · refine ⟨⟨0, 0, 0⟩, ?_, fun i h hh => ?_, fun i h => ?_, c.ok, c.slots, htab _⟩
    · simp [e, MS.takeS, c.len]
    · rcases (hhas _ _).1 hh with h1 | h1
      · have h2 := (hs.range h1).2.1
        have hi : i < X.length := by rw [c.len]; omega
        rw [hold _ _ h1, ← c.node i hi h1]
        simp only [e, if_true]
        rw [List.getElem_append_left hi]
      · have hi : i = X.length := by rw [c.len]; omega
        rw [h1, hs.takeS_new hf]
        simp only [e, if_true, hi, List.getElem_append_right (Nat.le_refl _), Nat.sub_self, List.getElem_cons_zero]
    · simp only [e, if_true] at h ⊢
      by_cases hi : i < X.length
      · rw [List.getElem_append_left hi]; exact c.above i hi
      · have hi2 : i = X.length := by simp at h; omega
        have h3 := h0 e
        subst hi2
        rw [List.getElem_append_right (Nat.le_refl _)]
        simp only [Nat.sub_self, List.getElem_cons_zero]
        rw [c.len, ← e, h3]
  · have hlt : s.ar.takeN < s.N.length := by rcases t3 with ⟨h, _⟩ | ⟨h, _⟩ <;> omega
    have hX : s.ar.takeN.toNat < X.length := by rw [c.len]; omega
    refine ⟨X[s.ar.takeN.toNat].1, ?_, fun i h hh => ?_, fun i h => ?_, c.ok, c.slots, htab _⟩
    · simp [e, MS.takeS, c.len]
    · simp only [e, if_false] at h ⊢
      rcases (hhas _ _).1 hh with h1 | h1
      · rw [hold _ _ h1, c.node i h h1]
      · have hi : i = s.ar.takeN.toNat := by omega
        subst hi
        rw [h1, hs.takeS_new hf]
    · simp only [e, if_false] at h ⊢
      exact c.above i h
theorem MS.takeS_setNd {z x : Nd} (hs : s.Base) (hf : s.ar.T.length ≠ s.ar.most) : (s.takeS z).setNd (s.ar.takeN + 2) x = s.takeS x := by
  obtain ⟨t0, _, _, t3⟩ := hs.took hf
  simp only [MS.setNd, MS.takeS, show s.ar.takeN + 2 - 2 = s.ar.takeN by omega]
  congr 1
  split
  · rename_i e
    rw [show s.ar.takeN.toNat = s.N.length by omega, List.set_append_right _ _ (Nat.le_refl _)]
    simp
  · rw [List.set_set]

end

end Go.Proofs.YtipocmbplcdmjaaDoor

/-
  Walks of package arena.
-/
namespace Go.Proofs.YtipocmbplcdmjaaDoor
open Go Go.RowKit

/-- The blocks of a thing of one block and two slices. -/
def foot2 (b : Nat) (v1 v2 : Value) (k : Nat) : Prop := k = b ∨ v1.ownBlock = some k ∨ v2.ownBlock = some k

/-- At block b stands an arena of so many numbers, with these flags, and these given back. -/
structure ArenaR (w : World) (b : Nat) (v1 v2 : Value) (most : Int) (tk : List Bool) (bk : List Int) : Prop where
  row : w.heap[b]? = some (.cells #[.int .i64 most, v1, v2] 78 (0, 0))
  taken : Owns encB w v1 tk
  back : Owns encI w v2 bk
  apart1 : v1.ownBlock ≠ some b
  apart2 : v2.ownBlock ≠ some b
  apart : ∀ g, v1.ownBlock = some g → v2.ownBlock ≠ some g

theorem row_lt {w : World} {b : Nat} {o : Obj} (h : w.heap[b]? = some o) : b < w.heap.size := (Array.getElem?_eq_some_iff.1 h).1

section
variable {w w' : World} {b : Nat} {v1 v2 : Value} {most : Int} {tk : List Bool} {bk : List Int}

theorem ArenaR.lt (h : ArenaR w b v1 v2 most tk bk) : ∀ k, foot2 b v1 v2 k → k < w.heap.size := by
  rintro k (rfl | hk | hk)
  · exact row_lt h.row
  · exact h.taken.lt k hk
  · exact h.back.lt k hk

theorem ArenaR.block (h : ArenaR w b v1 v2 most tk bk) (hb : ∀ k, foot2 b v1 v2 k → w'.heap[k]? = w.heap[k]?) : ArenaR w' b v1 v2 most tk bk :=
  ⟨(hb b (.inl rfl)).trans h.row, h.taken.block fun g hg => hb g (.inr (.inl hg)), h.back.block fun g hg => hb g (.inr (.inr hg)), h.apart1, h.apart2, h.apart⟩

theorem ArenaR.keep (h : ArenaR w b v1 v2 most tk bk) {F : Nat → Prop} (hb : Keeps F w w') (hF : ∀ k, foot2 b v1 v2 k → ¬ F k) : ArenaR w' b v1 v2 most tk bk :=
  h.block fun k hk => hb.block k (h.lt k hk) (hF k hk)

theorem ArenaR.alloc (h : ArenaR w b v1 v2 most tk bk) (o : Obj) : ArenaR (w.alloc o) b v1 v2 most tk bk := h.block fun k hk => heap_alloc_old _ _ (h.lt k hk)

theorem ArenaR.cells (h : ArenaR w b v1 v2 most tk bk) : w.cell? ⟨b, 0, none⟩ = some (.int .i64 most) ∧ w.cell? ⟨b, 1, none⟩ = some v1 ∧ w.cell? ⟨b, 2, none⟩ = some v2 :=
  ⟨by rw [cell_of_row _ _ _ _ _ _ h.row]; rfl, by rw [cell_of_row _ _ _ _ _ _ h.row]; rfl, by rw [cell_of_row _ _ _ _ _ _ h.row]; rfl⟩

theorem ArenaR.free (h : ArenaR w b v1 v2 most tk bk) (j : Nat) : w.frozen? ⟨b, j, none⟩ = false := frozen_of_row _ _ _ _ _ h.row

theorem ArenaR.forms (h : ArenaR w b v1 v2 most tk bk) : ∃ a1 c1 a2 c2, v1 = .slice a1 tk.length c1 ∧ v2 = .slice a2 bk.length c2 := by
  obtain ⟨a1, c1, e1, _⟩ := h.taken.form
  obtain ⟨a2, c2, e2, _⟩ := h.back.form
  exact ⟨a1, c1, a2, c2, e1, e2⟩
end

set_option maxRecDepth 100000 in
theorem arenaMany {w : World} {b : Nat} {v1 v2 : Value} {most : Int} {tk : List Bool} {bk : List Int} (h : ArenaR w b v1 v2 most tk bk) (hb : bk.length ≤ tk.length) (ht : tk.length ≤ 20000) :
    Calls Tryd.prog 35 #[.pointer (some ⟨b, 0, none⟩)] w fun e w' => e = .returned (.int .i64 (tk.length - bk.length)) ∧ Below w.heap.size w w' := by
  obtain ⟨a1, k1, a2, k2, rfl, rfl⟩ := h.forms
  obtain ⟨c0, c1, c2⟩ := h.cells
  clear h
  have h1 : (0 : Int) ≤ (tk.length : Int) - bk.length := by omega
  have h2 : (tk.length : Int) - bk.length ≤ 20000 := by omega
  go_enter Tryd.func35, Tryd.ntmps35
  go_wp2
  go_region
  go_wp2
  go_ret
  exact ⟨rfl, by go_grown⟩

/-- Is it taken? -/
def flagAt (tk : List Bool) (n : Int) : Bool := decide (0 ≤ n) && tk.getD n.toNat false

set_option maxRecDepth 100000 in
theorem arenaHas {w : World} {b : Nat} {v1 v2 : Value} {most : Int} {tk : List Bool} {bk : List Int} (h : ArenaR w b v1 v2 most tk bk) (n : Int) :
    Calls Tryd.prog 69 #[.pointer (some ⟨b, 0, none⟩), .int .i64 n] w fun e w' => e = .returned (.bool (flagAt tk n)) ∧ w = w' := by
  by_cases h0 : 0 ≤ n
  · obtain ⟨m, rfl⟩ := Int.eq_ofNat_of_zero_le h0
    by_cases h1 : m < tk.length
    · obtain ⟨g, cap, rfl, hc, hm⟩ := h.taken.some (by omega)
      have e : flagAt tk (m : Int) = tk[m] := by simp [flagAt, List.getD, h1]
      rw [e]
      have cm := h.taken.boolAt m h1
      obtain ⟨c0, c1, c2⟩ := h.cells
      have hlt : (m : Int) < (tk.length : Int) := by omega
      clear h
      go_enter Tryd.func69, Tryd.ntmps69
      go_wp2
      go_ret
      exact ⟨rfl, rfl⟩
    · have e : flagAt tk (m : Int) = false := by simp [flagAt, List.getD, h1]
      rw [e]
      obtain ⟨a1, k1, a2, k2, rfl, rfl⟩ := h.forms
      obtain ⟨c0, c1, c2⟩ := h.cells
      have hlt : ¬ (m : Int) < (tk.length : Int) := by omega
      clear h
      go_enter Tryd.func69, Tryd.ntmps69
      go_wp2
      go_ret
      exact ⟨rfl, rfl⟩
  · have e : flagAt tk n = false := by simp [flagAt, h0]
    rw [e]
    clear h
    go_enter Tryd.func69, Tryd.ntmps69
    go_wp2
    go_ret
    exact ⟨rfl, rfl⟩

section
variable {w w' : World} {b : Nat} {v1 v2 : Value} {most : Int} {tk : List Bool} {bk : List Int}

/-- The second slice stored anew. -/
theorem ArenaR.setBack (h : ArenaR w b v1 v2 most tk bk) {v : Value} {l : List Int} (hv : Owns encI w v l) (h1 : v.ownBlock ≠ some b) (h2 : ∀ g, v1.ownBlock = some g → v.ownBlock ≠ some g) : ArenaR (w.setCell ⟨b, 2, none⟩ v) b v1 v most tk l :=
  ⟨heap_setCell_same w b 2 _ _ v h.row, h.taken.block fun g hg => Below.heap_setCell _ _ _ _ (fun e => h.apart1 (by rw [hg, e])), hv.block fun g hg => Below.heap_setCell _ _ _ _ (fun e => h1 (by rw [hg, e])), h.apart1, h1, h2⟩
/-- A flag written. -/
theorem ArenaR.setFlag {g c n : Nat} (h : ArenaR w b (.slice (some ⟨g, 0, none⟩) tk.length c) v2 most tk bk) (hn : n < tk.length) (x : Bool) : ArenaR (w.setCell ⟨g, n, none⟩ (.bool x)) b (.slice (some ⟨g, 0, none⟩) tk.length c) v2 most (tk.set n x) bk :=
  ⟨(Below.heap_setCell _ _ _ _ (fun e => h.apart1 (by rw [e]; rfl))).trans h.row, h.taken.put rfl rfl hn, h.back.block fun k hk => Below.heap_setCell _ _ _ _ (fun e => h.apart g rfl (by rw [hk, e])), h.apart1, h.apart2, h.apart⟩
end

set_option maxRecDepth 100000 in
set_option maxHeartbeats 1000000 in
theorem arenaTakeAgain {w : World} {b : Nat} {v1 v2 : Value} {most : Int} {tk : List Bool} {bk : List Int} {n : Nat} (h : ArenaR w b v1 v2 most tk (bk ++ [(n : Int)])) (hn : n < tk.length) (hb : bk.length < 1000000) :
    Calls Tryd.prog 72 #[.pointer (some ⟨b, 0, none⟩)] w fun e w' => e = .returned (.int .i64 n) ∧ ∃ v1' v2', ArenaR w' b v1' v2' most (tk.set n true) bk ∧ Keeps (foot2 b v1 v2) w w' ∧ Within w (foot2 b v1 v2) (foot2 b v1' v2') := by
  have hl : (bk ++ [(n : Int)]).length = bk.length + 1 := by simp
  obtain ⟨g1, k1, rfl, hc1, hm1⟩ := h.taken.some (by omega)
  obtain ⟨g2, k2, rfl, hc2, hm2⟩ := h.back.some (by omega)
  have cn : w.cell? ⟨g2, bk.length, none⟩ = some (.int .i64 (n : Int)) := by
    have := h.back.intAt bk.length (by omega)
    simpa using this
  have ht := h.back.take (n := bk.length) (by omega)
  rw [List.take_left' rfl] at ht
  have hS := h.setBack ht h.apart2 h.apart
  have hF := hS.setFlag hn true
  have z1 := h.free 2
  have z2 : (w.setCell ⟨b, 2, none⟩ (.slice (some ⟨g2, 0, none⟩) bk.length k2)).frozen? ⟨g1, n, none⟩ = false := hS.taken.free n
  have cf := hS.taken.boolAt n hn
  have cb := hS.cells.2.1
  obtain ⟨c0, c1, c2⟩ := h.cells
  have hk : Keeps (foot2 b (.slice (some ⟨g1, 0, none⟩) tk.length k1) (.slice (some ⟨g2, 0, none⟩) (bk ++ [(n : Int)]).length k2)) w ((w.setCell ⟨b, 2, none⟩ (.slice (some ⟨g2, 0, none⟩) bk.length k2)).setCell ⟨g1, n, none⟩ (.bool true)) :=
    (Keeps.of_setCell _ w ⟨b, 2, none⟩ _ (.inl rfl)).and (Keeps.of_setCell _ _ ⟨g1, n, none⟩ _ (.inr (.inl rfl)))
  have HF := Lib.hid hF
  have HK := Lib.hid hk
  clear h ht hS hF hk
  rw [hl] at *
  have hlt : (n : Int) < (tk.length : Int) := by omega
  have hn0 : (0 : Int) ≤ (n : Int) := by omega
  have hb0 : (bk.length : Int) < 1000000 := by omega
  go_enter Tryd.func72, Tryd.ntmps72
  go_wp2
  go_ret
  exact ⟨rfl, _, _, HF.out, HK.out, fun k hk => .inl hk⟩

section
variable {w w' : World} {b : Nat} {v1 v2 v' : Value} {most : Int} {tk : List Bool} {bk : List Int}

theorem ArenaR.appTaken (h : ArenaR w b v1 v2 most tk bk) {l : List Bool} (ho : Owns encB w' v' l) (hg : w.grownBy w' v1.ownBlock) (hat : v'.ownBlock = v1.ownBlock ∨ v'.ownBlock = some w.heap.size) :
    w'.cell? ⟨b, 1, none⟩ = some v1 ∧ w'.frozen? ⟨b, 1, none⟩ = false ∧ ArenaR (w'.setCell ⟨b, 1, none⟩ v') b v' v2 most l bk ∧ Keeps (foot2 b v1 v2) w (w'.setCell ⟨b, 1, none⟩ v') ∧ Within w (foot2 b v1 v2) (foot2 b v' v2) := by
  have hrow : w'.heap[b]? = some (.cells #[.int .i64 most, v1, v2] 78 (0, 0)) := (hg.block b (row_lt h.row) (fun e => h.apart1 e.symm)).trans h.row
  have hb1 : v'.ownBlock ≠ some b := fun e => by
    rcases hat with hat | hat
    · exact h.apart1 (hat ▸ e)
    · have := row_lt h.row; rw [hat] at e; injection e; omega
  have hap : ∀ g, v'.ownBlock = some g → v2.ownBlock ≠ some g := fun g hg1 e => by
    rcases hat with hat | hat
    · exact h.apart g (hat ▸ hg1) e
    · have := h.back.lt g e; rw [hat] at hg1; injection hg1; omega
  refine ⟨by rw [cell_of_row _ _ _ _ _ _ hrow]; rfl, frozen_of_row _ _ _ _ _ hrow, ⟨heap_setCell_same w' b 1 _ _ v' hrow, ho.block fun g hg => Below.heap_setCell _ _ _ _ (fun e => hb1 (by rw [hg, e])),
    (h.back.block fun g hg1 => hg.block g (h.back.lt g hg1) (fun e => h.apart g e.symm hg1)).block fun g hg => Below.heap_setCell _ _ _ _ (fun e => h.apart2 (by rw [hg, e])), hb1, h.apart2, hap⟩,
    (Keeps.of_grown hg (fun k hk => .inr (.inl hk))).and (Keeps.of_setCell _ _ ⟨b, 1, none⟩ _ (.inl rfl)), ?_⟩
  rintro k (rfl | hk | hk)
  · exact .inl (.inl rfl)
  · rcases hat with hat | hat
    · exact .inl (.inr (.inl (hat ▸ hk)))
    · rw [hat] at hk; injection hk with hk; exact .inr (by omega)
  · exact .inl (.inr (.inr hk))

end

set_option maxRecDepth 100000 in
set_option maxHeartbeats 1000000 in
theorem arenaTakeNew {w : World} {b : Nat} {v1 v2 : Value} {most : Int} {tk : List Bool} {bk : List Int} (h : ArenaR w b v1 v2 most tk bk) (ht : tk.length ≤ 20000) :
    Calls Tryd.prog 73 #[.pointer (some ⟨b, 0, none⟩)] w fun e w' => e = .returned (.int .i64 tk.length) ∧ ∃ v1' v2', ArenaR w' b v1' v2' most (tk ++ [true]) bk ∧ Keeps (foot2 b v1 v2) w w' ∧ Within w (foot2 b v1 v2) (foot2 b v1' v2') := by
  have hA := h.alloc (.cells #[.bool true] 4)
  have hsrc := oneB w true w.heap.size rfl
  have hlen : tk.length + [true].length ≤ 1000000 := by simp; omega
  have hl : (tk ++ [true]).length = tk.length + 1 := by simp
  obtain ⟨a1, k1, a2, k2, rfl, rfl⟩ := h.forms
  obtain ⟨c0, c1, c2⟩ := h.cells
  have hkA := Keeps.of_alloc (foot2 b (.slice a1 tk.length k1) (.slice a2 bk.length k2)) w (.cells #[.bool true] 4)
  have hsz : w.heap.size ≤ (w.alloc (.cells #[.bool true] 4)).heap.size := hkA.size
  clear h
  go_enter Tryd.func73, Tryd.ntmps73
  go_wp2_with (at_builtin; refine appendB rfl (.tmp 13) (.tmp 14) rfl _ _ tk [true] rfl hA.taken rfl hsrc hlen ?_; intro v' w2 hown hgr hat; obtain ⟨d1, z1, hR, hK, hW⟩ := hA.appTaken hown hgr hat; obtain ⟨a', k', e', _⟩ := hown.form; rw [hl] at e'; subst e'; clear hown hgr hat)
  go_ret
  exact ⟨rfl, _, _, hR, hkA.and hK, fun k hk => (hW k hk).imp id (fun e => Nat.le_trans hsz e)⟩

set_option maxRecDepth 100000 in
theorem arenaNew (most : Int) (w : World) (h0 : 0 ≤ most) (h1 : most ≤ 20000) :
    Calls Tryd.prog 18 #[.int .i64 most] w fun e w' => e = .returned (.pointer (some ⟨w.heap.size, 0, none⟩)) ∧ ArenaR w' w.heap.size (.slice none 0 0) (.slice none 0 0) most [] [] ∧ Below w.heap.size w w' := by
  have h2 : ¬ most < 0 := by omega
  have h3 : ¬ 20000 < most := by omega
  go_enter Tryd.func18, Tryd.ntmps18
  go_wp2
  go_ret
  exact ⟨rfl, ⟨heap_alloc_new _ _, Owns.nil _ _, Owns.nil _ _, (fun h => by cases h), (fun h => by cases h), (fun _ h => by cases h)⟩, by go_grown⟩

set_option maxRecDepth 100000 in
theorem arenaNo (most : Int) (w : World) (h : most < 0 ∨ 20000 < most) :
    Calls Tryd.prog 18 #[.int .i64 most] w fun e w' => e = .returned (.pointer none) ∧ w = w' := by
  by_cases h0 : most < 0
  · go_enter Tryd.func18, Tryd.ntmps18
    go_wp2
    go_ret
    exact ⟨rfl, rfl⟩
  · have h1 : 20000 < most := by omega
    go_enter Tryd.func18, Tryd.ntmps18
    go_wp2
    go_ret
    exact ⟨rfl, rfl⟩

theorem arenaMany_sub {W : World} {b : Nat} {v1 v2 : Value} {most : Int} {tk : List Bool} {bk : List Int} (h : ArenaR W b v1 v2 most tk bk) (hb : bk.length ≤ tk.length) (ht : tk.length ≤ 20000) (u : Sub W) :
    Calls Tryd.prog 35 #[.pointer (some ⟨b, 0, none⟩)] u.1 fun e w'' => e = .returned (.int .i64 (tk.length - bk.length)) ∧ ∃ x : Sub W, w'' = x.1 :=
  (arenaMany (h.keep (F := noBlock) (Keeps.of_below u.2 _) (fun _ _ h => h)) hb ht).mono fun _ w' ⟨he, hw⟩ => ⟨he, ⟨w', u.2.trans (hw.mono u.2.size)⟩, rfl⟩

set_option maxRecDepth 100000 in
set_option maxHeartbeats 1000000 in
theorem arenaTake_full {w : World} {b : Nat} {v1 v2 : Value} {most : Int} {tk : List Bool} {bk : List Int} (h : ArenaR w b v1 v2 most tk bk) (hb : bk.length ≤ tk.length) (ht : tk.length ≤ 20000) (hf : (tk.length : Int) - bk.length = most) :
    Calls Tryd.prog 64 #[.pointer (some ⟨b, 0, none⟩)] w fun e w' => e = .returned (.tuple #[.int .i64 0, .iface 54 (.int .i64 2)]) ∧ Below w.heap.size w w' := by
  have c0 : ∀ u : Sub w, u.1.cell? ⟨b, 0, none⟩ = some (.int .i64 most) := fun u => (h.keep (F := noBlock) (Keeps.of_below u.2 _) (fun _ _ h => h)).cells.1
  have hM := arenaMany_sub h hb ht
  rw [hf] at hM
  clear h hf
  go_enter Tryd.func64, Tryd.ntmps64
  go_wp2
  refine wp_region_quiet_all (C := fun w' => ∃ u : Sub w, w' = u.1) (by kernel_rfl) (by kernel_rfl) (InSub.drew w) ?_
  go_big_quiet_step (fail)
  go_big_quiet_step (exact hM _)
  iterate 5 (go_big_quiet_step (fail))
  refine wpQuiet_nil ?_
  clear c0 hM
  intro w' hw'
  obtain ⟨u, rfl⟩ := hw'
  have hk := u.2
  generalize u.1 = w1 at *
  go_wp2
  go_ret2
  exact ⟨rfl, hk⟩

set_option maxRecDepth 100000 in
set_option maxHeartbeats 1000000 in
theorem arenaTake_new {w : World} {b : Nat} {v1 v2 : Value} {most : Int} {tk : List Bool} (h : ArenaR w b v1 v2 most tk []) (ht : tk.length ≤ 20000) (hf : (tk.length : Int) ≠ most) :
    Calls Tryd.prog 64 #[.pointer (some ⟨b, 0, none⟩)] w fun e w' => e = .returned (.tuple #[.int .i64 tk.length, .nilIface]) ∧ ∃ v1' v2', ArenaR w' b v1' v2' most (tk ++ [true]) [] ∧ Keeps (foot2 b v1 v2) w w' ∧ Within w (foot2 b v1 v2) (foot2 b v1' v2') := by
  have hfb : ((tk.length : Int) == most) = false := by rw [beq_eq_false_iff_ne]; omega
  have c0 : ∀ u : Sub w, u.1.cell? ⟨b, 0, none⟩ = some (.int .i64 most) := fun u => (h.keep (F := noBlock) (Keeps.of_below u.2 _) (fun _ _ h => h)).cells.1
  have hM := arenaMany_sub h (Nat.zero_le _) ht
  have H := Lib.hid h
  clear h
  go_enter Tryd.func64, Tryd.ntmps64
  go_wp2
  refine wp_region_quiet_all (C := fun w' => ∃ u : Sub w, w' = u.1) (by kernel_rfl) (by kernel_rfl) (InSub.drew w) ?_
  go_big_quiet_step (fail)
  go_big_quiet_step (exact hM _)
  iterate 5 (go_big_quiet_step (fail))
  refine wpQuiet_nil ?_
  clear c0 hM
  intro w' hw'
  obtain ⟨u, rfl⟩ := hw'
  have hk := u.2
  generalize u.1 = w1 at *
  have h1 := H.out.keep (F := noBlock) (Keeps.of_below hk _) (fun _ _ h => h)
  clear H
  obtain ⟨a1, k1, a2, k2, rfl, rfl⟩ := h1.forms
  obtain ⟨c0, c1, c2⟩ := h1.cells
  go_wp2_with fail
  refine (arenaTakeNew h1 ht).mono ?_
  rintro e w2 ⟨rfl, v1', v2', hR, hK, hW⟩
  clear c0 c1 c2 h1
  go_wp2
  go_ret2
  exact ⟨rfl, v1', v2', hR, (Keeps.of_below hk _).and hK, fun k h => (hW k h).imp id (fun e => Nat.le_trans hk.size e)⟩

set_option maxRecDepth 100000 in
set_option maxHeartbeats 1000000 in
theorem arenaTake_again {w : World} {b : Nat} {v1 v2 : Value} {most : Int} {tk : List Bool} {bk : List Int} {n : Nat} (h : ArenaR w b v1 v2 most tk (bk ++ [(n : Int)])) (hb : bk.length < tk.length) (hn : n < tk.length) (ht : tk.length ≤ 20000) (hf : (tk.length : Int) - (bk.length + 1) ≠ most) :
    Calls Tryd.prog 64 #[.pointer (some ⟨b, 0, none⟩)] w fun e w' => e = .returned (.tuple #[.int .i64 n, .nilIface]) ∧ ∃ v1' v2', ArenaR w' b v1' v2' most (tk.set n true) bk ∧ Keeps (foot2 b v1 v2) w w' ∧ Within w (foot2 b v1 v2) (foot2 b v1' v2') := by
  have hl : (bk ++ [(n : Int)]).length = bk.length + 1 := by simp
  have hfb : ((tk.length : Int) - ((bk.length : Int) + 1) == most) = false := by rw [beq_eq_false_iff_ne]; omega
  have hpos : (0 : Int) < (bk.length : Int) + 1 := by omega
  have c0 : ∀ u : Sub w, u.1.cell? ⟨b, 0, none⟩ = some (.int .i64 most) := fun u => (h.keep (F := noBlock) (Keeps.of_below u.2 _) (fun _ _ h => h)).cells.1
  have hM := arenaMany_sub h (by rw [hl]; omega) ht
  rw [hl] at hM
  have H := Lib.hid h
  clear h
  go_enter Tryd.func64, Tryd.ntmps64
  go_wp2
  refine wp_region_quiet_all (C := fun w' => ∃ u : Sub w, w' = u.1) (by kernel_rfl) (by kernel_rfl) (InSub.drew w) ?_
  go_big_quiet_step (fail)
  go_big_quiet_step (exact hM _)
  iterate 5 (go_big_quiet_step (fail))
  refine wpQuiet_nil ?_
  clear c0 hM
  intro w' hw'
  obtain ⟨u, rfl⟩ := hw'
  have hk := u.2
  generalize u.1 = w1 at *
  have h1 := H.out.keep (F := noBlock) (Keeps.of_below hk _) (fun _ _ h => h)
  clear H
  obtain ⟨a1, k1, a2, k2, rfl, rfl⟩ := h1.forms
  obtain ⟨c0, c1, c2⟩ := h1.cells
  rw [hl] at c2
  go_wp2_with fail
  refine (arenaTakeAgain h1 hn (by omega)).mono ?_
  rintro e w2 ⟨rfl, v1', v2', hR, hK, hW⟩
  clear c0 c1 c2 h1
  go_wp2
  go_ret2
  exact ⟨rfl, v1', v2', hR, (Keeps.of_below hk _).and hK, fun k h => (hW k h).imp id (fun e => Nat.le_trans hk.size e)⟩

end Go.Proofs.YtipocmbplcdmjaaDoor
