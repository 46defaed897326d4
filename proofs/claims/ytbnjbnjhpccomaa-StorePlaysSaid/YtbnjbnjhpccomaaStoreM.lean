/-
  Mathematics of a store of nodes: what the document's layer 7 says, as functions on a state; what always holds of it. (Begun ahead of stage 7.) Nothing of the program is read here.
-/
import Derived.Test.YtbnjbnjhpccomaaArenaM
import Derived.Test.YtbnjbnjhpccomaaPermM
namespace Go.Proofs.Ytbnjbnjhpccomaa

/-- A node. -/
structure Nd where
  var : Int
  lo : Int
  hi : Int
deriving DecidableEq

/-- The document's store: its arena, its nodes by their numbers less 2, its order. -/
structure MS where make ::
  ar : AS
  N : List Nd
  o : Nat → Int

namespace MS
def has (s : MS) (n : Int) : Bool := decide (2 ≤ n) && decide (n - 2 ∈ s.ar.T)
def nd (s : MS) (n : Int) : Nd := s.N.getD (n - 2).toNat ⟨0, 0, 0⟩
def node (s : MS) (n : Int) : Option Nd := if s.has n then some (s.nd n) else none
def room (s : MS) : Int := s.ar.most - s.ar.T.length
/-- Its numbers, rising. -/
def all (s : MS) : List Int := ((List.range s.N.length).map fun i : Nat => (i : Int) + 2).filter s.has
def behind (s : MS) (n v : Int) : Bool := match s.node n with
  | none => n == 0 || n == 1
  | some x => decide (levO s.o v < levO s.o x.var)
/-- The node that is so, without those of a list. -/
def find (s : MS) (x : Nd) (but : List Int) : Option Int := ((List.range s.N.length).map fun i : Nat => (i : Int) + 2).find? fun n => decide (s.nd n = x) && s.has n && !(but.contains n)
def takeS (s : MS) (x : Nd) : MS := ⟨s.ar.take, if s.ar.takeN = s.N.length then s.N ++ [x] else s.N.set s.ar.takeN.toNat x, s.o⟩
/-- What it makes: the number, the error's number, the state. -/
def mk (s : MS) (v lo hi : Int) (but : List Int) : Int × Int × MS :=
  if v < 0 ∨ 7 < v ∨ s.behind lo v = false ∨ s.behind hi v = false then (0, 1, s)
  else if lo = hi then (lo, 0, s)
  else match s.find ⟨v, lo, hi⟩ but with
    | some n => (n, 0, s)
    | none => if s.ar.takeE ≠ 0 then (0, s.ar.takeE, s) else (s.ar.takeN + 2, 0, s.takeS ⟨v, lo, hi⟩)
def isLow (s : MS) (n : Int) : Bool := ((List.range s.N.length).map fun i : Nat => (i : Int) + 2).any fun m => (decide ((s.nd m).lo = n) || decide ((s.nd m).hi = n)) && s.has m
def free (s : MS) (n : Int) : Int × MS := if s.has n = false ∨ s.isLow n = true then (1, s) else (s.ar.giveE (n - 2), { s with ar := s.ar.give (n - 2) })
def isOf (s : MS) (n v : Int) : Bool := match s.node n with | none => false | some x => x.var == v
def side (s : MS) (n y : Int) (b : Bool) : Int := if s.isOf n y then (if b then (s.nd n).hi else (s.nd n).lo) else n
def setNd (s : MS) (n : Int) (x : Nd) : MS := { s with N := s.N.set (n - 2).toNat x }
/-- What changes by an exchange. -/
def changes (s : MS) (x y : Int) : List Int := s.all.filter fun n => decide ((s.nd n).var = x) && (s.isOf (s.nd n).lo y || s.isOf (s.nd n).hi y)
/-- One of them. -/
def swap1 (s : MS) (x y : Int) : List Int → MS
  | [] => s
  | n :: rest =>
    let old := s.nd n
    let a := s.mk x (s.side old.lo y false) (s.side old.hi y false) (n :: rest)
    let b := a.2.2.mk x (a.2.2.side old.lo y true) (a.2.2.side old.hi y true) (n :: rest)
    swap1 (b.2.2.setNd n ⟨y, a.1, b.1⟩) x y rest
def swap (s : MS) (l : Int) : Int × MS :=
  if l < 0 ∨ 6 < l then (1, s)
  else
    let x := s.o l.toNat
    let y := s.o (l.toNat + 1)
    if s.room < 2 * (s.changes x y).length then (2, s)
    else (0, swap1 { s with o := swapO s.o l } x y (s.changes x y))

/-- What always holds of the numbers alone. -/
structure Base (s : MS) : Prop where
  ar : s.ar.Ok
  len : s.N.length = s.ar.next
/-- What always holds. -/
structure Ok (s : MS) : Prop extends Base s where
  order : mayO s.o = true
  /-- Of what is there: its variable; unlike sides, each a constant or there, further behind. -/
  var : ∀ n, s.has n = true → 0 ≤ (s.nd n).var ∧ (s.nd n).var ≤ 7
  unlike : ∀ n, s.has n = true → (s.nd n).lo ≠ (s.nd n).hi
  lo : ∀ n, s.has n = true → s.behind (s.nd n).lo (s.nd n).var = true
  hi : ∀ n, s.has n = true → s.behind (s.nd n).hi (s.nd n).var = true
  /-- No two are alike. -/
  one : ∀ n m, s.has n = true → s.has m = true → s.nd n = s.nd m → n = m
/-- What holds but for a list's. -/
structure Okb (s : MS) (R : List Int) : Prop extends Base s where
  order : mayO s.o = true
  var : ∀ n, s.has n = true → n ∉ R → 0 ≤ (s.nd n).var ∧ (s.nd n).var ≤ 7
  unlike : ∀ n, s.has n = true → n ∉ R → (s.nd n).lo ≠ (s.nd n).hi
  lo : ∀ n, s.has n = true → n ∉ R → s.behind (s.nd n).lo (s.nd n).var = true
  hi : ∀ n, s.has n = true → n ∉ R → s.behind (s.nd n).hi (s.nd n).var = true
  one : ∀ n m, s.has n = true → s.has m = true → n ∉ R → m ∉ R → s.nd n = s.nd m → n = m
theorem Okb.ok {s : MS} (h : s.Okb []) : s.Ok :=
  ⟨h.toBase, h.order, fun n hn => h.var n hn (by simp), fun n hn => h.unlike n hn (by simp), fun n hn => h.lo n hn (by simp), fun n hn => h.hi n hn (by simp), fun n m hn hm => h.one n m hn hm (by simp) (by simp)⟩
theorem Ok.okb {s : MS} (h : s.Ok) (R : List Int) : s.Okb R :=
  ⟨h.toBase, h.order, fun n hn _ => h.var n hn, fun n hn _ => h.unlike n hn, fun n hn _ => h.lo n hn, fun n hn _ => h.hi n hn, fun n m hn hm _ _ => h.one n m hn hm⟩
end MS

section
variable {s : MS}
theorem MS.Base.range (h : s.Base) {n : Int} (hn : s.has n = true) : 2 ≤ n ∧ (n - 2).toNat < s.N.length ∧ n - 2 ∈ s.ar.T := by
  simp only [MS.has, Bool.and_eq_true, decide_eq_true_eq] at hn
  have := (h.ar.all (n - 2)).1 (.inl hn.2)
  rw [h.len]
  exact ⟨hn.1, by omega, hn.2⟩
theorem MS.behind_const {n v : Int} (h : n = 0 ∨ n = 1) : s.behind n v = true := by
  have hh : s.has n = false := by rcases h with rfl | rfl <;> rfl
  rcases h with rfl | rfl <;> simp [MS.behind, MS.node, hh]
theorem MS.behind_node {n v : Int} (h : s.has n = true) : s.behind n v = decide (levO s.o v < levO s.o (s.nd n).var) := by simp [MS.behind, MS.node, h]
theorem MS.behind_cases {n v : Int} (h : s.behind n v = true) : (n = 0 ∨ n = 1) ∨ (s.has n = true ∧ levO s.o v < levO s.o (s.nd n).var) := by
  cases hh : s.has n
  · simp only [MS.behind, MS.node, hh] at h
    left; simpa using h
  · rw [MS.behind_node hh] at h
    exact .inr ⟨rfl, by simpa using h⟩
theorem MS.Ok.new (most : Nat) (h : most ≤ 20000) (o : Nat → Int) (ho : mayO o = true) : (MS.make ⟨most, 0, [], []⟩ [] o).Ok := by
  have hn : ∀ n, (MS.make ⟨most, 0, [], []⟩ [] o).has n = false := fun n => by simp [MS.has]
  exact ⟨⟨AS.new_ok most h, rfl⟩, ho, fun n e => (by rw [hn] at e; cases e), fun n e => (by rw [hn] at e; cases e), fun n e => (by rw [hn] at e; cases e), fun n e => (by rw [hn] at e; cases e), fun n m e => (by rw [hn] at e; cases e)⟩

/-- Where there is room: what is taken is new, and in its place. -/
theorem MS.Base.took (h : s.Base) (hf : s.ar.T.length ≠ s.ar.most) : 0 ≤ s.ar.takeN ∧ s.ar.takeN ∉ s.ar.T ∧ (∀ m : Int, m ∈ s.ar.take.T ↔ m ∈ s.ar.T ∨ m = s.ar.takeN) ∧
    ((s.ar.takeN = s.N.length ∧ s.ar.take.next = s.N.length + 1) ∨ (s.ar.takeN < s.N.length ∧ s.ar.take.next = s.N.length)) := by
  have hl := h.len
  rcases last_or_nil s.ar.B with hb | ⟨l, n, hb⟩
  · obtain ⟨e1, _, e3⟩ := AS.Ok.take_new hf hb
    rw [e1, e3]
    refine ⟨by omega, fun e => ?_, fun m => by simp, .inl ⟨by omega, by show s.ar.next + 1 = _; omega⟩⟩
    have := (h.ar.all s.ar.next).1 (.inl e); omega
  · obtain ⟨e1, _, e3⟩ := AS.Ok.take_again hf hb
    rw [e1, e3]
    have hin := (h.ar.all n).1 (.inr (by rw [hb]; simp))
    refine ⟨by omega, fun e => h.ar.apart n e (by rw [hb]; simp), fun m => by simp, .inr ⟨by omega, by show s.ar.next = _; omega⟩⟩

/-- A node laid: what is there then. -/
theorem MS.Base.takeS_has (h : s.Base) (hf : s.ar.T.length ≠ s.ar.most) (x : Nd) (n : Int) : (s.takeS x).has n = true ↔ s.has n = true ∨ n = s.ar.takeN + 2 := by
  obtain ⟨h0, _, h2, _⟩ := h.took hf
  simp only [MS.has, MS.takeS, Bool.and_eq_true, decide_eq_true_eq, h2]
  constructor
  · rintro ⟨a, b | b⟩
    · exact .inl ⟨a, b⟩
    · exact .inr (by omega)
  · rintro (⟨a, b⟩ | b)
    · exact ⟨a, .inl b⟩
    · exact ⟨by omega, .inr (by omega)⟩
theorem MS.Base.takeS_new (h : s.Base) (hf : s.ar.T.length ≠ s.ar.most) (x : Nd) : (s.takeS x).nd (s.ar.takeN + 2) = x := by
  obtain ⟨h0, _, _, h3⟩ := h.took hf
  unfold MS.nd MS.takeS
  rw [show s.ar.takeN + 2 - 2 = s.ar.takeN by omega]
  rcases h3 with ⟨e, _⟩ | ⟨e, _⟩
  · simp [e, List.getD]
  · have e2 : s.ar.takeN.toNat < s.N.length := by omega
    have e3 : ¬ s.ar.takeN = s.N.length := by omega
    simp [e3, e2, List.getD]
theorem MS.Base.takeS_old (h : s.Base) (hf : s.ar.T.length ≠ s.ar.most) (x : Nd) {n : Int} (hn : s.has n = true) : (s.takeS x).nd n = s.nd n := by
  obtain ⟨h0, h1, _, h3⟩ := h.took hf
  obtain ⟨r1, r2, r3⟩ := h.range hn
  have hne : s.ar.takeN.toNat ≠ (n - 2).toNat := fun e => h1 (by rw [show s.ar.takeN = n - 2 by omega]; exact r3)
  unfold MS.nd MS.takeS
  rcases h3 with ⟨e, _⟩ | ⟨e, _⟩
  · simp [e, List.getD, List.getElem?_append_left r2]
  · have e3 : ¬ s.ar.takeN = s.N.length := by omega
    simp [e3, List.getD, List.getElem?_set_ne hne]
theorem MS.Base.takeS_behind (h : s.Base) (hf : s.ar.T.length ≠ s.ar.most) (x : Nd) {n v : Int} (hb : s.behind n v = true) : (s.takeS x).behind n v = true := by
  rcases MS.behind_cases hb with hc | ⟨hc, hl⟩
  · exact MS.behind_const hc
  · rw [MS.behind_node ((h.takeS_has hf x n).2 (.inl hc)), h.takeS_old hf x hc]
    exact decide_eq_true hl

/-- A node that is unlike all that are there, laid: all that holds, holds. -/
theorem MS.Okb.takeS {R : List Int} (h : s.Okb R) (hf : s.ar.T.length ≠ s.ar.most) {x : Nd} (hv : 0 ≤ x.var ∧ x.var ≤ 7) (hu : x.lo ≠ x.hi) (hlo : s.behind x.lo x.var = true) (hhi : s.behind x.hi x.var = true) (hone : ∀ n, s.has n = true → n ∉ R → s.nd n ≠ x) : (s.takeS x).Okb R := by
  obtain ⟨h0, h1, h2, h3⟩ := h.took hf
  have hcase : ∀ n, (s.takeS x).has n = true → (s.has n = true ∧ (s.takeS x).nd n = s.nd n) ∨ (n = s.ar.takeN + 2 ∧ (s.takeS x).nd n = x) := fun n hn => by
    rcases (h.takeS_has hf x n).1 hn with hc | rfl
    · exact .inl ⟨hc, h.takeS_old hf x hc⟩
    · exact .inr ⟨rfl, h.takeS_new hf x⟩
  refine ⟨⟨h.ar.take, ?_⟩, h.order, ?_, ?_, ?_, ?_, ?_⟩
  · unfold MS.takeS
    rcases h3 with ⟨e, e2⟩ | ⟨e, e2⟩
    · simp [e, e2]
    · have e3 : ¬ s.ar.takeN = s.N.length := by omega
      simp [e3, e2]
  · intro n hn hR
    rcases hcase n hn with ⟨hc, e⟩ | ⟨_, e⟩
    · rw [e]; exact h.var n hc hR
    · rw [e]; exact hv
  · intro n hn hR
    rcases hcase n hn with ⟨hc, e⟩ | ⟨_, e⟩
    · rw [e]; exact h.unlike n hc hR
    · rw [e]; exact hu
  · intro n hn hR
    rcases hcase n hn with ⟨hc, e⟩ | ⟨_, e⟩
    · rw [e]; exact h.takeS_behind hf x (h.lo n hc hR)
    · rw [e]; exact h.takeS_behind hf x hlo
  · intro n hn hR
    rcases hcase n hn with ⟨hc, e⟩ | ⟨_, e⟩
    · rw [e]; exact h.takeS_behind hf x (h.hi n hc hR)
    · rw [e]; exact h.takeS_behind hf x hhi
  · intro n m hn hm hR hS he
    rcases hcase n hn with ⟨hc, e⟩ | ⟨e1, e⟩
    · rcases hcase m hm with ⟨hd, f⟩ | ⟨f1, f⟩
      · rw [e, f] at he; exact h.one n m hc hd hR hS he
      · rw [e, f] at he; exact absurd he (hone n hc hR)
    · rcases hcase m hm with ⟨hd, f⟩ | ⟨f1, f⟩
      · rw [e, f] at he; exact absurd he.symm (hone m hd hS)
      · rw [e1, f1]

theorem MS.has_in {n : Int} (h : s.Base) (hn : s.has n = true) : n ∈ ((List.range s.N.length).map fun i : Nat => (i : Int) + 2) := by
  obtain ⟨r1, r2, _⟩ := h.range hn
  exact List.mem_map.2 ⟨(n - 2).toNat, List.mem_range.2 r2, by omega⟩
theorem MS.find_some {x : Nd} {but : List Int} {n : Int} (h : s.find x but = some n) : s.has n = true ∧ s.nd n = x ∧ n ∉ but := by
  have := List.find?_some h
  simp only [Bool.and_eq_true, decide_eq_true_eq, Bool.not_eq_true', List.contains_eq_mem, decide_eq_false_iff_not] at this
  exact ⟨this.1.2, this.1.1, this.2⟩
theorem MS.find_none (ok : s.Base) {x : Nd} {but : List Int} (h : s.find x but = none) {n : Int} (hn : s.has n = true) (hb : n ∉ but) : s.nd n ≠ x := by
  intro e
  have := List.find?_eq_none.1 h n (MS.has_in ok hn)
  simp [e, hn, hb] at this

/-- What Mk does: nothing, or one node that is unlike all that are there (but those of a list). -/
theorem MS.mk_cases (s : MS) (v lo hi : Int) (but : List Int) :
    (∃ r e, s.mk v lo hi but = (r, e, s)) ∨ (s.ar.T.length ≠ s.ar.most ∧ 0 ≤ v ∧ v ≤ 7 ∧ s.behind lo v = true ∧ s.behind hi v = true ∧ lo ≠ hi ∧ s.find ⟨v, lo, hi⟩ but = none ∧ s.mk v lo hi but = (s.ar.takeN + 2, 0, s.takeS ⟨v, lo, hi⟩)) := by
  unfold MS.mk
  by_cases h1 : v < 0 ∨ 7 < v ∨ s.behind lo v = false ∨ s.behind hi v = false
  · rw [if_pos h1]; exact .inl ⟨_, _, rfl⟩
  · rw [if_neg h1]
    by_cases h2 : lo = hi
    · rw [if_pos h2]; exact .inl ⟨_, _, rfl⟩
    · rw [if_neg h2]
      cases h3 : s.find ⟨v, lo, hi⟩ but with
      | some n => exact .inl ⟨_, _, rfl⟩
      | none =>
        by_cases h4 : s.ar.T.length = s.ar.most
        · have h5 := (AS.Ok.take_full h4).2.1
          simp only [h5]
          exact .inl ⟨_, _, rfl⟩
        · have h5 : s.ar.takeE = 0 := by simp [AS.takeE, h4]
          simp only [h5, ne_eq, not_true_eq_false, if_false]
          simp only [not_or, Bool.not_eq_false] at h1
          exact .inr ⟨h4, by omega, by omega, h1.2.2.1, h1.2.2.2, h2, trivial, trivial⟩
theorem MS.Ok.made (h : s.Ok) (v lo hi : Int) : (s.mk v lo hi []).2.2.Ok := by
  rcases s.mk_cases v lo hi [] with ⟨r, e, h1⟩ | ⟨h1, h2, h3, h4, h5, h6, h7, h8⟩
  · rw [h1]; exact h
  · rw [h8]; exact ((h.okb []).takeS h1 ⟨h2, h3⟩ h6 h4 h5 fun n hn _ => MS.find_none h.toBase h7 hn (by simp)).ok

/-- What is freed is no side of what stays: all that holds, holds. -/
theorem MS.Ok.freed (h : s.Ok) (n : Int) : (s.free n).2.Ok := by
  unfold MS.free
  split
  · exact h
  · rename_i hc
    simp only [not_or, Bool.not_eq_false, Bool.not_eq_true] at hc
    obtain ⟨hn, hlow⟩ := hc
    obtain ⟨r1, r2, r3⟩ := h.range hn
    have hg := (AS.give_yes r3).2
    have hhas : ∀ m, MS.has { s with ar := s.ar.give (n - 2) } m = true ↔ s.has m = true ∧ m ≠ n := fun m => by
      simp only [MS.has, Bool.and_eq_true, decide_eq_true_eq, hg, List.mem_filter, bne_iff_ne]
      constructor
      · rintro ⟨a, b, c⟩; exact ⟨⟨a, b⟩, by omega⟩
      · rintro ⟨⟨a, b⟩, c⟩; exact ⟨a, b, by omega⟩
    have hside : ∀ m, s.has m = true → (s.nd m).lo ≠ n ∧ (s.nd m).hi ≠ n := fun m hm => by
      have h1 := List.any_eq_false.1 hlow m (MS.has_in h.toBase hm)
      simp only [hm, Bool.and_true, Bool.or_eq_true, decide_eq_true_eq, not_or] at h1
      exact h1
    have hb : ∀ k v, s.behind k v = true → k ≠ n → MS.behind { s with ar := s.ar.give (n - 2) } k v = true := fun k v hb hk => by
      rcases MS.behind_cases hb with hc | ⟨hc, hl⟩
      · exact MS.behind_const hc
      · rw [MS.behind_node ((hhas k).2 ⟨hc, hk⟩)]
        exact decide_eq_true hl
    refine ⟨⟨h.ar.give _, ?_⟩, h.order, fun m hm => ?_, fun m hm => ?_, fun m hm => ?_, fun m hm => ?_, fun m k hm hk => ?_⟩
    · show s.N.length = (s.ar.give (n - 2)).next
      rw [hg]; exact h.len
    · exact h.var m ((hhas m).1 hm).1
    · exact h.unlike m ((hhas m).1 hm).1
    · exact hb _ _ (h.lo m ((hhas m).1 hm).1) (hside m ((hhas m).1 hm).1).1
    · exact hb _ _ (h.hi m ((hhas m).1 hm).1) (hside m ((hhas m).1 hm).1).2
    · exact h.one m k ((hhas m).1 hm).1 ((hhas k).1 hk).1
end

end Go.Proofs.Ytbnjbnjhpccomaa
