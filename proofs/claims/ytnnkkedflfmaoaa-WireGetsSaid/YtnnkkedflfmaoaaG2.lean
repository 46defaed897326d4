/-
  Texts of this proof, one behind the other: WireQ, WireE.
-/
import Derived.Test.YtnnkkedflfmaoaaG1
/-
  Mathematics of layer 18: requests and answers, as the code tells their bytes and as the document does. Nothing of the program is read here.
-/
namespace Go.Proofs.Ytnnkkedflfmaoaa

/-- A request. -/
structure Rq where
  op : Int
  tenant : Int
  a : Nat
  b : Nat
  c : Nat
  n : Int
  bit : Int

/-- An answer. -/
structure Rs where
  code : Int
  tenant : Int
  val : Nat
  charge : Int
  cost : Int

/-- An int as 64 bits, and back. -/
def u64 (x : Int) : Nat := (x % 18446744073709551616).toNat
def i64 (x : Nat) : Int := if x < 9223372036854775808 then (x : Int) else (x : Int) - 18446744073709551616

theorem u64_of {x : Int} (h0 : 0 ≤ x) (h1 : x < 9223372036854775808) : u64 x = x.toNat := by unfold u64; omega
theorem u64_neg {x : Int} (h0 : x < 0) (h1 : -9223372036854775808 ≤ x) : 9223372036854775808 ≤ u64 x := by unfold u64; omega
theorem u64_nat {x : Nat} (h : x < 9223372036854775808) : u64 (x : Int) = x := by unfold u64; omega
theorem u64_le {x : Int} (hw : -9223372036854775808 ≤ x ∧ x < 9223372036854775808) {m : Nat} (hm : m < 9223372036854775808) : u64 x ≤ m ↔ 0 ≤ x ∧ x ≤ m := by unfold u64; omega
theorem u64_ge {x : Int} {m : Nat} (h : 0 ≤ x) (h1 : x < 9223372036854775808) : m ≤ u64 x ↔ (m : Int) ≤ x := by unfold u64; omega
theorem u64_zero {x : Int} (hw : -9223372036854775808 ≤ x ∧ x < 9223372036854775808) : u64 x = 0 ↔ x = 0 := by unfold u64; omega

def In64' (x : Int) : Prop := -9223372036854775808 ≤ x ∧ x < 9223372036854775808

structure Rq.good (r : Rq) : Prop where
  op : In64' r.op
  tenant : In64' r.tenant
  a : r.a < 18446744073709551616
  b : r.b < 18446744073709551616
  c : r.c < 18446744073709551616
  n : In64' r.n
  bit : In64' r.bit

def Rq.nums (r : Rq) : NF
  | 0 => u64 r.op
  | 1 => u64 r.tenant
  | 2 => r.a
  | 3 => r.b
  | 4 => r.c
  | 5 => u64 r.n
  | 6 => u64 r.bit
  | _ => 0
theorem Rq.nums_over (r : Rq) : ∀ i, 7 ≤ i → r.nums i = 0 := by
  intro i hi
  match i, hi with
  | _ + 7, _ => rfl
def Rq.of (n : NF) : Rq := ⟨n 0, n 1, n 2, n 3, n 4, n 5, n 6⟩

def pA : Prt := ⟨2, 8, 0, 18446744073709551615⟩
def pB : Prt := ⟨3, 8, 0, 18446744073709551615⟩
def pC : Prt := ⟨4, 8, 0, 18446744073709551615⟩
def pN : Prt := ⟨5, 1, 0, 7⟩
def pT : Prt := ⟨6, 1, 0, 1⟩

/-- The parts that an Op names. -/
def named : Nat → List Prt
  | 1 => [⟨5, 2, 0, 65535⟩]
  | 3 => [pA]
  | 4 => [pT]
  | 5 => [pN]
  | 6 => [pA]
  | 7 => [pA, pB]
  | 8 => [pA, pB]
  | 9 => [pA, pB]
  | 10 => [pA, pB, pC]
  | 11 => [pA, pN, pT]
  | 12 => [pA, pN, pB]
  | 13 => [pA, pN]
  | 14 => [pA, pN]
  | 15 => [pA, ⟨5, 1, 0, 255⟩]
  | 16 => [pA]
  | 17 => [pA]
  | 18 => [pA]
  | 19 => [pA, pB]
  | 20 => [pA]
  | _ => []
def headP : List Prt := [⟨0, 1, 1, 21⟩, ⟨1, 1, 1, 8⟩]
def request (op : Nat) : List Prt := headP ++ named op

/-- The document's letters, and what they are. -/
def formB : Nat → List Nat
  | 1 => [78]
  | 2 => []
  | 3 => [65]
  | 4 => [98]
  | 5 => [110]
  | 6 => [65]
  | 7 => [65, 66]
  | 8 => [65, 66]
  | 9 => [65, 66]
  | 10 => [65, 66, 67]
  | 11 => [65, 110, 98]
  | 12 => [65, 110, 66]
  | 13 => [65, 110]
  | 14 => [65, 110]
  | 15 => [65, 110]
  | 16 => [65]
  | 17 => [65]
  | 18 => [65]
  | 19 => [65, 66]
  | 20 => [65]
  | 21 => []
  | _ => [63]
def chP (c : Nat) : Prt := if c = 65 then pA else if c = 66 then pB else if c = 67 then pC else if c = 98 then ⟨6, 1, 0, 255⟩ else if c = 78 then ⟨5, 2, 0, 65535⟩ else ⟨5, 1, 0, 255⟩
def formP (op : Nat) : List Prt := (formB op).map chP
def mostN : Nat → Nat
  | 1 => 65535
  | 5 => 7
  | 11 => 7
  | 12 => 7
  | 13 => 7
  | 14 => 7
  | 15 => 255
  | _ => 0

theorem named_over (op : Nat) (h : 21 < op) : named op = [] := by
  match op, h with
  | _ + 22, _ => rfl
theorem formB_over (op : Nat) (h : 21 < op) : formB op = [63] := by
  match op, h with
  | _ + 22, _ => rfl
theorem mostN_over (op : Nat) (h : 21 < op) : mostN op = 0 := by
  match op, h with
  | _ + 22, _ => rfl
theorem mostN_le (op : Nat) : mostN op ≤ 65535 := by
  rcases Nat.lt_or_ge 21 op with h | h
  · rw [mostN_over op h]; decide
  · exact (by decide : ∀ o, o ≤ 21 → mostN o ≤ 65535) op h

theorem named_few (op : Nat) : (named op).length ≤ 3 := by
  rcases Nat.lt_or_ge 21 op with h | h
  · rw [named_over op h]; decide
  · exact (by decide : ∀ o, o ≤ 21 → (named o).length ≤ 3) op h
theorem formB_few (op : Nat) : (formB op).length ≤ 3 ∧ ∀ c ∈ formB op, c < 128 := by
  rcases Nat.lt_or_ge 21 op with h | h
  · rw [formB_over op h]; decide
  · exact (by decide : ∀ o, o ≤ 21 → (formB o).length ≤ 3 ∧ ∀ c ∈ formB o, c < 128) op h

def formOk (f : List Prt) : Bool := decide (f.map Prt.pl).Nodup && (f.all fun p => decide (p.pl < 7) && (decide (p.wide ≤ 8) && decide (p.hi < 256 ^ p.wide)))
theorem Form.of_ok {f : List Prt} (h : formOk f = true) : Form f := by
  simp only [formOk, Bool.and_eq_true, decide_eq_true_eq, List.all_eq_true] at h
  exact ⟨h.1, fun p hp => (h.2 p hp).1, fun p hp => (h.2 p hp).2.1, fun p hp => (h.2 p hp).2.2⟩

theorem request_form (op : Nat) : Form (request op) := by
  refine Form.of_ok ?_
  rcases Nat.lt_or_ge 21 op with h | h
  · unfold request; rw [named_over op h]; decide
  · exact (by decide +kernel : ∀ o, o ≤ 21 → formOk (request o) = true) op h
theorem formP_form (op : Nat) : Form (formP op) := by
  refine Form.of_ok ?_
  rcases Nat.lt_or_ge 21 op with h | h
  · unfold formP; rw [formB_over op h]; decide
  · exact (by decide +kernel : ∀ o, o ≤ 21 → formOk (formP o) = true) op h
theorem formP_places (op : Nat) : (∀ p ∈ formP op, 2 ≤ p.pl) ∧ ∀ p ∈ formP op, (p.pl = 5 ∨ p.pl = 6 → p.wide ≤ 2) := by
  rcases Nat.lt_or_ge 21 op with h | h
  · unfold formP; rw [formB_over op h]; decide
  · exact (by decide +kernel : ∀ o, o ≤ 21 → (∀ p ∈ formP o, 2 ≤ p.pl) ∧ ∀ p ∈ formP o, (p.pl = 5 ∨ p.pl = 6 → p.wide ≤ 2)) op h

/-- The same places and widths. -/
theorem named_form (op : Nat) (h1 : 1 ≤ op) (h2 : op ≤ 21) : (named op).map (fun p => (p.pl, p.wide)) = (formP op).map fun p => (p.pl, p.wide) :=
  (by decide +kernel : ∀ o, o ≤ 21 → 1 ≤ o → (named o).map (fun p => (p.pl, p.wide)) = (formP o).map fun p => (p.pl, p.wide)) op h2 h1

theorem bytesF_keys (f g : List Prt) (n : NF) (h : f.map (fun p => (p.pl, p.wide)) = g.map fun p => (p.pl, p.wide)) : bytesF f n = bytesF g n := by
  have H : ∀ l : List Prt, bytesF l n = (l.map fun p => (p.pl, p.wide)).flatMap fun x => highB x.2 (n x.1) := fun l => by simp [bytesF, List.flatMap_map]
  rw [H f, H g, h]

/-- May a request be? -/
structure Rq.may (r : Rq) : Prop where
  op : 1 ≤ r.op ∧ r.op ≤ 21
  tenant : 1 ≤ r.tenant ∧ r.tenant ≤ 8
  n : 0 ≤ r.n ∧ r.n ≤ mostN r.op.toNat
  bit : 0 ≤ r.bit ∧ r.bit ≤ 1
  a : (65 ∈ formB r.op.toNat ∨ r.a = 0) ∧ r.a < 18446744073709551616
  b : (66 ∈ formB r.op.toNat ∨ r.b = 0) ∧ r.b < 18446744073709551616
  c : (67 ∈ formB r.op.toNat ∨ r.c = 0) ∧ r.c < 18446744073709551616
  t : 98 ∈ formB r.op.toNat ∨ r.bit = 0

theorem Rq.may.good {r : Rq} (h : r.may) : r.good := by
  have := mostN_le r.op.toNat
  obtain ⟨h1, h2, h3, h4, ⟨_, h5⟩, ⟨_, h6⟩, ⟨_, h7⟩, _⟩ := h
  refine ⟨?_, ?_, h5, h6, h7, ?_, ?_⟩ <;> unfold In64' <;> omega

theorem zero_places (L : List Nat) (n : NF) (hn : ∀ i, 7 ≤ i → n i = 0) : (∀ i, i ∉ L → n i = 0) ↔
    (0 ∈ L ∨ n 0 = 0) ∧ (1 ∈ L ∨ n 1 = 0) ∧ (2 ∈ L ∨ n 2 = 0) ∧ (3 ∈ L ∨ n 3 = 0) ∧ (4 ∈ L ∨ n 4 = 0) ∧ (5 ∈ L ∨ n 5 = 0) ∧ (6 ∈ L ∨ n 6 = 0) := by
  have H : ∀ i, (i ∈ L ∨ n i = 0) ↔ (i ∉ L → n i = 0) := fun i => by
    by_cases h : i ∈ L <;> simp [h]
  rw [H, H, H, H, H, H, H]
  constructor
  · intro h; exact ⟨h 0, h 1, h 2, h 3, h 4, h 5, h 6⟩
  · rintro ⟨h0, h1, h2, h3, h4, h5, h6⟩ i hi
    rcases Nat.lt_or_ge i 7 with h | h
    · rcases (by omega : i = 0 ∨ i = 1 ∨ i = 2 ∨ i = 3 ∨ i = 4 ∨ i = 5 ∨ i = 6) with rfl | rfl | rfl | rfl | rfl | rfl | rfl
      · exact h0 hi
      · exact h1 hi
      · exact h2 hi
      · exact h3 hi
      · exact h4 hi
      · exact h5 hi
      · exact h6 hi
    · exact hn i h

set_option maxHeartbeats 4000000 in
theorem may_iff {r : Rq} (hg : r.good) : okF (request r.op.toNat) r.nums ↔ r.may := by
  obtain ⟨op, tenant, a, b, c, n, bit⟩ := r
  obtain ⟨g1, g2, g3, g4, g5, g6, g7⟩ := hg
  simp only [In64'] at g1 g2 g3 g4 g5 g6 g7
  unfold okF
  rw [zero_places _ _ (Rq.nums_over _)]
  by_cases ho : 1 ≤ op ∧ op ≤ 21
  · obtain ⟨o, ho1, ho2, rfl⟩ : ∃ o : Nat, 1 ≤ o ∧ o ≤ 21 ∧ op = (o : Int) := ⟨op.toNat, by omega, by omega, by omega⟩
    have eo : u64 (o : Int) = o := u64_nat (by omega)
    have e1 := u64_le (x := tenant) g2 (m := 8) (by omega)
    have e2 : 1 ≤ u64 tenant ∧ u64 tenant ≤ 8 ↔ 1 ≤ tenant ∧ tenant ≤ 8 := by unfold u64; omega
    have f1 := u64_le (x := n) g6 (m := 65535) (by omega)
    have f2 := u64_le (x := n) g6 (m := 255) (by omega)
    have f3 := u64_le (x := n) g6 (m := 7) (by omega)
    have f4 := u64_zero (x := n) g6
    have t1 := u64_le (x := bit) g7 (m := 1) (by omega)
    have t2 := u64_zero (x := bit) g7
    constructor
    · rintro ⟨h1, h2⟩
      simp only [request, headP, List.cons_append, List.nil_append, List.map_cons, List.mem_cons, forall_eq_or_imp, Prt.ok, Bool.and_eq_true, decide_eq_true_eq, Rq.nums, Int.toNat_natCast] at h1 h2
      refine ⟨?_, ?_, ?_, ?_, ?_, ?_, ?_, ?_⟩ <;> dsimp only [Int.toNat_natCast]
      all_goals rcases (by omega : o = 1 ∨ o = 2 ∨ o = 3 ∨ o = 4 ∨ o = 5 ∨ o = 6 ∨ o = 7 ∨ o = 8 ∨ o = 9 ∨ o = 10 ∨ o = 11 ∨ o = 12 ∨ o = 13 ∨ o = 14 ∨ o = 15 ∨ o = 16 ∨ o = 17 ∨ o = 18 ∨ o = 19 ∨ o = 20 ∨ o = 21) with rfl | rfl | rfl | rfl | rfl | rfl | rfl | rfl | rfl | rfl | rfl | rfl | rfl | rfl | rfl | rfl | rfl | rfl | rfl | rfl | rfl
      all_goals simp [named, formB, mostN, pA, pB, pC, pN, pT] at h1 h2 ⊢
      all_goals omega
    · rintro ⟨h1, h2, h3, h4, h5, h6, h7, h8⟩
      simp only [request, headP, List.cons_append, List.nil_append, List.map_cons, List.mem_cons, forall_eq_or_imp, Prt.ok, Bool.and_eq_true, decide_eq_true_eq, Rq.nums, Int.toNat_natCast]
      dsimp only at h1 h2 h3 h4 h5 h6 h7 h8
      rw [Int.toNat_natCast] at h3 h5 h6 h7 h8
      rcases (by omega : o = 1 ∨ o = 2 ∨ o = 3 ∨ o = 4 ∨ o = 5 ∨ o = 6 ∨ o = 7 ∨ o = 8 ∨ o = 9 ∨ o = 10 ∨ o = 11 ∨ o = 12 ∨ o = 13 ∨ o = 14 ∨ o = 15 ∨ o = 16 ∨ o = 17 ∨ o = 18 ∨ o = 19 ∨ o = 20 ∨ o = 21) with rfl | rfl | rfl | rfl | rfl | rfl | rfl | rfl | rfl | rfl | rfl | rfl | rfl | rfl | rfl | rfl | rfl | rfl | rfl | rfl | rfl
      all_goals simp [named, formB, mostN, pA, pB, pC, pN, pT] at eo h3 h5 h6 h7 h8 ⊢
      all_goals omega
  · constructor
    · rintro ⟨h1, _⟩
      have := h1 ⟨0, 1, 1, 21⟩ (by simp [request, headP])
      simp only [Prt.ok, Bool.and_eq_true, decide_eq_true_eq, Rq.nums] at this
      exfalso
      unfold u64 at this
      omega
    · intro h; exact (ho h.op).elim

end Go.Proofs.Ytnnkkedflfmaoaa

/-
  Mathematics of layer 18: what the code puts and gets, and what the document does, is the same. Nothing of the program is read here.
-/
namespace Go.Proofs.Ytnnkkedflfmaoaa

instance (r : Rq) : Decidable r.may :=
  decidable_of_iff ((1 ≤ r.op ∧ r.op ≤ 21) ∧ (1 ≤ r.tenant ∧ r.tenant ≤ 8) ∧ (0 ≤ r.n ∧ r.n ≤ mostN r.op.toNat) ∧ (0 ≤ r.bit ∧ r.bit ≤ 1) ∧ ((65 ∈ formB r.op.toNat ∨ r.a = 0) ∧ r.a < 18446744073709551616) ∧
      ((66 ∈ formB r.op.toNat ∨ r.b = 0) ∧ r.b < 18446744073709551616) ∧ ((67 ∈ formB r.op.toNat ∨ r.c = 0) ∧ r.c < 18446744073709551616) ∧ (98 ∈ formB r.op.toNat ∨ r.bit = 0))
    ⟨fun ⟨h1, h2, h3, h4, h5, h6, h7, h8⟩ => ⟨h1, h2, h3, h4, h5, h6, h7, h8⟩, fun ⟨h1, h2, h3, h4, h5, h6, h7, h8⟩ => ⟨h1, h2, h3, h4, h5, h6, h7, h8⟩⟩

theorem Rq.of_nums {r : Rq} (h : r.may) : Rq.of r.nums = r := by
  have hm := mostN_le r.op.toNat
  obtain ⟨h1, h2, h3, h4, _, _, _, _⟩ := h
  obtain ⟨op, tenant, a, b, c, n, bit⟩ := r
  simp only [Rq.of, Rq.nums] at *
  unfold u64
  congr 1 <;> omega

theorem Rq.nums_of {n : NF} (h0 : n 0 < 9223372036854775808) (h1 : n 1 < 9223372036854775808) (h5 : n 5 < 9223372036854775808) (h6 : n 6 < 9223372036854775808) (h7 : ∀ i, 7 ≤ i → n i = 0) : (Rq.of n).nums = n := by
  funext i
  rcases Nat.lt_or_ge i 7 with h | h
  · rcases (by omega : i = 0 ∨ i = 1 ∨ i = 2 ∨ i = 3 ∨ i = 4 ∨ i = 5 ∨ i = 6) with rfl | rfl | rfl | rfl | rfl | rfl | rfl
    · exact u64_nat h0
    · exact u64_nat h1
    · rfl
    · rfl
    · rfl
    · exact u64_nat h5
    · exact u64_nat h6
  · rw [Rq.nums_over _ i h, h7 i h]

def bytesR (r : Rq) : List Nat := bytesF (request r.op.toNat) r.nums
def codePut (r : Rq) : Option (List Nat) := putN (request r.op.toNat) r.nums
def codeGet : List Nat → Option Rq
  | [] => none
  | x :: t => (getN (request x) (x :: t)).map Rq.of
def NF.two (x y : Nat) : NF := fun i => if i = 0 then x else if i = 1 then y else 0
def refGet : List Nat → Option Rq
  | x :: y :: t => (getGo (formP x) (NF.two x y) t).bind fun z => if z.2 = [] ∧ (Rq.of z.1).may then some (Rq.of z.1) else none
  | _ => none

theorem codePut_some {r : Rq} (hg : r.good) (b : List Nat) : codePut r = some b ↔ r.may ∧ b = bytesR r := by
  rw [← may_iff hg]
  exact putN_some (request_form _) (Rq.nums_over r) b
theorem codePut_none {r : Rq} (hg : r.good) (h : ¬ r.may) : codePut r = none := by
  rw [← may_iff hg] at h
  exact putN_none (request_form _) (Rq.nums_over r) h

theorem bytesF_request (op : Nat) (n : NF) : bytesF (request op) n = (n 0 % 256) :: (n 1 % 256) :: bytesF (named op) n := by
  unfold request headP
  rw [bytesF_append, bytesF_cons, bytesF_cons]
  simp [bytesF, highB]

theorem okF_head {op : Nat} {n : NF} (h : okF (request op) n) : 1 ≤ n 0 ∧ n 0 ≤ 21 ∧ 1 ≤ n 1 ∧ n 1 ≤ 8 := by
  have h1 := h.1 ⟨0, 1, 1, 21⟩ (by simp [request, headP])
  have h2 := h.1 ⟨1, 1, 1, 8⟩ (by simp [request, headP])
  simp only [Prt.ok, Bool.and_eq_true, decide_eq_true_eq] at h1 h2
  exact ⟨h1.1, h1.2, h2.1, h2.2⟩

theorem request_small (op : Nat) : ∀ p ∈ request op, p.pl = 5 ∨ p.pl = 6 → p.hi ≤ 65535 := by
  rcases Nat.lt_or_ge 21 op with h | h
  · unfold request; rw [named_over op h]; decide
  · exact (by decide +kernel : ∀ o, o ≤ 21 → ∀ p ∈ request o, p.pl = 5 ∨ p.pl = 6 → p.hi ≤ 65535) op h

theorem okF_small {op : Nat} {n : NF} (h : okF (request op) n) (i : Nat) (hi : i = 5 ∨ i = 6) : n i ≤ 65535 := by
  by_cases hp : i ∈ (request op).map Prt.pl
  · obtain ⟨p, hm, rfl⟩ := List.mem_map.1 hp
    have h1 := h.1 p hm
    simp only [Prt.ok, Bool.and_eq_true, decide_eq_true_eq] at h1
    exact Nat.le_trans h1.2 (request_small op p hm hi)
  · rw [h.2 i hp]; omega

theorem okF_over {f : List Prt} (hf : Form f) {n : NF} (h : okF f n) (i : Nat) (hi : 7 ≤ i) : n i = 0 :=
  h.2 i fun hp => by
    obtain ⟨p, hm, rfl⟩ := List.mem_map.1 hp
    have := hf.few p hm
    omega

theorem okF_of {op : Nat} {n : NF} (h : okF (request op) n) : (Rq.of n).nums = n := by
  obtain ⟨_, h1, _, h2⟩ := okF_head h
  have h5 := okF_small h 5 (.inl rfl)
  have h6 := okF_small h 6 (.inr rfl)
  exact Rq.nums_of (by omega) (by omega) (by omega) (by omega) (okF_over (request_form op) h)

theorem okF_hi {f : List Prt} (hf : Form f) {n : NF} (h : okF f n) (i : Nat) : n i < 18446744073709551616 := by
  by_cases hp : i ∈ f.map Prt.pl
  · obtain ⟨p, hm, rfl⟩ := List.mem_map.1 hp
    have h1 := h.1 p hm
    simp only [Prt.ok, Bool.and_eq_true, decide_eq_true_eq] at h1
    have h2 := hf.hi p hm
    have h3 : (256 : Nat) ^ p.wide ≤ 256 ^ 8 := Nat.pow_le_pow_right (by decide) (hf.wide p hm)
    have h4 : (256 : Nat) ^ 8 = 18446744073709551616 := by decide
    omega
  · rw [h.2 i hp]; decide

theorem okF_good {op : Nat} {n : NF} (h : okF (request op) n) : (Rq.of n).good := by
  obtain ⟨_, h1, _, h2⟩ := okF_head h
  have h5 := okF_small h 5 (.inl rfl)
  have h6 := okF_small h 6 (.inr rfl)
  have h7 := okF_hi (request_form op) h
  refine ⟨?_, ?_, h7 2, h7 3, h7 4, ?_, ?_⟩ <;> simp only [Rq.of, In64'] <;> omega

theorem codeGet_some {b : List Nat} (hb : ∀ y ∈ b, y < 256) (r : Rq) : codeGet b = some r ↔ r.may ∧ b = bytesR r := by
  constructor
  · intro h
    cases b with
    | nil => cases h
    | cons x t =>
      obtain ⟨n, hn, rfl⟩ := Option.map_eq_some_iff.1 h
      obtain ⟨h1, h2⟩ := (getN_some (request_form x) hb n).1 hn
      have e := okF_of h1
      obtain ⟨_, h3, _, _⟩ := okF_head h1
      rw [bytesF_request] at h2
      have h4 : x = n 0 := by have := (List.cons.inj h2).1; omega
      have h5 : (Rq.of n).op.toNat = x := by rw [h4]; exact Int.toNat_natCast _
      rw [← bytesF_request] at h2
      refine ⟨(may_iff (okF_good h1)).1 (by rw [h5, e]; exact h1), ?_⟩
      unfold bytesR
      rw [h5, e]
      exact h2
  · rintro ⟨h1, h2⟩
    have h3 := (may_iff h1.good).2 h1
    have h4 : b = (r.nums 0 % 256) :: (r.nums 1 % 256) :: bytesF (named r.op.toNat) r.nums := by rw [h2, bytesR, bytesF_request]
    have h5 : r.nums 0 % 256 = r.op.toNat := by
      have := h1.op
      show u64 r.op % 256 = _
      unfold u64; omega
    rw [h5] at h4
    have h6 := (getN_some (request_form r.op.toNat) hb r.nums).2 ⟨h3, h2⟩
    rw [h4] at h6 ⊢
    show (getN (request r.op.toNat) _).map Rq.of = _
    rw [h6]
    exact congrArg some (Rq.of_nums h1)

theorem two_over (x y i : Nat) (h : 2 ≤ i) : NF.two x y i = 0 := by unfold NF.two; rw [if_neg (by omega), if_neg (by omega)]

theorem refGet_some {b : List Nat} (hb : ∀ y ∈ b, y < 256) (r : Rq) : refGet b = some r ↔ r.may ∧ b = bytesR r := by
  constructor
  · intro h
    match b, hb, h with
    | x :: y :: t, hb, h =>
      obtain ⟨z, hz, h⟩ := Option.bind_eq_some_iff.1 h
      have hx : x < 256 := hb x (by simp)
      have hy : y < 256 := hb y (by simp)
      obtain ⟨n, rest⟩ := z
      obtain ⟨h1, h2, h3⟩ := (getGo_some (formP_form x) (NF.two x y) t (n, rest) (fun u hu => hb u (by simp [hu])) (fun p hp => two_over x y _ ((formP_places x).1 p hp))).1 hz
      dsimp only at h h1 h2 h3
      split at h
      · rename_i hc
        cases h
        obtain ⟨rfl, hmay⟩ := hc
        have h0 : n 0 = x := h3 0 fun hp => by obtain ⟨p, hp, e⟩ := List.mem_map.1 hp; have := (formP_places x).1 p hp; omega
        have hn1 : n 1 = y := h3 1 fun hp => by obtain ⟨p, hp, e⟩ := List.mem_map.1 hp; have := (formP_places x).1 p hp; omega
        have hs : ∀ i, i = 5 ∨ i = 6 → n i < 65536 := by
          intro i hi
          by_cases hp : i ∈ (formP x).map Prt.pl
          · obtain ⟨p, hm, rfl⟩ := List.mem_map.1 hp
            have h4 := h1 p hm
            simp only [Prt.ok, Bool.and_eq_true, decide_eq_true_eq] at h4
            have h5 := (formP_form x).hi p hm
            have h6 : (256 : Nat) ^ p.wide ≤ 256 ^ 2 := Nat.pow_le_pow_right (by decide) ((formP_places x).2 p hm hi)
            omega
          · rw [h3 i hp, two_over x y i (by omega)]; decide
        have h5 := hs 5 (.inl rfl)
        have h6 := hs 6 (.inr rfl)
        have h7 : ∀ i, 7 ≤ i → n i = 0 := fun i hi => by
          rw [h3 i (fun hp => by obtain ⟨p, hp, e⟩ := List.mem_map.1 hp; have := (formP_form x).few p hp; omega), two_over x y i (by omega)]
        have e := Rq.nums_of (n := n) (by omega) (by omega) (by omega) (by omega) h7
        refine ⟨hmay, ?_⟩
        have ho := hmay.op
        have e0 : (Rq.of n).op = (x : Int) := by simp [Rq.of, h0]
        rw [e0] at ho
        unfold bytesR
        rw [e, e0, Int.toNat_natCast, bytesF_request, bytesF_keys _ _ _ (named_form x (by omega) (by omega)), h0, hn1, h2, List.append_nil]
        rw [Nat.mod_eq_of_lt hx, Nat.mod_eq_of_lt hy]
      · cases h
  · rintro ⟨h1, h2⟩
    have ho := h1.op
    have ht := h1.tenant
    unfold bytesR at h2
    rw [bytesF_request, bytesF_keys _ _ _ (named_form _ (by omega) (by omega))] at h2
    have e0 : r.nums 0 % 256 = r.op.toNat := by show u64 r.op % 256 = _; unfold u64; omega
    have e1 : r.nums 1 % 256 = r.tenant.toNat := by show u64 r.tenant % 256 = _; unfold u64; omega
    have f0 : r.nums 0 = r.op.toNat := by show u64 r.op = _; unfold u64; omega
    have f1 : r.nums 1 = r.tenant.toNat := by show u64 r.tenant = _; unfold u64; omega
    rw [e0, e1] at h2
    subst h2
    have h3 := (may_iff h1.good).2 h1
    have key := (getGo_some (formP_form r.op.toNat) (NF.two r.op.toNat r.tenant.toNat) (bytesF (formP r.op.toNat) r.nums) (r.nums, []) (bytesF_lt _ _)
      (fun p hp => two_over _ _ _ ((formP_places _).1 p hp))).2 ⟨?_, by rw [List.append_nil], ?_⟩
    · show ((getGo (formP r.op.toNat) (NF.two r.op.toNat r.tenant.toNat) (bytesF (formP r.op.toNat) r.nums)).bind _) = _
      rw [key]
      show (if ([] : List Nat) = [] ∧ (Rq.of r.nums).may then some (Rq.of r.nums) else none) = _
      rw [Rq.of_nums h1, if_pos ⟨rfl, h1⟩]
    · intro p hp
      have hk : (p.pl, p.wide) ∈ (named r.op.toNat).map fun p => (p.pl, p.wide) := by
        rw [named_form _ (by omega) (by omega)]; exact List.mem_map_of_mem (f := fun p : Prt => (p.pl, p.wide)) hp
      obtain ⟨q, hq, e⟩ := List.mem_map.1 hk
      have hq' : q ∈ request r.op.toNat := by unfold request; exact List.mem_append_right _ hq
      have h4 := h3.1 q hq'
      have h5 := (request_form r.op.toNat).hi q hq'
      have e1 : q.pl = p.pl := congrArg Prod.fst e
      have e2 : q.wide = p.wide := congrArg Prod.snd e
      rw [e1] at h4
      rw [e2] at h5
      simp only [Prt.ok, Bool.and_eq_true, decide_eq_true_eq] at h4 ⊢
      have h6 : p.lo = 0 ∧ p.hi = 256 ^ p.wide - 1 := by
        obtain ⟨c, _, rfl⟩ := List.mem_map.1 hp
        unfold chP
        repeat (split; · decide)
        decide
      omega
    · intro i hi
      rcases Nat.lt_or_ge i 2 with h | h
      · rcases (by omega : i = 0 ∨ i = 1) with rfl | rfl
        · exact f0
        · exact f1
      · rw [two_over _ _ _ h]
        refine h3.2 i fun hp => hi ?_
        obtain ⟨p, hm, rfl⟩ := List.mem_map.1 hp
        unfold request headP at hm
        rcases List.mem_append.1 hm with hm | hp
        · simp only [List.mem_cons, List.not_mem_nil, or_false] at hm
          rcases hm with rfl | rfl
          · exact absurd h (by decide)
          · exact absurd h (by decide)
        · have hk : (p.pl, p.wide) ∈ (formP r.op.toNat).map fun p => (p.pl, p.wide) := by
            rw [← named_form _ (by omega) (by omega)]; exact List.mem_map_of_mem (f := fun p : Prt => (p.pl, p.wide)) hp
          obtain ⟨q, hq, e⟩ := List.mem_map.1 hk
          exact List.mem_map.2 ⟨q, hq, congrArg Prod.fst e⟩

theorem get_same {b : List Nat} (hb : ∀ y ∈ b, y < 256) : codeGet b = refGet b := by
  apply Option.ext
  intro r
  rw [codeGet_some hb, refGet_some hb]

/-- The document's bytes of a request that may be. -/
theorem bytesR_ref {r : Rq} (h : r.may) : bytesR r = r.op.toNat :: r.tenant.toNat :: bytesF (formP r.op.toNat) r.nums := by
  have ho := h.op
  have ht := h.tenant
  have e0 : r.nums 0 % 256 = r.op.toNat := by show u64 r.op % 256 = _; unfold u64; omega
  have e1 : r.nums 1 % 256 = r.tenant.toNat := by show u64 r.tenant % 256 = _; unfold u64; omega
  unfold bytesR
  rw [bytesF_request, bytesF_keys _ _ _ (named_form _ (by omega) (by omega)), e0, e1]

theorem bytesR_length (r : Rq) : (bytesR r).length = lenF (request r.op.toNat) := bytesF_length _ _
theorem lenF_bounds (op : Nat) : 2 ≤ lenF (request op) ∧ lenF (request op) ≤ 30 := by
  rcases Nat.lt_or_ge 21 op with h | h
  · unfold request; rw [named_over op h]; decide
  · exact (by decide +kernel : ∀ o, o ≤ 21 → 2 ≤ lenF (request o) ∧ lenF (request o) ≤ 30) op h
theorem bytesR_lt (r : Rq) : ∀ y ∈ bytesR r, y < 256 := bytesF_lt _ _
theorem bytesR_head (r : Rq) : ∃ t, bytesR r = (r.nums 0 % 256) :: t := ⟨_, by unfold bytesR; exact bytesF_request _ _⟩

/-- With a byte more, or one less, it is none's. -/
theorem get_off {r : Rq} (hr : r.may) {b : List Nat} (hb : ∀ y ∈ b, y < 256) (h0 : ∀ x t, b = x :: t → x = r.nums 0 % 256) (hl : b.length ≠ (bytesR r).length) : codeGet b = none := by
  cases hc : codeGet b with
  | none => rfl
  | some q =>
    obtain ⟨h1, h2⟩ := (codeGet_some hb q).1 hc
    exfalso
    obtain ⟨t, ht⟩ := bytesR_head q
    have h3 := h0 _ t (h2.trans ht)
    have ho := hr.op
    have hq := h1.op
    have h4 : q.op.toNat = r.op.toNat := by
      change u64 q.op % 256 = u64 r.op % 256 at h3
      unfold u64 at h3
      omega
    exact hl (by rw [h2, bytesR_length, bytesR_length, h4])

/- Answers. -/
structure Rs.good (r : Rs) : Prop where
  code : In64' r.code
  tenant : In64' r.tenant
  val : r.val < 18446744073709551616
  charge : In64' r.charge
  cost : In64' r.cost
def Rs.nums (r : Rs) : NF
  | 0 => u64 r.code
  | 1 => u64 r.tenant
  | 2 => r.val
  | 3 => u64 r.charge
  | 4 => u64 r.cost
  | _ => 0
theorem Rs.nums_over (r : Rs) : ∀ i, 5 ≤ i → r.nums i = 0 := by
  intro i hi
  match i, hi with
  | _ + 5, _ => rfl
def Rs.of (n : NF) : Rs := ⟨n 0, n 1, n 2, n 3, n 4⟩
def answerP : List Prt := [⟨0, 1, 0, 7⟩, ⟨1, 1, 0, 8⟩, ⟨2, 8, 0, 18446744073709551615⟩, ⟨3, 2, 0, 65535⟩, ⟨4, 8, 0, 9223372036854775807⟩]
theorem answerP_form : Form answerP := Form.of_ok (by decide)
structure Rs.may (r : Rs) : Prop where
  code : 0 ≤ r.code ∧ r.code ≤ 7
  tenant : 0 ≤ r.tenant ∧ r.tenant ≤ 8
  val : r.val < 18446744073709551616
  charge : 0 ≤ r.charge ∧ r.charge ≤ 65535
  cost : 0 ≤ r.cost ∧ r.cost < 9223372036854775808
instance (r : Rs) : Decidable r.may :=
  decidable_of_iff ((0 ≤ r.code ∧ r.code ≤ 7) ∧ (0 ≤ r.tenant ∧ r.tenant ≤ 8) ∧ r.val < 18446744073709551616 ∧ (0 ≤ r.charge ∧ r.charge ≤ 65535) ∧ (0 ≤ r.cost ∧ r.cost < 9223372036854775808))
    ⟨fun ⟨h1, h2, h3, h4, h5⟩ => ⟨h1, h2, h3, h4, h5⟩, fun ⟨h1, h2, h3, h4, h5⟩ => ⟨h1, h2, h3, h4, h5⟩⟩

theorem Rs.may.good {r : Rs} (h : r.may) : r.good := by
  obtain ⟨h1, h2, h3, h4, h5⟩ := h
  refine ⟨?_, ?_, h3, ?_, ?_⟩ <;> unfold In64' <;> omega

theorem answer_ok (n : NF) : okF answerP n ↔ n 0 ≤ 7 ∧ n 1 ≤ 8 ∧ n 2 < 18446744073709551616 ∧ n 3 ≤ 65535 ∧ n 4 < 9223372036854775808 ∧ ∀ i, 5 ≤ i → n i = 0 := by
  unfold okF answerP
  simp only [List.map_cons, List.map_nil, List.mem_cons, forall_eq_or_imp, forall_eq, Prt.ok, Bool.and_eq_true, decide_eq_true_eq, List.not_mem_nil, or_false]
  constructor
  · rintro ⟨⟨h1, h2, h3, h4, h5⟩, h6⟩
    refine ⟨by omega, by omega, by omega, by omega, by omega, fun i hi => h6 i (by omega)⟩
  · rintro ⟨h1, h2, h3, h4, h5, h6⟩
    refine ⟨⟨by omega, by omega, by omega, by omega, by omega⟩, fun i hi => h6 i (by omega)⟩

theorem mayS_iff {r : Rs} (hg : r.good) : okF answerP r.nums ↔ r.may := by
  obtain ⟨g1, g2, g3, g4, g5⟩ := hg
  unfold In64' at g1 g2 g4 g5
  rw [answer_ok]
  obtain ⟨code, tenant, val, charge, cost⟩ := r
  dsimp only at g1 g2 g3 g4 g5
  have e1 := u64_le g1 (m := 7) (by decide)
  have e2 := u64_le g2 (m := 8) (by decide)
  have e3 := u64_le g4 (m := 65535) (by decide)
  have e4 := u64_le g5 (m := 9223372036854775807) (by decide)
  constructor
  · rintro ⟨h1, h2, h3, h4, h5, _⟩
    change u64 code ≤ 7 at h1
    change u64 tenant ≤ 8 at h2
    change u64 charge ≤ 65535 at h4
    change u64 cost < 9223372036854775808 at h5
    refine ⟨?_, ?_, g3, ?_, ?_⟩ <;> dsimp only <;> omega
  · rintro ⟨h1, h2, h3, h4, h5⟩
    dsimp only at h1 h2 h4 h5
    refine ⟨?_, ?_, h3, ?_, ?_, Rs.nums_over _⟩
    · show u64 code ≤ 7; omega
    · show u64 tenant ≤ 8; omega
    · show u64 charge ≤ 65535; omega
    · show u64 cost < 9223372036854775808; omega

theorem Rs.of_nums {r : Rs} (h : r.may) : Rs.of r.nums = r := by
  obtain ⟨h1, h2, _, h4, h5⟩ := h
  obtain ⟨code, tenant, val, charge, cost⟩ := r
  simp only [Rs.of, Rs.nums] at *
  unfold u64
  congr 1 <;> omega
theorem Rs.nums_of {n : NF} (h : okF answerP n) : (Rs.of n).nums = n := by
  obtain ⟨h1, h2, h3, h4, h5, h6⟩ := (answer_ok n).1 h
  funext i
  rcases Nat.lt_or_ge i 5 with h | h
  · rcases (by omega : i = 0 ∨ i = 1 ∨ i = 2 ∨ i = 3 ∨ i = 4) with rfl | rfl | rfl | rfl | rfl
    · exact u64_nat (by omega)
    · exact u64_nat (by omega)
    · rfl
    · exact u64_nat (by omega)
    · exact u64_nat (by omega)
  · rw [Rs.nums_over _ i h, h6 i h]
theorem Rs.good_of {n : NF} (h : okF answerP n) : (Rs.of n).good := by
  obtain ⟨h1, h2, h3, h4, h5, h6⟩ := (answer_ok n).1 h
  refine ⟨?_, ?_, h3, ?_, ?_⟩ <;> simp only [Rs.of, In64'] <;> omega

def bytesS (r : Rs) : List Nat := bytesF answerP r.nums
def codePutS (r : Rs) : Option (List Nat) := putN answerP r.nums
def codeGetS (b : List Nat) : Option Rs := (getN answerP b).map Rs.of
def refRs (b : List Nat) : Rs := ⟨b.getD 0 0, b.getD 1 0, numB ((b.drop 2).take 8), numB ((b.drop 10).take 2), i64 (numB ((b.drop 12).take 8))⟩
def refGetS (b : List Nat) : Option Rs := if b.length = 20 ∧ (refRs b).may then some (refRs b) else none

theorem codePutS_some {r : Rs} (hg : r.good) (b : List Nat) : codePutS r = some b ↔ r.may ∧ b = bytesS r := by
  rw [← mayS_iff hg]
  exact putN_some answerP_form (fun i hi => Rs.nums_over r i (by omega)) b
theorem codePutS_none {r : Rs} (hg : r.good) (h : ¬ r.may) : codePutS r = none := by
  rw [← mayS_iff hg] at h
  exact putN_none answerP_form (fun i hi => Rs.nums_over r i (by omega)) h
theorem codeGetS_some {b : List Nat} (hb : ∀ y ∈ b, y < 256) (r : Rs) : codeGetS b = some r ↔ r.may ∧ b = bytesS r := by
  constructor
  · intro h
    obtain ⟨n, hn, rfl⟩ := Option.map_eq_some_iff.1 h
    obtain ⟨h1, h2⟩ := (getN_some answerP_form hb n).1 hn
    have e := Rs.nums_of h1
    refine ⟨(mayS_iff (Rs.good_of h1)).1 (by rw [e]; exact h1), ?_⟩
    unfold bytesS
    rw [e]
    exact h2
  · rintro ⟨h1, h2⟩
    have h3 := (mayS_iff h1.good).2 h1
    exact Option.map_eq_some_iff.2 ⟨r.nums, (getN_some answerP_form hb r.nums).2 ⟨h3, h2⟩, Rs.of_nums h1⟩

theorem bytesS_form (r : Rs) : bytesS r = (r.nums 0 % 256) :: (r.nums 1 % 256) :: (highB 8 r.val ++ (highB 2 (r.nums 3) ++ highB 8 (r.nums 4))) := by
  unfold bytesS answerP
  rw [bytesF_cons, bytesF_cons, bytesF_cons, bytesF_cons, bytesF_cons]
  simp [bytesF, highB]
  exact ⟨rfl, rfl, rfl, rfl, rfl, rfl, rfl, rfl⟩
theorem bytesS_length (r : Rs) : (bytesS r).length = 20 := bytesF_length _ _
theorem bytesS_lt (r : Rs) : ∀ y ∈ bytesS r, y < 256 := bytesF_lt _ _

theorem refGetS_some {b : List Nat} (hb : ∀ y ∈ b, y < 256) (r : Rs) : refGetS b = some r ↔ r.may ∧ b = bytesS r := by
  have key : b.length = 20 → ∃ x y m1 m2 m3, b = x :: y :: (m1 ++ (m2 ++ m3)) ∧ x < 256 ∧ y < 256 ∧ m1.length = 8 ∧ m2.length = 2 ∧ m3.length = 8 ∧ (refRs b) = ⟨x, y, numB m1, numB m2, i64 (numB m3)⟩ ∧
      highB 8 (numB m1) = m1 ∧ highB 2 (numB m2) = m2 ∧ highB 8 (numB m3) = m3 ∧ numB m1 < 256 ^ 8 ∧ numB m2 < 256 ^ 2 ∧ numB m3 < 256 ^ 8 := by
    intro hl
    match b, hb, hl with
    | x :: y :: t, hb, hl =>
      have ht : t.length = 18 := by simpa using hl
      have hm : ∀ (k : List Nat), (∀ u ∈ k, u ∈ t) → ∀ n, k.length = n → n ≤ 8 → highB n (numB k) = k ∧ numB k < 256 ^ n := by
        intro k hk n hn h8
        obtain ⟨e1, e2⟩ := numB_exact k (by omega) (fun u hu => hb u (by simp [hk u hu]))
        rw [hn] at e1 e2
        exact ⟨e2, e1⟩
      have l1 : (t.take 8).length = 8 := by rw [List.length_take]; omega
      have l2 : ((t.drop 8).take 2).length = 2 := by rw [List.length_take, List.length_drop]; omega
      have l3 : (t.drop 10).length = 8 := by rw [List.length_drop]; omega
      obtain ⟨a1, a2⟩ := hm (t.take 8) (fun u hu => List.mem_of_mem_take hu) 8 l1 (by decide)
      obtain ⟨b1, b2⟩ := hm ((t.drop 8).take 2) (fun u hu => List.mem_of_mem_drop (List.mem_of_mem_take hu)) 2 l2 (by decide)
      obtain ⟨c1, c2⟩ := hm (t.drop 10) (fun u hu => List.mem_of_mem_drop hu) 8 l3 (by decide)
      refine ⟨x, y, t.take 8, (t.drop 8).take 2, t.drop 10, ?_, hb x (by simp), hb y (by simp), l1, l2, l3, ?_, a1, b1, c1, a2, b2, c2⟩
      · rw [show t.drop 10 = (t.drop 8).drop 2 by rw [List.drop_drop], List.take_append_drop, List.take_append_drop]
      · have e3 : ((x :: y :: t).drop 12).take 8 = t.drop 10 := by
          show (t.drop 10).take 8 = t.drop 10
          exact List.take_of_length_le (by omega)
        unfold refRs
        rw [e3]
        rfl
  unfold refGetS
  constructor
  · intro h
    split at h
    · rename_i hc
      obtain ⟨hl, hm⟩ := hc
      obtain ⟨x, y, m1, m2, m3, rfl, hx, hy, l1, l2, l3, e, a1, b1, c1, a2, b2, c2⟩ := key hl
      rw [e] at h hm
      cases h
      refine ⟨hm, ?_⟩
      have h5 := hm.cost
      dsimp only at h5
      have h6 : numB m3 < 9223372036854775808 := by
        unfold i64 at h5
        split at h5
        · assumption
        · have : (256 : Nat) ^ 8 = 18446744073709551616 := by decide
          omega
      have h2 : numB m2 < 65536 := b2
      rw [bytesS_form]
      have f0 : Rs.nums ⟨x, y, numB m1, numB m2, i64 (numB m3)⟩ 0 = x := u64_nat (by omega)
      have f1 : Rs.nums ⟨x, y, numB m1, numB m2, i64 (numB m3)⟩ 1 = y := u64_nat (by omega)
      have f3 : Rs.nums ⟨x, y, numB m1, numB m2, i64 (numB m3)⟩ 3 = numB m2 := u64_nat (by omega)
      have f4 : Rs.nums ⟨x, y, numB m1, numB m2, i64 (numB m3)⟩ 4 = numB m3 := by
        show u64 (i64 (numB m3)) = _
        rw [show i64 (numB m3) = (numB m3 : Int) from if_pos h6]
        exact u64_nat h6
      rw [f0, f1, f3, f4, Nat.mod_eq_of_lt hx, Nat.mod_eq_of_lt hy]
      dsimp only
      rw [a1, b1, c1]
    · cases h
  · rintro ⟨h1, rfl⟩
    have hl := bytesS_length r
    obtain ⟨x, y, m1, m2, m3, e0, hx, hy, l1, l2, l3, e, a1, b1, c1, a2, b2, c2⟩ := key hl
    rw [bytesS_form] at e0
    have g1 := h1.code
    have g2 := h1.tenant
    have g4 := h1.charge
    have g5 := h1.cost
    have g3 := h1.val
    have f0 : r.nums 0 = r.code.toNat := by show u64 r.code = _; unfold u64; omega
    have f1 : r.nums 1 = r.tenant.toNat := by show u64 r.tenant = _; unfold u64; omega
    have f3 : r.nums 3 = r.charge.toNat := by show u64 r.charge = _; unfold u64; omega
    have f4 : r.nums 4 = r.cost.toNat := by show u64 r.cost = _; unfold u64; omega
    rw [f0, f1, f3, f4] at e0
    obtain ⟨i0, e0⟩ := List.cons.inj e0
    obtain ⟨i1, e0⟩ := List.cons.inj e0
    obtain ⟨i2, e0⟩ := List.append_inj e0 (by rw [highB_length, l1])
    obtain ⟨i3, i4⟩ := List.append_inj e0 (by rw [highB_length, l2])
    have p8 : (256 : Nat) ^ 8 = 18446744073709551616 := by decide
    have p2 : (256 : Nat) ^ 2 = 65536 := by decide
    have j1 : numB m1 = r.val := by rw [← i2]; exact numB_highB 8 _ (by decide) (by omega)
    have j2 : numB m2 = r.charge.toNat := by rw [← i3]; exact numB_highB 2 _ (by decide) (by omega)
    have j3 : numB m3 = r.cost.toNat := by rw [← i4]; exact numB_highB 8 _ (by decide) (by omega)
    have er : refRs (bytesS r) = r := by
      rw [e, j1, j2, j3]
      obtain ⟨code, tenant, val, charge, cost⟩ := r
      dsimp only at g1 g2 g3 g4 g5 i0 i1 ⊢
      rw [show i64 cost.toNat = cost by unfold i64; rw [if_pos (by omega)]; omega]
      congr 1 <;> omega
    rw [er, if_pos ⟨hl, h1⟩]

theorem getS_same {b : List Nat} (hb : ∀ y ∈ b, y < 256) : codeGetS b = refGetS b := by
  apply Option.ext
  intro r
  rw [codeGetS_some hb, refGetS_some hb]

end Go.Proofs.Ytnnkkedflfmaoaa
