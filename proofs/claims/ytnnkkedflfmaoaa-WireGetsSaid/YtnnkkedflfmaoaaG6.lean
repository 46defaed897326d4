/-
  Texts of this proof, one behind the other: WireV, WireW.
-/
import Derived.Test.YtnnkkedflfmaoaaG2
import Derived.Test.YtnnkkedflfmaoaaG5
import Derived.Deep.CutRange
/-
  Memory of layer 18: bytes, parts, a part in a variable, the numbers of a request.
-/
namespace Go.Proofs.Ytnnkkedflfmaoaa
open Go Go.RowKit

/-- Bytes. -/
def encY : Enc Try.prog Nat where
  slice := 28
  elem := 5
  size := 1
  bytes := 1
  cells n := [.int .u8 n]
  zero := .int .u8 0
  und := Try.underlying28
  info := info_of _ _ _ _ _ (by kernel_rfl)
  zsize := rfl
  pos := by decide
  few := by decide
  len _ := rfl
  one _ u h := by cases List.mem_singleton.1 h; rfl

theorem Reads.byteAt {w : World} {a : Option Addr} {cap : Nat} {l : List Nat} (h : Reads encY w (.slice a l.length cap) l) (i : Nat) (hi : i < l.length) : ∃ ad, a = some ad ∧ w.cell? (ad.add i) = some (.int .u8 l[i]) := by
  obtain ⟨ad, rfl, H⟩ := h.at i hi
  have := H 0 (by decide)
  exact ⟨ad, rfl, by simpa [encY] using this⟩

theorem appendY {ops : Array Oper} {rest : List Oper} {o : Oper} {a : Act} {w : World} {Q : Exit → Act → World → Prop} (hgd : o.guard = none) (s x : Operand)
    (ho : o.op = .call { callee := .builtin .append, args := #[s, x], argTypes := #[28, 28] })
    (v y : Value) (l k : List Nat) (hs : a.eval s = v) (hown : Owns encY w v l) (hx : a.eval x = y) (hsrc : Reads encY w y k) (hn : l.length + k.length ≤ 1000000)
    (h : ∀ v' w', Owns encY w' v' (l ++ k) → w.grownBy w' v.ownBlock → (v'.ownBlock = v.ownBlock ∨ v'.ownBlock = some w.heap.size) → wpList Try.prog ops Q rest (a.put o.dst v') w') : wpList Try.prog ops Q (o :: rest) a w :=
  wpList_append_owns encY hgd s x ho v y l k hs hown hx hsrc hn h

/-- A slice just made of these elements. -/
theorem Reads.made {P : Program} {α : Type} (E : Enc P α) (w : World) (l : List α) (cs : Array Value) (hcs : cs.toList = E.all l) (b n : Nat) (hb : b = w.heap.size) (hn : n = l.length) : Reads E (w.alloc (.cells cs E.elem)) (.slice (some ⟨b, 0, none⟩) n n) l := by
  subst hb hn
  refine .inr ⟨⟨w.heap.size, 0, none⟩, l.length, rfl, fun j u hj => ?_⟩
  rw [show (⟨w.heap.size, 0, none⟩ : Addr).add j = ⟨w.heap.size, j, none⟩ by simp [Addr.add]; omega, cell_of_row _ _ _ _ _ _ (heap_alloc_new _ _)]
  rw [← hj, ← hcs]
  simp

theorem Owns.made {P : Program} {α : Type} (E : Enc P α) (w : World) (l : List α) (cs : Array Value) (hcs : cs.toList = E.all l) (n : Nat) (hn : n = l.length) (hm : n ≤ 1000000) : Owns E (w.alloc (.cells cs E.elem)) (.slice (Option.some ⟨w.heap.size, 0, none⟩) n n) l := by
  subst hn
  have h := World.ownsRow_lit (base := 0) (e := E.elem) (size := E.size) w cs l.length (Nat.zero_le _) (by unfold maxLen; omega) (by rw [← Array.length_toList, hcs, E.all_length])
  unfold Owns
  rw [← hcs]
  exact h

/-- One that grew. -/
theorem NRel.grow {P : Program} {α : Type} {E : Enc P α} {w wr w2 : World} {v v' : Value} {l l' : List α} (R : NRel E w l v wr) (hown : Owns E w2 v' l') (hgr : wr.grownBy w2 v.ownBlock) (hat : v'.ownBlock = v.ownBlock ∨ v'.ownBlock = Option.some wr.heap.size) : NRel E w l' v' w2 := by
  refine ⟨hown, fun g hg => ?_, R.below.grown hgr (by have := R.below.size; omega) R.new⟩
  rcases hat with hat | hat
  · exact R.new g (hat ▸ hg)
  · rw [hat] at hg; injection hg with hg; have := R.below.size; omega

/-- A slice that reads as these, and has room for them. -/
structure RC {P : Program} {α : Type} (E : Enc P α) (w : World) (v : Value) (l : List α) : Prop where
  reads : Reads E w v l
  room : ∀ a n c, v = .slice a n c → n ≤ c

section
variable {P : Program} {α : Type} {E : Enc P α} {w w' : World} {v : Value} {l : List α}

theorem Owns.rc (h : Owns E w v l) : RC E w v l := by
  refine ⟨h.reads, fun a n c e => ?_⟩
  obtain ⟨a', cap, e', h1, _⟩ := h.form
  rw [e'] at e
  injection e with _ h2 h3
  omega
theorem RC.keep (h : RC E w v l) (hb : Below w.heap.size w w') : RC E w' v l := ⟨h.reads.keep hb, h.room⟩
theorem RC.form (h : RC E w v l) : ∃ a cap, v = .slice a l.length cap ∧ l.length ≤ cap := by
  obtain ⟨a, cap, rfl⟩ := h.reads.form
  exact ⟨a, cap, rfl, h.room _ _ _ rfl⟩

theorem Reads.cut {a : Option Addr} {cap k c : Nat} (h : Reads E w (.slice a l.length cap) l) (hk : k ≤ l.length) : Reads E w (.slice a k c) (l.take k) ∨ (a = none ∧ l = []) := by
  rcases h with ⟨hv, rfl⟩ | ⟨ad, cap', hv, hc⟩
  · exact .inr ⟨by injection hv, rfl⟩
  · injection hv with ha _ _
    subst ha
    refine .inl (.inr ⟨ad, c, by rw [List.length_take, Nat.min_eq_left hk], fun j u hj => ?_⟩)
    rw [E.all_take l k hk] at hj
    have hj' := hj
    rw [List.getElem?_take] at hj'
    split at hj'
    · exact hc j u hj'
    · cases hj'

theorem Enc.all_drop (E : Enc P α) (l : List α) (k : Nat) (hk : k ≤ l.length) : E.all (l.drop k) = (E.all l).drop (k * E.size) := by
  have h : E.all l = E.all (l.take k) ++ E.all (l.drop k) := by rw [← E.all_append, List.take_append_drop]
  rw [h, List.drop_left' (by rw [E.all_length, List.length_take, Nat.min_eq_left hk])]

/-- What stands behind its first k. -/
theorem RC.tail {a : Option Addr} {n cap k s : Nat} (h : RC E w (.slice a n cap) l) (hn : n = l.length) (hk : k ≤ l.length) (hs : s = E.size) : RC E w (sliced a k n cap s) (l.drop k) := by
  subst hn hs
  obtain ⟨h, hroom⟩ := h
  have hr := hroom _ _ _ rfl
  rcases h with ⟨hv, rfl⟩ | ⟨ad, cap', hv, hc⟩
  · injection hv with ha _ hc
    subst ha hc
    exact ⟨.inl ⟨by simp [sliced], by simp⟩, fun a n c e => by simp [sliced] at e; omega⟩
  · injection hv with ha _ _
    subst ha
    refine ⟨?_, fun a n c e => by unfold sliced at e; injection e; omega⟩
    by_cases hck : cap = k
    · have h0 : l.drop k = [] := List.drop_eq_nil_of_le (by omega)
      rw [h0]
      have : sliced (some ad) k l.length cap E.size = .slice (some ad) ([] : List α).length 0 := by
        unfold sliced
        rw [if_pos hck, show l.length - k = 0 by omega, show cap - k = 0 by omega]
        rfl
      rw [this]
      exact .inr ⟨ad, 0, rfl, fun j u hj => by simp [Enc.all] at hj⟩
    have : sliced (some ad) k l.length cap E.size = .slice (some (ad.add (k * E.size))) (l.drop k).length (cap - k) := by
      unfold sliced
      rw [if_neg hck, List.length_drop]
      rfl
    rw [this]
    refine .inr ⟨_, cap - k, rfl, fun j u hj => ?_⟩
    rw [E.all_drop l k hk, List.getElem?_drop] at hj
    have hjl : k * E.size + j < l.length * E.size := by
      rw [← E.all_length]
      exact (List.getElem?_eq_some_iff.1 hj).1
    have hkl : k < l.length := by
      rcases Nat.lt_or_ge k l.length with h | h
      · exact h
      · have := Nat.mul_le_mul_right E.size h
        omega
    rw [Addr.add_add]
    exact hc _ u hj
end

/-- The parts of a form. -/
def encP : Enc Try.prog Prt where
  slice := 51
  elem := 66
  size := 4
  bytes := 32
  cells p := [.int .i64 p.pl, .int .i64 p.wide, .int .u64 p.lo, .int .u64 p.hi]
  zero := .agg #[.int .i64 0, .int .i64 0, .int .u64 0, .int .u64 0]
  und := Try.underlying51
  info := info_of _ _ _ _ _ (by kernel_rfl)
  zsize := rfl
  pos := by decide
  few := by decide
  len _ := rfl
  one d u h := by
    simp only [List.mem_cons, List.not_mem_nil, or_false] at h
    rcases h with rfl | rfl | rfl | rfl <;> rfl

theorem Reads.partAt {w : World} {a : Option Addr} {cap : Nat} {l : List Prt} (h : Reads encP w (.slice a l.length cap) l) (i : Nat) (hi : i < l.length) : ∃ ad, a = some ad ∧ w.cell? (ad.add (i * 4)) = some (.int .i64 l[i].pl) ∧
    w.cell? ⟨(ad.add (i * 4)).block, (ad.add (i * 4)).off + 1, none⟩ = some (.int .i64 l[i].wide) ∧ w.cell? ⟨(ad.add (i * 4)).block, (ad.add (i * 4)).off + 2, none⟩ = some (.int .u64 l[i].lo) ∧
    w.cell? ⟨(ad.add (i * 4)).block, (ad.add (i * 4)).off + 3, none⟩ = some (.int .u64 l[i].hi) := by
  obtain ⟨ad, rfl, H⟩ := h.at i hi
  have h0 := H 0 (by decide)
  have h1 := H 1 (by decide)
  have h2 := H 2 (by decide)
  have h3 := H 3 (by decide)
  refine ⟨ad, rfl, by simpa [encP] using h0, ?_, ?_, ?_⟩
  · simp only [encP] at h1
    rw [← Addr.add_add, Addr.add, if_neg (by omega)] at h1
    simpa using h1
  · simp only [encP] at h2
    rw [← Addr.add_add, Addr.add, if_neg (by omega)] at h2
    simpa using h2
  · simp only [encP] at h3
    rw [← Addr.add_add, Addr.add, if_neg (by omega)] at h3
    simpa using h3

/-- A part in a variable. -/
def HoldsP (w : World) (b : Nat) (p : Prt) : Prop := w.heap[b]? = some (.cells #[.int .i64 p.pl, .int .i64 p.wide, .int .u64 p.lo, .int .u64 p.hi] 66 (0, 0))
section
variable {w w' : World} {b : Nat} {p : Prt}
theorem HoldsP.lt (h : HoldsP w b p) : b < w.heap.size := (Array.getElem?_eq_some_iff.1 h).1
theorem HoldsP.below (h : HoldsP w b p) (hb : Below w.heap.size w w') : HoldsP w' b p := (hb.block b h.lt).trans h
theorem HoldsP.keep (h : HoldsP w b p) {F : Nat → Prop} (hK : Keeps F w w') (hF : ¬ F b) : HoldsP w' b p := (hK.block b h.lt hF).trans h
theorem HoldsP.cells (h : HoldsP w b p) : w.cell? ⟨b, 0, none⟩ = some (.int .i64 p.pl) ∧ w.cell? ⟨b, 1, none⟩ = some (.int .i64 p.wide) ∧ w.cell? ⟨b, 2, none⟩ = some (.int .u64 p.lo) ∧ w.cell? ⟨b, 3, none⟩ = some (.int .u64 p.hi) := by
  rw [cell_of_row _ _ _ _ _ _ h, cell_of_row _ _ _ _ _ _ h, cell_of_row _ _ _ _ _ _ h, cell_of_row _ _ _ _ _ _ h]
  exact ⟨rfl, rfl, rfl, rfl⟩
end

/-- The numbers of a request, or an answer, in a variable. -/
def HoldsN7 (w : World) (b : Nat) (n : NF) : Prop := ∃ cs, w.heap[b]? = some (.cells cs 54 (0, 0)) ∧ cs.size = 7 ∧ ∀ i, i < 7 → cs[i]? = some (.int .u64 (n i))
section
variable {w w' : World} {b : Nat} {n : NF}
theorem HoldsN7.lt (h : HoldsN7 w b n) : b < w.heap.size := by
  obtain ⟨cs, hr, _⟩ := h
  exact (Array.getElem?_eq_some_iff.1 hr).1
theorem HoldsN7.block (h : HoldsN7 w b n) (hb : w'.heap[b]? = w.heap[b]?) : HoldsN7 w' b n := by
  obtain ⟨cs, hr, hc⟩ := h
  exact ⟨cs, hb.trans hr, hc⟩
theorem HoldsN7.below (h : HoldsN7 w b n) (hb : Below w.heap.size w w') : HoldsN7 w' b n := h.block (hb.block b h.lt)
theorem HoldsN7.keep (h : HoldsN7 w b n) {F : Nat → Prop} (hb : Keeps F w w') (hF : ¬ F b) : HoldsN7 w' b n := h.block (hb.block b h.lt hF)
theorem HoldsN7.cell (h : HoldsN7 w b n) (i : Nat) (hi : i < 7) : w.cell? ⟨b, i, none⟩ = some (.int .u64 (n i)) := by
  obtain ⟨cs, hr, _, hc⟩ := h
  rw [cell_of_row _ _ _ _ _ _ hr]
  exact hc i hi
theorem HoldsN7.free (h : HoldsN7 w b n) (j : Nat) : w.frozen? ⟨b, j, none⟩ = false := by
  obtain ⟨cs, hr, _⟩ := h
  exact frozen_of_row _ _ _ _ _ hr
theorem HoldsN7.set (h : HoldsN7 w b n) {i : Nat} (hi : i < 7) (v : Nat) : HoldsN7 (w.setCell ⟨b, i, none⟩ (.int .u64 v)) b (n.put i v) := by
  obtain ⟨cs, hr, hs, hc⟩ := h
  refine ⟨_, heap_setCell_same w b _ _ _ _ hr, by simp [hs], fun j hj => ?_⟩
  by_cases e : j = i
  · subst e
    rw [NF.put_same, Array.getElem?_setIfInBounds_self_of_lt (by omega)]
  · rw [NF.put_other _ _ e, Array.getElem?_setIfInBounds_ne (by omega)]
    exact hc j hj
/-- As a value. -/
def n7 (n : NF) : Value := .agg #[.int .u64 (n 0), .int .u64 (n 1), .int .u64 (n 2), .int .u64 (n 3), .int .u64 (n 4), .int .u64 (n 5), .int .u64 (n 6)]
theorem HoldsN7.made (w : World) (n : NF) : HoldsN7 (w.alloc (.cells #[.int .u64 (n 0), .int .u64 (n 1), .int .u64 (n 2), .int .u64 (n 3), .int .u64 (n 4), .int .u64 (n 5), .int .u64 (n 6)] 54)) w.heap.size n := by
  refine ⟨_, heap_alloc_new _ _, rfl, fun i hi => ?_⟩
  rcases (by omega : i = 0 ∨ i = 1 ∨ i = 2 ∨ i = 3 ∨ i = 4 ∨ i = 5 ∨ i = 6) with rfl | rfl | rfl | rfl | rfl | rfl | rfl <;> rfl
end

end Go.Proofs.Ytnnkkedflfmaoaa

/-
  Walks of package wire: a part, the parts of a request, the parts of an answer.
-/
namespace Go.Proofs.Ytnnkkedflfmaoaa
open Go Go.RowKit

set_option maxRecDepth 100000 in
set_option maxHeartbeats 4000000 in
theorem wireMay (p : Prt) (n : Nat) (w : World) :
    Calls Try.prog 28 #[.agg #[.int .i64 p.pl, .int .i64 p.wide, .int .u64 p.lo, .int .u64 p.hi], .int .u64 n] w fun e w' => e = .returned (.bool (p.ok n)) ∧ Below w.heap.size w w' := by
  unfold Prt.ok
  obtain ⟨pl, wide, lo, hi⟩ := p
  dsimp only
  by_cases h : lo ≤ n
  · have h' : (lo : Int) ≤ (n : Int) := by omega
    rw [decide_eq_true h, Bool.true_and]
    go_enter Try.func28, Try.ntmps28
    go_wp2
    all_goals go_ret
    all_goals refine ⟨?_, by go_grown⟩
    all_goals first | rfl | (congr 2; simp) | skip
  · have h' : ¬ (lo : Int) ≤ (n : Int) := by omega
    rw [decide_eq_false h, Bool.false_and]
    go_enter Try.func28, Try.ntmps28
    go_wp2
    all_goals go_ret
    all_goals refine ⟨?_, by go_grown⟩
    all_goals first | rfl | (congr 2; simp) | skip

set_option maxRecDepth 100000 in
set_option maxHeartbeats 4000000 in
theorem wireAnswer (w : World) :
    Calls Try.prog 24 #[] w fun e w' => ∃ v, e = .returned v ∧ RC encP w' v answerP ∧ Below w.heap.size w w' := by
  go_enter Try.func24, Try.ntmps24
  go_wp2
  go_ret
  exact ⟨_, rfl, ⟨Reads.made encP w answerP _ rfl _ _ rfl rfl, fun a n c e => by injection e; omega⟩, by go_grown⟩

theorem HoldsP.new (w : World) (p : Prt) (b : Nat) (hb : b = w.heap.size) : HoldsP (w.alloc (.cells #[.int .i64 p.pl, .int .i64 p.wide, .int .u64 p.lo, .int .u64 p.hi] 66)) b p := by
  subst hb
  exact heap_alloc_new _ _
theorem HoldsP.later {w : World} {b : Nat} {p : Prt} (h : HoldsP w b p) (o : Obj) : HoldsP (w.alloc o) b p := (heap_alloc_old _ _ h.lt).trans h

set_option maxRecDepth 100000 in
set_option maxHeartbeats 16000000 in
theorem wireNamed (op : Int) (w : World) :
    Calls Try.prog 29 #[.int .i64 op] w fun e w' => ∃ v, e = .returned v ∧ Reads encP w' v (named op.toNat) ∧ Below w.heap.size w w' := by
  have hA : HoldsP (((((w.alloc (.cells #[.int .i64 2, .int .i64 8, .int .u64 0, .int .u64 18446744073709551615] 66)).alloc (.cells #[.int .i64 3, .int .i64 8, .int .u64 0, .int .u64 18446744073709551615] 66)).alloc (.cells #[.int .i64 4, .int .i64 8, .int .u64 0, .int .u64 18446744073709551615] 66)).alloc (.cells #[.int .i64 5, .int .i64 1, .int .u64 0, .int .u64 7] 66)).alloc (.cells #[.int .i64 6, .int .i64 1, .int .u64 0, .int .u64 1] 66)) w.heap.size pA := ((((HoldsP.new w pA _ (by simp)).later _).later _).later _).later _
  have hB : HoldsP (((((w.alloc (.cells #[.int .i64 2, .int .i64 8, .int .u64 0, .int .u64 18446744073709551615] 66)).alloc (.cells #[.int .i64 3, .int .i64 8, .int .u64 0, .int .u64 18446744073709551615] 66)).alloc (.cells #[.int .i64 4, .int .i64 8, .int .u64 0, .int .u64 18446744073709551615] 66)).alloc (.cells #[.int .i64 5, .int .i64 1, .int .u64 0, .int .u64 7] 66)).alloc (.cells #[.int .i64 6, .int .i64 1, .int .u64 0, .int .u64 1] 66)) (w.heap.size + 1) pB := (((HoldsP.new (w.alloc (.cells #[.int .i64 2, .int .i64 8, .int .u64 0, .int .u64 18446744073709551615] 66)) pB _ (by simp)).later _).later _).later _
  have hC : HoldsP (((((w.alloc (.cells #[.int .i64 2, .int .i64 8, .int .u64 0, .int .u64 18446744073709551615] 66)).alloc (.cells #[.int .i64 3, .int .i64 8, .int .u64 0, .int .u64 18446744073709551615] 66)).alloc (.cells #[.int .i64 4, .int .i64 8, .int .u64 0, .int .u64 18446744073709551615] 66)).alloc (.cells #[.int .i64 5, .int .i64 1, .int .u64 0, .int .u64 7] 66)).alloc (.cells #[.int .i64 6, .int .i64 1, .int .u64 0, .int .u64 1] 66)) (w.heap.size + 2) pC := ((HoldsP.new ((w.alloc (.cells #[.int .i64 2, .int .i64 8, .int .u64 0, .int .u64 18446744073709551615] 66)).alloc (.cells #[.int .i64 3, .int .i64 8, .int .u64 0, .int .u64 18446744073709551615] 66)) pC _ (by simp)).later _).later _
  have hN : HoldsP (((((w.alloc (.cells #[.int .i64 2, .int .i64 8, .int .u64 0, .int .u64 18446744073709551615] 66)).alloc (.cells #[.int .i64 3, .int .i64 8, .int .u64 0, .int .u64 18446744073709551615] 66)).alloc (.cells #[.int .i64 4, .int .i64 8, .int .u64 0, .int .u64 18446744073709551615] 66)).alloc (.cells #[.int .i64 5, .int .i64 1, .int .u64 0, .int .u64 7] 66)).alloc (.cells #[.int .i64 6, .int .i64 1, .int .u64 0, .int .u64 1] 66)) (w.heap.size + 3) pN := (HoldsP.new (((w.alloc (.cells #[.int .i64 2, .int .i64 8, .int .u64 0, .int .u64 18446744073709551615] 66)).alloc (.cells #[.int .i64 3, .int .i64 8, .int .u64 0, .int .u64 18446744073709551615] 66)).alloc (.cells #[.int .i64 4, .int .i64 8, .int .u64 0, .int .u64 18446744073709551615] 66)) pN _ (by simp)).later _
  have hT : HoldsP (((((w.alloc (.cells #[.int .i64 2, .int .i64 8, .int .u64 0, .int .u64 18446744073709551615] 66)).alloc (.cells #[.int .i64 3, .int .i64 8, .int .u64 0, .int .u64 18446744073709551615] 66)).alloc (.cells #[.int .i64 4, .int .i64 8, .int .u64 0, .int .u64 18446744073709551615] 66)).alloc (.cells #[.int .i64 5, .int .i64 1, .int .u64 0, .int .u64 7] 66)).alloc (.cells #[.int .i64 6, .int .i64 1, .int .u64 0, .int .u64 1] 66)) (w.heap.size + 4) pT := HoldsP.new ((((w.alloc (.cells #[.int .i64 2, .int .i64 8, .int .u64 0, .int .u64 18446744073709551615] 66)).alloc (.cells #[.int .i64 3, .int .i64 8, .int .u64 0, .int .u64 18446744073709551615] 66)).alloc (.cells #[.int .i64 4, .int .i64 8, .int .u64 0, .int .u64 18446744073709551615] 66)).alloc (.cells #[.int .i64 5, .int .i64 1, .int .u64 0, .int .u64 7] 66)) pT _ (by simp)
  have hV : Below w.heap.size w (((((w.alloc (.cells #[.int .i64 2, .int .i64 8, .int .u64 0, .int .u64 18446744073709551615] 66)).alloc (.cells #[.int .i64 3, .int .i64 8, .int .u64 0, .int .u64 18446744073709551615] 66)).alloc (.cells #[.int .i64 4, .int .i64 8, .int .u64 0, .int .u64 18446744073709551615] 66)).alloc (.cells #[.int .i64 5, .int .i64 1, .int .u64 0, .int .u64 7] 66)).alloc (.cells #[.int .i64 6, .int .i64 1, .int .u64 0, .int .u64 1] 66)) := by go_grown
  go_enter Try.func29, Try.ntmps29
  go_upto_region 6 with (fail)
  generalize (((((w.alloc (.cells #[.int .i64 2, .int .i64 8, .int .u64 0, .int .u64 18446744073709551615] 66)).alloc (.cells #[.int .i64 3, .int .i64 8, .int .u64 0, .int .u64 18446744073709551615] 66)).alloc (.cells #[.int .i64 4, .int .i64 8, .int .u64 0, .int .u64 18446744073709551615] 66)).alloc (.cells #[.int .i64 5, .int .i64 1, .int .u64 0, .int .u64 7] 66)).alloc (.cells #[.int .i64 6, .int .i64 1, .int .u64 0, .int .u64 1] 66)) = V at *
  have hs := hV.size
  obtain ⟨cA0, cA1, cA2, cA3⟩ := hA.cells
  obtain ⟨cB0, cB1, cB2, cB3⟩ := hB.cells
  obtain ⟨cC0, cC1, cC2, cC3⟩ := hC.cells
  obtain ⟨cN0, cN1, cN2, cN3⟩ := hN.cells
  obtain ⟨cT0, cT1, cT2, cT3⟩ := hT.cells
  simp only [pA, pB, pC, pN, pT] at cA0 cA1 cA2 cA3 cB0 cB1 cB2 cB3 cC0 cC1 cC2 cC3 cN0 cN1 cN2 cN3 cT0 cT1 cT2 cT3
  clear hA hB hC hN hT
  by_cases ho : 1 ≤ op ∧ op ≤ 21
  · rcases (by omega : op = 1 ∨ op = 2 ∨ op = 3 ∨ op = 4 ∨ op = 5 ∨ op = 6 ∨ op = 7 ∨ op = 8 ∨ op = 9 ∨ op = 10 ∨ op = 11 ∨ op = 12 ∨ op = 13 ∨ op = 14 ∨ op = 15 ∨ op = 16 ∨ op = 17 ∨ op = 18 ∨ op = 19 ∨ op = 20 ∨ op = 21) with rfl | rfl | rfl | rfl | rfl | rfl | rfl | rfl | rfl | rfl | rfl | rfl | rfl | rfl | rfl | rfl | rfl | rfl | rfl | rfl | rfl
    all_goals clear ho
    all_goals go_wp2
    all_goals go_ret
    all_goals refine ⟨_, rfl, ?_, ?_⟩
    all_goals first
      | exact hV
      | exact hV.alloc hs _
      | exact Reads.made encP V _ _ rfl _ _ rfl rfl
      | exact .inl ⟨rfl, rfl⟩
  · have e0 : named op.toNat = [] := by
      rcases Int.lt_or_le op 1 with h | h
      · rw [show op.toNat = 0 by omega]; rfl
      · exact named_over _ (by omega)
    have HE := Lib.hid e0
    have H2 : ∀ k : Int, 1 ≤ k → k ≤ 21 → (op == k) = false := fun k h1 h2 => by rw [beq_eq_false_iff_ne]; omega
    have n1 : (op == 1) = false := H2 _ (by decide) (by decide)
    have n3 : (op == 3) = false := H2 _ (by decide) (by decide)
    have n4 : (op == 4) = false := H2 _ (by decide) (by decide)
    have n5 : (op == 5) = false := H2 _ (by decide) (by decide)
    have n6 : (op == 6) = false := H2 _ (by decide) (by decide)
    have n7 : (op == 7) = false := H2 _ (by decide) (by decide)
    have n8 : (op == 8) = false := H2 _ (by decide) (by decide)
    have n9 : (op == 9) = false := H2 _ (by decide) (by decide)
    have n10 : (op == 10) = false := H2 _ (by decide) (by decide)
    have n11 : (op == 11) = false := H2 _ (by decide) (by decide)
    have n12 : (op == 12) = false := H2 _ (by decide) (by decide)
    have n13 : (op == 13) = false := H2 _ (by decide) (by decide)
    have n14 : (op == 14) = false := H2 _ (by decide) (by decide)
    have n15 : (op == 15) = false := H2 _ (by decide) (by decide)
    have n16 : (op == 16) = false := H2 _ (by decide) (by decide)
    have n17 : (op == 17) = false := H2 _ (by decide) (by decide)
    have n18 : (op == 18) = false := H2 _ (by decide) (by decide)
    have n19 : (op == 19) = false := H2 _ (by decide) (by decide)
    have n20 : (op == 20) = false := H2 _ (by decide) (by decide)
    clear ho e0 H2
    go_wp2
    go_ret
    exact ⟨_, rfl, by rw [HE.out]; exact .inl ⟨rfl, rfl⟩, hV⟩

set_option maxRecDepth 100000 in
set_option maxHeartbeats 4000000 in
theorem wireRequest (op : Int) (w : World) :
    Calls Try.prog 19 #[.int .i64 op] w fun e w' => ∃ v, e = .returned v ∧ RC encP w' v (request op.toNat) ∧ Below w.heap.size w w' := by
  have hN : headP.length + (named op.toNat).length ≤ 1000000 := by
    have := named_few op.toNat
    have : headP.length = 2 := rfl
    omega
  go_enter Try.func19, Try.ntmps19
  go_wp2_with fail
  refine (wireNamed op _).mono ?_
  rintro e w1 ⟨v, rfl, hv, hb⟩
  have h0 := (Owns.made encP w headP _ rfl _ rfl (by decide)).block (w' := w1) (fun g hg => hb.block g (by cases hg; simp))
  have R : NRel encP w headP _ w1 := ⟨h0, fun g hg => by cases hg; exact Nat.le_refl _, (by go_grown : Below w.heap.size w _).trans (hb.mono (by simp))⟩
  clear hb
  go_wp2_with (at_builtin; refine wpList_append_owns encP rfl (.tmp 5) (.tmp 7) rfl _ _ headP (named op.toNat) rfl h0 rfl hv hN ?_; intro v' w2 hown hgr hat)
  go_ret
  have R2 := R.grow hown hgr hat
  exact ⟨_, rfl, R2.own.rc, R2.below⟩

end Go.Proofs.Ytnnkkedflfmaoaa
