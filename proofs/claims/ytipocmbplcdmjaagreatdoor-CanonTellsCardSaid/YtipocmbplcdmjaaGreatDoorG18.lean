/-
  Texts of this proof, one behind the other: RefR, BackM, FSlice, ReadC, ReadI, CanonM, GathM, SweepM.
-/
import Derived.Test.YtipocmbplcdmjaaGreatDoorG8
import Derived.Test.YtipocmbplcdmjaaGreatDoorG17
import Derived.Test.YtipocmbplcdmjaaGreatDoorG13
import Derived.Maps.AppendAt
import Derived.Laws.AppendOwnNone
import Derived.Test.YtipocmbplcdmjaaGreatDoorG16
import Derived.Test.YtipocmbplcdmjaaGreatDoorG9
import Derived.Test.YtipocmbplcdmjaaGreatDoorG14
import Derived.Test.YtipocmbplcdmjaaGreatDoorG1
/-
  The document's store: Reach. Nodes of bowerlaw00.
-/
namespace Go.Proofs.YtipocmbplcdmjaaGreatDoor
open Go Go.RowKit

theorem Owns.free' {P : Program} {α : Type} {E : Enc P α} {w : World} {v : Value} {l : List α} (h : Owns E w v l) {g : Nat} (hg : v.ownBlock = Option.some g) (j : Nat) : w.frozen? ⟨g, j, none⟩ = false := by
  obtain ⟨a, c, rfl, _, _, _, H⟩ := h.form
  cases a with
  | none => cases hg
  | some ad =>
    obtain ⟨g', rfl, _, hf, _⟩ := H ad rfl
    cases hg
    exact hf j
/-- A flag read, by its length told otherwise. -/
theorem flagCell {w : World} {g n c : Nat} {l : List Bool} (h : Owns encB w (.slice (some ⟨g, 0, none⟩) n c) l) (i : Nat) (hi : i < l.length) : w.cell? ⟨g, i, none⟩ = some (.bool (l.getD i false)) := by
  obtain ⟨a, c', hv, _, _, _, H⟩ := h.form
  injection hv with ha _ hc
  obtain ⟨g', e, _, _, hcell⟩ := H ⟨g, 0, none⟩ ha.symm
  cases e
  have := hcell i hi 0 (by decide)
  rw [List.getD, List.getElem?_eq_getElem hi]
  simpa [encB] using this
theorem flagSet {w : World} {g n c : Nat} {l : List Bool} (h : Owns encB w (.slice (some ⟨g, 0, none⟩) n c) l) (hn : n = l.length) {i : Nat} (hi : i < l.length) (x : Bool) : Owns encB (w.setCell ⟨g, i, none⟩ (.bool x)) (.slice (some ⟨g, 0, none⟩) n c) (l.set i x) := by
  subst hn
  exact h.put rfl rfl hi


end Go.Proofs.YtipocmbplcdmjaaGreatDoor

/-
  Mathematics of layer 8's own law: functions built in a store of none. Nothing of the program is read here.
-/
namespace Go.Proofs.YtipocmbplcdmjaaGreatDoor
open Go Go.RowKit

/-- A store of none, in any order. -/
def MS.empty (most : Nat) (o : Nat → Int) : MS := ⟨⟨most, 0, [], []⟩, [], o⟩
theorem MS.empty_ok (most : Nat) (h : most ≤ 20000) {o : Nat → Int} (ho : mayO o = true) : (MS.empty most o).Ok := MS.Ok.new most h o ho
theorem MS.empty_has (most : Nat) (o : Nat → Int) (n : Int) : (MS.empty most o).has n = false := by simp [MS.has, MS.empty]
theorem MS.empty_swap (most : Nat) (o : Nat → Int) {l : Int} (h0 : 0 ≤ l) (h6 : l ≤ 6) : (MS.empty most o).swap l = (0, MS.empty most (swapO o l)) := by
  unfold MS.swap
  rw [if_neg (by omega)]
  have hc : ∀ x y, (MS.empty most o).changes x y = [] := fun x y => rfl
  simp only [hc]
  have hr : ¬ (MS.empty most o).room < 2 * (([] : List Int).length : Int) := by
    simp [MS.room, MS.empty]
  rw [if_neg hr]
  rfl

section
variable {s : MS}
/-- What is reached of a node, as numbers. -/
theorem MS.Ok.reach_rch (h : s.Ok) {n : Int} (hn : s.there n = true) {g : Fn} (hg : Reach [s.tab n] s.o g) : ∃ m, s.there m = true ∧ s.tab m = g ∧ (s.has m = true → s.Rch [n] m) := by
  induction hg with
  | base hf => exact ⟨n, hn, by simpa using (List.mem_singleton.1 hf).symm, fun hh => .root (by simp) hh⟩
  | step b _ hs ht ih =>
    obtain ⟨m, hm, e, hr⟩ := ih
    rcases MS.there_cases hm with ⟨_, hh⟩ | hh
    · exfalso
      rw [MS.tab_const hh] at e
      apply hs
      rw [← e]
      split
      · exact sup_const.1
      · exact sup_const.2
    · have hT := h.top_node hh
      rw [e] at hT
      have hC := h.cof_node hh b
      rw [e, ← hT] at hC
      cases b
      · exact ⟨_, MS.behind_there (h.lo m hh), by simpa using hC.symm, fun hq => .lo (hr hh) hq⟩
      · exact ⟨_, MS.behind_there (h.hi m hh), by simpa using hC.symm, fun hq => .hi (hr hh) hq⟩
theorem MS.Ok.reach_all (h : s.Ok) {n : Int} (hn : s.there n = true) (h1 : ∀ m, s.has m = true → IsNode [s.tab n] s.o (s.tab m)) : s.reach [n] = s.all := by
  unfold MS.reach
  refine List.filter_eq_self.2 fun m hm => ?_
  have hh := h.toBase.mem_all.1 hm
  obtain ⟨m', t', e', r'⟩ := h.reach_rch hn (h1 m hh).1
  have : m' = m := h.tab_inj t' (by simp [MS.there, hh]) e'
  subst this
  have hp := r' hh
  simp [hp]

theorem supN_8 (f : Fn) : supN f ≤ 8 := supN_le f
/-- A function built in a store of none. -/
theorem MS.bld_empty {most : Nat} (hm : most ≤ 20000) {o : Nat → Int} (ho : mayO o = true) (f : Fn) (hs : sizeF [f] o ≤ most) :
    (MS.bld 8 (MS.empty most o) f).2.1 = 0 ∧ (MS.bld 8 (MS.empty most o) f).2.2.Ok ∧ (MS.bld 8 (MS.empty most o) f).2.2.o = o ∧ (MS.bld 8 (MS.empty most o) f).2.2.ar.most = most ∧
      (MS.bld 8 (MS.empty most o) f).2.2.there (MS.bld 8 (MS.empty most o) f).1 = true ∧ (MS.bld 8 (MS.empty most o) f).2.2.tab (MS.bld 8 (MS.empty most o) f).1 = f ∧
      (∀ n, (MS.bld 8 (MS.empty most o) f).2.2.has n = true → IsNode [f] o ((MS.bld 8 (MS.empty most o) f).2.2.tab n)) ∧
      (MS.bld 8 (MS.empty most o) f).2.2.all.length = sizeF [f] o := by
  have ok := MS.empty_ok most hm ho
  obtain ⟨h1, h2, h3, h4, h5⟩ := MS.bld_spec 8 (MS.empty most o) f ok (supN_8 f)
  have h0 := MS.bld_room 8 (MS.empty most o) f [f] ok (supN_8 f) (fun n hn => by rw [MS.empty_has] at hn; cases hn) (Reach.base (by simp)) hs
  have hno : ∀ n, (MS.bld 8 (MS.empty most o) f).2.2.has n = true → IsNode [f] o ((MS.bld 8 (MS.empty most o) f).2.2.tab n) := fun n hn => by
    rcases h5 n hn with h | h
    · rw [MS.empty_has] at h; cases h
    · exact h
  obtain ⟨t, e⟩ := h4 h0
  refine ⟨h0, h1, h2.o, h2.most, t, e, hno, ?_⟩
  have ho2 : (MS.bld 8 (MS.empty most o) f).2.2.o = o := h2.o
  have := h1.size_is (L := [f]) (fun n hn => by rw [ho2]; exact hno n hn) (fun g hg => by
    rw [ho2] at hg
    obtain ⟨m, tm, em⟩ := h1.reach_there t (g := g) (by rw [e, ho2]; exact hg.1)
    rcases MS.there_cases tm with ⟨_, hh⟩ | hh
    · exfalso
      rw [MS.tab_const hh] at em
      apply hg.2
      rw [← em]
      split
      · exact sup_const.1
      · exact sup_const.2
    · exact ⟨m, hh, em⟩)
  rw [ho2] at this
  exact this.symm

theorem sup_has (_h : s.Ok) {n : Int} (hn : s.there n = true) (hs : supF (s.tab n) ≠ 0) : s.has n = true := by
  rcases MS.there_cases hn with ⟨_, hh⟩ | hh
  · exfalso
    rw [MS.tab_const hh] at hs
    apply hs
    split
    · exact sup_const.1
    · exact sup_const.2
  · exact hh

/-- Two functions, one behind the other. -/
theorem MS.bld_two {most : Nat} (_hm : most ≤ 20000) {o : Nat → Int} (_ho : mayO o = true) (f g : Fn) (hs : sizeF [f, g] o ≤ most) (s1 : MS) (a : Int) (_hA : MS.bld 8 (MS.empty most o) f = (a, 0, s1)) (ok : s1.Ok) (ho1 : s1.o = o) (hm1 : s1.ar.most = most)
    (ta : s1.there a = true) (ea : s1.tab a = f) (hn : ∀ n, s1.has n = true → IsNode [f] o (s1.tab n)) :
    (MS.bld 8 s1 g).2.1 = 0 ∧ (MS.bld 8 s1 g).2.2.Ok ∧ (MS.bld 8 s1 g).2.2.o = o ∧ (MS.bld 8 s1 g).2.2.there (MS.bld 8 s1 g).1 = true ∧ (MS.bld 8 s1 g).2.2.tab (MS.bld 8 s1 g).1 = g ∧
      (MS.bld 8 s1 g).2.2.there a = true ∧ (MS.bld 8 s1 g).2.2.tab a = f ∧ (a = (MS.bld 8 s1 g).1 ↔ f = g) ∧ (MS.bld 8 s1 g).2.2.all.length = sizeF [f, g] o := by
  have mono : ∀ k, IsNode [f] o k → IsNode [f, g] o k := fun k hk => ⟨hk.1.mono (fun x hx => by simp only [List.mem_singleton] at hx; simp [hx]), hk.2⟩
  have mono2 : ∀ k, IsNode [g] o k → IsNode [f, g] o k := fun k hk => ⟨hk.1.mono (fun x hx => by simp only [List.mem_singleton] at hx; simp [hx]), hk.2⟩
  obtain ⟨h1, h2, h3, h4, h5⟩ := MS.bld_spec 8 s1 g ok (supN_8 g)
  have h0 := MS.bld_room 8 s1 g [f, g] ok (supN_8 g) (fun n h => by rw [ho1]; exact mono _ (hn n h)) (Reach.base (by simp)) (by rw [ho1, hm1]; exact hs)
  obtain ⟨t, e⟩ := h4 h0
  have ho2 : (MS.bld 8 s1 g).2.2.o = o := h2.o.trans ho1
  have ta2 := h2.there ta
  have ea2 : (MS.bld 8 s1 g).2.2.tab a = f := (h2.tab ok h1 ta).trans ea
  have hno : ∀ n, (MS.bld 8 s1 g).2.2.has n = true → IsNode [f, g] o ((MS.bld 8 s1 g).2.2.tab n) := fun n h => by
    rcases h5 n h with h | h
    · rw [h2.tab ok h1 (by simp [MS.there, h])]; exact mono _ (hn n h)
    · rw [ho1] at h; exact mono2 _ h
  refine ⟨h0, h1, ho2, t, e, ta2, ea2, ⟨fun q => ?_, fun q => ?_⟩, ?_⟩
  · rw [← q, ea2] at e; exact e
  · exact h1.tab_inj ta2 t (ea2.trans (q.trans e.symm))
  · have := h1.size_is (L := [f, g]) (fun n h => by rw [ho2]; exact hno n h) (fun k hk => by
      rw [ho2] at hk
      have hk1 : Reach [f] o k ∨ Reach [g] o k := Reach.append (l := [f]) (k := [g]) hk.1
      rcases hk1 with hk1 | hk1
      · obtain ⟨m, tm, em⟩ := h1.reach_there ta2 (g := k) (by rw [ea2, ho2]; exact hk1)
        exact ⟨m, sup_has h1 tm (by rw [em]; exact hk.2), em⟩
      · obtain ⟨m, tm, em⟩ := h1.reach_there t (g := k) (by rw [e, ho2]; exact hk1)
        exact ⟨m, sup_has h1 tm (by rw [em]; exact hk.2), em⟩)
    rw [ho2] at this
    exact this.symm
theorem size_154 (f g : Fn) {o : Nat → Int} (ho : mayO o = true) : sizeF [f, g] o ≤ 154 := by
  have h := size_add [f] [g] o
  have h1 := size_77 f o (full_of ho)
  have h2 := size_77 g o (full_of ho)
  have e : ([f] ++ [g] : List Fn) = [f, g] := rfl
  rw [e] at h
  omega
end
theorem reach_one {L : List Fn} {o : Nat → Int} {g : Fn} (h : Reach L o g) : ∃ f ∈ L, Reach [f] o g := by
  induction h with
  | base hf => exact ⟨_, hf, .base (by simp)⟩
  | step b _ hs ht ih =>
    obtain ⟨f, hf, hr⟩ := ih
    exact ⟨f, hf, .step b hr hs ht⟩

end Go.Proofs.YtipocmbplcdmjaaGreatDoor

/-
  Slices of functions of eight variables: read, appended to.
-/
namespace Go.Proofs.YtipocmbplcdmjaaGreatDoor
open Go Go.RowKit Go.Maps

/-- A slice that reads as these functions. -/
def SliceF (w : World) (v : Value) (l : List Fn) : Prop :=
  (v = .slice none 0 0 ∧ l = []) ∨ ∃ ad cap, v = .slice (some ad) l.length cap ∧ ∀ j u, (cellsL l)[j]? = some u → w.cell? (ad.add j) = some u

theorem SliceF.keep {w w' : World} {v : Value} {l : List Fn} {B : Nat} (h : SliceF w v l) (hb : Below B w w') (hB : w.heap.size ≤ B) : SliceF w' v l := by
  rcases h with h | ⟨ad, cap, rfl, hc⟩
  · exact .inl h
  · refine .inr ⟨ad, cap, rfl, fun j u hj => ?_⟩
    have h1 := hc j u hj
    rw [hb.cell (p := ad.add j) (Nat.lt_of_lt_of_le (block_lt_of_cell h1) hB)]
    exact h1

theorem OwnsF.slice {w : World} {base : Nat} {v : Value} {l : List Fn} (h : OwnsF w base v l) : SliceF w v l := by
  obtain ⟨h1, ⟨rfl, h2⟩ | ⟨g, cap, cur, rfl, hr⟩⟩ := h
  · exact .inl ⟨rfl, List.length_eq_zero_iff.1 h2⟩
  · have h := World.ownsRow.cells (w := w) (base := base) (e := 48) (size := 4) (v := .slice (some ⟨g, 0, none⟩) l.length cap) (n := l.length) (xs := cellsL l) ⟨h1, .inr ⟨g, cap, cur, rfl, hr⟩⟩ (g := g) rfl
    exact .inr ⟨⟨g, 0, none⟩, cap, rfl, h⟩

theorem OwnsF.nil (w : World) (base : Nat) : OwnsF w base (.slice none 0 0) [] := ⟨rfl, .inl ⟨rfl, rfl⟩⟩

theorem OwnsF.block {w w' : World} {base : Nat} {v : Value} {l : List Fn} (h : OwnsF w base v l) (hb : ∀ g, v.ownBlock = some g → w'.heap[g]? = w.heap[g]?) : OwnsF w' base v l := by
  obtain ⟨h1, h2 | ⟨g, cap, cur, rfl, h3, h4, h5⟩⟩ := h
  · exact ⟨h1, .inl h2⟩
  · exact ⟨h1, .inr ⟨g, cap, cur, rfl, h3, (hb g rfl).trans h4, h5⟩⟩

theorem OwnsF.lt {w : World} {base : Nat} {v : Value} {l : List Fn} (h : OwnsF w base v l) (g : Nat) (hg : v.ownBlock = some g) : base ≤ g ∧ g < w.heap.size := World.ownsRow.lt h g hg
theorem OwnsF.keep {w w' : World} {base B : Nat} {v : Value} {l : List Fn} (h : OwnsF w base v l) (hb : Below B w w') (hB : w.heap.size ≤ B) : OwnsF w' base v l :=
  h.block fun g hg => hb.block g (Nat.lt_of_lt_of_le (h.lt g hg).2 hB)
theorem OwnsF.alloc {w : World} {base : Nat} {v : Value} {l : List Fn} (h : OwnsF w base v l) (o : Obj) : OwnsF (w.alloc o) base v l :=
  h.block fun g hg => heap_alloc_old _ _ (h.lt g hg).2
theorem OwnsF.grown {w w' : World} {base : Nat} {v : Value} {l : List Fn} {row : Option Nat} (h : OwnsF w base v l) (hg : w.grownBy w' row) (hne : ∀ g, v.ownBlock = some g → row ≠ some g) : OwnsF w' base v l :=
  h.block fun g hb => hg.block g (h.lt g hb).2 (fun e => hne g hb e.symm)

theorem infoF : ∃ i, Tryz.prog.info? 48 = some i ∧ i.zero = some (.agg #[.int .u64 0, .int .u64 0, .int .u64 0, .int .u64 0]) ∧ i.size = 4 ∧ i.bytes = 32 := by
  have h : (Tryz.prog.info? 48).map (fun i => (i.zero, i.size, i.bytes)) = some (some (.agg #[.int .u64 0, .int .u64 0, .int .u64 0, .int .u64 0]), 4, 32) := by kernel_rfl
  obtain ⟨i, hi, h0, h1, h2⟩ := info_parts h
  exact ⟨i, hi, h0, h1, h2⟩

/-- append(x, y...) of two slices of functions, the first the call's own. -/
theorem appendF {ops : Array Oper} {rest : List Oper} {o : Oper} {a : Act} {w : World} {Q : Exit → Act → World → Prop} (hgd : o.guard = none) (s x : Operand)
    (ho : o.op = .call { callee := .builtin .append, args := #[s, x], argTypes := #[22, 22] })
    (base : Nat) (v y : Value) (l k : List Fn) (hs : a.eval s = v) (hown : OwnsF w base v l) (hx : a.eval x = y) (hsrc : SliceF w y k)
    (hn : l.length + k.length ≤ 1000000) (hbase : base ≤ w.heap.size)
    (h : ∀ v' w', OwnsF w' base v' (l ++ k) → w.grownBy w' v.ownBlock → (v'.ownBlock = v.ownBlock ∨ v'.ownBlock = some w.heap.size) → wpList Tryz.prog ops Q rest (a.put o.dst v') w') : wpList Tryz.prog ops Q (o :: rest) a w := by
  obtain ⟨i, hi, hz, hsz, hby⟩ := infoF
  rcases hsrc with ⟨rfl, rfl⟩ | ⟨ad, cap, rfl, hc⟩
  · refine wpList_append_own_none hgd s x _ ho base 48 i 4 Tryz.underlying22 hi v l.length (cellsL l) hs hown hx ?_
    refine h v w (by rw [List.append_nil]; exact hown) ⟨rfl, rfl, rfl, Nat.le_refl _, fun _ _ _ => rfl⟩ (.inl rfl)
  · refine wpList_append_own_at w hgd s x _ ho base 48 i _ 4 32 Tryz.underlying22 hi hz hsz hby rfl (by decide) v l.length (cellsL l) hs hown ad k.length cap (cellsL k) hx (cellsL_length k) hc (cellsL_one k) (by unfold maxLen; omega) (by omega) hbase ?_
    intro v' w' h1 h2 _ h4
    exact h v' w' (by unfold OwnsF; rw [List.length_append, cellsL_append]; exact h1) h2 h4

end Go.Proofs.YtipocmbplcdmjaaGreatDoor

/-
  What is asked of the code's package read, whatever it is. ReadBuilds.
-/
namespace Go.Proofs.YtipocmbplcdmjaaGreatDoor
open Go Go.RowKit

/-- Each call of package read. -/
structure ReadC (StAt : World → Nat → (Nat → Prop) → MS → Prop) : Prop where ofAll ::
  table : ∀ {w b F s}, LowW w → StAt w b F s → s.Ok → ∀ n : Int, (n ≤ 9223372036854775807 ∧ -9223372036854775808 ≤ n) → Calls Tryz.prog 23 #[.pointer (some ⟨b, 0, none⟩), .int .i64 n] w fun e w' => e = .returned (fv (s.tab n)) ∧ Below w.heap.size w w'
  build : ∀ {w b F s}, LowW w → (∀ k, F k → 0 < k) → StAt w b F s → s.Ok → ∀ f : Fn, Calls Tryz.prog 16 #[.pointer (some ⟨b, 0, none⟩), fv f] w fun e w' => e = .returned (.tuple #[.int .i64 (MS.bld 8 s f).1, errV (MS.bld 8 s f).2.1]) ∧ ∃ F', StAt w' b F' (MS.bld 8 s f).2.2 ∧ Keeps F w w' ∧ Within w F F'

theorem SliceF.form {w : World} {v : Value} {l : List Fn} (h : SliceF w v l) : ∃ a c, v = .slice a l.length c := by
  rcases h with ⟨rfl, rfl⟩ | ⟨ad, cap, rfl, _⟩
  · exact ⟨none, 0, rfl⟩
  · exact ⟨_, _, rfl⟩
theorem SliceF.fnAt {w : World} {a : Option Addr} {cap : Nat} {l : List Fn} (h : SliceF w (.slice a l.length cap) l) (i : Nat) (hi : i < l.length) : ∃ ad, a = some ad ∧ w.cell? (ad.add (i * 4)) = some (.int .u64 (wd l[i] 0)) ∧
    w.cell? ⟨(ad.add (i * 4)).block, (ad.add (i * 4)).off + 1, none⟩ = some (.int .u64 (wd l[i] 1)) ∧ w.cell? ⟨(ad.add (i * 4)).block, (ad.add (i * 4)).off + 2, none⟩ = some (.int .u64 (wd l[i] 2)) ∧
    w.cell? ⟨(ad.add (i * 4)).block, (ad.add (i * 4)).off + 3, none⟩ = some (.int .u64 (wd l[i] 3)) := by
  rcases h with ⟨_, rfl⟩ | ⟨ad, cap', hv, hc⟩
  · cases hi
  · injection hv with h1 h2 h3
    subst h1
    have key : ∀ j, j < 4 → (cellsL l)[i * 4 + j]? = some (.int .u64 (wd l[i] j)) := fun j hj => cellsL_get l i hi j hj
    have e : ∀ j, 0 < j → ad.add (i * 4 + j) = ⟨(ad.add (i * 4)).block, (ad.add (i * 4)).off + j, none⟩ := fun j hj => by
      rw [← Addr.add_add]
      unfold Addr.add
      by_cases h1 : i * 4 = 0 <;> simp [h1, Nat.ne_of_gt hj]
    refine ⟨ad, rfl, hc _ _ (key 0 (by decide)), ?_, ?_, ?_⟩
    · rw [← e 1 (by decide)]; exact hc _ _ (key 1 (by decide))
    · rw [← e 2 (by decide)]; exact hc _ _ (key 2 (by decide))
    · rw [← e 3 (by decide)]; exact hc _ _ (key 3 (by decide))
theorem MS.bld_err (s : MS) (f : Fn) (ok : s.Ok) : 0 ≤ (MS.bld 8 s f).2.1 ∧ (MS.bld 8 s f).2.1 ≤ 8 := by
  rcases (MS.bld_spec 8 s f ok (supN_8 f)).2.2.1 with h | h <;> rw [h] <;> decide


end Go.Proofs.YtipocmbplcdmjaaGreatDoor

/-
  The code's package read keeps its contracts.
-/
namespace Go.Proofs.YtipocmbplcdmjaaGreatDoor
open Go Go.RowKit

theorem readC {StAt : World → Nat → (Nat → Prop) → MS → Prop} (H : StoreC StAt) : ReadC StAt where
  table hL h ok n hn := readTable H ok 8 n _ hL h (ok.dep_le n) hn
  build hL hlow h ok f := readBuild H 8 _ f _ _ hL hlow h ok (supN_8 f)

end Go.Proofs.YtipocmbplcdmjaaGreatDoor

/-
  Mathematics of layer 14: a store made anew. Nothing of the program is read here.
-/
namespace Go.Proofs.YtipocmbplcdmjaaGreatDoor

/-- One root more is built: the error's number, the numbers, the new store. -/
def MS.can1 (s : MS) (x : Int × List Int × MS) (r : Int) : Int × List Int × MS :=
  if x.1 ≠ 0 then x
  else if (MS.bld 8 x.2.2 (s.tab r)).2.1 ≠ 0 then ((MS.bld 8 x.2.2 (s.tab r)).2.1, [], (MS.bld 8 x.2.2 (s.tab r)).2.2)
  else (0, x.2.1 ++ [(MS.bld 8 x.2.2 (s.tab r)).1], (MS.bld 8 x.2.2 (s.tab r)).2.2)
/-- All of them, one behind the other. -/
def MS.canAll (s : MS) (most : Nat) (roots : List Int) : Int × List Int × MS := roots.foldl (MS.can1 s) (0, [], MS.none most)
/-- What Canon comes to. -/
def MS.canon (s : MS) (most : Int) (roots : List Int) : Int × List Int × MS :=
  if most < 0 ∨ 20000 < most ∨ ∃ r ∈ roots, s.there r = false then (1, [], s) else s.canAll most.toNat roots

section
variable {s : MS}
theorem MS.can1_bad (s : MS) {x : Int × List Int × MS} (h : x.1 ≠ 0) (r : Int) : MS.can1 s x r = x := if_pos h
theorem MS.can1_good (s : MS) {x : Int × List Int × MS} (h : x.1 = 0) {r : Int} (h2 : (MS.bld 8 x.2.2 (s.tab r)).2.1 = 0) : (MS.can1 s x r).1 = 0 := by
  unfold MS.can1
  rw [if_neg (by simpa using h), if_neg (by simpa using h2)]
theorem MS.can_bad (s : MS) {x : Int × List Int × MS} (h : x.1 ≠ 0) : ∀ l : List Int, l.foldl (MS.can1 s) x = x
  | [] => rfl
  | r :: l => by rw [List.foldl_cons, MS.can1_bad s h, MS.can_bad s h l]
theorem MS.can_take (s : MS) (x : Int × List Int × MS) (l : List Int) (k : Nat) (h : k < l.length) : (l.take (k + 1)).foldl (MS.can1 s) x = MS.can1 s ((l.take k).foldl (MS.can1 s) x) l[k] := by
  rw [List.take_succ_eq_append_getElem h, List.foldl_append]; rfl

/-- What holds of the new store on the way. -/
structure CanI (s : MS) (most : Nat) (l : List Int) (x : Int × List Int × MS) : Prop where
  ok : x.2.2.Ok
  o : x.2.2.o = (MS.none most).o
  cap : x.2.2.ar.most = (MS.none most).ar.most
  err : x.1 = 0 ∨ x.1 = 2
  bad : x.1 ≠ 0 → x.2.1 = []
  len : x.1 = 0 → x.2.1.length = l.length
  num : x.1 = 0 → ∀ (i : Nat) (h : i < l.length) (h' : i < x.2.1.length), x.2.2.there x.2.1[i] = true ∧ x.2.2.tab x.2.1[i] = s.tab l[i]
  all : ∀ n, x.2.2.has n = true → IsNode (l.map s.tab) (MS.none most).o (x.2.2.tab n)
  mem : x.1 = 0 → ∀ n ∈ x.2.1, x.2.2.there n = true

theorem CanI.start (s : MS) (most : Nat) (h : most ≤ 20000) : CanI s most [] (0, [], MS.none most) where
  ok := MS.none_ok most h
  o := rfl
  cap := rfl
  err := .inl rfl
  bad := fun h => absurd rfl h
  len := fun _ => rfl
  num := fun _ i h => absurd h (Nat.not_lt_zero i)
  all := fun n hn => by simp [MS.has, MS.none] at hn
  mem := fun _ n hn => by cases hn

theorem CanI.step {s : MS} {most : Nat} {l : List Int} {x : Int × List Int × MS} (h : CanI s most l x) (r : Int) : CanI s most (l ++ [r]) (MS.can1 s x r) := by
  have mono : ∀ g, IsNode (l.map s.tab) (MS.none most).o g → IsNode ((l ++ [r]).map s.tab) (MS.none most).o g := fun g hg => ⟨hg.1.mono (fun x hx => by rw [List.map_append]; exact List.mem_append_left _ hx), hg.2⟩
  by_cases hx : x.1 = 0
  · have hs := MS.bld_spec 8 x.2.2 (s.tab r) h.ok (supN_8 _)
    unfold MS.can1
    rw [if_neg (by simpa using hx)]
    generalize MS.bld 8 x.2.2 (s.tab r) = A at *
    obtain ⟨a, e, u⟩ := A
    dsimp only at *
    obtain ⟨s1, s2, s3, s4, s5⟩ := hs
    have hall : ∀ n, u.has n = true → IsNode ((l ++ [r]).map s.tab) (MS.none most).o (u.tab n) := fun n hn => by
      rcases s5 n hn with h1 | h1
      · rw [s2.tab h.ok s1 (by simp [MS.there, h1])]
        exact mono _ (h.all n h1)
      · rw [h.o] at h1
        exact ⟨h1.1.mono (fun x hx => by rw [List.mem_singleton.1 hx]; simp), h1.2⟩
    by_cases he : e = 0
    · subst he
      obtain ⟨t1, t2⟩ := s4 rfl
      rw [if_neg (by simp)]
      refine ⟨s1, s2.o.trans h.o, s2.most.trans h.cap, .inl rfl, fun e => absurd rfl e, fun _ => by simp [h.len hx], fun _ i hi hi' => ?_, hall, fun _ n hn => ?_⟩
      · dsimp only at hi' ⊢
        have hlen := h.len hx
        by_cases hil : i < l.length
        · have hix : i < x.2.1.length := by omega
          obtain ⟨a1, a2⟩ := h.num hx i hil hix
          simp only [List.getElem_append_left hix, List.getElem_append_left hil]
          exact ⟨s2.there a1, (s2.tab h.ok s1 a1).trans a2⟩
        · have hi2 : i = l.length := by simp at hi; omega
          subst hi2
          simp only [List.getElem_append_right (Nat.le_refl _), List.getElem_append_right (show x.2.1.length ≤ l.length by omega), hlen, Nat.sub_self, List.getElem_cons_zero]
          exact ⟨t1, t2⟩
      · rcases List.mem_append.1 hn with hn | hn
        · exact s2.there (h.mem hx n hn)
        · rw [List.mem_singleton.1 hn]; exact t1
    · rw [if_pos he]
      exact ⟨s1, s2.o.trans h.o, s2.most.trans h.cap, s3, fun _ => rfl, fun e => absurd e he, fun e => absurd e he, hall, fun e => absurd e he⟩
  · rw [MS.can1_bad s hx]
    exact ⟨h.ok, h.o, h.cap, h.err, h.bad, fun e => absurd e hx, fun e => absurd e hx, fun n hn => mono _ (h.all n hn), fun e => absurd e hx⟩
theorem CanI.upto (s : MS) {most : Nat} (hm : most ≤ 20000) (l : List Int) : ∀ k, k ≤ l.length → CanI s most (l.take k) ((l.take k).foldl (MS.can1 s) (0, [], MS.none most))
  | 0, _ => by simpa using CanI.start s most hm
  | k + 1, hk => by
    rw [MS.can_take s _ l k hk, List.take_succ_eq_append_getElem hk]
    exact (CanI.upto s hm l k (by omega)).step l[k]
theorem CanI.whole (s : MS) {most : Nat} (hm : most ≤ 20000) (l : List Int) : CanI s most l (s.canAll most l) := by
  have := CanI.upto s hm l l.length (Nat.le_refl _)
  rwa [List.take_length] at this

/-- With room for what all need none is refused. -/
theorem CanI.room (s : MS) {most : Nat} (hm : most ≤ 20000) (l : List Int) (h : sizeF (l.map s.tab) plainO ≤ most) : ∀ k, k ≤ l.length → ((l.take k).foldl (MS.can1 s) (0, [], MS.none most)).1 = 0
  | 0, _ => rfl
  | k + 1, hk => by
    have h0 := CanI.room s hm l h k (by omega)
    have I := CanI.upto s hm l k (by omega)
    rw [MS.can_take s _ l k hk]
    have hs := MS.bld_room 8 _ (s.tab l[k]) (l.map s.tab) I.ok (supN_8 _) (fun n hn => by
      rw [I.o]
      have := I.all n hn
      exact ⟨this.1.mono (fun x hx => by obtain ⟨r, hr, rfl⟩ := List.mem_map.1 hx; exact List.mem_map.2 ⟨r, List.mem_of_mem_take hr, rfl⟩), this.2⟩) (Reach.base (List.mem_map.2 ⟨l[k], List.getElem_mem hk, rfl⟩)) (by rw [I.o, I.cap]; exact h)
    exact MS.can1_good s h0 hs
/-- Where none is refused there are just as many nodes as all need. -/
theorem CanI.size (s : MS) {most : Nat} (hm : most ≤ 20000) (l : List Int) (h : (s.canAll most l).1 = 0) : sizeF (l.map s.tab) plainO = (s.canAll most l).2.2.all.length := by
  have I := CanI.whole s hm l
  have ho : (s.canAll most l).2.2.o = plainO := I.o
  rw [← ho]
  refine I.ok.size_is (fun n hn => by rw [ho]; exact I.all n hn) fun g hg => ?_
  obtain ⟨f, hf, hr⟩ := reach_one hg.1
  obtain ⟨r, hrl, rfl⟩ := List.mem_map.1 hf
  obtain ⟨i, hi, rfl⟩ := List.getElem_of_mem hrl
  have hi' : i < (s.canAll most l).2.1.length := by rw [I.len h]; exact hi
  obtain ⟨a1, a2⟩ := I.num h i hi hi'
  rw [← a2] at hr
  obtain ⟨m, hm1, hm2⟩ := I.ok.reach_there a1 hr
  refine ⟨m, ?_, hm2⟩
  rcases MS.there_cases hm1 with ⟨_, hh⟩ | hh
  · exfalso
    apply hg.2
    rw [← hm2, MS.tab_const hh]
    split
    · exact sup_const.1
    · exact sup_const.2
  · exact hh
/-- With just the room that all need. -/
theorem MS.Ok.canon_small (s : MS) (l : List Int) (hl : sizeF (l.map s.tab) plainO ≤ 20000) (hth : ∀ r ∈ l, s.there r = true) :
    ∃ ns t, s.canon (sizeF (l.map s.tab) plainO) l = (0, ns, t) ∧ CanI s (sizeF (l.map s.tab) plainO) l (0, ns, t) ∧ t.all.length = sizeF (l.map s.tab) plainO ∧ t.room = 0 ∧ t.o = plainO := by
  have h0 : (s.canAll (sizeF (l.map s.tab) plainO) l).1 = 0 := by
    have := CanI.room s hl l (Nat.le_refl _) l.length (Nat.le_refl _)
    rwa [List.take_length] at this
  have I := CanI.whole s hl l
  have hz := CanI.size s hl l h0
  have e : s.canon (sizeF (l.map s.tab) plainO) l = s.canAll (sizeF (l.map s.tab) plainO) l := by
    unfold MS.canon
    rw [if_neg, Int.toNat_natCast]
    rintro (h | h | ⟨r, hr, h⟩)
    · omega
    · omega
    · rw [hth r hr] at h; cases h
  generalize s.canAll (sizeF (l.map s.tab) plainO) l = x at *
  obtain ⟨x0, x1, x2⟩ := x
  dsimp only at h0 hz
  subst h0
  have hc := I.ok.toBase.count
  have hmost := I.cap
  have ho := I.o
  dsimp only at hc hmost ho
  refine ⟨x1, x2, e, I, hz.symm, ?_, ho⟩
  have hmn : (MS.none (sizeF (l.map s.tab) plainO)).ar.most = sizeF (l.map s.tab) plainO := rfl
  unfold MS.room
  rw [hmost, hmn]
  omega
/-- With one less: there is none. -/
theorem MS.Ok.canon_less (s : MS) (l : List Int) (hl : sizeF (l.map s.tab) plainO ≤ 20000) (h1 : 1 ≤ sizeF (l.map s.tab) plainO) (hth : ∀ r ∈ l, s.there r = true) : (s.canon ((sizeF (l.map s.tab) plainO : Int) - 1) l).1 = 2 := by
  have e : s.canon ((sizeF (l.map s.tab) plainO : Int) - 1) l = s.canAll (sizeF (l.map s.tab) plainO - 1) l := by
    unfold MS.canon
    rw [if_neg, show ((sizeF (l.map s.tab) plainO : Int) - 1).toNat = sizeF (l.map s.tab) plainO - 1 by omega]
    rintro (h | h | ⟨r, hr, h⟩)
    · omega
    · omega
    · rw [hth r hr] at h; cases h
  rw [e]
  have hm : sizeF (l.map s.tab) plainO - 1 ≤ 20000 := by omega
  have I := CanI.whole s hm l
  rcases I.err with h0 | h0
  · exfalso
    have hz := CanI.size s hm l h0
    have hc := I.ok.toBase.count
    have hle := I.ok.toBase.ar.len
    have hle2 := I.ok.toBase.ar.nextLe
    have hmost := I.cap
    have hmn : (MS.none (sizeF (l.map s.tab) plainO - 1)).ar.most = sizeF (l.map s.tab) plainO - 1 := rfl
    omega
  · exact h0
end

end Go.Proofs.YtipocmbplcdmjaaGreatDoor

/-
  Mathematics of package read: what a search from a node adds to what was met. Nothing of the program is read here.
-/
namespace Go.Proofs.YtipocmbplcdmjaaGreatDoor

/-- As deep as k all that is met has its parts met. -/
def MS.Clo (s : MS) (k : Nat) (S : List Int) : Prop := ∀ m ∈ S, s.dep m ≤ k → (s.has (s.nd m).lo = true → (s.nd m).lo ∈ S) ∧ (s.has (s.nd m).hi = true → (s.nd m).hi ∈ S)

/-- T is what a search from n adds to S. -/
structure GthP (s : MS) (n : Int) (S T : List Int) : Prop where
  nodup : (S ++ T).Nodup
  rch : ∀ m ∈ T, s.Rch [n] m ∧ s.dep m ≤ s.dep n
  inn : s.has n = true → n ∈ S ++ T
  clo : s.Clo (s.dep n) S → s.Clo (s.dep n) (S ++ T)

theorem MS.Rch.via {s : MS} {r : List Int} {m k : Int} (h : s.Rch [m] k) (hm : s.has m = true → s.Rch r m) : s.Rch r k := by
  induction h with
  | root h hh => obtain rfl := List.mem_singleton.1 h; exact hm hh
  | lo _ hh ih => exact .lo ih hh
  | hi _ hh ih => exact .hi ih hh

theorem GthP.none {s : MS} {n : Int} {S : List Int} (hS : S.Nodup) (h : s.has n = true → n ∈ S) : GthP s n S [] :=
  ⟨by rwa [List.append_nil], (by intro m hm; cases hm), fun hh => by rw [List.append_nil]; exact h hh, fun h => by rwa [List.append_nil]⟩

theorem GthP.node {s : MS} (ok : s.Ok) {n : Int} {S T1 T2 : List Int} (hn : s.has n = true) (_hS : n ∉ S) (h1 : GthP s (s.nd n).lo (S ++ [n]) T1) (h2 : GthP s (s.nd n).hi (S ++ [n] ++ T1) T2) :
    GthP s n S ([n] ++ T1 ++ T2) := by
  have d1 := ok.dep_behind hn (ok.lo n hn)
  have d2 := ok.dep_behind hn (ok.hi n hn)
  have e : S ++ ([n] ++ T1 ++ T2) = S ++ [n] ++ T1 ++ T2 := by simp
  have hr : s.Rch [n] n := .root (List.mem_singleton.2 rfl) hn
  refine ⟨by rw [e]; exact h2.nodup, fun m hm => ?_, fun _ => by simp, fun hc => ?_⟩
  · simp only [List.mem_append, List.mem_singleton] at hm
    rcases hm with (rfl | hm) | hm
    · exact ⟨hr, Nat.le_refl _⟩
    · obtain ⟨r, d⟩ := h1.rch m hm
      exact ⟨MS.Rch.via r (fun hh => .lo hr hh), by omega⟩
    · obtain ⟨r, d⟩ := h2.rch m hm
      exact ⟨MS.Rch.via r (fun hh => .hi hr hh), by omega⟩
  · rw [e]
    have c1 : s.Clo (s.dep (s.nd n).lo) (S ++ [n]) := fun m hm hd => by
      rcases List.mem_append.1 hm with hm | hm
      · obtain ⟨a, b⟩ := hc m hm (by omega)
        exact ⟨fun h => List.mem_append_left _ (a h), fun h => List.mem_append_left _ (b h)⟩
      · obtain rfl := List.mem_singleton.1 hm; omega
    replace c1 := h1.clo c1
    have c2 : s.Clo (s.dep (s.nd n).hi) (S ++ [n] ++ T1) := fun m hm hd => by
      rcases List.mem_append.1 hm with hm' | hm'
      · rcases List.mem_append.1 hm' with hm' | hm'
        · obtain ⟨a, b⟩ := hc m hm' (by omega)
          exact ⟨fun h => List.mem_append_left _ (List.mem_append_left _ (a h)), fun h => List.mem_append_left _ (List.mem_append_left _ (b h))⟩
        · obtain rfl := List.mem_singleton.1 hm'; omega
      · exact c1 m hm (h1.rch m hm').2
    replace c2 := h2.clo c2
    intro m hm hd
    rcases List.mem_append.1 hm with hm1 | hm1
    · rcases List.mem_append.1 hm1 with hm2 | hm2
      · rcases List.mem_append.1 hm2 with hm3 | hm3
        · obtain ⟨a, b⟩ := hc m hm3 hd
          exact ⟨fun h => by have := a h; simp [this], fun h => by have := b h; simp [this]⟩
        · obtain rfl := List.mem_singleton.1 hm3
          exact ⟨fun h => List.mem_append_left _ (h1.inn h), fun h => h2.inn h⟩
      · obtain ⟨a, b⟩ := c1 m (List.mem_append_right _ hm2) (h1.rch m hm2).2
        exact ⟨fun h => List.mem_append_left _ (a h), fun h => List.mem_append_left _ (b h)⟩
    · exact c2 m hm (h2.rch m hm1).2

/-- At the loop's head of Reach. -/
structure RchI (s : MS) (roots : List Int) (i : Nat) (S : List Int) : Prop where
  nodup : S.Nodup
  rch : ∀ m ∈ S, s.Rch roots m
  rt : ∀ j (hj : j < roots.length), j < i → s.has roots[j] = true → roots[j] ∈ S
  clo : ∀ k, s.Clo k S

theorem RchI.start (s : MS) (roots : List Int) : RchI s roots 0 [] := ⟨List.nodup_nil, (by intro m hm; cases hm), fun j _ h => by omega, fun k m hm => by cases hm⟩
theorem RchI.step {s : MS} {roots S T : List Int} {i : Nat} (h : RchI s roots i S) (hi : i < roots.length) (g : GthP s roots[i] S T) : RchI s roots (i + 1) (S ++ T) := by
  refine ⟨g.nodup, fun m hm => ?_, fun j hj hlt hh => ?_, fun k m hm hd => ?_⟩
  · rcases List.mem_append.1 hm with hm1 | hm1
    · exact h.rch m hm1
    · have r := (g.rch m hm1).1
      clear h hm hm1 g
      induction r with
      | root h hh => obtain rfl := List.mem_singleton.1 h; exact .root (List.getElem_mem hi) hh
      | lo _ hh ih => exact .lo ih hh
      | hi _ hh ih => exact .hi ih hh
  · by_cases e : j = i
    · subst e; exact g.inn hh
    · exact List.mem_append_left _ (h.rt j hj (by omega) hh)
  · rcases List.mem_append.1 hm with hm' | hm'
    · obtain ⟨a, b⟩ := h.clo k m hm' hd
      exact ⟨fun h => List.mem_append_left _ (a h), fun h => List.mem_append_left _ (b h)⟩
    · exact g.clo (h.clo _) m hm (g.rch m hm').2
theorem RchI.all {s : MS} {roots S : List Int} {i : Nat} (h : RchI s roots i S) (hi : roots.length ≤ i) {m : Int} (hm : s.Rch roots m) : m ∈ S := by
  induction hm with
  | root h1 hh =>
    obtain ⟨j, hj, rfl⟩ := List.mem_iff_getElem.1 h1
    exact h.rt j hj (by omega) hh
  | lo _ hh ih => exact (h.clo _ _ ih (Nat.le_refl _)).1 hh
  | hi _ hh ih => exact (h.clo _ _ ih (Nat.le_refl _)).2 hh

open Classical in
theorem MS.Base.reach_iff {s : MS} (ok : s.Base) {roots : List Int} {m : Int} : m ∈ s.reach roots ↔ s.Rch roots m := by
  unfold MS.reach
  rw [List.mem_filter]
  exact ⟨fun h => of_decide_eq_true h.2, fun h => ⟨ok.mem_all.2 h.has, decide_eq_true h⟩⟩
theorem MS.reach_sorted (s : MS) (roots : List Int) : (s.reach roots).Pairwise (· < ·) := by
  unfold MS.reach MS.all
  refine List.Pairwise.filter _ (List.Pairwise.filter _ ?_)
  rw [List.pairwise_map]
  exact List.Pairwise.imp (fun h => by omega) List.pairwise_lt_range
theorem RchI.sorted {s : MS} (ok : s.Base) {roots S ss : List Int} {i : Nat} (h : RchI s roots i S) (hi : roots.length ≤ i) (hp : ss.Perm S) : ss.mergeSort (fun x y => decide (x ≤ y)) = s.reach roots := by
  have hs := s.reach_sorted roots
  have hnd : (s.reach roots).Nodup := List.Pairwise.imp (fun h e => by omega) hs
  have hperm : ss.Perm (s.reach roots) := hp.trans ((List.perm_ext_iff_of_nodup h.nodup hnd).2 fun m => by
    rw [ok.reach_iff]
    exact ⟨h.rch m, h.all hi⟩)
  have tr : ∀ a b c : Int, decide (a ≤ b) = true → decide (b ≤ c) = true → decide (a ≤ c) = true := fun a b c h1 h2 => by simp only [decide_eq_true_eq] at *; omega
  have to : ∀ a b : Int, (decide (a ≤ b) || decide (b ≤ a)) = true := fun a b => by simp only [Bool.or_eq_true, decide_eq_true_eq]; omega
  refine List.Perm.eq_of_pairwise (le := fun a b => decide (a ≤ b) = true) (fun a b _ _ h1 h2 => ?_) (List.pairwise_mergeSort tr to ss) (hs.imp fun h => by simp only [decide_eq_true_eq]; omega) ((List.mergeSort_perm ss _).trans hperm)
  simp only [decide_eq_true_eq] at h1 h2
  omega
/-- No more are met than there may be. -/
theorem met_few {s : MS} (ok : s.Base) {S : List Int} (hS : S.Nodup) (h : ∀ m ∈ S, s.has m = true) : S.length ≤ 20000 := by
  have := List.Nodup.length_le_of_subset (l₁ := S) (l₂ := (List.range 20000).map fun k : Nat => (k : Int) + 2) hS fun m hm => by
    have := ok.has_le (h m hm)
    rw [List.mem_map]
    exact ⟨(m - 2).toNat, List.mem_range.2 (by omega), by omega⟩
  simpa using this

end Go.Proofs.YtipocmbplcdmjaaGreatDoor

/-
  Mathematics of layer 12: what nobody needs is freed, level by level. Nothing of the program is read here.
-/
namespace Go.Proofs.YtipocmbplcdmjaaGreatDoor

/-- One number looked at: how many were freed, the state. -/
def MS.sw1 (K : List Int) (v : Int) (r : Int × MS) (n : Int) : Int × MS := if (r.2.nd n).var = v ∧ n ∉ K then (r.1 + 1, (r.2.free n).2) else r
/-- A level. -/
def MS.swLevel (K : List Int) (r : Int × MS) (l : Nat) : Int × MS := r.2.all.foldl (MS.sw1 K (r.2.o l)) r
/-- The first levels. -/
def MS.swTo (K : List Int) (r : Int × MS) (l : Nat) : Int × MS := (List.range l).foldl (MS.swLevel K) r
theorem MS.sweep_ex (s : MS) (roots : List Int) : ∃ r : Int × MS, r = MS.swTo (s.reach roots) (0, s) 8 := ⟨_, rfl⟩
/-- Sweep: how many were freed, the state. (Chosen, so that nobody reckons it.) -/
noncomputable def MS.sweep (s : MS) (roots : List Int) : Int × MS := (s.sweep_ex roots).choose
theorem MS.sweep_eq (s : MS) (roots : List Int) : s.sweep roots = MS.swTo (s.reach roots) (0, s) 8 := (s.sweep_ex roots).choose_spec

theorem MS.swTo_succ (K : List Int) (r : Int × MS) (l : Nat) : MS.swTo K r (l + 1) = MS.swLevel K (MS.swTo K r l) l := by
  unfold MS.swTo; rw [List.range_succ, List.foldl_append]; rfl

theorem MS.give_has {s : MS} (n m : Int) (hn : n - 2 ∈ s.ar.T) : MS.has { s with ar := s.ar.give (n - 2) } m = true ↔ s.has m = true ∧ m ≠ n := by
  have hg := (AS.give_yes hn).2
  simp only [MS.has, Bool.and_eq_true, decide_eq_true_eq, hg, List.mem_filter, bne_iff_ne]
  constructor
  · rintro ⟨a, b, c⟩; exact ⟨⟨a, b⟩, by omega⟩
  · rintro ⟨⟨a, b⟩, c⟩; exact ⟨a, b, by omega⟩

/-- What is free of parts above is freed. -/
theorem MS.Base.free_yes {s : MS} (h : s.Base) {n : Int} (hn : s.has n = true) (hlow : ∀ m, s.has m = true → (s.nd m).lo ≠ n ∧ (s.nd m).hi ≠ n) :
    (s.free n).1 = 0 ∧ (∀ m, (s.free n).2.has m = true ↔ s.has m = true ∧ m ≠ n) ∧ (s.free n).2.N = s.N ∧ (s.free n).2.o = s.o ∧ (s.free n).2.ar.most = s.ar.most ∧ (s.free n).2.all.length + 1 = s.all.length := by
  obtain ⟨r1, r2, r3⟩ := h.range hn
  have hl : s.isLow n = false := by
    unfold MS.isLow
    rw [List.any_eq_false]
    intro m _ hc
    simp only [Bool.and_eq_true, Bool.or_eq_true, decide_eq_true_eq] at hc
    obtain ⟨hc, hm⟩ := hc
    have := hlow m hm
    rcases hc with hc | hc
    · exact this.1 hc
    · exact this.2 hc
  have e : s.free n = (s.ar.giveE (n - 2), { s with ar := s.ar.give (n - 2) }) := by
    unfold MS.free
    rw [if_neg (by rw [hn, hl]; simp)]
  rw [e]
  have hh := fun m => MS.give_has (s := s) n m r3
  have hg := (AS.give_yes r3).2
  have hb : MS.Base { s with ar := s.ar.give (n - 2) } := ⟨h.ar.give _, by show s.N.length = (s.ar.give (n - 2)).next; rw [hg]; exact h.len⟩
  refine ⟨(AS.give_yes r3).1, hh, rfl, rfl, by rw [hg], ?_⟩
  have hp : (n :: MS.all { s with ar := s.ar.give (n - 2) }).Perm s.all := by
    refine (List.perm_ext_iff_of_nodup (List.nodup_cons.2 ⟨fun hc => ((hh n).1 (hb.mem_all.1 hc)).2 rfl, MS.all_nodup _⟩) s.all_nodup).2 fun m => ?_
    rw [List.mem_cons, hb.mem_all, h.mem_all, hh]
    constructor
    · rintro (rfl | ⟨hm, _⟩)
      · exact hn
      · exact hm
    · intro hm
      by_cases e : m = n
      · exact .inl e
      · exact .inr ⟨hm, e⟩
  have := hp.length_eq
  rw [List.length_cons] at this
  exact this

/-- As far as a level: what is so of what was looked at. -/
structure SwI (s : MS) (K : List Int) (r : Int × MS) : Prop where
  ok : r.2.Ok
  N : r.2.N = s.N
  o : r.2.o = s.o
  most : r.2.ar.most = s.ar.most
  has : ∀ n, r.2.has n = true → s.has n = true
  kept : ∀ n, s.has n = true → n ∈ K → r.2.has n = true
  cnt : r.1 + (r.2.all.length : Int) = s.all.length

section
variable {s : MS} {K : List Int} {r : Int × MS}
theorem SwI.nd (h : SwI s K r) (n : Int) : r.2.nd n = s.nd n := by unfold MS.nd; rw [h.N]

/-- Levels ahead have kept nodes only. -/
def SwDone (s : MS) (K : List Int) (r : Int × MS) (l : Nat) : Prop := ∀ n, r.2.has n = true → levO s.o (s.nd n).var < (l : Int) → n ∈ K

/-- K has its parts. -/
def SwClosed (s : MS) (K : List Int) : Prop := ∀ m ∈ K, (s.has (s.nd m).lo = true → (s.nd m).lo ∈ K) ∧ (s.has (s.nd m).hi = true → (s.nd m).hi ∈ K)

theorem SwI.free (h : SwI s K r) (hc : SwClosed s K) {l : Nat} (hd : SwDone s K r l) (hl : l < 8) {n : Int} (hn : r.2.has n = true) (hv : (r.2.nd n).var = r.2.o l) (hk : n ∉ K) :
    (r.2.free n).1 = 0 ∧ (∀ m, (r.2.free n).2.has m = true ↔ r.2.has m = true ∧ m ≠ n) ∧ (r.2.free n).2.N = r.2.N ∧ (r.2.free n).2.o = r.2.o ∧ (r.2.free n).2.ar.most = r.2.ar.most ∧ (r.2.free n).2.all.length + 1 = r.2.all.length := by
  refine h.ok.toBase.free_yes hn fun m hm => ?_
  have hlev : levO s.o (s.nd n).var = (l : Int) := by
    have := levO_at (v := (r.2.nd n).var) h.ok.order hl hv.symm
    rwa [h.o, h.nd] at this
  have key : ∀ x, x = n → r.2.behind x (r.2.nd m).var = true → m ∈ K := fun x e hb => by
    subst e
    rcases MS.behind_cases hb with hx | ⟨_, hx⟩
    · have : r.2.has x = false := by rcases hx with rfl | rfl <;> rfl
      rw [this] at hn; cases hn
    · rw [h.o, h.nd, h.nd, hlev] at hx
      exact hd m hm hx
  have hsn := h.has n hn
  constructor
  · intro e
    have hmK := key _ e (h.ok.lo m hm)
    rw [h.nd] at e
    exact hk (e ▸ (hc m hmK).1 (by rw [e]; exact hsn))
  · intro e
    have hmK := key _ e (h.ok.hi m hm)
    rw [h.nd] at e
    exact hk (e ▸ (hc m hmK).2 (by rw [e]; exact hsn))

/-- One step. -/
theorem SwI.step (h : SwI s K r) (hc : SwClosed s K) {l : Nat} (hd : SwDone s K r l) (hl : l < 8) {n : Int} (hn : r.2.has n = true) :
    SwI s K (MS.sw1 K (r.2.o l) r n) ∧ SwDone s K (MS.sw1 K (r.2.o l) r n) l ∧ (∀ m, (MS.sw1 K (r.2.o l) r n).2.has m = true → r.2.has m = true) ∧
      (∀ m, r.2.has m = true → m ≠ n → (MS.sw1 K (r.2.o l) r n).2.has m = true) ∧ ((MS.sw1 K (r.2.o l) r n).2.has n = true → (s.nd n).var = s.o l → n ∈ K) := by
  unfold MS.sw1
  by_cases hv : (r.2.nd n).var = r.2.o l ∧ n ∉ K
  · rw [if_pos hv]
    obtain ⟨f0, f1, f2, f3, f4, f5⟩ := h.free hc hd hl hn hv.1 hv.2
    refine ⟨⟨h.ok.freed n, f2.trans h.N, f3.trans h.o, f4.trans h.most, fun m hm => h.has m ((f1 m).1 hm).1, fun m hm hk => (f1 m).2 ⟨h.kept m hm hk, fun e => hv.2 (e ▸ hk)⟩, ?_⟩, fun m hm hlt => hd m ((f1 m).1 hm).1 hlt, fun m hm => ((f1 m).1 hm).1, fun m hm hne => (f1 m).2 ⟨hm, hne⟩, fun hm => absurd rfl ((f1 n).1 hm).2⟩
    have := h.cnt
    show r.1 + 1 + ((r.2.free n).2.all.length : Int) = _
    omega
  · rw [if_neg hv]
    refine ⟨h, hd, fun m hm => hm, fun m hm _ => hm, fun _ hvar => ?_⟩
    rw [← h.nd, ← h.o] at hvar
    exact Classical.byContradiction fun hk => hv ⟨hvar, hk⟩

/-- Within a level: of a list that is there, each once. -/
theorem SwI.level (hc : SwClosed s K) {l : Nat} (hl : l < 8) : ∀ (L : List Int) (r : Int × MS), SwI s K r → SwDone s K r l → L.Nodup → (∀ n ∈ L, r.2.has n = true) →
    SwI s K (L.foldl (MS.sw1 K (s.o l)) r) ∧ SwDone s K (L.foldl (MS.sw1 K (s.o l)) r) l ∧ (∀ m, (L.foldl (MS.sw1 K (s.o l)) r).2.has m = true → r.2.has m = true) ∧
      (∀ m, r.2.has m = true → m ∉ L → (L.foldl (MS.sw1 K (s.o l)) r).2.has m = true) ∧ (∀ n ∈ L, (L.foldl (MS.sw1 K (s.o l)) r).2.has n = true → (s.nd n).var = s.o l → n ∈ K)
  | [], r, h, hd, _, _ => ⟨h, hd, fun _ h => h, fun _ h _ => h, fun _ h => (by cases h)⟩
  | n :: L, r, h, hd, hN, hH => by
    obtain ⟨n1, n2⟩ := List.nodup_cons.1 hN
    obtain ⟨s1, s2, s3, s4, s5⟩ := h.step hc hd hl (hH n List.mem_cons_self)
    rw [h.o] at s1 s2 s3 s4 s5
    rw [List.foldl_cons]
    obtain ⟨t1, t2, t3, t4, t5⟩ := SwI.level hc hl L _ s1 s2 n2 (fun m hm => s4 m (hH m (List.mem_cons_of_mem _ hm)) (fun e => n1 (e ▸ hm)))
    refine ⟨t1, t2, fun m hm => s3 m (t3 m hm), fun m hm hne => t4 m (s4 m hm (fun e => hne (e ▸ List.mem_cons_self))) (fun e => hne (List.mem_cons_of_mem _ e)), fun m hm hh hv => ?_⟩
    rcases List.mem_cons.1 hm with rfl | hm
    · exact s5 (t3 _ hh) hv
    · exact t5 m hm hh hv

theorem SwI.next (h : SwI s K r) (hc : SwClosed s K) {l : Nat} (hl : l < 8) (hd : SwDone s K r l) : SwI s K (MS.swLevel K r l) ∧ SwDone s K (MS.swLevel K r l) (l + 1) := by
  unfold MS.swLevel
  rw [h.o]
  obtain ⟨t1, t2, t3, t4, t5⟩ := SwI.level hc hl r.2.all r h hd r.2.all_nodup (fun n hn => h.ok.toBase.mem_all.1 hn)
  refine ⟨t1, fun n hn hlt => ?_⟩
  by_cases hlt' : levO s.o (s.nd n).var < (l : Int)
  · exact t2 n hn hlt'
  · have e : levO s.o (s.nd n).var = (l : Int) := by omega
    have hr := t3 n hn
    refine t5 n (h.ok.toBase.mem_all.2 hr) hn ?_
    rcases levO_cases s.o (s.nd n).var with ⟨e1, _⟩ | ⟨j, e1, _, e2, _⟩
    · omega
    · rw [← e2]; congr 1; omega

theorem SwI.start (h : s.Ok) (K : List Int) : SwI s K (0, s) := ⟨h, rfl, rfl, rfl, fun _ h => h, fun _ h _ => h, by simp⟩
theorem SwI.upto (h : s.Ok) (hc : SwClosed s K) : ∀ l, l ≤ 8 → SwI s K (MS.swTo K (0, s) l) ∧ SwDone s K (MS.swTo K (0, s) l) l
  | 0, _ => ⟨SwI.start h K, fun n hn hl => by have := (h.lev hn).1; omega⟩
  | l + 1, hl => by
    obtain ⟨a, b⟩ := SwI.upto h hc l (by omega)
    rw [MS.swTo_succ]
    exact a.next hc (by omega) b
end

theorem MS.Ok.reach_closed {s : MS} (h : s.Ok) (roots : List Int) : SwClosed s (s.reach roots) := fun m hm => by
  have hr := (h.toBase.reach_iff).1 hm
  exact ⟨fun hh => h.toBase.reach_iff.2 (.lo hr hh), fun hh => h.toBase.reach_iff.2 (.hi hr hh)⟩

/-- What Sweep comes to. -/
structure Swept (s : MS) (roots : List Int) (t : MS) : Prop where
  ok : t.Ok
  N : t.N = s.N
  o : t.o = s.o
  most : t.ar.most = s.ar.most
  has : ∀ n, t.has n = true ↔ s.Rch roots n
  all : t.all = s.reach roots

open Classical in
theorem MS.Ok.swept {s : MS} (h : s.Ok) (roots : List Int) : Swept s roots (s.sweep roots).2 ∧ (s.sweep roots).1 + ((s.reach roots).length : Int) = s.all.length := by
  obtain ⟨a, b⟩ := SwI.upto h (h.reach_closed roots) 8 (Nat.le_refl _)
  rw [MS.sweep_eq]
  generalize MS.swTo (s.reach roots) (0, s) 8 = r at *
  have hh : ∀ n, r.2.has n = true ↔ s.Rch roots n := fun n => by
    constructor
    · intro hn
      have h1 := a.has n hn
      have := b n hn (by have := (h.lev h1).2; omega)
      exact h.toBase.reach_iff.1 this
    · intro hr
      exact a.kept n hr.has (h.toBase.reach_iff.2 hr)
  have hall : r.2.all = s.reach roots := by
    unfold MS.reach MS.all
    rw [List.filter_filter, a.N]
    refine List.filter_congr fun n _ => ?_
    have := hh n
    by_cases hr : s.Rch roots n
    · rw [this.2 hr, decide_eq_true hr, hr.has]; rfl
    · rw [decide_eq_false hr, Bool.false_and]
      cases e : r.2.has n
      · rfl
      · exact absurd (this.1 e) hr
  refine ⟨⟨a.ok, a.N, a.o, a.most, hh, hall⟩, ?_⟩
  rw [← hall]; exact a.cnt

theorem Swept.nd {s t : MS} {roots : List Int} (h : Swept s roots t) (n : Int) : t.nd n = s.nd n := by unfold MS.nd; rw [h.N]
/-- What is reached is as it was. -/
theorem Swept.val {s t : MS} {roots : List Int} (h : Swept s roots t) (ok : s.Ok) (b : Int → Bool) : ∀ k n, s.dep n ≤ k → (s.has n = true → s.Rch roots n) → t.val b n = s.val b n := by
  intro k
  induction k with
  | zero =>
    intro n hd _
    have hn : s.has n = false := by
      cases hh : s.has n
      · rfl
      · have := ok.dep_pos hh; omega
    have ht : t.has n = false := by
      cases hh : t.has n
      · rfl
      · have := ((h.has n).1 hh).has; rw [hn] at this; cases this
    rw [MS.val_const _ hn, MS.val_const _ ht]
  | succ k ih =>
    intro n hd hr
    cases hn : s.has n
    · have ht : t.has n = false := by
        cases hh : t.has n
        · rfl
        · have := ((h.has n).1 hh).has; rw [hn] at this; cases this
      rw [MS.val_const _ hn, MS.val_const _ ht]
    · have hR := hr hn
      have ht := (h.has n).2 hR
      have d1 := ok.dep_behind hn (ok.lo n hn)
      have d2 := ok.dep_behind hn (ok.hi n hn)
      rw [ok.val_node b hn, h.ok.val_node b ht, h.nd]
      split
      · exact ih _ (by omega) (fun hh => .hi hR hh)
      · exact ih _ (by omega) (fun hh => .lo hR hh)
theorem Swept.tab {s t : MS} {roots : List Int} (h : Swept s roots t) (ok : s.Ok) {n : Int} (hr : s.has n = true → s.Rch roots n) : t.tab n = s.tab n := fn_ext fun k hk => by
  rw [MS.tab_bit _ _ hk, MS.tab_bit _ _ hk]
  exact h.val ok _ _ n (Nat.le_refl _) hr

end Go.Proofs.YtipocmbplcdmjaaGreatDoor
