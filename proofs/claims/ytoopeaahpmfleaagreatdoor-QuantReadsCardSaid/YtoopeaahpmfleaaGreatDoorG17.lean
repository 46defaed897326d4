/-
  Texts of this proof, one behind the other: RefR, BackM, FSlice, ReadC, IteM, AnsM, IteC, AskK.
-/
import Derived.Test.YtoopeaahpmfleaaGreatDoorG7
import Derived.Test.YtoopeaahpmfleaaGreatDoorG15
import Derived.Test.YtoopeaahpmfleaaGreatDoorG12
import Derived.Test.YtoopeaahpmfleaaGreatDoorG16
import Derived.Maps.AppendAt
import Derived.Laws.AppendOwnNone
import Derived.Test.YtoopeaahpmfleaaGreatDoorG8
import Derived.Test.YtoopeaahpmfleaaGreatDoorG13
import Derived.Test.YtoopeaahpmfleaaGreatDoorG14
import Derived.DeepKeys4
import Derived.Maps.OwnSet
/-
  The document's store: Reach. Nodes of bowerlaw00.
-/
namespace Go.Proofs.YtoopeaahpmfleaaGreatDoor
open Go Go.RowKit

theorem Owns.free' {P : Program} {α : Type} {E : Enc P α} {w : World} {v : Value} {l : List α} (h : Owns E w v l) {g : Nat} (hg : v.ownBlock = Option.some g) (j : Nat) : w.frozen? ⟨g, j, none⟩ = false := by
  obtain ⟨a, c, rfl, _, _, _, H⟩ := h.form
  cases a with
  | none => cases hg
  | some ad =>
    obtain ⟨g', rfl, _, hf, _⟩ := H ad rfl
    cases hg
    exact hf j
/-- A flag read, by its length told otherwise. -/
theorem flagCell {w : World} {g n c : Nat} {l : List Bool} (h : Owns encB w (.slice (some ⟨g, 0, none⟩) n c) l) (i : Nat) (hi : i < l.length) : w.cell? ⟨g, i, none⟩ = some (.bool (l.getD i false)) := by
  obtain ⟨a, c', hv, _, _, _, H⟩ := h.form
  injection hv with ha _ hc
  obtain ⟨g', e, _, _, hcell⟩ := H ⟨g, 0, none⟩ ha.symm
  cases e
  have := hcell i hi 0 (by decide)
  rw [List.getD, List.getElem?_eq_getElem hi]
  simpa [encB] using this
theorem flagSet {w : World} {g n c : Nat} {l : List Bool} (h : Owns encB w (.slice (some ⟨g, 0, none⟩) n c) l) (hn : n = l.length) {i : Nat} (hi : i < l.length) (x : Bool) : Owns encB (w.setCell ⟨g, i, none⟩ (.bool x)) (.slice (some ⟨g, 0, none⟩) n c) (l.set i x) := by
  subst hn
  exact h.put rfl rfl hi


end Go.Proofs.YtoopeaahpmfleaaGreatDoor

/-
  Mathematics of layer 8's own law: functions built in a store of none. Nothing of the program is read here.
-/
namespace Go.Proofs.YtoopeaahpmfleaaGreatDoor
open Go Go.RowKit

/-- A store of none, in any order. -/
def MS.empty (most : Nat) (o : Nat → Int) : MS := ⟨⟨most, 0, [], []⟩, [], o⟩
theorem MS.empty_ok (most : Nat) (h : most ≤ 20000) {o : Nat → Int} (ho : mayO o = true) : (MS.empty most o).Ok := MS.Ok.new most h o ho
theorem MS.empty_has (most : Nat) (o : Nat → Int) (n : Int) : (MS.empty most o).has n = false := by simp [MS.has, MS.empty]
theorem MS.empty_swap (most : Nat) (o : Nat → Int) {l : Int} (h0 : 0 ≤ l) (h6 : l ≤ 6) : (MS.empty most o).swap l = (0, MS.empty most (swapO o l)) := by
  unfold MS.swap
  rw [if_neg (by omega)]
  have hc : ∀ x y, (MS.empty most o).changes x y = [] := fun x y => rfl
  simp only [hc]
  have hr : ¬ (MS.empty most o).room < 2 * (([] : List Int).length : Int) := by
    simp [MS.room, MS.empty]
  rw [if_neg hr]
  rfl

section
variable {s : MS}
/-- What is reached of a node, as numbers. -/
theorem MS.Ok.reach_rch (h : s.Ok) {n : Int} (hn : s.there n = true) {g : Fn} (hg : Reach [s.tab n] s.o g) : ∃ m, s.there m = true ∧ s.tab m = g ∧ (s.has m = true → s.Rch [n] m) := by
  induction hg with
  | base hf => exact ⟨n, hn, by simpa using (List.mem_singleton.1 hf).symm, fun hh => .root (by simp) hh⟩
  | step b _ hs ht ih =>
    obtain ⟨m, hm, e, hr⟩ := ih
    rcases MS.there_cases hm with ⟨_, hh⟩ | hh
    · exfalso
      rw [MS.tab_const hh] at e
      apply hs
      rw [← e]
      split
      · exact sup_const.1
      · exact sup_const.2
    · have hT := h.top_node hh
      rw [e] at hT
      have hC := h.cof_node hh b
      rw [e, ← hT] at hC
      cases b
      · exact ⟨_, MS.behind_there (h.lo m hh), by simpa using hC.symm, fun hq => .lo (hr hh) hq⟩
      · exact ⟨_, MS.behind_there (h.hi m hh), by simpa using hC.symm, fun hq => .hi (hr hh) hq⟩
theorem MS.Ok.reach_all (h : s.Ok) {n : Int} (hn : s.there n = true) (h1 : ∀ m, s.has m = true → IsNode [s.tab n] s.o (s.tab m)) : s.reach [n] = s.all := by
  unfold MS.reach
  refine List.filter_eq_self.2 fun m hm => ?_
  have hh := h.toBase.mem_all.1 hm
  obtain ⟨m', t', e', r'⟩ := h.reach_rch hn (h1 m hh).1
  have : m' = m := h.tab_inj t' (by simp [MS.there, hh]) e'
  subst this
  have hp := r' hh
  simp [hp]

theorem supN_8 (f : Fn) : supN f ≤ 8 := supN_le f
/-- A function built in a store of none. -/
theorem MS.bld_empty {most : Nat} (hm : most ≤ 20000) {o : Nat → Int} (ho : mayO o = true) (f : Fn) (hs : sizeF [f] o ≤ most) :
    (MS.bld 8 (MS.empty most o) f).2.1 = 0 ∧ (MS.bld 8 (MS.empty most o) f).2.2.Ok ∧ (MS.bld 8 (MS.empty most o) f).2.2.o = o ∧ (MS.bld 8 (MS.empty most o) f).2.2.ar.most = most ∧
      (MS.bld 8 (MS.empty most o) f).2.2.there (MS.bld 8 (MS.empty most o) f).1 = true ∧ (MS.bld 8 (MS.empty most o) f).2.2.tab (MS.bld 8 (MS.empty most o) f).1 = f ∧
      (∀ n, (MS.bld 8 (MS.empty most o) f).2.2.has n = true → IsNode [f] o ((MS.bld 8 (MS.empty most o) f).2.2.tab n)) ∧
      (MS.bld 8 (MS.empty most o) f).2.2.all.length = sizeF [f] o := by
  have ok := MS.empty_ok most hm ho
  obtain ⟨h1, h2, h3, h4, h5⟩ := MS.bld_spec 8 (MS.empty most o) f ok (supN_8 f)
  have h0 := MS.bld_room 8 (MS.empty most o) f [f] ok (supN_8 f) (fun n hn => by rw [MS.empty_has] at hn; cases hn) (Reach.base (by simp)) hs
  have hno : ∀ n, (MS.bld 8 (MS.empty most o) f).2.2.has n = true → IsNode [f] o ((MS.bld 8 (MS.empty most o) f).2.2.tab n) := fun n hn => by
    rcases h5 n hn with h | h
    · rw [MS.empty_has] at h; cases h
    · exact h
  obtain ⟨t, e⟩ := h4 h0
  refine ⟨h0, h1, h2.o, h2.most, t, e, hno, ?_⟩
  have ho2 : (MS.bld 8 (MS.empty most o) f).2.2.o = o := h2.o
  have := h1.size_is (L := [f]) (fun n hn => by rw [ho2]; exact hno n hn) (fun g hg => by
    rw [ho2] at hg
    obtain ⟨m, tm, em⟩ := h1.reach_there t (g := g) (by rw [e, ho2]; exact hg.1)
    rcases MS.there_cases tm with ⟨_, hh⟩ | hh
    · exfalso
      rw [MS.tab_const hh] at em
      apply hg.2
      rw [← em]
      split
      · exact sup_const.1
      · exact sup_const.2
    · exact ⟨m, hh, em⟩)
  rw [ho2] at this
  exact this.symm

theorem sup_has (_h : s.Ok) {n : Int} (hn : s.there n = true) (hs : supF (s.tab n) ≠ 0) : s.has n = true := by
  rcases MS.there_cases hn with ⟨_, hh⟩ | hh
  · exfalso
    rw [MS.tab_const hh] at hs
    apply hs
    split
    · exact sup_const.1
    · exact sup_const.2
  · exact hh

/-- Two functions, one behind the other. -/
theorem MS.bld_two {most : Nat} (_hm : most ≤ 20000) {o : Nat → Int} (_ho : mayO o = true) (f g : Fn) (hs : sizeF [f, g] o ≤ most) (s1 : MS) (a : Int) (_hA : MS.bld 8 (MS.empty most o) f = (a, 0, s1)) (ok : s1.Ok) (ho1 : s1.o = o) (hm1 : s1.ar.most = most)
    (ta : s1.there a = true) (ea : s1.tab a = f) (hn : ∀ n, s1.has n = true → IsNode [f] o (s1.tab n)) :
    (MS.bld 8 s1 g).2.1 = 0 ∧ (MS.bld 8 s1 g).2.2.Ok ∧ (MS.bld 8 s1 g).2.2.o = o ∧ (MS.bld 8 s1 g).2.2.there (MS.bld 8 s1 g).1 = true ∧ (MS.bld 8 s1 g).2.2.tab (MS.bld 8 s1 g).1 = g ∧
      (MS.bld 8 s1 g).2.2.there a = true ∧ (MS.bld 8 s1 g).2.2.tab a = f ∧ (a = (MS.bld 8 s1 g).1 ↔ f = g) ∧ (MS.bld 8 s1 g).2.2.all.length = sizeF [f, g] o := by
  have mono : ∀ k, IsNode [f] o k → IsNode [f, g] o k := fun k hk => ⟨hk.1.mono (fun x hx => by simp only [List.mem_singleton] at hx; simp [hx]), hk.2⟩
  have mono2 : ∀ k, IsNode [g] o k → IsNode [f, g] o k := fun k hk => ⟨hk.1.mono (fun x hx => by simp only [List.mem_singleton] at hx; simp [hx]), hk.2⟩
  obtain ⟨h1, h2, h3, h4, h5⟩ := MS.bld_spec 8 s1 g ok (supN_8 g)
  have h0 := MS.bld_room 8 s1 g [f, g] ok (supN_8 g) (fun n h => by rw [ho1]; exact mono _ (hn n h)) (Reach.base (by simp)) (by rw [ho1, hm1]; exact hs)
  obtain ⟨t, e⟩ := h4 h0
  have ho2 : (MS.bld 8 s1 g).2.2.o = o := h2.o.trans ho1
  have ta2 := h2.there ta
  have ea2 : (MS.bld 8 s1 g).2.2.tab a = f := (h2.tab ok h1 ta).trans ea
  have hno : ∀ n, (MS.bld 8 s1 g).2.2.has n = true → IsNode [f, g] o ((MS.bld 8 s1 g).2.2.tab n) := fun n h => by
    rcases h5 n h with h | h
    · rw [h2.tab ok h1 (by simp [MS.there, h])]; exact mono _ (hn n h)
    · rw [ho1] at h; exact mono2 _ h
  refine ⟨h0, h1, ho2, t, e, ta2, ea2, ⟨fun q => ?_, fun q => ?_⟩, ?_⟩
  · rw [← q, ea2] at e; exact e
  · exact h1.tab_inj ta2 t (ea2.trans (q.trans e.symm))
  · have := h1.size_is (L := [f, g]) (fun n h => by rw [ho2]; exact hno n h) (fun k hk => by
      rw [ho2] at hk
      have hk1 : Reach [f] o k ∨ Reach [g] o k := Reach.append (l := [f]) (k := [g]) hk.1
      rcases hk1 with hk1 | hk1
      · obtain ⟨m, tm, em⟩ := h1.reach_there ta2 (g := k) (by rw [ea2, ho2]; exact hk1)
        exact ⟨m, sup_has h1 tm (by rw [em]; exact hk.2), em⟩
      · obtain ⟨m, tm, em⟩ := h1.reach_there t (g := k) (by rw [e, ho2]; exact hk1)
        exact ⟨m, sup_has h1 tm (by rw [em]; exact hk.2), em⟩)
    rw [ho2] at this
    exact this.symm
theorem size_154 (f g : Fn) {o : Nat → Int} (ho : mayO o = true) : sizeF [f, g] o ≤ 154 := by
  have h := size_add [f] [g] o
  have h1 := size_77 f o (full_of ho)
  have h2 := size_77 g o (full_of ho)
  have e : ([f] ++ [g] : List Fn) = [f, g] := rfl
  rw [e] at h
  omega
end
theorem reach_one {L : List Fn} {o : Nat → Int} {g : Fn} (h : Reach L o g) : ∃ f ∈ L, Reach [f] o g := by
  induction h with
  | base hf => exact ⟨_, hf, .base (by simp)⟩
  | step b _ hs ht ih =>
    obtain ⟨f, hf, hr⟩ := ih
    exact ⟨f, hf, .step b hr hs ht⟩

end Go.Proofs.YtoopeaahpmfleaaGreatDoor

/-
  Slices of functions of eight variables: read, appended to.
-/
namespace Go.Proofs.YtoopeaahpmfleaaGreatDoor
open Go Go.RowKit Go.Maps

/-- A slice that reads as these functions. -/
def SliceF (w : World) (v : Value) (l : List Fn) : Prop :=
  (v = .slice none 0 0 ∧ l = []) ∨ ∃ ad cap, v = .slice (some ad) l.length cap ∧ ∀ j u, (cellsL l)[j]? = some u → w.cell? (ad.add j) = some u

theorem SliceF.keep {w w' : World} {v : Value} {l : List Fn} {B : Nat} (h : SliceF w v l) (hb : Below B w w') (hB : w.heap.size ≤ B) : SliceF w' v l := by
  rcases h with h | ⟨ad, cap, rfl, hc⟩
  · exact .inl h
  · refine .inr ⟨ad, cap, rfl, fun j u hj => ?_⟩
    have h1 := hc j u hj
    rw [hb.cell (p := ad.add j) (Nat.lt_of_lt_of_le (block_lt_of_cell h1) hB)]
    exact h1

theorem OwnsF.slice {w : World} {base : Nat} {v : Value} {l : List Fn} (h : OwnsF w base v l) : SliceF w v l := by
  obtain ⟨h1, ⟨rfl, h2⟩ | ⟨g, cap, cur, rfl, hr⟩⟩ := h
  · exact .inl ⟨rfl, List.length_eq_zero_iff.1 h2⟩
  · have h := World.ownsRow.cells (w := w) (base := base) (e := 50) (size := 4) (v := .slice (some ⟨g, 0, none⟩) l.length cap) (n := l.length) (xs := cellsL l) ⟨h1, .inr ⟨g, cap, cur, rfl, hr⟩⟩ (g := g) rfl
    exact .inr ⟨⟨g, 0, none⟩, cap, rfl, h⟩

theorem OwnsF.nil (w : World) (base : Nat) : OwnsF w base (.slice none 0 0) [] := ⟨rfl, .inl ⟨rfl, rfl⟩⟩

theorem OwnsF.block {w w' : World} {base : Nat} {v : Value} {l : List Fn} (h : OwnsF w base v l) (hb : ∀ g, v.ownBlock = some g → w'.heap[g]? = w.heap[g]?) : OwnsF w' base v l := by
  obtain ⟨h1, h2 | ⟨g, cap, cur, rfl, h3, h4, h5⟩⟩ := h
  · exact ⟨h1, .inl h2⟩
  · exact ⟨h1, .inr ⟨g, cap, cur, rfl, h3, (hb g rfl).trans h4, h5⟩⟩

theorem OwnsF.lt {w : World} {base : Nat} {v : Value} {l : List Fn} (h : OwnsF w base v l) (g : Nat) (hg : v.ownBlock = some g) : base ≤ g ∧ g < w.heap.size := World.ownsRow.lt h g hg
theorem OwnsF.keep {w w' : World} {base B : Nat} {v : Value} {l : List Fn} (h : OwnsF w base v l) (hb : Below B w w') (hB : w.heap.size ≤ B) : OwnsF w' base v l :=
  h.block fun g hg => hb.block g (Nat.lt_of_lt_of_le (h.lt g hg).2 hB)
theorem OwnsF.alloc {w : World} {base : Nat} {v : Value} {l : List Fn} (h : OwnsF w base v l) (o : Obj) : OwnsF (w.alloc o) base v l :=
  h.block fun g hg => heap_alloc_old _ _ (h.lt g hg).2
theorem OwnsF.grown {w w' : World} {base : Nat} {v : Value} {l : List Fn} {row : Option Nat} (h : OwnsF w base v l) (hg : w.grownBy w' row) (hne : ∀ g, v.ownBlock = some g → row ≠ some g) : OwnsF w' base v l :=
  h.block fun g hb => hg.block g (h.lt g hb).2 (fun e => hne g hb e.symm)

theorem infoF : ∃ i, Tryz.prog.info? 50 = some i ∧ i.zero = some (.agg #[.int .u64 0, .int .u64 0, .int .u64 0, .int .u64 0]) ∧ i.size = 4 ∧ i.bytes = 32 := by
  have h : (Tryz.prog.info? 50).map (fun i => (i.zero, i.size, i.bytes)) = some (some (.agg #[.int .u64 0, .int .u64 0, .int .u64 0, .int .u64 0]), 4, 32) := by kernel_rfl
  obtain ⟨i, hi, h0, h1, h2⟩ := info_parts h
  exact ⟨i, hi, h0, h1, h2⟩

/-- append(x, y...) of two slices of functions, the first the call's own. -/
theorem appendF {ops : Array Oper} {rest : List Oper} {o : Oper} {a : Act} {w : World} {Q : Exit → Act → World → Prop} (hgd : o.guard = none) (s x : Operand)
    (ho : o.op = .call { callee := .builtin .append, args := #[s, x], argTypes := #[22, 22] })
    (base : Nat) (v y : Value) (l k : List Fn) (hs : a.eval s = v) (hown : OwnsF w base v l) (hx : a.eval x = y) (hsrc : SliceF w y k)
    (hn : l.length + k.length ≤ 1000000) (hbase : base ≤ w.heap.size)
    (h : ∀ v' w', OwnsF w' base v' (l ++ k) → w.grownBy w' v.ownBlock → (v'.ownBlock = v.ownBlock ∨ v'.ownBlock = some w.heap.size) → wpList Tryz.prog ops Q rest (a.put o.dst v') w') : wpList Tryz.prog ops Q (o :: rest) a w := by
  obtain ⟨i, hi, hz, hsz, hby⟩ := infoF
  rcases hsrc with ⟨rfl, rfl⟩ | ⟨ad, cap, rfl, hc⟩
  · refine wpList_append_own_none hgd s x _ ho base 50 i 4 Tryz.underlying22 hi v l.length (cellsL l) hs hown hx ?_
    refine h v w (by rw [List.append_nil]; exact hown) ⟨rfl, rfl, rfl, Nat.le_refl _, fun _ _ _ => rfl⟩ (.inl rfl)
  · refine wpList_append_own_at w hgd s x _ ho base 50 i _ 4 32 Tryz.underlying22 hi hz hsz hby rfl (by decide) v l.length (cellsL l) hs hown ad k.length cap (cellsL k) hx (cellsL_length k) hc (cellsL_one k) (by unfold maxLen; omega) (by omega) hbase ?_
    intro v' w' h1 h2 _ h4
    exact h v' w' (by unfold OwnsF; rw [List.length_append, cellsL_append]; exact h1) h2 h4

end Go.Proofs.YtoopeaahpmfleaaGreatDoor

/-
  What is asked of the code's package read, whatever it is. ReadBuilds.
-/
namespace Go.Proofs.YtoopeaahpmfleaaGreatDoor
open Go Go.RowKit

/-- Each call of package read. -/
structure ReadC (StAt : World → Nat → (Nat → Prop) → MS → Prop) : Prop where ofAll ::
  table : ∀ {w b F s}, LowW w → StAt w b F s → s.Ok → ∀ n : Int, (n ≤ 9223372036854775807 ∧ -9223372036854775808 ≤ n) → Calls Tryz.prog 24 #[.pointer (some ⟨b, 0, none⟩), .int .i64 n] w fun e w' => e = .returned (fv (s.tab n)) ∧ Below w.heap.size w w'
  reach : ∀ {w b F s}, StAt w b F s → s.Ok → ∀ (roots : List Int) (v : Value), Reads encI w v roots → roots.length ≤ 100000 → (∀ r ∈ roots, r ≤ 9223372036854775807 ∧ -9223372036854775808 ≤ r) → Calls Tryz.prog 22 #[.pointer (some ⟨b, 0, none⟩), v] w fun e w' => ∃ v', e = .returned v' ∧ WRel w (s.reach roots) v' w'
  build : ∀ {w b F s}, LowW w → (∀ k, F k → 0 < k) → StAt w b F s → s.Ok → ∀ f : Fn, Calls Tryz.prog 20 #[.pointer (some ⟨b, 0, none⟩), fv f] w fun e w' => e = .returned (.tuple #[.int .i64 (MS.bld 8 s f).1, errV (MS.bld 8 s f).2.1]) ∧ ∃ F', StAt w' b F' (MS.bld 8 s f).2.2 ∧ Keeps F w w' ∧ Within w F F'

theorem SliceF.form {w : World} {v : Value} {l : List Fn} (h : SliceF w v l) : ∃ a c, v = .slice a l.length c := by
  rcases h with ⟨rfl, rfl⟩ | ⟨ad, cap, rfl, _⟩
  · exact ⟨none, 0, rfl⟩
  · exact ⟨_, _, rfl⟩
theorem SliceF.fnAt {w : World} {a : Option Addr} {cap : Nat} {l : List Fn} (h : SliceF w (.slice a l.length cap) l) (i : Nat) (hi : i < l.length) : ∃ ad, a = some ad ∧ w.cell? (ad.add (i * 4)) = some (.int .u64 (wd l[i] 0)) ∧
    w.cell? ⟨(ad.add (i * 4)).block, (ad.add (i * 4)).off + 1, none⟩ = some (.int .u64 (wd l[i] 1)) ∧ w.cell? ⟨(ad.add (i * 4)).block, (ad.add (i * 4)).off + 2, none⟩ = some (.int .u64 (wd l[i] 2)) ∧
    w.cell? ⟨(ad.add (i * 4)).block, (ad.add (i * 4)).off + 3, none⟩ = some (.int .u64 (wd l[i] 3)) := by
  rcases h with ⟨_, rfl⟩ | ⟨ad, cap', hv, hc⟩
  · cases hi
  · injection hv with h1 h2 h3
    subst h1
    have key : ∀ j, j < 4 → (cellsL l)[i * 4 + j]? = some (.int .u64 (wd l[i] j)) := fun j hj => cellsL_get l i hi j hj
    have e : ∀ j, 0 < j → ad.add (i * 4 + j) = ⟨(ad.add (i * 4)).block, (ad.add (i * 4)).off + j, none⟩ := fun j hj => by
      rw [← Addr.add_add]
      unfold Addr.add
      by_cases h1 : i * 4 = 0 <;> simp [h1, Nat.ne_of_gt hj]
    refine ⟨ad, rfl, hc _ _ (key 0 (by decide)), ?_, ?_, ?_⟩
    · rw [← e 1 (by decide)]; exact hc _ _ (key 1 (by decide))
    · rw [← e 2 (by decide)]; exact hc _ _ (key 2 (by decide))
    · rw [← e 3 (by decide)]; exact hc _ _ (key 3 (by decide))
theorem MS.bld_err (s : MS) (f : Fn) (ok : s.Ok) : 0 ≤ (MS.bld 8 s f).2.1 ∧ (MS.bld 8 s f).2.1 ≤ 8 := by
  rcases (MS.bld_spec 8 s f ok (supN_8 f)).2.2.1 with h | h <;> rw [h] <;> decide


end Go.Proofs.YtoopeaahpmfleaaGreatDoor

/-
  Mathematics of layers 9 to 11: if, then, else of nodes; what grows. Nothing of the program is read here.
-/
namespace Go.Proofs.YtoopeaahpmfleaaGreatDoor

/-- If, then, else of functions. -/
def iteF (f g h : Fn) : Fn := f &&& g ||| ~~~f &&& h
/-- What Ite comes to. -/
def MS.ite (s : MS) (f g h : Int) : Int × Int × MS := if s.there f = true ∧ s.there g = true ∧ s.there h = true then MS.bld 8 s (iteF (s.tab f) (s.tab g) (s.tab h)) else (0, 1, s)
/-- What Xor comes to. -/
def MS.xor (s : MS) (f g : Int) : Int × Int × MS :=
  if s.there f = true ∧ s.there g = true then
    let n := s.ite g 0 1
    if n.2.1 ≠ 0 then (0, n.2.1, n.2.2) else n.2.2.ite f n.1 g
  else (0, 1, s)
/-- What Restrict comes to. -/
def MS.restr (s : MS) (f v : Int) (b : Bool) : Int × Int × MS := if s.there f = true ∧ 0 ≤ v ∧ v ≤ 7 then MS.bld 8 s (cofAny (s.tab f) v b) else (0, 1, s)
/-- What Compose (0), Exists (1), Forall (2) come to. -/
def MS.three (s : MS) (what : Int) (f v g : Int) : Int × Int × MS :=
  if what = 0 ∧ s.there g = false then (0, 1, s)
  else
    let a := s.restr f v false
    if a.2.1 ≠ 0 then (0, a.2.1, a.2.2)
    else
      let b := a.2.2.restr f v true
      if b.2.1 ≠ 0 then (0, b.2.1, b.2.2)
      else if what = 0 then b.2.2.ite g b.1 a.1
      else if what = 1 then b.2.2.ite a.1 1 b.1
      else b.2.2.ite a.1 b.1 0

/-- No number's function is another one. -/
structure MS.Grows (s t : MS) : Prop where
  there : ∀ n, s.there n = true → t.there n = true
  val : ∀ (b : Int → Bool) n, s.there n = true → t.val b n = s.val b n

section
variable {s t u : MS}
theorem MS.there_mono' (h : ∀ n, s.has n = true → t.has n = true) {n : Int} (hn : s.there n = true) : t.there n = true := by
  rcases MS.there_cases hn with ⟨rfl | rfl, _⟩ | hn
  · rfl
  · rfl
  · simp [MS.there, h n hn]
theorem MS.Grows.refl (s : MS) : MS.Grows s s := ⟨fun _ h => h, fun _ _ _ => rfl⟩
theorem MS.Grows.trans (h : MS.Grows s t) (k : MS.Grows t u) : MS.Grows s u := ⟨fun n hn => k.there n (h.there n hn), fun b n hn => (k.val b n (h.there n hn)).trans (h.val b n hn)⟩
theorem MS.Grows.of_ext (e : MS.Ext s t) (hs : s.Ok) (ht : t.Ok) : MS.Grows s t := ⟨fun _ hn => e.there hn, fun b n hn => e.val hs ht b _ n (Nat.le_refl _) hn⟩
theorem MS.Grows.of_swap (hs : s.Ok) (l : Int) : MS.Grows s (s.swap l).2 := ⟨fun _ hn => MS.there_mono' (fun _ hm => hs.swap_has l hm) hn, fun b _ hn => hs.swap_val l b hn⟩
theorem MS.Grows.tab (h : MS.Grows s t) {n : Int} (hn : s.there n = true) : t.tab n = s.tab n := fn_ext fun k hk => by
  rw [MS.tab_bit _ _ hk, MS.tab_bit _ _ hk, h.val _ n hn]

theorem MS.Ok.bld_ok (h : s.Ok) (f : Fn) : (MS.bld 8 s f).2.2.Ok := (MS.bld_spec 8 s f h (supN_8 f)).1
theorem MS.Ok.bld_err (h : s.Ok) (f : Fn) : 0 ≤ (MS.bld 8 s f).2.1 ∧ (MS.bld 8 s f).2.1 ≤ 8 := by
  rcases (MS.bld_spec 8 s f h (supN_8 f)).2.2.1 with h | h <;> rw [h] <;> decide
theorem MS.Ok.ite_spec (h : s.Ok) (f g k : Int) : (s.ite f g k).2.2.Ok ∧ MS.Ext s (s.ite f g k).2.2 ∧ (0 ≤ (s.ite f g k).2.1 ∧ (s.ite f g k).2.1 ≤ 8) ∧
    ((s.ite f g k).2.1 = 0 → (s.ite f g k).2.2.there (s.ite f g k).1 = true ∧ (s.ite f g k).2.2.tab (s.ite f g k).1 = iteF (s.tab f) (s.tab g) (s.tab k)) := by
  unfold MS.ite
  split
  · have := MS.bld_spec 8 s (iteF (s.tab f) (s.tab g) (s.tab k)) h (supN_8 _)
    exact ⟨this.1, this.2.1, h.bld_err _, this.2.2.2.1⟩
  · exact ⟨h, MS.Ext.refl s, by dsimp only; omega, fun e => by dsimp only at e; omega⟩
theorem MS.Ok.xor_spec (h : s.Ok) (f g : Int) : (s.xor f g).2.2.Ok ∧ MS.Ext s (s.xor f g).2.2 ∧ (0 ≤ (s.xor f g).2.1 ∧ (s.xor f g).2.1 ≤ 8) := by
  unfold MS.xor
  split
  · obtain ⟨h1, h2, h3, _⟩ := h.ite_spec g 0 1
    dsimp only
    split
    · exact ⟨h1, h2, h3⟩
    · obtain ⟨k1, k2, k3, _⟩ := h1.ite_spec f (s.ite g 0 1).1 g
      exact ⟨k1, h2.trans k2, k3⟩
  · exact ⟨h, MS.Ext.refl s, by dsimp only; omega⟩
theorem MS.Ok.restr_spec (h : s.Ok) (f v : Int) (b : Bool) : (s.restr f v b).2.2.Ok ∧ MS.Ext s (s.restr f v b).2.2 ∧ (0 ≤ (s.restr f v b).2.1 ∧ (s.restr f v b).2.1 ≤ 8) ∧
    ((s.restr f v b).2.1 = 0 → (s.restr f v b).2.2.there (s.restr f v b).1 = true ∧ (s.restr f v b).2.2.tab (s.restr f v b).1 = cofAny (s.tab f) v b) := by
  unfold MS.restr
  split
  · have := MS.bld_spec 8 s (cofAny (s.tab f) v b) h (supN_8 _)
    exact ⟨this.1, this.2.1, h.bld_err _, this.2.2.2.1⟩
  · exact ⟨h, MS.Ext.refl s, by dsimp only; omega, fun e => by dsimp only at e; omega⟩
theorem MS.Ok.three_spec (h : s.Ok) (what f v g : Int) : (s.three what f v g).2.2.Ok ∧ MS.Ext s (s.three what f v g).2.2 ∧ (0 ≤ (s.three what f v g).2.1 ∧ (s.three what f v g).2.1 ≤ 8) := by
  unfold MS.three
  split
  · exact ⟨h, MS.Ext.refl s, by dsimp only; omega⟩
  · obtain ⟨h1, h2, h3, _⟩ := h.restr_spec f v false
    dsimp only
    split
    · exact ⟨h1, h2, h3⟩
    · obtain ⟨k1, k2, k3, _⟩ := h1.restr_spec f v true
      split
      · exact ⟨k1, h2.trans k2, k3⟩
      · split
        · obtain ⟨j1, j2, j3, _⟩ := k1.ite_spec g ((s.restr f v false).2.2.restr f v true).1 (s.restr f v false).1
          exact ⟨j1, (h2.trans k2).trans j2, j3⟩
        · split
          · obtain ⟨j1, j2, j3, _⟩ := k1.ite_spec (s.restr f v false).1 1 ((s.restr f v false).2.2.restr f v true).1
            exact ⟨j1, (h2.trans k2).trans j2, j3⟩
          · obtain ⟨j1, j2, j3, _⟩ := k1.ite_spec (s.restr f v false).1 ((s.restr f v false).2.2.restr f v true).1 0
            exact ⟨j1, (h2.trans k2).trans j2, j3⟩
end

end Go.Proofs.YtoopeaahpmfleaaGreatDoor

/-
  Mathematics of layer 9, as the code goes: three nodes, a variable that stands first, its two sides. Nothing of the program is read here.
-/
namespace Go.Proofs.YtoopeaahpmfleaaGreatDoor

/-- Two parts, one behind the other, and a node of them. -/
def MS.twoB (v : Int) (A b : Int × Int × MS) : Int × Int × MS := if A.2.1 ≠ 0 then (0, A.2.1, A.2.2) else if b.2.1 ≠ 0 then (0, b.2.1, b.2.2) else b.2.2.mk v A.1 b.1 []
def MS.two (v : Int) (A : Int × Int × MS) (B : MS → Int × Int × MS) : Int × Int × MS := MS.twoB v A (B A.2.2)
theorem MS.two_congr {v : Int} {A A' : Int × Int × MS} {B B' : MS → Int × Int × MS} (h : A = A') (k : B A.2.2 = B' A.2.2) : MS.two v A B = MS.two v A' B' := by
  subst h
  unfold MS.two
  rw [k]

theorem MS.bld_succ (k : Nat) (s : MS) (f : Fn) : MS.bld (k + 1) s f = if topF f s.o < 0 then (constN f, 0, s) else MS.two (topF f s.o) (MS.bld k s (cofAny f (topF f s.o) false)) fun t => MS.bld k t (cofAny f (topF f s.o) true) := rfl

theorem MS.bld_more : ∀ (k : Nat) (s : MS) (f : Fn), s.Ok → supN f ≤ k → MS.bld (k + 1) s f = MS.bld k s f := by
  intro k
  induction k with
  | zero =>
    intro s f h hk
    have ht : topF f s.o < 0 := by
      have := (top_neg (full_of h.order)).2 (supN_zero (f := f) (by omega))
      omega
    rw [MS.bld_succ, if_pos ht]
    rfl
  | succ k ih =>
    intro s f h hk
    rw [MS.bld_succ (k + 1) s f, MS.bld_succ k s f]
    by_cases ht : topF f s.o < 0
    · rw [if_pos ht, if_pos ht]
    · rw [if_neg ht, if_neg ht]
      have ht0 : 0 ≤ topF f s.o := by omega
      have k0 := supN_cof f s.o false ht0
      have k1 := supN_cof f s.o true ht0
      have ra := (MS.bld_spec k s (cofAny f (topF f s.o) false) h (by omega)).1
      have e1 := ih s (cofAny f (topF f s.o) false) h (by omega)
      exact MS.two_congr e1 (by rw [e1]; exact ih _ _ ra (by omega))

theorem MS.mk_err0 {s : MS} {v lo hi : Int} {but : List Int} (h : (s.mk v lo hi but).2.1 ≠ 0) : (s.mk v lo hi but).1 = 0 := by
  revert h
  unfold MS.mk
  split
  · intro; rfl
  · split
    · intro h; exact absurd rfl h
    · split
      · intro h; exact absurd rfl h
      · split
        · intro; rfl
        · intro h; exact absurd rfl h
theorem MS.two_err0 {v : Int} {A : Int × Int × MS} {B : MS → Int × Int × MS} (h : (MS.two v A B).2.1 ≠ 0) : (MS.two v A B).1 = 0 := by
  revert h
  unfold MS.two MS.twoB
  split
  · intro; rfl
  · split
    · intro; rfl
    · exact MS.mk_err0
theorem MS.bld_err0 (k : Nat) (s : MS) (f : Fn) (h : (MS.bld k s f).2.1 ≠ 0) : (MS.bld k s f).1 = 0 := by
  cases k with
  | zero => exact absurd rfl h
  | succ k =>
    rw [MS.bld_succ] at h ⊢
    split
    · rw [if_pos (by assumption)] at h; exact absurd rfl h
    · rw [if_neg (by assumption)] at h; exact MS.two_err0 h

section
variable {s t : MS}

theorem MS.mk_same {v n : Int} (v0 : 0 ≤ v) (v7 : v ≤ 7) (b : s.behind n v = true) : s.mk v n n [] = (n, 0, s) := by
  unfold MS.mk
  rw [if_neg (by rw [b]; simp; omega), if_pos rfl]

/-- A node whose function hangs on no variable up to level l stands behind it. -/
theorem MS.Ok.behind_free (h : s.Ok) {l : Nat} (hl : l < 8) {n : Int} (hn : s.there n = true) (hf : ∀ j, j ≤ l → depAny (s.tab n) (s.o j) = false) : s.behind n (s.o l) = true := by
  rcases MS.there_cases hn with ⟨hc, _⟩ | hh
  · exact MS.behind_const hc
  · rw [MS.behind_node hh, levO_at h.order hl rfl]
    refine decide_eq_true ?_
    obtain ⟨l0, _⟩ := h.lev hh
    obtain ⟨i, hi⟩ := Int.eq_ofNat_of_zero_le l0
    have hp := lev_place (o := s.o) hi
    rw [hi]
    rcases Nat.lt_or_ge l i with h1 | h1
    · omega
    · have := hf i h1
      rw [hp, h.dep_var hh] at this
      cases this

/-- Built at a level ahead of which the function hangs on nothing. -/
theorem MS.Ok.bld_at (h : s.Ok) (F : Fn) {l : Nat} (hl : l < 8) (hind : ∀ j, j < l → depAny F (s.o j) = false) :
    MS.bld 8 s F = MS.two (s.o l) (MS.bld 8 s (cofAny F (s.o l) false)) fun t => MS.bld 8 t (cofAny F (s.o l) true) := by
  have hr := mayO_range h.order hl
  by_cases hd : depAny F (s.o l) = true
  · have ht : topF F s.o = s.o l := by
      obtain ⟨_, p2, p3, p4⟩ := posF_spec F s.o
      have hpi : posF F s.o = l := by
        rcases Nat.lt_trichotomy (posF F s.o) l with h1 | h1 | h1
        · have h2 := (p3 (by omega)).1
          rw [hind _ h1] at h2
          cases h2
        · exact h1
        · have h2 := p2 l h1
          rw [hd] at h2
          cases h2
      rw [(p3 (by omega)).2, hpi]
    have ht0 : 0 ≤ topF F s.o := by rw [ht]; exact hr.1
    have k0 := supN_cof F s.o false ht0
    have k1 := supN_cof F s.o true ht0
    have k8 := supN_8 F
    rw [ht] at k0 k1
    have ra := (MS.bld_spec 7 s (cofAny F (s.o l) false) h (by omega)).1
    rw [show MS.bld 8 s F = _ from MS.bld_succ 7 s F, if_neg (by omega), ht]
    have e1 := MS.bld_more 7 s (cofAny F (s.o l) false) h (by omega)
    have e2 := MS.bld_more 7 _ (cofAny F (s.o l) true) ra (by omega)
    exact MS.two_congr e1.symm e2.symm
  · have hc : ∀ b, cofAny F (s.o l) b = F := fun b => cof_indep (b := b) (by simpa using hd)
    rw [hc, hc]
    obtain ⟨oka, ea, _, resa, _⟩ := MS.bld_spec 8 s F h (supN_8 F)
    have h0 := MS.bld_err0 8 s F
    generalize MS.bld 8 s F = A at *
    obtain ⟨a, e, u⟩ := A
    dsimp only at oka ea resa h0
    unfold MS.two MS.twoB
    dsimp only
    by_cases he : e = 0
    · subst he
      obtain ⟨t1, t2⟩ := resa rfl
      simp only [MS.bld_same 8 u F a oka (supN_8 F) t1 t2, ne_eq, not_true_eq_false, if_false]
      rw [MS.mk_same hr.1 hr.2]
      rw [← ea.o]
      refine oka.behind_free hl t1 fun j hj => ?_
      rw [t2, ea.o]
      rcases Nat.lt_or_ge j l with h1 | h1
      · exact hind j h1
      · obtain rfl : j = l := by omega
        simpa using hd
    · rw [if_pos he, h0 he]

/-- If, then, else with a variable set. -/
theorem iteF_cof (f g h : Fn) (v : Int) (b : Bool) : cofAny (iteF f g h) v b = iteF (cofAny f v b) (cofAny g v b) (cofAny h v b) := by
  unfold cofAny
  split
  · rename_i hv
    refine fn_ext fun k hk => ?_
    have hr := rowF_lt k v.toNat b hk (by omega)
    rw [cofF_bit _ _ _ _ hk]
    unfold iteF
    simp only [BitVec.getLsbD_or, BitVec.getLsbD_and, BitVec.getLsbD_not, hk, hr, decide_true, Bool.true_and, cofF_bit _ _ _ _ hk]
  · rfl
theorem iteF_dep {f g h : Fn} {v : Int} (hf : depAny f v = false) (hg : depAny g v = false) (hh : depAny h v = false) : depAny (iteF f g h) v = false := cof_indep' fun b => by
  rw [iteF_cof, cof_indep hf, cof_indep hg, cof_indep hh]
theorem iteF_both (f g : Fn) : iteF f g g = g := by
  refine fn_ext fun k hk => ?_
  unfold iteF
  simp only [BitVec.getLsbD_or, BitVec.getLsbD_and, BitVec.getLsbD_not, hk, decide_true, Bool.true_and]
  cases f.getLsbD k <;> simp
theorem iteF_t (g h : Fn) : iteF (BitVec.allOnes 256) g h = g := by
  refine fn_ext fun k hk => ?_
  unfold iteF
  simp only [BitVec.getLsbD_or, BitVec.getLsbD_and, BitVec.getLsbD_not, BitVec.getLsbD_allOnes, hk, decide_true, Bool.true_and, Bool.not_true, Bool.false_and, Bool.or_false]
theorem iteF_f (g h : Fn) : iteF (0#256) g h = h := by
  refine fn_ext fun k hk => ?_
  unfold iteF
  simp only [BitVec.getLsbD_or, BitVec.getLsbD_and, BitVec.getLsbD_not, BitVec.getLsbD_zero, hk, decide_true, Bool.true_and, Bool.false_and, Bool.not_false, Bool.false_or]
theorem iteF_id (f : Fn) : iteF f (BitVec.allOnes 256) (0#256) = f := by
  refine fn_ext fun k hk => ?_
  unfold iteF
  simp only [BitVec.getLsbD_or, BitVec.getLsbD_and, BitVec.getLsbD_not, BitVec.getLsbD_allOnes, BitVec.getLsbD_zero, hk, decide_true, Bool.true_and, Bool.and_true, Bool.and_false, Bool.or_false]

theorem MS.isOf_false {n v : Int} : s.isOf n v = false ↔ (s.has n = true → (s.nd n).var ≠ v) := by
  unfold MS.isOf MS.node
  cases hh : s.has n
  · simp
  · simp [beq_eq_false_iff_ne]
theorem MS.isOf_true {n v : Int} : s.isOf n v = true ↔ s.has n = true ∧ (s.nd n).var = v := by
  unfold MS.isOf MS.node
  cases hh : s.has n
  · simp
  · simp

/-- Of no variable ahead of level l. -/
theorem MS.Ok.from_of (h : s.Ok) {l : Nat} {n : Int} (hf : ∀ j, j < l → s.isOf n (s.o j) = false) : s.from (l : Int) n := fun hh => by
  obtain ⟨l0, _⟩ := h.lev hh
  obtain ⟨i, hi⟩ := Int.eq_ofNat_of_zero_le l0
  have hp := lev_place (o := s.o) hi
  rw [hi]
  rcases Nat.lt_or_ge i l with h1 | h1
  · exact absurd hp.symm (MS.isOf_false.1 (hf i h1) hh)
  · omega
theorem MS.Ok.from_dep (h : s.Ok) {l : Nat} (hl : l ≤ 8) {n : Int} (hf : s.from (l : Int) n) {j : Nat} (hj : j < l) : depAny (s.tab n) (s.o j) = false := by
  refine h.dep_ahead fun hh => ?_
  have := hf hh
  rw [levO_at h.order (by omega) rfl]
  omega
/-- A side. -/
theorem MS.Ok.side_tab (h : s.Ok) {l : Nat} (hl : l < 8) {n : Int} (hf : s.from (l : Int) n) (b : Bool) : s.tab (s.side n (s.o l) b) = cofAny (s.tab n) (s.o l) b := by
  unfold MS.side
  cases hi : s.isOf n (s.o l)
  · rw [if_neg (by simp), h.cof_ahead]
    intro hh
    have h1 := hf hh
    have h2 := MS.isOf_false.1 hi hh
    rw [levO_at h.order hl rfl]
    obtain ⟨l0, _⟩ := h.lev hh
    obtain ⟨i, he⟩ := Int.eq_ofNat_of_zero_le l0
    have hp := lev_place (o := s.o) he
    rw [he] at h1 ⊢
    have : i ≠ l := fun e => h2 (by rw [← hp, e])
    omega
  · obtain ⟨hh, hv⟩ := MS.isOf_true.1 hi
    rw [if_pos rfl, ← hv, h.cof_node hh]
theorem MS.Ok.side_there (h : s.Ok) {n v : Int} (hn : s.there n = true) (b : Bool) : s.there (s.side n v b) = true := by
  unfold MS.side
  cases hi : s.isOf n v
  · rw [if_neg (by simp)]; exact hn
  · obtain ⟨hh, _⟩ := MS.isOf_true.1 hi
    rw [if_pos rfl]
    cases b
    · exact MS.behind_there (h.lo n hh)
    · exact MS.behind_there (h.hi n hh)
theorem MS.Ok.side_from (h : s.Ok) {l : Nat} (hl : l < 8) {n : Int} (hf : s.from (l : Int) n) (b : Bool) : s.from ((l + 1 : Nat) : Int) (s.side n (s.o l) b) := by
  unfold MS.side
  cases hi : s.isOf n (s.o l)
  · rw [if_neg (by simp)]
    intro hh
    have h1 := hf hh
    have h2 := MS.isOf_false.1 hi hh
    obtain ⟨l0, _⟩ := h.lev hh
    obtain ⟨i, he⟩ := Int.eq_ofNat_of_zero_le l0
    have hp := lev_place (o := s.o) he
    rw [he] at h1 ⊢
    have : i ≠ l := fun e => h2 (by rw [← hp, e])
    omega
  · obtain ⟨hh, hv⟩ := MS.isOf_true.1 hi
    rw [if_pos rfl]
    have e := levO_at h.order hl rfl
    cases b
    · have := MS.from_behind (h.lo n hh)
      rw [hv, e] at this
      exact this
    · have := MS.from_behind (h.hi n hh)
      rw [hv, e] at this
      exact this
theorem MS.from_8 (h : s.Ok) {n : Int} (hf : s.from ((8 : Nat) : Int) n) : s.has n = false := by
  cases hh : s.has n
  · rfl
  · have := hf hh
    have := h.lev hh
    omega
theorem MS.Ext.from (e : MS.Ext s t) {L n : Int} (hn : s.there n = true) (hf : s.from L n) : t.from L n := fun hh => by
  rcases MS.there_cases hn with ⟨hc, _⟩ | h1
  · exfalso
    rcases hc with rfl | rfl <;> cases hh
  · rw [e.o, e.nd n h1]; exact hf h1

/-- Three nodes that are there, none of them ahead of a level. -/
structure MS.Three (s : MS) (l : Nat) (f g k : Int) : Prop where
  tf : s.there f = true
  tg : s.there g = true
  tk : s.there k = true
  ff : s.from (l : Int) f
  fg : s.from (l : Int) g
  fk : s.from (l : Int) k
variable {l : Nat} {f g k : Int}
/-- What is built of three. -/
def MS.ans (s : MS) (f g k : Int) : Int × Int × MS := MS.bld 8 s (iteF (s.tab f) (s.tab g) (s.tab k))
theorem MS.Three.ext (h : MS.Three s l f g k) (e : MS.Ext s t) : MS.Three t l f g k := ⟨e.there h.tf, e.there h.tg, e.there h.tk, e.from h.tf h.ff, e.from h.tg h.fg, e.from h.tk h.fk⟩
theorem MS.Three.side (h : MS.Three s l f g k) (ok : s.Ok) (hl : l < 8) (b : Bool) : MS.Three s (l + 1) (s.side f (s.o l) b) (s.side g (s.o l) b) (s.side k (s.o l) b) :=
  ⟨ok.side_there h.tf b, ok.side_there h.tg b, ok.side_there h.tk b, ok.side_from hl h.ff b, ok.side_from hl h.fg b, ok.side_from hl h.fk b⟩
/-- What is built of three, whatever they are. -/
theorem MS.Ok.ans_spec (ok : s.Ok) (f g k : Int) : (s.ans f g k).2.2.Ok ∧ MS.Ext s (s.ans f g k).2.2 ∧ (0 ≤ (s.ans f g k).2.1 ∧ (s.ans f g k).2.1 ≤ 8) ∧
    ((s.ans f g k).2.1 = 0 → (s.ans f g k).2.2.there (s.ans f g k).1 = true ∧ (s.ans f g k).2.2.tab (s.ans f g k).1 = iteF (s.tab f) (s.tab g) (s.tab k)) := by
  unfold MS.ans
  have := MS.bld_spec 8 s (iteF (s.tab f) (s.tab g) (s.tab k)) ok (supN_8 _)
  exact ⟨this.1, this.2.1, ok.bld_err _, this.2.2.2.1⟩
/-- The answer, by its two sides. -/
theorem MS.Three.ans (h : MS.Three s l f g k) (ok : s.Ok) (hl : l < 8) {A : Int × Int × MS} (hA : s.ans (s.side f (s.o l) false) (s.side g (s.o l) false) (s.side k (s.o l) false) = A) :
    s.ans f g k = MS.twoB (s.o l) A (A.2.2.ans (A.2.2.side f (s.o l) true) (A.2.2.side g (s.o l) true) (A.2.2.side k (s.o l) true)) := by
  obtain ⟨okt, e, _, _⟩ := ok.ans_spec (s.side f (s.o l) false) (s.side g (s.o l) false) (s.side k (s.o l) false)
  rw [hA] at okt e
  have h' := h.ext e
  have e0 := e.o
  have q1 := okt.side_tab hl h'.ff true
  have q2 := okt.side_tab hl h'.fg true
  have q3 := okt.side_tab hl h'.fk true
  rw [e0] at q1 q2 q3
  unfold MS.ans at hA ⊢
  rw [ok.side_tab hl h.ff, ok.side_tab hl h.fg, ok.side_tab hl h.fk, ← iteF_cof] at hA
  rw [ok.bld_at (iteF (s.tab f) (s.tab g) (s.tab k)) hl fun j hj => iteF_dep (ok.from_dep (by omega) h.ff hj) (ok.from_dep (by omega) h.fg hj) (ok.from_dep (by omega) h.fk hj)]
  rw [q1, q2, q3, ← iteF_cof, e.tab ok okt h.tf, e.tab ok okt h.tg, e.tab ok okt h.tk, hA]
  rfl
/-- Known: it is that node. -/
theorem MS.Ok.ans_known (ok : s.Ok) {f g k n : Int} (hn : s.there n = true) (e : s.tab n = iteF (s.tab f) (s.tab g) (s.tab k)) : s.ans f g k = (n, 0, s) := MS.bld_same 8 s _ n ok (supN_8 _) hn e
theorem MS.tab_n1 (s : MS) : s.tab 1 = BitVec.allOnes 256 := MS.tab_const rfl
theorem MS.tab_n0 (s : MS) : s.tab 0 = 0#256 := MS.tab_const rfl
theorem MS.Three.one (h : MS.Three s l 1 g k) (ok : s.Ok) : s.ans 1 g k = (g, 0, s) := ok.ans_known h.tg (by rw [MS.tab_n1, iteF_t])
theorem MS.Three.zero (h : MS.Three s l 0 g k) (ok : s.Ok) : s.ans 0 g k = (k, 0, s) := ok.ans_known h.tk (by rw [MS.tab_n0, iteF_f])
theorem MS.Three.same (h : MS.Three s l f g g) (ok : s.Ok) : s.ans f g g = (g, 0, s) := ok.ans_known h.tg (by rw [iteF_both])
theorem MS.Three.self (h : MS.Three s l f 1 0) (ok : s.Ok) : s.ans f 1 0 = (f, 0, s) := ok.ans_known h.tf (by rw [MS.tab_n0, MS.tab_n1, iteF_id])
end

end Go.Proofs.YtoopeaahpmfleaaGreatDoor

/-
  What is asked of the code's packages ite, oper, quant, whatever they are; both stores and a cache side by side.
-/
namespace Go.Proofs.YtoopeaahpmfleaaGreatDoor
open Go Go.RowKit

/-- What a call that makes nodes by a cache comes to: the number, the error, the store; store and cache stay apart. -/
def CallPost (StAt CAt : World → Nat → (Nat → Prop) → MS → Prop) (w : World) (b c : Nat) (F G : Nat → Prop) (r : Int × Int × MS) (e : Ending) (w' : World) : Prop :=
  e = .returned (.tuple #[.int .i64 r.1, errV r.2.1]) ∧ ∃ F' G', StAt w' b F' r.2.2 ∧ CAt w' c G' r.2.2 ∧ (∀ k, F' k → ¬ G' k) ∧ Keeps (fun k => F k ∨ G k) w w' ∧ Within w (fun k => F k ∨ G k) F' ∧ Within w (fun k => F k ∨ G k) G'

/-- A number of the language. -/
def I64 (n : Int) : Prop := n ≤ 9223372036854775807 ∧ -9223372036854775808 ≤ n

/-- Each call of package ite. -/
structure IteC (StAt CAt : World → Nat → (Nat → Prop) → MS → Prop) : Prop where ofAll ::
  lt : ∀ {w c F s}, CAt w c F s → ∀ k, F k → k < w.heap.size
  keep : ∀ {w w' c F s} {G : Nat → Prop}, CAt w c F s → Keeps G w w' → (∀ k, F k → ¬ G k) → CAt w' c F s
  grows : ∀ {w c F s t}, CAt w c F s → s.Ok → t.Ok → MS.Grows s t → CAt w c F t
  new : ∀ (w : World), Calls Tryz.prog 7 #[] w fun e w' => ∃ c, e = .returned (.pointer (some ⟨c, 0, none⟩)) ∧ (∃ F, (∀ s : MS, s.Ok → CAt w' c F s) ∧ ∀ k, F k → w.heap.size ≤ k) ∧ Below w.heap.size w w'
  ite : ∀ {w b c F G s}, StAt w b F s → CAt w c G s → s.Ok → (∀ k, F k → ¬ G k) → ∀ f g h : Int, I64 f → I64 g → I64 h → Calls Tryz.prog 40 #[.pointer (some ⟨c, 0, none⟩), .pointer (some ⟨b, 0, none⟩), .int .i64 f, .int .i64 g, .int .i64 h] w (CallPost StAt CAt w b c F G (s.ite f g h))

/-- Both stores, and the code's cache, apart from each other and from all that stood in w0. -/
structure P3 (StAt CAt : World → Nat → (Nat → Prop) → MS → Prop) (w0 : World) (bA bM bC : Nat) (FA FM FC : Nat → Prop) (s : MS) (W : World) : Prop where
  p : P2 StAt w0 bA bM FA FM s s W
  c : CAt W bC FC s
  apA : ∀ k, FA k → ¬ FC k
  apM : ∀ k, FM k → ¬ FC k
  lowC : ∀ k, FC k → w0.heap.size ≤ k

section
variable {StAt CAt : World → Nat → (Nat → Prop) → MS → Prop} {w0 W W' : World} {bA bM bC : Nat} {FA FM FC FA' FM' FC' : Nat → Prop} {s t : MS}

theorem P3.keep (H : StoreC StAt) (I : IteC StAt CAt) (h : P3 StAt CAt w0 bA bM bC FA FM FC s W) (hb : Below W.heap.size W W') : P3 StAt CAt w0 bA bM bC FA FM FC s W' :=
  ⟨h.p.keep H hb, I.keep h.c (Keeps.of_below hb noBlock) (fun _ _ h => h), h.apA, h.apM, h.lowC⟩
/-- Both stores have gone on, the code's first. -/
theorem P3.stores (H : StoreC StAt) (I : IteC StAt CAt) (h : P3 StAt CAt w0 bA bM bC FA FM FC s W) (ok : s.Ok) (ok' : t.Ok) (hg : MS.Grows s t) {W1 : World} (hA : StAt W1 bA FA' t) (hK : Keeps FA W W1) (hW : Within W FA FA') :
    P2 StAt w0 bA bM FA' FM t s W1 ∧ CAt W1 bC FC t ∧ (∀ k, FA' k → ¬ FC k) := by
  refine ⟨h.p.code H hA hK hW, I.grows (I.keep h.c hK fun k h1 h2 => h.apA k h2 h1) ok ok' hg, fun k h1 h2 => ?_⟩
  exact (hW k h1).elim (fun h3 => h.apA k h3 h2) (fun h3 => by have := I.lt h.c k h2; omega)
theorem P3.model (H : StoreC StAt) (I : IteC StAt CAt) {W1 : World} (p : P2 StAt w0 bA bM FA' FM t s W1) (c : CAt W1 bC FC' t) (apA : ∀ k, FA' k → ¬ FC' k) (apM : ∀ k, FM k → ¬ FC' k) (lowC : ∀ k, FC' k → w0.heap.size ≤ k) (hM : RefSAt W' bM FM' t) (hK : Keeps FM W1 W') (hW : Within W1 FM FM') :
    P3 StAt CAt w0 bA bM bC FA' FM' FC' t W' :=
  ⟨p.ref H hM hK hW, I.keep c hK fun k h1 h2 => apM k h2 h1, apA, fun k h1 h2 => (hW k h1).elim (fun h3 => apM k h3 h2) (fun h3 => by have := I.lt c k h2; omega), lowC⟩
/-- The code's store and cache have gone on. -/
theorem P3.call (_H : StoreC StAt) (_I : IteC StAt CAt) (h : P3 StAt CAt w0 bA bM bC FA FM FC s W) {W1 : World} (hA : StAt W1 bA FA' t) (hK : Keeps (fun k => FA k ∨ FC k) W W1) (hA' : Within W (fun k => FA k ∨ FC k) FA') (hC' : Within W (fun k => FA k ∨ FC k) FC') :
    P2 StAt w0 bA bM FA' FM t s W1 ∧ (∀ k, FM k → ¬ FC' k) ∧ (∀ k, FC' k → w0.heap.size ≤ k) := by
  have hlow : ∀ k, (FA k ∨ FC k) → w0.heap.size ≤ k := fun k hk => hk.elim (h.p.lowA k) (h.lowC k)
  refine ⟨⟨hA, h.p.m.keep hK fun k h1 h2 => h2.elim (fun h3 => h.p.apart k h3 h1) (fun h3 => h.apM k h1 h3), fun k h1 h2 => ?_, fun k h1 => ?_, h.p.lowM, h.p.below.trans (hK.below h.p.below.size hlow)⟩, fun k h1 h2 => ?_, fun k h1 => ?_⟩
  · rcases hA' k h1 with (h3 | h3) | h3
    · exact h.p.apart k h3 h2
    · exact h.apM k h2 h3
    · have := h.p.m.lt k h2; omega
  · exact (hA' k h1).elim (hlow k) (fun h3 => Nat.le_trans h.p.below.size h3)
  · rcases hC' k h2 with (h3 | h3) | h3
    · exact h.p.apart k h3 h1
    · exact h.apM k h1 h3
    · have := h.p.m.lt k h1; omega
  · exact (hC' k h1).elim (hlow k) (fun h3 => Nat.le_trans h.p.below.size h3)
/-- The cache alone has turned. -/
theorem P3.flushed (H : StoreC StAt) (_I : IteC StAt CAt) (h : P3 StAt CAt w0 bA bM bC FA FM FC s W) (hC : CAt W' bC FC' s) (hK : Keeps FC W W') (hW : Within W FC FC') : P3 StAt CAt w0 bA bM bC FA FM FC' s W' :=
  ⟨⟨H.keep h.p.a hK (fun k h1 h2 => h.apA k h1 h2), h.p.m.keep hK (fun k h1 h2 => h.apM k h1 h2), h.p.apart, h.p.lowA, h.p.lowM, h.p.below.trans (hK.below h.p.below.size h.lowC)⟩, hC,
    fun k h1 h2 => (hW k h2).elim (h.apA k h1) (fun h3 => by have := H.lt h.p.a k h1; omega), fun k h1 h2 => (hW k h2).elim (h.apM k h1) (fun h3 => by have := h.p.m.lt k h1; omega), fun k h1 => (hW k h1).elim (h.lowC k) (fun h3 => Nat.le_trans h.p.below.size h3)⟩
end

end Go.Proofs.YtoopeaahpmfleaaGreatDoor

/-
  A cache's map: its keys are three numbers, its elements numbers; what it holds, as a function.
-/
namespace Go.Proofs.YtoopeaahpmfleaaGreatDoor
open Go Go.RowKit Go.Maps Go.MapKept Go.ChangeMaps

theorem Tryz.laidK : laidOutB Tryz.prog = true := by kernel_rfl
theorem Tryz.rowK : 126 < Tryz.prog.types.size := of_decide_eq_true (by kernel_rfl)
theorem Tryz.keyK : Keyed Tryz.prog 126 :=
  Keyed.of_law (deep_law_laid Tryz.laidK (m := 4) (by decide) Tryz.rowK (by kernel_rfl) (by kernel_rfl))
theorem Tryz.keyTypeK : Tryz.prog.keyType 126 = true := by kernel_rfl
theorem Tryz.cellsOfK : Tryz.prog.cellsOf 126 = 3 := by kernel_rfl
theorem Tryz.cellsOfI : Tryz.prog.cellsOf 3 = 1 := by kernel_rfl

/-- Three numbers, as the program holds them. -/
def askV (f g h : Int) : Value := .agg #[.int .i64 f, .int .i64 g, .int .i64 h]
theorem I64.wf {n : Int} (h : I64 n) : (Lit.int .i64 n).wf = true := by
  obtain ⟨h1, h2⟩ := h
  simp [Lit.wf, IntKind.min, IntKind.max, IntKind.signed, IntKind.bits]
  omega
/-- Three numbers of the language. -/
abbrev Ask := { a : Int × Int × Int // I64 a.1 ∧ I64 a.2.1 ∧ I64 a.2.2 }
def Ask.of {f g h : Int} (hf : I64 f) (hg : I64 g) (hh : I64 h) : Ask := ⟨(f, g, h), hf, hg, hh⟩

theorem key_ask (a : Ask) : ∃ l, keyOf Tryz.prog 126 (askV a.1.1 a.1.2.1 a.1.2.2) = some l := by
  obtain ⟨d, hd⟩ : ∃ d, Tryz.prog.types.size + 1 = d + 1 + 1 := ⟨Tryz.prog.types.size - 1, by have := Tryz.rowK; omega⟩
  obtain ⟨⟨f, g, h⟩, hf, hg, hh⟩ := a
  unfold keyOf
  rw [Tryz.underlying126]
  have hfo : (askV f g h).formed Tryz.prog 126 = true := by
    unfold askV Value.formed
    simp only [Tryz.underlying126, Tryz.cellsOfK]
    rfl
  dsimp only at hf hg hh ⊢
  simp only [Tryz.keyTypeK, hfo, Bool.and_self, if_true]
  rw [hd]
  unfold askV
  simp [Program.keyLits, Value.cells, Tryz.underlying126, Tryz.underlying3, Tryz.cellsOfK, Tryz.cellsOfI, hf.wf, hg.wf, hh.wf]

/-- Three numbers as keys. -/
noncomputable def encA : KeyEnc Tryz.prog 126 Ask where
  val a := askV a.1.1 a.1.2.1 a.1.2.2
  lit a := (key_ask a).choose
  key a := (key_ask a).choose_spec
  inj a b h := by
    obtain ⟨⟨f, g, k⟩, _⟩ := a
    obtain ⟨⟨f', g', k'⟩, _⟩ := b
    unfold askV at h
    simp only [Value.agg.injEq, Array.mk.injEq, List.cons.injEq, Value.int.injEq, true_and, and_true] at h
    obtain ⟨rfl, rfl, rfl⟩ := h
    rfl
  law := Tryz.keyK

theorem zeroIK (w : World) : (zeroValue 3).run Tryz.prog w = .ok (.int .i64 0) w := by kernel_rfl

/-- Block b is a map of n entries that holds m. -/
def KMap (w : World) (b n : Nat) (m : Ask → Option Int) : Prop :=
  ∃ D : DataW Unit, w.ownsMap Tryz.prog 126 (plainElem Tryz.prog 3) b n D ∧ Maps.size D = n ∧ (∀ a, has D (encA.lit a) = (m a).isSome) ∧ ∀ a x, m a = some x → D.atKey (encA.lit a) (.lit (.int .i64 0)) = .lit (.int .i64 x)

theorem ownsMap_exact {H : Type} {P : Program} {k : TypeId} {R : Value → Option (DataW H × List MemPlace)} {w : World} {b n : Nat} {D : DataW H} (h : w.ownsMap P k R b n D) : w.ownsMap P k R b (Maps.size D) D := by
  obtain ⟨es, clock, hb, F, _, rfl⟩ := h
  exact ⟨es, clock, hb, F, by simp [Maps.size, length_sorted], rfl⟩

section
variable {w w' : World} {b n : Nat} {m : Ask → Option Int}
theorem KMap.made (w : World) : KMap (w.alloc (.map #[] 0)) w.heap.size 0 (fun _ => none) :=
  ⟨.map [], World.ownsMap_made _ _ _ _, rfl, fun _ => rfl, fun _ _ h => by cases h⟩
theorem KMap.block (h : KMap w b n m) (hb : w'.heap[b]? = w.heap[b]?) : KMap w' b n m := by
  obtain ⟨D, ⟨es, clock, h1, h2, h3, h4⟩, r⟩ := h
  exact ⟨D, ⟨es, clock, hb.trans h1, h2, h3, h4⟩, r⟩
theorem KMap.lt (h : KMap w b n m) : b < w.heap.size := by obtain ⟨D, ho, _⟩ := h; exact ho.lt
/-- len(m). -/
theorem KMap.len (h : KMap w b n m) (ty : TypeId) : (Builtin.len_ #[70] ty #[.map (some b)]).run Tryz.prog w = .ok (.int .i64 n) w := by
  obtain ⟨D, ho, hs, _⟩ := h
  rw [ho.len Tryz.underlying70 ty, hs]
/-- x, ok := m[a]. -/
theorem KMap.look (h : KMap w b n m) {f g k : Int} (hf : I64 f) (hg : I64 g) (hk : I64 k) :
    (Instr.lookup 70 (.map (some b)) (askV f g k) true).run Tryz.prog w = .ok (.tuple #[.int .i64 ((m (Ask.of hf hg hk)).getD 0), .bool (m (Ask.of hf hg hk)).isSome]) w := by
  obtain ⟨D, ⟨es, clock, hb, F, _, rfl⟩, _, hh, ha⟩ := h
  have hkey := encA.key (Ask.of hf hg hk)
  have h1 := hh (Ask.of hf hg hk)
  have h2 := ha (Ask.of hf hg hk)
  generalize m (Ask.of hf hg hk) = o at *
  rcases Maps.fit_look true Tryz.keyK Tryz.underlying70 (zeroIK w) hb F hkey with ⟨hrun, _, hat⟩ | ⟨e0, y, _, _, hrun, hR, hat, _⟩
  · rw [has_false_of_atKey hat] at h1
    cases o with
    | some x => cases h1
    | none => exact hrun
  · rw [has_true_of_atKey hat] at h1
    cases o with
    | none => cases h1
    | some x =>
      have h3 := h2 x rfl
      rw [hat] at h3
      obtain ⟨c, hc, hy, _⟩ := plainElem_int_inv Tryz.underlying3 hR
      rw [hy] at h3
      simp only [DataW.lit.injEq, Lit.int.injEq, true_and] at h3
      subst h3
      rw [hc] at hrun
      exact hrun
/-- m[a] = x. -/
theorem KMap.put {ops : Array Oper} {rest : List Oper} {o : Oper} {A : Act} {Q : Exit → Act → World → Prop}
    (h : KMap w b n m) (hn : n < maxLen) (hg0 : o.guard = none) (x y v : Operand) (hop : o.op = Op.mapUpdate 70 x y v)
    {f g k c : Int} (hf : I64 f) (hg : I64 g) (hk : I64 k) (hc : I64 c) (hx : A.eval x = .map (some b)) (hy : A.eval y = askV f g k) (hv : A.eval v = .int .i64 c)
    (hK : ∀ w' n', n' ≤ n + 1 → KMap w' b n' (fun z => if z = Ask.of hf hg hk then some c else m z) → w.grownBy w' (some b) → wpList Tryz.prog ops Q rest (A.put o.dst undef) w') : wpList Tryz.prog ops Q (o :: rest) A w := by
  obtain ⟨D, ho, hs, hh, ha⟩ := h
  have hm := ho.isMap
  have htd := ho.tidy Tryz.keyK
  refine wpList_mapUpdate_own w hg0 x y v _ hop _ _ Tryz.keyK Tryz.underlying70 _ b _ D hx ho hn _ _ _ hy hv (encA.key (Ask.of hf hg hk)) _ [] (plainElem_int Tryz.underlying3 hc.wf) ?_
  intro w' ho' hgr
  have hsz := size_put htd (k := encA.lit (Ask.of hf hg hk)) (.lit (.int .i64 c))
  refine hK w' (Maps.size (D.put (encA.lit (Ask.of hf hg hk)) (.lit (.int .i64 c)))) (by rw [hsz]; split <;> omega) ⟨_, ownsMap_exact ho', rfl, fun z => ?_, fun z x => ?_⟩ hgr
  · by_cases hz : z = Ask.of hf hg hk
    · subst hz
      rw [has_put_same hm (Tryz.keyK.key (encA.key _))]
      simp
    · rw [has_put_other (fun h => hz (encA.lit_inj h)), hh z]
      simp [hz]
  · by_cases hz : z = Ask.of hf hg hk
    · subst hz
      rw [atKey_put_same hm (Tryz.keyK.key (encA.key _))]
      simp
    · rw [atKey_put_other (fun h => hz (encA.lit_inj h))]
      simp only [hz, if_false]
      exact ha z x
/-- clear(m). -/
theorem KMap.clear (h : KMap w b n m) : ∃ w', (∀ ty, (Builtin.clear_ #[70] ty #[.map (some b)]).run Tryz.prog w = .ok (.tuple #[]) w') ∧ KMap w' b 0 (fun _ => none) ∧ w.grownBy w' (some b) := by
  obtain ⟨D, ⟨es, clock, hb, F, _, rfl⟩, _⟩ := h
  refine ⟨setBlock w b (.map #[] clock), fun ty => ?_, ⟨.map [], ⟨#[], clock, heap_setBlock_same hb _, ⟨by simp, stamped_empty clock, by simp⟩, Nat.le_refl _, rfl⟩, rfl, fun _ => rfl, fun _ _ h => by cases h⟩, ⟨rfl, rfl, rfl, by simp [setBlock], fun i _ hi => heap_setBlock_other hb _ (fun e => hi (by rw [e]))⟩⟩
  simp [Builtin.clear_, run_underlying Tryz.underlying70, MapKept.run_getObj_map hb, run_setObj_map _ hb, Result.andThen, setBlock]
end

end Go.Proofs.YtoopeaahpmfleaaGreatDoor
