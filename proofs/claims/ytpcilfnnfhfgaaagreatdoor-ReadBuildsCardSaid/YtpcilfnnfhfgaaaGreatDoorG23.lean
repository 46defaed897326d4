/-
  Texts of this proof, one behind the other: BackM, FSlice, ReadC, ReadN, Tells8.
-/
import Derived.Test.YtpcilfnnfhfgaaaGreatDoorG16
import Derived.Test.YtpcilfnnfhfgaaaGreatDoorG19
import Derived.Test.YtpcilfnnfhfgaaaGreatDoorG22
import Derived.Maps.AppendAt
import Derived.Laws.AppendOwnNone
import Derived.Test.YtpcilfnnfhfgaaaGreatDoorG21
import Derived.Test.YtpcilfnnfhfgaaaGreatDoorG10
import Derived.Test.YtpcilfnnfhfgaaaGreatDoorG17
import Derived.Test.YtpcilfnnfhfgaaaGreatDoorG18
/-
  Mathematics of layer 8's own law: functions built in a store of none. Nothing of the program is read here.
-/
namespace Go.Proofs.YtpcilfnnfhfgaaaGreatDoor
open Go Go.RowKit

/-- A store of none, in any order. -/
def MS.empty (most : Nat) (o : Nat → Int) : MS := ⟨⟨most, 0, [], []⟩, [], o⟩
theorem MS.empty_ok (most : Nat) (h : most ≤ 20000) {o : Nat → Int} (ho : mayO o = true) : (MS.empty most o).Ok := MS.Ok.new most h o ho
theorem MS.empty_has (most : Nat) (o : Nat → Int) (n : Int) : (MS.empty most o).has n = false := by simp [MS.has, MS.empty]
theorem MS.empty_swap (most : Nat) (o : Nat → Int) {l : Int} (h0 : 0 ≤ l) (h6 : l ≤ 6) : (MS.empty most o).swap l = (0, MS.empty most (swapO o l)) := by
  unfold MS.swap
  rw [if_neg (by omega)]
  have hc : ∀ x y, (MS.empty most o).changes x y = [] := fun x y => rfl
  simp only [hc]
  have hr : ¬ (MS.empty most o).room < 2 * (([] : List Int).length : Int) := by
    simp [MS.room, MS.empty]
  rw [if_neg hr]
  rfl

section
variable {s : MS}
/-- What is reached of a node, as numbers. -/
theorem MS.Ok.reach_rch (h : s.Ok) {n : Int} (hn : s.there n = true) {g : Fn} (hg : Reach [s.tab n] s.o g) : ∃ m, s.there m = true ∧ s.tab m = g ∧ (s.has m = true → s.Rch [n] m) := by
  induction hg with
  | base hf => exact ⟨n, hn, by simpa using (List.mem_singleton.1 hf).symm, fun hh => .root (by simp) hh⟩
  | step b _ hs ht ih =>
    obtain ⟨m, hm, e, hr⟩ := ih
    rcases MS.there_cases hm with ⟨_, hh⟩ | hh
    · exfalso
      rw [MS.tab_const hh] at e
      apply hs
      rw [← e]
      split
      · exact sup_const.1
      · exact sup_const.2
    · have hT := h.top_node hh
      rw [e] at hT
      have hC := h.cof_node hh b
      rw [e, ← hT] at hC
      cases b
      · exact ⟨_, MS.behind_there (h.lo m hh), by simpa using hC.symm, fun hq => .lo (hr hh) hq⟩
      · exact ⟨_, MS.behind_there (h.hi m hh), by simpa using hC.symm, fun hq => .hi (hr hh) hq⟩
theorem MS.Ok.reach_all (h : s.Ok) {n : Int} (hn : s.there n = true) (h1 : ∀ m, s.has m = true → IsNode [s.tab n] s.o (s.tab m)) : s.reach [n] = s.all := by
  unfold MS.reach
  refine List.filter_eq_self.2 fun m hm => ?_
  have hh := h.toBase.mem_all.1 hm
  obtain ⟨m', t', e', r'⟩ := h.reach_rch hn (h1 m hh).1
  have : m' = m := h.tab_inj t' (by simp [MS.there, hh]) e'
  subst this
  have hp := r' hh
  simp [hp]

theorem supN_8 (f : Fn) : supN f ≤ 8 := supN_le f
/-- A function built in a store of none. -/
theorem MS.bld_empty {most : Nat} (hm : most ≤ 20000) {o : Nat → Int} (ho : mayO o = true) (f : Fn) (hs : sizeF [f] o ≤ most) :
    (MS.bld 8 (MS.empty most o) f).2.1 = 0 ∧ (MS.bld 8 (MS.empty most o) f).2.2.Ok ∧ (MS.bld 8 (MS.empty most o) f).2.2.o = o ∧ (MS.bld 8 (MS.empty most o) f).2.2.ar.most = most ∧
      (MS.bld 8 (MS.empty most o) f).2.2.there (MS.bld 8 (MS.empty most o) f).1 = true ∧ (MS.bld 8 (MS.empty most o) f).2.2.tab (MS.bld 8 (MS.empty most o) f).1 = f ∧
      (∀ n, (MS.bld 8 (MS.empty most o) f).2.2.has n = true → IsNode [f] o ((MS.bld 8 (MS.empty most o) f).2.2.tab n)) ∧
      (MS.bld 8 (MS.empty most o) f).2.2.all.length = sizeF [f] o := by
  have ok := MS.empty_ok most hm ho
  obtain ⟨h1, h2, h3, h4, h5⟩ := MS.bld_spec 8 (MS.empty most o) f ok (supN_8 f)
  have h0 := MS.bld_room 8 (MS.empty most o) f [f] ok (supN_8 f) (fun n hn => by rw [MS.empty_has] at hn; cases hn) (Reach.base (by simp)) hs
  have hno : ∀ n, (MS.bld 8 (MS.empty most o) f).2.2.has n = true → IsNode [f] o ((MS.bld 8 (MS.empty most o) f).2.2.tab n) := fun n hn => by
    rcases h5 n hn with h | h
    · rw [MS.empty_has] at h; cases h
    · exact h
  obtain ⟨t, e⟩ := h4 h0
  refine ⟨h0, h1, h2.o, h2.most, t, e, hno, ?_⟩
  have ho2 : (MS.bld 8 (MS.empty most o) f).2.2.o = o := h2.o
  have := h1.size_is (L := [f]) (fun n hn => by rw [ho2]; exact hno n hn) (fun g hg => by
    rw [ho2] at hg
    obtain ⟨m, tm, em⟩ := h1.reach_there t (g := g) (by rw [e, ho2]; exact hg.1)
    rcases MS.there_cases tm with ⟨_, hh⟩ | hh
    · exfalso
      rw [MS.tab_const hh] at em
      apply hg.2
      rw [← em]
      split
      · exact sup_const.1
      · exact sup_const.2
    · exact ⟨m, hh, em⟩)
  rw [ho2] at this
  exact this.symm

theorem sup_has (_h : s.Ok) {n : Int} (hn : s.there n = true) (hs : supF (s.tab n) ≠ 0) : s.has n = true := by
  rcases MS.there_cases hn with ⟨_, hh⟩ | hh
  · exfalso
    rw [MS.tab_const hh] at hs
    apply hs
    split
    · exact sup_const.1
    · exact sup_const.2
  · exact hh

/-- Two functions, one behind the other. -/
theorem MS.bld_two {most : Nat} (_hm : most ≤ 20000) {o : Nat → Int} (_ho : mayO o = true) (f g : Fn) (hs : sizeF [f, g] o ≤ most) (s1 : MS) (a : Int) (_hA : MS.bld 8 (MS.empty most o) f = (a, 0, s1)) (ok : s1.Ok) (ho1 : s1.o = o) (hm1 : s1.ar.most = most)
    (ta : s1.there a = true) (ea : s1.tab a = f) (hn : ∀ n, s1.has n = true → IsNode [f] o (s1.tab n)) :
    (MS.bld 8 s1 g).2.1 = 0 ∧ (MS.bld 8 s1 g).2.2.Ok ∧ (MS.bld 8 s1 g).2.2.o = o ∧ (MS.bld 8 s1 g).2.2.there (MS.bld 8 s1 g).1 = true ∧ (MS.bld 8 s1 g).2.2.tab (MS.bld 8 s1 g).1 = g ∧
      (MS.bld 8 s1 g).2.2.there a = true ∧ (MS.bld 8 s1 g).2.2.tab a = f ∧ (a = (MS.bld 8 s1 g).1 ↔ f = g) ∧ (MS.bld 8 s1 g).2.2.all.length = sizeF [f, g] o := by
  have mono : ∀ k, IsNode [f] o k → IsNode [f, g] o k := fun k hk => ⟨hk.1.mono (fun x hx => by simp only [List.mem_singleton] at hx; simp [hx]), hk.2⟩
  have mono2 : ∀ k, IsNode [g] o k → IsNode [f, g] o k := fun k hk => ⟨hk.1.mono (fun x hx => by simp only [List.mem_singleton] at hx; simp [hx]), hk.2⟩
  obtain ⟨h1, h2, h3, h4, h5⟩ := MS.bld_spec 8 s1 g ok (supN_8 g)
  have h0 := MS.bld_room 8 s1 g [f, g] ok (supN_8 g) (fun n h => by rw [ho1]; exact mono _ (hn n h)) (Reach.base (by simp)) (by rw [ho1, hm1]; exact hs)
  obtain ⟨t, e⟩ := h4 h0
  have ho2 : (MS.bld 8 s1 g).2.2.o = o := h2.o.trans ho1
  have ta2 := h2.there ta
  have ea2 : (MS.bld 8 s1 g).2.2.tab a = f := (h2.tab ok h1 ta).trans ea
  have hno : ∀ n, (MS.bld 8 s1 g).2.2.has n = true → IsNode [f, g] o ((MS.bld 8 s1 g).2.2.tab n) := fun n h => by
    rcases h5 n h with h | h
    · rw [h2.tab ok h1 (by simp [MS.there, h])]; exact mono _ (hn n h)
    · rw [ho1] at h; exact mono2 _ h
  refine ⟨h0, h1, ho2, t, e, ta2, ea2, ⟨fun q => ?_, fun q => ?_⟩, ?_⟩
  · rw [← q, ea2] at e; exact e
  · exact h1.tab_inj ta2 t (ea2.trans (q.trans e.symm))
  · have := h1.size_is (L := [f, g]) (fun n h => by rw [ho2]; exact hno n h) (fun k hk => by
      rw [ho2] at hk
      have hk1 : Reach [f] o k ∨ Reach [g] o k := Reach.append (l := [f]) (k := [g]) hk.1
      rcases hk1 with hk1 | hk1
      · obtain ⟨m, tm, em⟩ := h1.reach_there ta2 (g := k) (by rw [ea2, ho2]; exact hk1)
        exact ⟨m, sup_has h1 tm (by rw [em]; exact hk.2), em⟩
      · obtain ⟨m, tm, em⟩ := h1.reach_there t (g := k) (by rw [e, ho2]; exact hk1)
        exact ⟨m, sup_has h1 tm (by rw [em]; exact hk.2), em⟩)
    rw [ho2] at this
    exact this.symm
theorem size_154 (f g : Fn) {o : Nat → Int} (ho : mayO o = true) : sizeF [f, g] o ≤ 154 := by
  have h := size_add [f] [g] o
  have h1 := size_77 f o (full_of ho)
  have h2 := size_77 g o (full_of ho)
  have e : ([f] ++ [g] : List Fn) = [f, g] := rfl
  rw [e] at h
  omega
end

end Go.Proofs.YtpcilfnnfhfgaaaGreatDoor

/-
  Slices of functions of eight variables: read, appended to.
-/
namespace Go.Proofs.YtpcilfnnfhfgaaaGreatDoor
open Go Go.RowKit Go.Maps

/-- A slice that reads as these functions. -/
def SliceF (w : World) (v : Value) (l : List Fn) : Prop :=
  (v = .slice none 0 0 ∧ l = []) ∨ ∃ ad cap, v = .slice (some ad) l.length cap ∧ ∀ j u, (cellsL l)[j]? = some u → w.cell? (ad.add j) = some u

theorem SliceF.keep {w w' : World} {v : Value} {l : List Fn} {B : Nat} (h : SliceF w v l) (hb : Below B w w') (hB : w.heap.size ≤ B) : SliceF w' v l := by
  rcases h with h | ⟨ad, cap, rfl, hc⟩
  · exact .inl h
  · refine .inr ⟨ad, cap, rfl, fun j u hj => ?_⟩
    have h1 := hc j u hj
    rw [hb.cell (p := ad.add j) (Nat.lt_of_lt_of_le (block_lt_of_cell h1) hB)]
    exact h1

theorem OwnsF.slice {w : World} {base : Nat} {v : Value} {l : List Fn} (h : OwnsF w base v l) : SliceF w v l := by
  obtain ⟨h1, ⟨rfl, h2⟩ | ⟨g, cap, cur, rfl, hr⟩⟩ := h
  · exact .inl ⟨rfl, List.length_eq_zero_iff.1 h2⟩
  · have h := World.ownsRow.cells (w := w) (base := base) (e := 35) (size := 4) (v := .slice (some ⟨g, 0, none⟩) l.length cap) (n := l.length) (xs := cellsL l) ⟨h1, .inr ⟨g, cap, cur, rfl, hr⟩⟩ (g := g) rfl
    exact .inr ⟨⟨g, 0, none⟩, cap, rfl, h⟩

theorem OwnsF.nil (w : World) (base : Nat) : OwnsF w base (.slice none 0 0) [] := ⟨rfl, .inl ⟨rfl, rfl⟩⟩

theorem OwnsF.block {w w' : World} {base : Nat} {v : Value} {l : List Fn} (h : OwnsF w base v l) (hb : ∀ g, v.ownBlock = some g → w'.heap[g]? = w.heap[g]?) : OwnsF w' base v l := by
  obtain ⟨h1, h2 | ⟨g, cap, cur, rfl, h3, h4, h5⟩⟩ := h
  · exact ⟨h1, .inl h2⟩
  · exact ⟨h1, .inr ⟨g, cap, cur, rfl, h3, (hb g rfl).trans h4, h5⟩⟩

theorem OwnsF.lt {w : World} {base : Nat} {v : Value} {l : List Fn} (h : OwnsF w base v l) (g : Nat) (hg : v.ownBlock = some g) : base ≤ g ∧ g < w.heap.size := World.ownsRow.lt h g hg
theorem OwnsF.keep {w w' : World} {base B : Nat} {v : Value} {l : List Fn} (h : OwnsF w base v l) (hb : Below B w w') (hB : w.heap.size ≤ B) : OwnsF w' base v l :=
  h.block fun g hg => hb.block g (Nat.lt_of_lt_of_le (h.lt g hg).2 hB)
theorem OwnsF.alloc {w : World} {base : Nat} {v : Value} {l : List Fn} (h : OwnsF w base v l) (o : Obj) : OwnsF (w.alloc o) base v l :=
  h.block fun g hg => heap_alloc_old _ _ (h.lt g hg).2
theorem OwnsF.grown {w w' : World} {base : Nat} {v : Value} {l : List Fn} {row : Option Nat} (h : OwnsF w base v l) (hg : w.grownBy w' row) (hne : ∀ g, v.ownBlock = some g → row ≠ some g) : OwnsF w' base v l :=
  h.block fun g hb => hg.block g (h.lt g hb).2 (fun e => hne g hb e.symm)

theorem infoF : ∃ i, Tryz.prog.info? 35 = some i ∧ i.zero = some (.agg #[.int .u64 0, .int .u64 0, .int .u64 0, .int .u64 0]) ∧ i.size = 4 ∧ i.bytes = 32 := by
  have h : (Tryz.prog.info? 35).map (fun i => (i.zero, i.size, i.bytes)) = some (some (.agg #[.int .u64 0, .int .u64 0, .int .u64 0, .int .u64 0]), 4, 32) := by kernel_rfl
  obtain ⟨i, hi, h0, h1, h2⟩ := info_parts h
  exact ⟨i, hi, h0, h1, h2⟩

/-- append(x, y...) of two slices of functions, the first the call's own. -/
theorem appendF {ops : Array Oper} {rest : List Oper} {o : Oper} {a : Act} {w : World} {Q : Exit → Act → World → Prop} (hgd : o.guard = none) (s x : Operand)
    (ho : o.op = .call { callee := .builtin .append, args := #[s, x], argTypes := #[47, 47] })
    (base : Nat) (v y : Value) (l k : List Fn) (hs : a.eval s = v) (hown : OwnsF w base v l) (hx : a.eval x = y) (hsrc : SliceF w y k)
    (hn : l.length + k.length ≤ 1000000) (hbase : base ≤ w.heap.size)
    (h : ∀ v' w', OwnsF w' base v' (l ++ k) → w.grownBy w' v.ownBlock → (v'.ownBlock = v.ownBlock ∨ v'.ownBlock = some w.heap.size) → wpList Tryz.prog ops Q rest (a.put o.dst v') w') : wpList Tryz.prog ops Q (o :: rest) a w := by
  obtain ⟨i, hi, hz, hsz, hby⟩ := infoF
  rcases hsrc with ⟨rfl, rfl⟩ | ⟨ad, cap, rfl, hc⟩
  · refine wpList_append_own_none hgd s x _ ho base 35 i 4 Tryz.underlying47 hi v l.length (cellsL l) hs hown hx ?_
    refine h v w (by rw [List.append_nil]; exact hown) ⟨rfl, rfl, rfl, Nat.le_refl _, fun _ _ _ => rfl⟩ (.inl rfl)
  · refine wpList_append_own_at w hgd s x _ ho base 35 i _ 4 32 Tryz.underlying47 hi hz hsz hby rfl (by decide) v l.length (cellsL l) hs hown ad k.length cap (cellsL k) hx (cellsL_length k) hc (cellsL_one k) (by unfold maxLen; omega) (by omega) hbase ?_
    intro v' w' h1 h2 _ h4
    exact h v' w' (by unfold OwnsF; rw [List.length_append, cellsL_append]; exact h1) h2 h4

end Go.Proofs.YtpcilfnnfhfgaaaGreatDoor

/-
  What is asked of the code's package read, whatever it is. ReadBuilds.
-/
namespace Go.Proofs.YtpcilfnnfhfgaaaGreatDoor
open Go Go.RowKit

/-- Each call of package read. -/
structure ReadC (StAt : World → Nat → (Nat → Prop) → MS → Prop) : Prop where ofAll ::
  table : ∀ {w b F s}, LowW w → StAt w b F s → s.Ok → ∀ n : Int, (n ≤ 9223372036854775807 ∧ -9223372036854775808 ≤ n) → Calls Tryz.prog 11 #[.pointer (some ⟨b, 0, none⟩), .int .i64 n] w fun e w' => e = .returned (fv (s.tab n)) ∧ Below w.heap.size w w'
  value : ∀ {w b F s}, LowW w → StAt w b F s → s.Ok → ∀ n x : Int, (n ≤ 9223372036854775807 ∧ -9223372036854775808 ≤ n) → Calls Tryz.prog 12 #[.pointer (some ⟨b, 0, none⟩), .int .i64 n, .int .i64 x] w fun e w' => e = .returned (.bool (atF (s.tab n) x)) ∧ Below w.heap.size w w'
  count : ∀ {w b F s}, LowW w → StAt w b F s → s.Ok → ∀ n : Int, (n ≤ 9223372036854775807 ∧ -9223372036854775808 ≤ n) → Calls Tryz.prog 14 #[.pointer (some ⟨b, 0, none⟩), .int .i64 n] w fun e w' => e = .returned (.int .i64 (cntF (s.tab n) 256)) ∧ Below w.heap.size w w'
  support : ∀ {w b F s}, LowW w → StAt w b F s → s.Ok → ∀ n : Int, (n ≤ 9223372036854775807 ∧ -9223372036854775808 ≤ n) → Calls Tryz.prog 16 #[.pointer (some ⟨b, 0, none⟩), .int .i64 n] w fun e w' => e = .returned (.int .i64 (supF (s.tab n))) ∧ Below w.heap.size w w'
  reach : ∀ {w b F s}, StAt w b F s → s.Ok → ∀ (roots : List Int) (v : Value), Reads encI w v roots → roots.length ≤ 100000 → (∀ r ∈ roots, r ≤ 9223372036854775807 ∧ -9223372036854775808 ≤ r) → Calls Tryz.prog 20 #[.pointer (some ⟨b, 0, none⟩), v] w fun e w' => ∃ v', e = .returned v' ∧ WRel w (s.reach roots) v' w'
  build : ∀ {w b F s}, LowW w → (∀ k, F k → 0 < k) → StAt w b F s → s.Ok → ∀ f : Fn, Calls Tryz.prog 22 #[.pointer (some ⟨b, 0, none⟩), fv f] w fun e w' => e = .returned (.tuple #[.int .i64 (MS.bld 8 s f).1, errV (MS.bld 8 s f).2.1]) ∧ ∃ F', StAt w' b F' (MS.bld 8 s f).2.2 ∧ Keeps F w w' ∧ Within w F F'

theorem SliceF.form {w : World} {v : Value} {l : List Fn} (h : SliceF w v l) : ∃ a c, v = .slice a l.length c := by
  rcases h with ⟨rfl, rfl⟩ | ⟨ad, cap, rfl, _⟩
  · exact ⟨none, 0, rfl⟩
  · exact ⟨_, _, rfl⟩
theorem SliceF.fnAt {w : World} {a : Option Addr} {cap : Nat} {l : List Fn} (h : SliceF w (.slice a l.length cap) l) (i : Nat) (hi : i < l.length) : ∃ ad, a = some ad ∧ w.cell? (ad.add (i * 4)) = some (.int .u64 (wd l[i] 0)) ∧
    w.cell? ⟨(ad.add (i * 4)).block, (ad.add (i * 4)).off + 1, none⟩ = some (.int .u64 (wd l[i] 1)) ∧ w.cell? ⟨(ad.add (i * 4)).block, (ad.add (i * 4)).off + 2, none⟩ = some (.int .u64 (wd l[i] 2)) ∧
    w.cell? ⟨(ad.add (i * 4)).block, (ad.add (i * 4)).off + 3, none⟩ = some (.int .u64 (wd l[i] 3)) := by
  rcases h with ⟨_, rfl⟩ | ⟨ad, cap', hv, hc⟩
  · cases hi
  · injection hv with h1 h2 h3
    subst h1
    have key : ∀ j, j < 4 → (cellsL l)[i * 4 + j]? = some (.int .u64 (wd l[i] j)) := fun j hj => cellsL_get l i hi j hj
    have e : ∀ j, 0 < j → ad.add (i * 4 + j) = ⟨(ad.add (i * 4)).block, (ad.add (i * 4)).off + j, none⟩ := fun j hj => by
      rw [← Addr.add_add]
      unfold Addr.add
      by_cases h1 : i * 4 = 0 <;> simp [h1, Nat.ne_of_gt hj]
    refine ⟨ad, rfl, hc _ _ (key 0 (by decide)), ?_, ?_, ?_⟩
    · rw [← e 1 (by decide)]; exact hc _ _ (key 1 (by decide))
    · rw [← e 2 (by decide)]; exact hc _ _ (key 2 (by decide))
    · rw [← e 3 (by decide)]; exact hc _ _ (key 3 (by decide))
theorem MS.bld_err (s : MS) (f : Fn) (ok : s.Ok) : 0 ≤ (MS.bld 8 s f).2.1 ∧ (MS.bld 8 s f).2.1 ≤ 8 := by
  rcases (MS.bld_spec 8 s f ok (supN_8 f)).2.2.1 with h | h <;> rw [h] <;> decide

set_option maxRecDepth 100000 in
set_option maxHeartbeats 8000000 in
theorem readBuilds' {StAt : World → Nat → (Nat → Prop) → MS → Prop} (H : StoreC StAt) (R : ReadC StAt) (hUp : ∀ W, LowW W → Calls Tryz.prog 6 #[] W fun e w' => e = .returned (.bool true) ∧ Below W.heap.size W w')
    (most : Int) (l : List D7) (k : List Fn) (v vk : Value) (w : World) (hL : LowW w) (hv : Reads encD7 w v l) (_hl : l.length ≤ maxLen) (hwf : ∀ d ∈ l, d.good) (hk : SliceF w vk k) (_hkl : k.length ≤ maxLen) :
    Calls Tryz.prog 4 #[.int .i64 most, v, vk] w fun e w' => e = .returned (.bool true) ∧ Below w.heap.size w w' := by
  obtain ⟨a, cap, rfl⟩ := hv.form
  go_enter Tryz.func4, Tryz.ntmps4
  go_wp2_with fail
  refine (hUp _ hL).mono ?_
  rintro e w1 ⟨rfl, hb1⟩
  by_cases hmost : 0 ≤ most ∧ most ≤ 20000
  · obtain ⟨h0, h1⟩ := hmost
    go_wp2_with fail
    refine (lawBegin H most _ h0 h1).mono ?_
    rintro e w2 ⟨bA, bM, FA, FM, rfl, P⟩
    have ok := MS.none_ok most.toNat (by omega)
    generalize MS.none most.toNat = s at *
    by_cases hlen : l.length ≤ 100
    · have hl3 : ¬ 100 < (l.length : Int) := by omega
      obtain ⟨ak, ck, rfl⟩ := hk.form
      by_cases hk10 : k.length ≤ 10
      · have hk3 : ¬ 10 < (k.length : Int) := by omega
        replace hv := Lib.hid hv
        replace P := Lib.hid P
        replace ok := Lib.hid ok
        go_wp2
        go_loopw [10] (fun i wr => ∃ (j : Nat) (s : MS) (FA FM : Nat → Prop), j ≤ l.length ∧ i = .int .i64 j ∧ s.Ok ∧ P2 StAt w1 bA bM FA FM s s wr) (fun i _ => l.length - (intOf i).toNat)
        case atStart => exact ⟨0, s, _, _, Nat.zero_le _, rfl, ok.out, P.out⟩
        case round =>
          clear P ok
          obtain ⟨j, s, FA, FM, hj, rfl, ok, P⟩ := hrel
          by_cases hlt : j < l.length
          · have hk0 : (0 : Int) ≤ (j : Int) := by omega
            have hk1 : (j : Int) < (l.length : Int) := by omega
            obtain ⟨ad, rfl, q0, q1, q2, q3, q4⟩ := deedAt7 (hv.out.keep (hb1.trans (P.below.mono hb1.size))) j hlt
            have hwk := hwf _ (List.getElem_mem hlt)
            generalize l[j] = d at *
            obtain ⟨What, A, B, C, raw⟩ := d
            obtain ⟨g0, g1, g2, g3⟩ := hwk
            dsimp only at q0 q1 q2 q3 q4 g0 g1 g2 g3
            have HD := lawDo H P ok What A B C raw g0 g1 g2 g3
            clear P
            go_wp2_with fail
            refine HD.mono ?_
            rintro e w3 ⟨rfl, S, FA1, FM1, ok1, P1⟩
            clear HD ok q0 q1 q2 q3 q4
            go_wp2
            exact ⟨⟨j + 1, S, FA1, FM1, by omega, by go_num, ok1, P1⟩, by simp [intOf]; omega⟩
          · obtain rfl : j = l.length := by omega
            replace P := Lib.hid P
            replace ok := Lib.hid ok
            clear hv hwf
            go_wp2
            clear hlt hj
            go_loopw [11] (fun i wr => ∃ (j : Nat) (s : MS) (FA FM : Nat → Prop), j ≤ k.length ∧ i = .int .i64 j ∧ s.Ok ∧ P2 StAt w1 bA bM FA FM s s wr) (fun i _ => k.length - (intOf i).toNat)
            case atStart => exact ⟨0, s, _, _, Nat.zero_le _, rfl, ok.out, P.out⟩
            case round =>
              clear P ok
              obtain ⟨j, s, FA, FM, hj, rfl, ok, P⟩ := hrel
              by_cases hlt : j < k.length
              · have hk0 : (0 : Int) ≤ (j : Int) := by omega
                have hk1 : (j : Int) < (k.length : Int) := by omega
                have hbw := hb1.trans (P.below.mono hb1.size)
                have hLr := hL.keep hbw
                have hlow : ∀ q, FA q → 0 < q := fun q hq => by have := P.lowA q hq; have := (hL.keep hb1).pos; omega
                have hkc : ∀ V, Below w.heap.size w V → SliceF V (.slice ak k.length ck) k := fun V hV => hk.keep hV (Nat.le_refl _)
                obtain ⟨ad, rfl, c0, c1, c2, c3⟩ := (hkc _ hbw).fnAt j hlt
                have hB := R.build hLr hlow P.a ok k[j]
                have hM := fun V F (hV : RefSAt V bM F s) => refSBuild 8 s k[j] V F hV ok (supN_8 _)
                have hE := MS.bld_err s k[j] ok
                have okB := (MS.bld_spec 8 s k[j] ok (supN_8 _)).1
                unfold MkPost at hM
                have hkc2 : ∀ V, Below w.heap.size w V → V.cell? (ad.add (j * 4)) = some (.int .u64 (wd k[j] 0)) ∧ V.cell? ⟨(ad.add (j * 4)).block, (ad.add (j * 4)).off + 1, none⟩ = some (.int .u64 (wd k[j] 1)) ∧ V.cell? ⟨(ad.add (j * 4)).block, (ad.add (j * 4)).off + 2, none⟩ = some (.int .u64 (wd k[j] 2)) ∧ V.cell? ⟨(ad.add (j * 4)).block, (ad.add (j * 4)).off + 3, none⟩ = some (.int .u64 (wd k[j] 3)) := fun V hV => by
                  obtain ⟨ad2, e, h⟩ := (hkc V hV).fnAt j hlt
                  cases e
                  exact h
                generalize k[j] = f at *
                generalize MS.bld 8 s f = r at *
                obtain ⟨r0, r1, S⟩ := r
                dsimp only at hB hM hE okB
                simp only [fv] at hB hM
                clear hkc hLr hlow
                go_wp2_with fail
                refine hB.mono ?_
                rintro e w4 ⟨rfl, FA1, hA1, hK1, hW1⟩
                have P1 := P.code H hA1 hK1 hW1
                obtain ⟨c0', c1', c2', c3'⟩ := hkc2 _ (hb1.trans (P1.below.mono hb1.size))
                clear hB c0 c1 c2 c3 hA1 hK1 hW1 hkc2
                go_wp2_with fail
                refine (hM _ _ P1.m).mono ?_
                rintro e w5 ⟨rfl, FM1, hM1, hK1, hW1⟩
                have P2' := P1.ref H hM1 hK1 hW1
                clear hM c0' c1' c2' c3' hM1 hK1 hW1 P1 P
                go_wp2_with fail
                refine (lawCode _ _ hE.1 hE.2).mono ?_
                rintro e wx ⟨rfl, rfl⟩
                go_wp2_with fail
                refine (lawSame H P2' okB).mono ?_
                rintro e w6 ⟨rfl, hb6⟩
                have P3 := P2'.keep H hb6
                clear P2' hb6
                go_wp2
                exact ⟨⟨j + 1, S, FA1, FM1, by omega, by go_num, okB, P3⟩, by simp [intOf]; omega⟩
              · obtain rfl : j = k.length := by omega
                go_wp2
                go_ret
                exact ⟨rfl, hb1.trans (P.below.mono hb1.size)⟩
      · have hk3 : 10 < (k.length : Int) := by omega
        go_wp2
        go_ret
        exact ⟨rfl, hb1.trans (P.below.mono hb1.size)⟩
    · have hl3 : 100 < (l.length : Int) := by omega
      go_wp2
      go_ret
      exact ⟨rfl, hb1.trans (P.below.mono hb1.size)⟩
  · have hm : most < 0 ∨ 20000 < most := by omega
    go_wp2_with fail
    refine (lawBegin_no H most _ hm).mono ?_
    rintro e w2 ⟨rfl, hb2⟩
    have hb := hb1.trans (hb2.mono hb1.size)
    go_wp2
    go_ret
    exact ⟨rfl, hb⟩

end Go.Proofs.YtpcilfnnfhfgaaaGreatDoor

/-
  Nodes of bowerlaw00: nodes of a model's store, by any numbers.
-/
namespace Go.Proofs.YtpcilfnnfhfgaaaGreatDoor
open Go Go.RowKit

/-- Nodes by any numbers. -/
def MS.picks (s : MS) (l : List Int) : List Int := l.map fun n => s.pick n (decide (n < 0))
theorem MS.Base.picks_le {s : MS} (ok : s.Base) {l : List Int} (h : ∀ n ∈ l, n ≤ 9223372036854775807) : ∀ n ∈ s.picks l, n ≤ 9223372036854775807 := by
  intro n hn
  obtain ⟨m, hm, rfl⟩ := List.mem_map.1 hn
  exact ok.pick_le (h m hm)
theorem MS.Base.picks_ge {s : MS} (ok : s.Base) {l : List Int} (h : ∀ n ∈ l, -9223372036854775808 ≤ n) : ∀ n ∈ s.picks l, -9223372036854775808 ≤ n := by
  intro n hn
  obtain ⟨m, hm, rfl⟩ := List.mem_map.1 hn
  exact ok.pick_ge (h m hm)
theorem MS.picks_step {s : MS} {l : List Int} {k : Nat} (hk : k < l.length) : s.picks (l.take (k + 1)) = s.picks (l.take k) ++ [s.pick l[k] (decide (l[k] < 0))] := by
  unfold MS.picks
  rw [List.take_succ_eq_append_getElem hk, List.map_append]
  rfl
theorem MS.picks_length (s : MS) (l : List Int) : (s.picks l).length = l.length := by simp [MS.picks]

set_option maxRecDepth 100000 in
set_option maxHeartbeats 2000000 in
theorem lawNodes {w : World} {b : Nat} {F : Nat → Prop} {s : MS} (h : RefSAt w b F s) (ok : s.Base) (l : List Int) (v : Value) (hv : Reads encI w v l) (hl : l.length ≤ 100000) (hwf : ∀ n ∈ l, (Lit.int .i64 n).wf = true) :
    Calls Tryz.prog 18 #[.pointer (some ⟨b, 0, none⟩), v] w fun e w' => ∃ v', e = .returned v' ∧ WRel w (s.picks l) v' w' := by
  obtain ⟨a, cap, rfl⟩ := hv.form
  have HP := fun wr (hb : Below w.heap.size w wr) (n : Int) (hn : (Lit.int .i64 n).wf = true) => lawNode (h.below hb) ok n (decide (n < 0)) hn
  clear h
  go_enter Tryz.func18, Tryz.ntmps18
  go_wp2
  go_loopw [5, 6] (fun vo i wr => ∃ k : Nat, k ≤ l.length ∧ i = .int .i64 k ∧ WRel w (s.picks (l.take k)) vo wr) (fun _ i _ => l.length - (intOf i).toNat)
  case atStart => exact ⟨0, Nat.zero_le _, rfl, Owns.nil _ _, (fun g h => by cases h), Below.refl _ _⟩
  case round =>
    obtain ⟨k, hk, rfl, R⟩ := hrel
    by_cases hlt : k < l.length
    · obtain ⟨ad, rfl, _⟩ := (hv.keep R.below).intAt k hlt
      have hc : ∀ u : Sub wr, u.1.cell? (ad.add k) = some (.int .i64 l[k]) := fun u => by
        obtain ⟨ad', e, h⟩ := (hv.keep (R.below.trans (u.2.mono R.below.size))).intAt k hlt
        cases e
        exact h
      have HS := MS.picks_step (s := s) hlt
      have hln := MS.picks_length s (l.take k)
      rw [List.length_take] at hln
      have hw := hwf _ (List.getElem_mem hlt)
      have HN := fun u : Sub wr => HP u.1 (R.below.trans (u.2.mono R.below.size)) _ hw
      generalize l[k] = x at *
      generalize s.pick x (decide (x < 0)) = y at *
      generalize s.picks (l.take k) = out at *
      replace HS := Lib.hid HS
      have hk0 : (0 : Int) ≤ (k : Int) := by omega
      have hk1 : (k : Int) < (l.length : Int) := by omega
      clear hv HP hwf hw
      go_wp2
      refine wp_region_move_tail (C := fun w' => ∃ u : Sub wr, w' = u.1) 11 (.tmp 5) rfl rfl (by kernel_rfl) (by kernel_rfl) (fun _ _ _ _ h => h) (InSub.drew wr) ?_
      simp only [List.take_succ_cons, List.take_zero, List.drop_succ_cons, List.drop_zero, Act.put, Act.eval, List.setIfInBounds_toArray, List.set_cons_zero, List.set_cons_succ]
      iterate 10 (go_big_quiet_step (fail))
      go_big_quiet_step (exact sub_below (HN _))
      refine wpQuiet_nil ?_
      intro w' hw'
      obtain ⟨u, rfl⟩ := hw'
      have hb5 := R.below.trans (u.2.mono R.below.size)
      have hO := R.own.block (w' := u.1) fun g hg => u.2.block g (R.own.lt g hg)
      have hnew := R.new
      clear HN hc
      generalize u.1 = w5 at *
      have hA := hO.alloc (.cells #[.int .i64 y] 3)
      have hsrc := oneI w5 y w5.heap.size rfl
      have hl2 : out.length + [y].length ≤ 1000000 := by simp; omega
      go_wp2_with (at_builtin; refine appendI rfl (.tmp 13) (.tmp 25) rfl _ _ out [y] rfl hA rfl hsrc hl2 ?_; intro v' w2 hown hgr hat)
      refine ⟨⟨k + 1, by omega, by go_num, by rw [HS.out]; exact hown, fun g hg => ?_, ?_⟩, by simp [intOf]; omega⟩
      · rcases hat with hat | hat
        · exact hnew g (hat ▸ hg)
        · rw [hat] at hg; injection hg with hg; have := hb5.size; simp at hg; omega
      · exact (hb5.alloc hb5.size _).grown hgr (by have := hb5.size; simp; omega) hnew
    · clear hv HP hwf
      go_wp2
      go_ret
      refine ⟨_, rfl, ?_⟩
      rw [List.take_of_length_le (by omega)] at R
      exact R

end Go.Proofs.YtpcilfnnfhfgaaaGreatDoor

/-
  ReadTells over the contracts.
-/
namespace Go.Proofs.YtpcilfnnfhfgaaaGreatDoor
open Go Go.RowKit
attribute [local go_sem] run_eql_fv run_neq_fv run_neq_fv1 run_guard_fv run_guard_fv1

theorem MS.Base.reach_len {s : MS} (ok : s.Base) (roots : List Int) : (s.reach roots).length ≤ 20000 := by
  have h1 : s.all.length ≤ 20000 := Nat.le_trans (numsTo_filter_length s.has s.N.length) ok.few
  have h2 : (s.reach roots).length ≤ s.all.length := by unfold MS.reach; exact List.length_filter_le _ _
  omega

set_option maxRecDepth 100000 in
set_option maxHeartbeats 8000000 in
theorem readTells' {StAt : World → Nat → (Nat → Prop) → MS → Prop} (H : StoreC StAt) (R : ReadC StAt) (hUp : ∀ W, LowW W → Calls Tryz.prog 6 #[] W fun e w' => e = .returned (.bool true) ∧ Below W.heap.size W w')
    (most : Int) (l : List D7) (n : Int) (raw : Bool) (x : Int) (roots : List Int) (v vr : Value) (w : World) (hL : LowW w) (hv : Reads encD7 w v l) (_hl : l.length ≤ maxLen) (hwf : ∀ d ∈ l, d.good) (hn : (Lit.int .i64 n).wf = true)
    (hr : Reads encI w vr roots) (_hrl : roots.length ≤ maxLen) (hrw : ∀ r ∈ roots, (Lit.int .i64 r).wf = true) :
    Calls Tryz.prog 3 #[.int .i64 most, v, .int .i64 n, .bool raw, .int .i64 x, vr] w fun e w' => e = .returned (.bool true) ∧ Below w.heap.size w w' := by
  obtain ⟨a, cap, rfl⟩ := hv.form
  obtain ⟨ar, cr, rfl⟩ := hr.form
  go_enter Tryz.func3, Tryz.ntmps3
  go_wp2_with fail
  refine (hUp _ hL).mono ?_
  rintro e w1 ⟨rfl, hb1⟩
  by_cases hmost : 0 ≤ most ∧ most ≤ 20000
  · obtain ⟨h0, h1⟩ := hmost
    go_wp2_with fail
    refine (lawBegin H most _ h0 h1).mono ?_
    rintro e w2 ⟨bA, bM, FA, FM, rfl, P⟩
    have ok := MS.none_ok most.toNat (by omega)
    generalize MS.none most.toNat = s at *
    by_cases hlen : l.length ≤ 100
    · have hl3 : ¬ 100 < (l.length : Int) := by omega
      by_cases hr50 : roots.length ≤ 50
      · have hr3 : ¬ 50 < (roots.length : Int) := by omega
        replace hv := Lib.hid hv
        replace hr := Lib.hid hr
        replace P := Lib.hid P
        replace ok := Lib.hid ok
        go_wp2
        go_loopw [16] (fun i wr => ∃ (j : Nat) (s : MS) (FA FM : Nat → Prop), j ≤ l.length ∧ i = .int .i64 j ∧ s.Ok ∧ P2 StAt w1 bA bM FA FM s s wr) (fun i _ => l.length - (intOf i).toNat)
        case atStart => exact ⟨0, s, _, _, Nat.zero_le _, rfl, ok.out, P.out⟩
        case round =>
          clear P ok
          obtain ⟨j, s, FA, FM, hj, rfl, ok, P⟩ := hrel
          by_cases hlt : j < l.length
          · have hk0 : (0 : Int) ≤ (j : Int) := by omega
            have hk1 : (j : Int) < (l.length : Int) := by omega
            obtain ⟨ad, rfl, q0, q1, q2, q3, q4⟩ := deedAt7 (hv.out.keep (hb1.trans (P.below.mono hb1.size))) j hlt
            have hwk := hwf _ (List.getElem_mem hlt)
            generalize l[j] = d at *
            obtain ⟨What, A, B, C, raw'⟩ := d
            obtain ⟨g0, g1, g2, g3⟩ := hwk
            dsimp only at q0 q1 q2 q3 q4 g0 g1 g2 g3
            have HD := lawDo H P ok What A B C raw' g0 g1 g2 g3
            clear P
            go_wp2_with fail
            refine HD.mono ?_
            rintro e w3 ⟨rfl, S, FA1, FM1, ok1, P1⟩
            clear HD ok q0 q1 q2 q3 q4
            go_wp2
            exact ⟨⟨j + 1, S, FA1, FM1, by omega, by go_num, ok1, P1⟩, by simp [intOf]; omega⟩
          · obtain rfl : j = l.length := by omega
            have hb := hb1.trans (P.below.mono hb1.size)
            have hLr := hL.keep hb
            replace hr := hr.out.keep hb
            clear hv hwf hL hb1
            have HN := lawNode P.m ok.toBase n raw hn
            have hp := ok.toBase.pick_le (n := n) (raw := raw) (le_of_wf hn)
            have hp2 := ok.toBase.pick_ge (n := n) (raw := raw) (ge_of_wf hn)
            generalize s.pick n raw = m at *
            replace P := Lib.hid P
            replace hr := Lib.hid hr
            go_wp2_with fail
            refine HN.mono ?_
            rintro e w3 ⟨rfl, hb3⟩
            replace P := Lib.hid (P.out.keep H hb3)
            replace hr := Lib.hid (hr.out.keep hb3)
            replace hLr := hLr.keep hb3
            replace hb := hb.trans (hb3.mono hb.size)
            clear HN hb3
            have HT := refSTable ok 8 m _ P.out.m (ok.dep_le _) hp
            go_wp2_with fail
            refine HT.mono ?_
            rintro e w4 ⟨rfl, hb4⟩
            replace P := Lib.hid (P.out.keep H hb4)
            replace hr := Lib.hid (hr.out.keep hb4)
            replace hLr := hLr.keep hb4
            replace hb := hb.trans (hb4.mono hb.size)
            clear HT hb4
            generalize hF : s.tab m = f at *
            simp only [fv]
            go_wp2_with fail
            have hbV : Below w4.heap.size w4 (w4.alloc (.cells #[.int .u64 (wd f 0), .int .u64 (wd f 1), .int .u64 (wd f 2), .int .u64 (wd f 3)] 35)) := (Below.refl w4.heap.size w4).alloc (Nat.le_refl _) _
            have h0 : Holds (w4.alloc (.cells #[.int .u64 (wd f 0), .int .u64 (wd f 1), .int .u64 (wd f 2), .int .u64 (wd f 3)] 35)) w4.heap.size f := Holds.new w4 f _ rfl
            replace P := Lib.hid (P.out.keep H hbV)
            replace hr := Lib.hid (hr.out.keep hbV)
            replace hLr := hLr.keep hbV
            replace hb := hb.trans (hbV.mono hb.size)
            clear hbV
            generalize w4.alloc (.cells #[.int .u64 (wd f 0), .int .u64 (wd f 1), .int .u64 (wd f 2), .int .u64 (wd f 3)] 35) = V at *
            have c0 : ∀ u : Sub V, u.1.cell? ⟨w4.heap.size, 0, none⟩ = some (.int .u64 (wd f 0)) := fun u => (h0.sub u).cells.1
            have c1 : ∀ u : Sub V, u.1.cell? ⟨w4.heap.size, 1, none⟩ = some (.int .u64 (wd f 1)) := fun u => (h0.sub u).cells.2.1
            have c2 : ∀ u : Sub V, u.1.cell? ⟨w4.heap.size, 2, none⟩ = some (.int .u64 (wd f 2)) := fun u => (h0.sub u).cells.2.2.1
            have c3 : ∀ u : Sub V, u.1.cell? ⟨w4.heap.size, 3, none⟩ = some (.int .u64 (wd f 3)) := fun u => (h0.sub u).cells.2.2.2
            generalize w4.heap.size = b4 at *
            have C1 := fun u : Sub V => R.table (hLr.keep u.2) (P.out.keep H u.2).a ok m ⟨hp, hp2⟩
            have C2 := fun u : Sub V => R.value (hLr.keep u.2) (P.out.keep H u.2).a ok m x ⟨hp, hp2⟩
            have C3 := fun u : Sub V => R.count (hLr.keep u.2) (P.out.keep H u.2).a ok m ⟨hp, hp2⟩
            have C4 := fun u : Sub V => R.support (hLr.keep u.2) (P.out.keep H u.2).a ok m ⟨hp, hp2⟩
            rw [hF] at C1 C2 C3 C4
            refine wp_region_quiet_all (C := fun w' => ∃ u : Sub V, w' = u.1) (by kernel_rfl) (by kernel_rfl) (InSub.drew V) ?_
            iterate 2 (go_big_quiet_step (fail))
            go_big_quiet_step (exact sub_below (C1 _))
            iterate 3 (go_big_quiet_step (fail))
            iterate 3 (go_big_quiet_step (fail))
            go_big_quiet_step (exact sub_below (C2 _))
            iterate 2 (go_big_quiet_step (fail))
            go_big_quiet_step (exact sub_below (refAt f x _))
            iterate 3 (go_big_quiet_step (fail))
            iterate 2 (go_big_quiet_step (fail))
            go_big_quiet_step (exact sub_below (C3 _))
            go_big_quiet_step (fail)
            go_big_quiet_step (exact sub_below (refCount f _))
            iterate 3 (go_big_quiet_step (fail))
            iterate 2 (go_big_quiet_step (fail))
            go_big_quiet_step (exact sub_below (C4 _))
            go_big_quiet_step (fail)
            go_big_quiet_step (exact sub_below (refSupport f _))
            iterate 2 (go_big_quiet_step (fail))
            refine wpQuiet_nil ?_
            clear c0 c1 c2 c3 C1 C2 C3 C4
            intro w' hw'
            obtain ⟨u, rfl⟩ := hw'
            replace P := P.out.keep H u.2
            replace hr := hr.out.keep u.2
            replace hLr := hLr.keep u.2
            replace hb := hb.trans (u.2.mono hb.size)
            clear h0
            generalize u.1 = w5 at *
            have hrw' : ∀ r ∈ roots, r ≤ 9223372036854775807 := fun r h => le_of_wf (hrw r h)
            have HNs := lawNodes P.m ok.toBase roots _ hr (by omega) hrw
            have hpk := ok.toBase.picks_le hrw'
            have hrg : ∀ r ∈ roots, -9223372036854775808 ≤ r := fun r h => ge_of_wf (hrw r h)
            have hpg := ok.toBase.picks_ge hrg
            have hpl := MS.picks_length s roots
            generalize s.picks roots = sm at *
            replace P := Lib.hid P
            replace hr := Lib.hid hr
            go_wp2_with fail
            refine HNs.mono ?_
            rintro e w6 ⟨v6, rfl, R6⟩
            replace P := Lib.hid (P.out.keep H R6.below)
            replace hr := Lib.hid (hr.out.keep R6.below)
            replace hb := hb.trans (R6.below.mono hb.size)
            have rs := Lib.hid R6.own.reads
            clear R6 HNs
            have HA := R.reach P.out.a ok sm _ rs.out (by omega) (fun r h => ⟨hpk r h, hpg r h⟩)
            go_wp2_with fail
            refine HA.mono ?_
            rintro e w7 ⟨v7, rfl, R7⟩
            replace P := Lib.hid (P.out.keep H R7.below)
            replace hr := Lib.hid (hr.out.keep R7.below)
            replace rs := Lib.hid (rs.out.keep R7.below)
            replace hb := hb.trans (R7.below.mono hb.size)
            have x7 := Lib.hid R7.own.reads
            clear R7 HA
            have HB := refSReach P.out.m ok sm _ rs.out (by omega) hpk
            go_wp2_with fail
            refine HB.mono ?_
            rintro e w8 ⟨v8, rfl, R8⟩
            replace P := Lib.hid (P.out.keep H R8.below)
            replace hr := Lib.hid (hr.out.keep R8.below)
            replace rs := Lib.hid (rs.out.keep R8.below)
            replace hb := hb.trans (R8.below.mono hb.size)
            replace x7 := Lib.hid (x7.out.keep R8.below)
            have x8 := Lib.hid R8.own.reads
            clear R8 HB
            have HC := lawInts (s.reach sm) v7 v8 _ x7.out x8.out (by have := ok.toBase.reach_len sm; omega)
            go_wp2_with fail
            refine HC.mono ?_
            rintro e w9 ⟨rfl, hb9⟩
            replace P := Lib.hid (P.out.keep H hb9)
            replace hr := Lib.hid (hr.out.keep hb9)
            replace rs := Lib.hid (rs.out.keep hb9)
            replace hb := hb.trans (hb9.mono hb.size)
            clear hb9 HC x7 x8
            have HA := R.reach P.out.a ok roots _ hr.out (by omega) (fun r h => ⟨hrw' r h, hrg r h⟩)
            go_wp2_with fail
            refine HA.mono ?_
            rintro e w7 ⟨v7, rfl, R7⟩
            replace P := Lib.hid (P.out.keep H R7.below)
            replace hr := Lib.hid (hr.out.keep R7.below)
            replace rs := Lib.hid (rs.out.keep R7.below)
            replace hb := hb.trans (R7.below.mono hb.size)
            have x7 := Lib.hid R7.own.reads
            clear R7 HA
            have HB := refSReach P.out.m ok roots _ hr.out (by omega) hrw'
            go_wp2_with fail
            refine HB.mono ?_
            rintro e w8 ⟨v8, rfl, R8⟩
            replace P := Lib.hid (P.out.keep H R8.below)
            replace hr := Lib.hid (hr.out.keep R8.below)
            replace rs := Lib.hid (rs.out.keep R8.below)
            replace hb := hb.trans (R8.below.mono hb.size)
            replace x7 := Lib.hid (x7.out.keep R8.below)
            have x8 := Lib.hid R8.own.reads
            clear R8 HB
            have HC := lawInts (s.reach roots) v7 v8 _ x7.out x8.out (by have := ok.toBase.reach_len roots; omega)
            go_wp2_with fail
            refine HC.mono ?_
            rintro e w9 ⟨rfl, hb9⟩
            replace P := Lib.hid (P.out.keep H hb9)
            replace hr := Lib.hid (hr.out.keep hb9)
            replace rs := Lib.hid (rs.out.keep hb9)
            replace hb := hb.trans (hb9.mono hb.size)
            clear hb9 HC x7 x8
            go_wp2
            go_ret
            exact ⟨rfl, hb⟩
      · have hr3 : 50 < (roots.length : Int) := by omega
        go_wp2
        go_ret
        exact ⟨rfl, hb1.trans (P.below.mono hb1.size)⟩
    · have hl3 : 100 < (l.length : Int) := by omega
      go_wp2
      go_ret
      exact ⟨rfl, hb1.trans (P.below.mono hb1.size)⟩
  · have hm : most < 0 ∨ 20000 < most := by omega
    go_wp2_with fail
    refine (lawBegin_no H most _ hm).mono ?_
    rintro e w2 ⟨rfl, hb2⟩
    have hb := hb1.trans (hb2.mono hb1.size)
    go_wp2
    go_ret
    exact ⟨rfl, hb⟩

end Go.Proofs.YtpcilfnnfhfgaaaGreatDoor
