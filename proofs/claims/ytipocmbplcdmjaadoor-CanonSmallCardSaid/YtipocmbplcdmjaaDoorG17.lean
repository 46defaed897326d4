/-
  Texts of this proof, one behind the other: FSlice, ReadC, ReadI, CanonM, GathM, SweepM.
-/
import Derived.Test.YtipocmbplcdmjaaDoorG16
import Derived.Maps.AppendAt
import Derived.Laws.AppendOwnNone
import Derived.Test.YtipocmbplcdmjaaDoorG8
import Derived.Test.YtipocmbplcdmjaaDoorG14
import Derived.Test.YtipocmbplcdmjaaDoorG15
import Derived.Test.YtipocmbplcdmjaaDoorG2
import Derived.Test.YtipocmbplcdmjaaDoorG13
/-
  Slices of functions of eight variables: read, appended to.
-/
namespace Go.Proofs.YtipocmbplcdmjaaDoor
open Go Go.RowKit Go.Maps

/-- A slice that reads as these functions. -/
def SliceF (w : World) (v : Value) (l : List Fn) : Prop :=
  (v = .slice none 0 0 ∧ l = []) ∨ ∃ ad cap, v = .slice (some ad) l.length cap ∧ ∀ j u, (cellsL l)[j]? = some u → w.cell? (ad.add j) = some u

theorem SliceF.keep {w w' : World} {v : Value} {l : List Fn} {B : Nat} (h : SliceF w v l) (hb : Below B w w') (hB : w.heap.size ≤ B) : SliceF w' v l := by
  rcases h with h | ⟨ad, cap, rfl, hc⟩
  · exact .inl h
  · refine .inr ⟨ad, cap, rfl, fun j u hj => ?_⟩
    have h1 := hc j u hj
    rw [hb.cell (p := ad.add j) (Nat.lt_of_lt_of_le (block_lt_of_cell h1) hB)]
    exact h1

theorem OwnsF.nil (w : World) (base : Nat) : OwnsF w base (.slice none 0 0) [] := ⟨rfl, .inl ⟨rfl, rfl⟩⟩

theorem OwnsF.block {w w' : World} {base : Nat} {v : Value} {l : List Fn} (h : OwnsF w base v l) (hb : ∀ g, v.ownBlock = some g → w'.heap[g]? = w.heap[g]?) : OwnsF w' base v l := by
  obtain ⟨h1, h2 | ⟨g, cap, cur, rfl, h3, h4, h5⟩⟩ := h
  · exact ⟨h1, .inl h2⟩
  · exact ⟨h1, .inr ⟨g, cap, cur, rfl, h3, (hb g rfl).trans h4, h5⟩⟩

theorem OwnsF.lt {w : World} {base : Nat} {v : Value} {l : List Fn} (h : OwnsF w base v l) (g : Nat) (hg : v.ownBlock = some g) : base ≤ g ∧ g < w.heap.size := World.ownsRow.lt h g hg
theorem OwnsF.keep {w w' : World} {base B : Nat} {v : Value} {l : List Fn} (h : OwnsF w base v l) (hb : Below B w w') (hB : w.heap.size ≤ B) : OwnsF w' base v l :=
  h.block fun g hg => hb.block g (Nat.lt_of_lt_of_le (h.lt g hg).2 hB)
theorem OwnsF.alloc {w : World} {base : Nat} {v : Value} {l : List Fn} (h : OwnsF w base v l) (o : Obj) : OwnsF (w.alloc o) base v l :=
  h.block fun g hg => heap_alloc_old _ _ (h.lt g hg).2
theorem OwnsF.grown {w w' : World} {base : Nat} {v : Value} {l : List Fn} {row : Option Nat} (h : OwnsF w base v l) (hg : w.grownBy w' row) (hne : ∀ g, v.ownBlock = some g → row ≠ some g) : OwnsF w' base v l :=
  h.block fun g hb => hg.block g (h.lt g hb).2 (fun e => hne g hb e.symm)

theorem infoF : ∃ i, Tryd.prog.info? 35 = some i ∧ i.zero = some (.agg #[.int .u64 0, .int .u64 0, .int .u64 0, .int .u64 0]) ∧ i.size = 4 ∧ i.bytes = 32 := by
  have h : (Tryd.prog.info? 35).map (fun i => (i.zero, i.size, i.bytes)) = some (some (.agg #[.int .u64 0, .int .u64 0, .int .u64 0, .int .u64 0]), 4, 32) := by kernel_rfl
  obtain ⟨i, hi, h0, h1, h2⟩ := info_parts h
  exact ⟨i, hi, h0, h1, h2⟩

/-- append(x, y...) of two slices of functions, the first the call's own. -/
theorem appendF {ops : Array Oper} {rest : List Oper} {o : Oper} {a : Act} {w : World} {Q : Exit → Act → World → Prop} (hgd : o.guard = none) (s x : Operand)
    (ho : o.op = .call { callee := .builtin .append, args := #[s, x], argTypes := #[22, 22] })
    (base : Nat) (v y : Value) (l k : List Fn) (hs : a.eval s = v) (hown : OwnsF w base v l) (hx : a.eval x = y) (hsrc : SliceF w y k)
    (hn : l.length + k.length ≤ 1000000) (hbase : base ≤ w.heap.size)
    (h : ∀ v' w', OwnsF w' base v' (l ++ k) → w.grownBy w' v.ownBlock → (v'.ownBlock = v.ownBlock ∨ v'.ownBlock = some w.heap.size) → wpList Tryd.prog ops Q rest (a.put o.dst v') w') : wpList Tryd.prog ops Q (o :: rest) a w := by
  obtain ⟨i, hi, hz, hsz, hby⟩ := infoF
  rcases hsrc with ⟨rfl, rfl⟩ | ⟨ad, cap, rfl, hc⟩
  · refine wpList_append_own_none hgd s x _ ho base 35 i 4 Tryd.underlying22 hi v l.length (cellsL l) hs hown hx ?_
    refine h v w (by rw [List.append_nil]; exact hown) ⟨rfl, rfl, rfl, Nat.le_refl _, fun _ _ _ => rfl⟩ (.inl rfl)
  · refine wpList_append_own_at w hgd s x _ ho base 35 i _ 4 32 Tryd.underlying22 hi hz hsz hby rfl (by decide) v l.length (cellsL l) hs hown ad k.length cap (cellsL k) hx (cellsL_length k) hc (cellsL_one k) (by unfold maxLen; omega) (by omega) hbase ?_
    intro v' w' h1 h2 _ h4
    exact h v' w' (by unfold OwnsF; rw [List.length_append, cellsL_append]; exact h1) h2 h4

end Go.Proofs.YtipocmbplcdmjaaDoor

/-
  What is asked of the code's package read, whatever it is. ReadBuilds.
-/
namespace Go.Proofs.YtipocmbplcdmjaaDoor
open Go Go.RowKit

/-- Each call of package read. -/
structure ReadC (StAt : World → Nat → (Nat → Prop) → MS → Prop) : Prop where ofAll ::
  table : ∀ {w b F s}, LowW w → StAt w b F s → s.Ok → ∀ n : Int, (n ≤ 9223372036854775807 ∧ -9223372036854775808 ≤ n) → Calls Tryd.prog 12 #[.pointer (some ⟨b, 0, none⟩), .int .i64 n] w fun e w' => e = .returned (fv (s.tab n)) ∧ Below w.heap.size w w'
  build : ∀ {w b F s}, LowW w → (∀ k, F k → 0 < k) → StAt w b F s → s.Ok → ∀ f : Fn, Calls Tryd.prog 8 #[.pointer (some ⟨b, 0, none⟩), fv f] w fun e w' => e = .returned (.tuple #[.int .i64 (MS.bld 8 s f).1, errV (MS.bld 8 s f).2.1]) ∧ ∃ F', StAt w' b F' (MS.bld 8 s f).2.2 ∧ Keeps F w w' ∧ Within w F F'

theorem SliceF.form {w : World} {v : Value} {l : List Fn} (h : SliceF w v l) : ∃ a c, v = .slice a l.length c := by
  rcases h with ⟨rfl, rfl⟩ | ⟨ad, cap, rfl, _⟩
  · exact ⟨none, 0, rfl⟩
  · exact ⟨_, _, rfl⟩
theorem SliceF.fnAt {w : World} {a : Option Addr} {cap : Nat} {l : List Fn} (h : SliceF w (.slice a l.length cap) l) (i : Nat) (hi : i < l.length) : ∃ ad, a = some ad ∧ w.cell? (ad.add (i * 4)) = some (.int .u64 (wd l[i] 0)) ∧
    w.cell? ⟨(ad.add (i * 4)).block, (ad.add (i * 4)).off + 1, none⟩ = some (.int .u64 (wd l[i] 1)) ∧ w.cell? ⟨(ad.add (i * 4)).block, (ad.add (i * 4)).off + 2, none⟩ = some (.int .u64 (wd l[i] 2)) ∧
    w.cell? ⟨(ad.add (i * 4)).block, (ad.add (i * 4)).off + 3, none⟩ = some (.int .u64 (wd l[i] 3)) := by
  rcases h with ⟨_, rfl⟩ | ⟨ad, cap', hv, hc⟩
  · cases hi
  · injection hv with h1 h2 h3
    subst h1
    have key : ∀ j, j < 4 → (cellsL l)[i * 4 + j]? = some (.int .u64 (wd l[i] j)) := fun j hj => cellsL_get l i hi j hj
    have e : ∀ j, 0 < j → ad.add (i * 4 + j) = ⟨(ad.add (i * 4)).block, (ad.add (i * 4)).off + j, none⟩ := fun j hj => by
      rw [← Addr.add_add]
      unfold Addr.add
      by_cases h1 : i * 4 = 0 <;> simp [h1, Nat.ne_of_gt hj]
    refine ⟨ad, rfl, hc _ _ (key 0 (by decide)), ?_, ?_, ?_⟩
    · rw [← e 1 (by decide)]; exact hc _ _ (key 1 (by decide))
    · rw [← e 2 (by decide)]; exact hc _ _ (key 2 (by decide))
    · rw [← e 3 (by decide)]; exact hc _ _ (key 3 (by decide))

end Go.Proofs.YtipocmbplcdmjaaDoor

/-
  The code's package read keeps its contracts.
-/
namespace Go.Proofs.YtipocmbplcdmjaaDoor
open Go Go.RowKit

theorem readC {StAt : World → Nat → (Nat → Prop) → MS → Prop} (H : StoreC StAt) : ReadC StAt where
  table hL h ok n hn := readTable H ok 8 n _ hL h (ok.dep_le n) hn
  build hL hlow h ok f := readBuild H 8 _ f _ _ hL hlow h ok (supN_8 f)

end Go.Proofs.YtipocmbplcdmjaaDoor

/-
  Mathematics of layer 14: a store made anew. Nothing of the program is read here.
-/
namespace Go.Proofs.YtipocmbplcdmjaaDoor

/-- One root more is built: the error's number, the numbers, the new store. -/
def MS.can1 (s : MS) (x : Int × List Int × MS) (r : Int) : Int × List Int × MS :=
  if x.1 ≠ 0 then x
  else if (MS.bld 8 x.2.2 (s.tab r)).2.1 ≠ 0 then ((MS.bld 8 x.2.2 (s.tab r)).2.1, [], (MS.bld 8 x.2.2 (s.tab r)).2.2)
  else (0, x.2.1 ++ [(MS.bld 8 x.2.2 (s.tab r)).1], (MS.bld 8 x.2.2 (s.tab r)).2.2)
/-- All of them, one behind the other. -/
def MS.canAll (s : MS) (most : Nat) (roots : List Int) : Int × List Int × MS := roots.foldl (MS.can1 s) (0, [], MS.none most)
/-- What Canon comes to. -/
def MS.canon (s : MS) (most : Int) (roots : List Int) : Int × List Int × MS :=
  if most < 0 ∨ 20000 < most ∨ ∃ r ∈ roots, s.there r = false then (1, [], s) else s.canAll most.toNat roots

section
variable {s : MS}
theorem MS.can1_bad (s : MS) {x : Int × List Int × MS} (h : x.1 ≠ 0) (r : Int) : MS.can1 s x r = x := if_pos h
theorem MS.can1_good (s : MS) {x : Int × List Int × MS} (h : x.1 = 0) {r : Int} (h2 : (MS.bld 8 x.2.2 (s.tab r)).2.1 = 0) : (MS.can1 s x r).1 = 0 := by
  unfold MS.can1
  rw [if_neg (by simpa using h), if_neg (by simpa using h2)]
theorem MS.can_bad (s : MS) {x : Int × List Int × MS} (h : x.1 ≠ 0) : ∀ l : List Int, l.foldl (MS.can1 s) x = x
  | [] => rfl
  | r :: l => by rw [List.foldl_cons, MS.can1_bad s h, MS.can_bad s h l]
theorem MS.can_take (s : MS) (x : Int × List Int × MS) (l : List Int) (k : Nat) (h : k < l.length) : (l.take (k + 1)).foldl (MS.can1 s) x = MS.can1 s ((l.take k).foldl (MS.can1 s) x) l[k] := by
  rw [List.take_succ_eq_append_getElem h, List.foldl_append]; rfl

/-- What holds of the new store on the way. -/
structure CanI (s : MS) (most : Nat) (l : List Int) (x : Int × List Int × MS) : Prop where
  ok : x.2.2.Ok
  o : x.2.2.o = (MS.none most).o
  cap : x.2.2.ar.most = (MS.none most).ar.most
  err : x.1 = 0 ∨ x.1 = 2
  bad : x.1 ≠ 0 → x.2.1 = []
  len : x.1 = 0 → x.2.1.length = l.length
  num : x.1 = 0 → ∀ (i : Nat) (h : i < l.length) (h' : i < x.2.1.length), x.2.2.there x.2.1[i] = true ∧ x.2.2.tab x.2.1[i] = s.tab l[i]
  all : ∀ n, x.2.2.has n = true → IsNode (l.map s.tab) (MS.none most).o (x.2.2.tab n)
  mem : x.1 = 0 → ∀ n ∈ x.2.1, x.2.2.there n = true

theorem CanI.start (s : MS) (most : Nat) (h : most ≤ 20000) : CanI s most [] (0, [], MS.none most) where
  ok := MS.none_ok most h
  o := rfl
  cap := rfl
  err := .inl rfl
  bad := fun h => absurd rfl h
  len := fun _ => rfl
  num := fun _ i h => absurd h (Nat.not_lt_zero i)
  all := fun n hn => by simp [MS.has, MS.none] at hn
  mem := fun _ n hn => by cases hn

theorem CanI.step {s : MS} {most : Nat} {l : List Int} {x : Int × List Int × MS} (h : CanI s most l x) (r : Int) : CanI s most (l ++ [r]) (MS.can1 s x r) := by
  have mono : ∀ g, IsNode (l.map s.tab) (MS.none most).o g → IsNode ((l ++ [r]).map s.tab) (MS.none most).o g := fun g hg => ⟨hg.1.mono (fun x hx => by rw [List.map_append]; exact List.mem_append_left _ hx), hg.2⟩
  by_cases hx : x.1 = 0
  · have hs := MS.bld_spec 8 x.2.2 (s.tab r) h.ok (supN_8 _)
    unfold MS.can1
    rw [if_neg (by simpa using hx)]
    generalize MS.bld 8 x.2.2 (s.tab r) = A at *
    obtain ⟨a, e, u⟩ := A
    dsimp only at *
    obtain ⟨s1, s2, s3, s4, s5⟩ := hs
    have hall : ∀ n, u.has n = true → IsNode ((l ++ [r]).map s.tab) (MS.none most).o (u.tab n) := fun n hn => by
      rcases s5 n hn with h1 | h1
      · rw [s2.tab h.ok s1 (by simp [MS.there, h1])]
        exact mono _ (h.all n h1)
      · rw [h.o] at h1
        exact ⟨h1.1.mono (fun x hx => by rw [List.mem_singleton.1 hx]; simp), h1.2⟩
    by_cases he : e = 0
    · subst he
      obtain ⟨t1, t2⟩ := s4 rfl
      rw [if_neg (by simp)]
      refine ⟨s1, s2.o.trans h.o, s2.most.trans h.cap, .inl rfl, fun e => absurd rfl e, fun _ => by simp [h.len hx], fun _ i hi hi' => ?_, hall, fun _ n hn => ?_⟩
      · dsimp only at hi' ⊢
        have hlen := h.len hx
        by_cases hil : i < l.length
        · have hix : i < x.2.1.length := by omega
          obtain ⟨a1, a2⟩ := h.num hx i hil hix
          simp only [List.getElem_append_left hix, List.getElem_append_left hil]
          exact ⟨s2.there a1, (s2.tab h.ok s1 a1).trans a2⟩
        · have hi2 : i = l.length := by simp at hi; omega
          subst hi2
          simp only [List.getElem_append_right (Nat.le_refl _), List.getElem_append_right (show x.2.1.length ≤ l.length by omega), hlen, Nat.sub_self, List.getElem_cons_zero]
          exact ⟨t1, t2⟩
      · rcases List.mem_append.1 hn with hn | hn
        · exact s2.there (h.mem hx n hn)
        · rw [List.mem_singleton.1 hn]; exact t1
    · rw [if_pos he]
      exact ⟨s1, s2.o.trans h.o, s2.most.trans h.cap, s3, fun _ => rfl, fun e => absurd e he, fun e => absurd e he, hall, fun e => absurd e he⟩
  · rw [MS.can1_bad s hx]
    exact ⟨h.ok, h.o, h.cap, h.err, h.bad, fun e => absurd e hx, fun e => absurd e hx, fun n hn => mono _ (h.all n hn), fun e => absurd e hx⟩
theorem CanI.upto (s : MS) {most : Nat} (hm : most ≤ 20000) (l : List Int) : ∀ k, k ≤ l.length → CanI s most (l.take k) ((l.take k).foldl (MS.can1 s) (0, [], MS.none most))
  | 0, _ => by simpa using CanI.start s most hm
  | k + 1, hk => by
    rw [MS.can_take s _ l k hk, List.take_succ_eq_append_getElem hk]
    exact (CanI.upto s hm l k (by omega)).step l[k]
theorem CanI.whole (s : MS) {most : Nat} (hm : most ≤ 20000) (l : List Int) : CanI s most l (s.canAll most l) := by
  have := CanI.upto s hm l l.length (Nat.le_refl _)
  rwa [List.take_length] at this

/-- With room for what all need none is refused. -/
theorem CanI.room (s : MS) {most : Nat} (hm : most ≤ 20000) (l : List Int) (h : sizeF (l.map s.tab) plainO ≤ most) : ∀ k, k ≤ l.length → ((l.take k).foldl (MS.can1 s) (0, [], MS.none most)).1 = 0
  | 0, _ => rfl
  | k + 1, hk => by
    have h0 := CanI.room s hm l h k (by omega)
    have I := CanI.upto s hm l k (by omega)
    rw [MS.can_take s _ l k hk]
    have hs := MS.bld_room 8 _ (s.tab l[k]) (l.map s.tab) I.ok (supN_8 _) (fun n hn => by
      rw [I.o]
      have := I.all n hn
      exact ⟨this.1.mono (fun x hx => by obtain ⟨r, hr, rfl⟩ := List.mem_map.1 hx; exact List.mem_map.2 ⟨r, List.mem_of_mem_take hr, rfl⟩), this.2⟩) (Reach.base (List.mem_map.2 ⟨l[k], List.getElem_mem hk, rfl⟩)) (by rw [I.o, I.cap]; exact h)
    exact MS.can1_good s h0 hs
/-- Where none is refused there are just as many nodes as all need. -/
theorem CanI.size (s : MS) {most : Nat} (hm : most ≤ 20000) (l : List Int) (h : (s.canAll most l).1 = 0) : sizeF (l.map s.tab) plainO = (s.canAll most l).2.2.all.length := by
  have I := CanI.whole s hm l
  have ho : (s.canAll most l).2.2.o = plainO := I.o
  rw [← ho]
  refine I.ok.size_is (fun n hn => by rw [ho]; exact I.all n hn) fun g hg => ?_
  obtain ⟨f, hf, hr⟩ := reach_one hg.1
  obtain ⟨r, hrl, rfl⟩ := List.mem_map.1 hf
  obtain ⟨i, hi, rfl⟩ := List.getElem_of_mem hrl
  have hi' : i < (s.canAll most l).2.1.length := by rw [I.len h]; exact hi
  obtain ⟨a1, a2⟩ := I.num h i hi hi'
  rw [← a2] at hr
  obtain ⟨m, hm1, hm2⟩ := I.ok.reach_there a1 hr
  refine ⟨m, ?_, hm2⟩
  rcases MS.there_cases hm1 with ⟨_, hh⟩ | hh
  · exfalso
    apply hg.2
    rw [← hm2, MS.tab_const hh]
    split
    · exact sup_const.1
    · exact sup_const.2
  · exact hh
/-- With just the room that all need. -/
theorem MS.Ok.canon_small (s : MS) (l : List Int) (hl : sizeF (l.map s.tab) plainO ≤ 20000) (hth : ∀ r ∈ l, s.there r = true) :
    ∃ ns t, s.canon (sizeF (l.map s.tab) plainO) l = (0, ns, t) ∧ CanI s (sizeF (l.map s.tab) plainO) l (0, ns, t) ∧ t.all.length = sizeF (l.map s.tab) plainO ∧ t.room = 0 ∧ t.o = plainO := by
  have h0 : (s.canAll (sizeF (l.map s.tab) plainO) l).1 = 0 := by
    have := CanI.room s hl l (Nat.le_refl _) l.length (Nat.le_refl _)
    rwa [List.take_length] at this
  have I := CanI.whole s hl l
  have hz := CanI.size s hl l h0
  have e : s.canon (sizeF (l.map s.tab) plainO) l = s.canAll (sizeF (l.map s.tab) plainO) l := by
    unfold MS.canon
    rw [if_neg, Int.toNat_natCast]
    rintro (h | h | ⟨r, hr, h⟩)
    · omega
    · omega
    · rw [hth r hr] at h; cases h
  generalize s.canAll (sizeF (l.map s.tab) plainO) l = x at *
  obtain ⟨x0, x1, x2⟩ := x
  dsimp only at h0 hz
  subst h0
  have hc := I.ok.toBase.count
  have hmost := I.cap
  have ho := I.o
  dsimp only at hc hmost ho
  refine ⟨x1, x2, e, I, hz.symm, ?_, ho⟩
  have hmn : (MS.none (sizeF (l.map s.tab) plainO)).ar.most = sizeF (l.map s.tab) plainO := rfl
  unfold MS.room
  rw [hmost, hmn]
  omega
/-- With one less: there is none. -/
theorem MS.Ok.canon_less (s : MS) (l : List Int) (hl : sizeF (l.map s.tab) plainO ≤ 20000) (h1 : 1 ≤ sizeF (l.map s.tab) plainO) (hth : ∀ r ∈ l, s.there r = true) : (s.canon ((sizeF (l.map s.tab) plainO : Int) - 1) l).1 = 2 := by
  have e : s.canon ((sizeF (l.map s.tab) plainO : Int) - 1) l = s.canAll (sizeF (l.map s.tab) plainO - 1) l := by
    unfold MS.canon
    rw [if_neg, show ((sizeF (l.map s.tab) plainO : Int) - 1).toNat = sizeF (l.map s.tab) plainO - 1 by omega]
    rintro (h | h | ⟨r, hr, h⟩)
    · omega
    · omega
    · rw [hth r hr] at h; cases h
  rw [e]
  have hm : sizeF (l.map s.tab) plainO - 1 ≤ 20000 := by omega
  have I := CanI.whole s hm l
  rcases I.err with h0 | h0
  · exfalso
    have hz := CanI.size s hm l h0
    have hc := I.ok.toBase.count
    have hle := I.ok.toBase.ar.len
    have hle2 := I.ok.toBase.ar.nextLe
    have hmost := I.cap
    have hmn : (MS.none (sizeF (l.map s.tab) plainO - 1)).ar.most = sizeF (l.map s.tab) plainO - 1 := rfl
    omega
  · exact h0
end

end Go.Proofs.YtipocmbplcdmjaaDoor

/-
  Mathematics of package read: what a search from a node adds to what was met. Nothing of the program is read here.
-/
namespace Go.Proofs.YtipocmbplcdmjaaDoor

end Go.Proofs.YtipocmbplcdmjaaDoor

/-
  Mathematics of layer 12: what nobody needs is freed, level by level. Nothing of the program is read here.
-/
namespace Go.Proofs.YtipocmbplcdmjaaDoor

section
variable {s : MS} {K : List Int} {r : Int × MS}

end

end Go.Proofs.YtipocmbplcdmjaaDoor
