/-
  Texts of this proof, one behind the other: RefR, BackM, FSlice, ReadC, ReadI, CanonM, GathM, SweepM.
-/
import Derived.Test.YtipocmbplcdmjaaGreatDoorG8
import Derived.Test.YtipocmbplcdmjaaGreatDoorG17
import Derived.Test.YtipocmbplcdmjaaGreatDoorG13
import Derived.Maps.AppendAt
import Derived.Laws.AppendOwnNone
import Derived.Test.YtipocmbplcdmjaaGreatDoorG16
import Derived.Test.YtipocmbplcdmjaaGreatDoorG9
import Derived.Test.YtipocmbplcdmjaaGreatDoorG14
import Derived.Test.YtipocmbplcdmjaaGreatDoorG1
/-
  The document's store: Reach. Nodes of bowerlaw00.
-/
namespace Go.Proofs.YtipocmbplcdmjaaGreatDoor
open Go Go.RowKit

end Go.Proofs.YtipocmbplcdmjaaGreatDoor

/-
  Mathematics of layer 8's own law: functions built in a store of none. Nothing of the program is read here.
-/
namespace Go.Proofs.YtipocmbplcdmjaaGreatDoor
open Go Go.RowKit

section
variable {s : MS}

theorem supN_8 (f : Fn) : supN f ≤ 8 := supN_le f

end

end Go.Proofs.YtipocmbplcdmjaaGreatDoor

/-
  Slices of functions of eight variables: read, appended to.
-/
namespace Go.Proofs.YtipocmbplcdmjaaGreatDoor
open Go Go.RowKit Go.Maps

/-- A slice that reads as these functions. -/
def SliceF (w : World) (v : Value) (l : List Fn) : Prop :=
  (v = .slice none 0 0 ∧ l = []) ∨ ∃ ad cap, v = .slice (some ad) l.length cap ∧ ∀ j u, (cellsL l)[j]? = some u → w.cell? (ad.add j) = some u

theorem SliceF.keep {w w' : World} {v : Value} {l : List Fn} {B : Nat} (h : SliceF w v l) (hb : Below B w w') (hB : w.heap.size ≤ B) : SliceF w' v l := by
  rcases h with h | ⟨ad, cap, rfl, hc⟩
  · exact .inl h
  · refine .inr ⟨ad, cap, rfl, fun j u hj => ?_⟩
    have h1 := hc j u hj
    rw [hb.cell (p := ad.add j) (Nat.lt_of_lt_of_le (block_lt_of_cell h1) hB)]
    exact h1

end Go.Proofs.YtipocmbplcdmjaaGreatDoor

/-
  What is asked of the code's package read, whatever it is. ReadBuilds.
-/
namespace Go.Proofs.YtipocmbplcdmjaaGreatDoor
open Go Go.RowKit

/-- Each call of package read. -/
structure ReadC (StAt : World → Nat → (Nat → Prop) → MS → Prop) : Prop where ofAll ::
  table : ∀ {w b F s}, LowW w → StAt w b F s → s.Ok → ∀ n : Int, (n ≤ 9223372036854775807 ∧ -9223372036854775808 ≤ n) → Calls Tryz.prog 23 #[.pointer (some ⟨b, 0, none⟩), .int .i64 n] w fun e w' => e = .returned (fv (s.tab n)) ∧ Below w.heap.size w w'
  build : ∀ {w b F s}, LowW w → (∀ k, F k → 0 < k) → StAt w b F s → s.Ok → ∀ f : Fn, Calls Tryz.prog 16 #[.pointer (some ⟨b, 0, none⟩), fv f] w fun e w' => e = .returned (.tuple #[.int .i64 (MS.bld 8 s f).1, errV (MS.bld 8 s f).2.1]) ∧ ∃ F', StAt w' b F' (MS.bld 8 s f).2.2 ∧ Keeps F w w' ∧ Within w F F'

theorem SliceF.form {w : World} {v : Value} {l : List Fn} (h : SliceF w v l) : ∃ a c, v = .slice a l.length c := by
  rcases h with ⟨rfl, rfl⟩ | ⟨ad, cap, rfl, _⟩
  · exact ⟨none, 0, rfl⟩
  · exact ⟨_, _, rfl⟩
theorem SliceF.fnAt {w : World} {a : Option Addr} {cap : Nat} {l : List Fn} (h : SliceF w (.slice a l.length cap) l) (i : Nat) (hi : i < l.length) : ∃ ad, a = some ad ∧ w.cell? (ad.add (i * 4)) = some (.int .u64 (wd l[i] 0)) ∧
    w.cell? ⟨(ad.add (i * 4)).block, (ad.add (i * 4)).off + 1, none⟩ = some (.int .u64 (wd l[i] 1)) ∧ w.cell? ⟨(ad.add (i * 4)).block, (ad.add (i * 4)).off + 2, none⟩ = some (.int .u64 (wd l[i] 2)) ∧
    w.cell? ⟨(ad.add (i * 4)).block, (ad.add (i * 4)).off + 3, none⟩ = some (.int .u64 (wd l[i] 3)) := by
  rcases h with ⟨_, rfl⟩ | ⟨ad, cap', hv, hc⟩
  · cases hi
  · injection hv with h1 h2 h3
    subst h1
    have key : ∀ j, j < 4 → (cellsL l)[i * 4 + j]? = some (.int .u64 (wd l[i] j)) := fun j hj => cellsL_get l i hi j hj
    have e : ∀ j, 0 < j → ad.add (i * 4 + j) = ⟨(ad.add (i * 4)).block, (ad.add (i * 4)).off + j, none⟩ := fun j hj => by
      rw [← Addr.add_add]
      unfold Addr.add
      by_cases h1 : i * 4 = 0 <;> simp [h1, Nat.ne_of_gt hj]
    refine ⟨ad, rfl, hc _ _ (key 0 (by decide)), ?_, ?_, ?_⟩
    · rw [← e 1 (by decide)]; exact hc _ _ (key 1 (by decide))
    · rw [← e 2 (by decide)]; exact hc _ _ (key 2 (by decide))
    · rw [← e 3 (by decide)]; exact hc _ _ (key 3 (by decide))
theorem MS.bld_err (s : MS) (f : Fn) (ok : s.Ok) : 0 ≤ (MS.bld 8 s f).2.1 ∧ (MS.bld 8 s f).2.1 ≤ 8 := by
  rcases (MS.bld_spec 8 s f ok (supN_8 f)).2.2.1 with h | h <;> rw [h] <;> decide

end Go.Proofs.YtipocmbplcdmjaaGreatDoor

/-
  The code's package read keeps its contracts.
-/
namespace Go.Proofs.YtipocmbplcdmjaaGreatDoor
open Go Go.RowKit

theorem readC {StAt : World → Nat → (Nat → Prop) → MS → Prop} (H : StoreC StAt) : ReadC StAt where
  table hL h ok n hn := readTable H ok 8 n _ hL h (ok.dep_le n) hn
  build hL hlow h ok f := readBuild H 8 _ f _ _ hL hlow h ok (supN_8 f)

end Go.Proofs.YtipocmbplcdmjaaGreatDoor

/-
  Mathematics of layer 14: a store made anew. Nothing of the program is read here.
-/
namespace Go.Proofs.YtipocmbplcdmjaaGreatDoor

/-- One root more is built: the error's number, the numbers, the new store. -/
def MS.can1 (s : MS) (x : Int × List Int × MS) (r : Int) : Int × List Int × MS :=
  if x.1 ≠ 0 then x
  else if (MS.bld 8 x.2.2 (s.tab r)).2.1 ≠ 0 then ((MS.bld 8 x.2.2 (s.tab r)).2.1, [], (MS.bld 8 x.2.2 (s.tab r)).2.2)
  else (0, x.2.1 ++ [(MS.bld 8 x.2.2 (s.tab r)).1], (MS.bld 8 x.2.2 (s.tab r)).2.2)
/-- All of them, one behind the other. -/
def MS.canAll (s : MS) (most : Nat) (roots : List Int) : Int × List Int × MS := roots.foldl (MS.can1 s) (0, [], MS.none most)
/-- What Canon comes to. -/
def MS.canon (s : MS) (most : Int) (roots : List Int) : Int × List Int × MS :=
  if most < 0 ∨ 20000 < most ∨ ∃ r ∈ roots, s.there r = false then (1, [], s) else s.canAll most.toNat roots

section
variable {s : MS}
theorem MS.can1_bad (s : MS) {x : Int × List Int × MS} (h : x.1 ≠ 0) (r : Int) : MS.can1 s x r = x := if_pos h
theorem MS.can_bad (s : MS) {x : Int × List Int × MS} (h : x.1 ≠ 0) : ∀ l : List Int, l.foldl (MS.can1 s) x = x
  | [] => rfl
  | r :: l => by rw [List.foldl_cons, MS.can1_bad s h, MS.can_bad s h l]
theorem MS.can_take (s : MS) (x : Int × List Int × MS) (l : List Int) (k : Nat) (h : k < l.length) : (l.take (k + 1)).foldl (MS.can1 s) x = MS.can1 s ((l.take k).foldl (MS.can1 s) x) l[k] := by
  rw [List.take_succ_eq_append_getElem h, List.foldl_append]; rfl

/-- What holds of the new store on the way. -/
structure CanI (s : MS) (most : Nat) (l : List Int) (x : Int × List Int × MS) : Prop where
  ok : x.2.2.Ok
  o : x.2.2.o = (MS.none most).o
  cap : x.2.2.ar.most = (MS.none most).ar.most
  err : x.1 = 0 ∨ x.1 = 2
  bad : x.1 ≠ 0 → x.2.1 = []
  len : x.1 = 0 → x.2.1.length = l.length
  num : x.1 = 0 → ∀ (i : Nat) (h : i < l.length) (h' : i < x.2.1.length), x.2.2.there x.2.1[i] = true ∧ x.2.2.tab x.2.1[i] = s.tab l[i]
  all : ∀ n, x.2.2.has n = true → IsNode (l.map s.tab) (MS.none most).o (x.2.2.tab n)
  mem : x.1 = 0 → ∀ n ∈ x.2.1, x.2.2.there n = true

theorem CanI.start (s : MS) (most : Nat) (h : most ≤ 20000) : CanI s most [] (0, [], MS.none most) where
  ok := MS.none_ok most h
  o := rfl
  cap := rfl
  err := .inl rfl
  bad := fun h => absurd rfl h
  len := fun _ => rfl
  num := fun _ i h => absurd h (Nat.not_lt_zero i)
  all := fun n hn => by simp [MS.has, MS.none] at hn
  mem := fun _ n hn => by cases hn

theorem CanI.step {s : MS} {most : Nat} {l : List Int} {x : Int × List Int × MS} (h : CanI s most l x) (r : Int) : CanI s most (l ++ [r]) (MS.can1 s x r) := by
  have mono : ∀ g, IsNode (l.map s.tab) (MS.none most).o g → IsNode ((l ++ [r]).map s.tab) (MS.none most).o g := fun g hg => ⟨hg.1.mono (fun x hx => by rw [List.map_append]; exact List.mem_append_left _ hx), hg.2⟩
  by_cases hx : x.1 = 0
  · have hs := MS.bld_spec 8 x.2.2 (s.tab r) h.ok (supN_8 _)
    unfold MS.can1
    rw [if_neg (by simpa using hx)]
    generalize MS.bld 8 x.2.2 (s.tab r) = A at *
    obtain ⟨a, e, u⟩ := A
    dsimp only at *
    obtain ⟨s1, s2, s3, s4, s5⟩ := hs
    have hall : ∀ n, u.has n = true → IsNode ((l ++ [r]).map s.tab) (MS.none most).o (u.tab n) := fun n hn => by
      rcases s5 n hn with h1 | h1
      · rw [s2.tab h.ok s1 (by simp [MS.there, h1])]
        exact mono _ (h.all n h1)
      · rw [h.o] at h1
        exact ⟨h1.1.mono (fun x hx => by rw [List.mem_singleton.1 hx]; simp), h1.2⟩
    by_cases he : e = 0
    · subst he
      obtain ⟨t1, t2⟩ := s4 rfl
      rw [if_neg (by simp)]
      refine ⟨s1, s2.o.trans h.o, s2.most.trans h.cap, .inl rfl, fun e => absurd rfl e, fun _ => by simp [h.len hx], fun _ i hi hi' => ?_, hall, fun _ n hn => ?_⟩
      · dsimp only at hi' ⊢
        have hlen := h.len hx
        by_cases hil : i < l.length
        · have hix : i < x.2.1.length := by omega
          obtain ⟨a1, a2⟩ := h.num hx i hil hix
          simp only [List.getElem_append_left hix, List.getElem_append_left hil]
          exact ⟨s2.there a1, (s2.tab h.ok s1 a1).trans a2⟩
        · have hi2 : i = l.length := by simp at hi; omega
          subst hi2
          simp only [List.getElem_append_right (Nat.le_refl _), List.getElem_append_right (show x.2.1.length ≤ l.length by omega), hlen, Nat.sub_self, List.getElem_cons_zero]
          exact ⟨t1, t2⟩
      · rcases List.mem_append.1 hn with hn | hn
        · exact s2.there (h.mem hx n hn)
        · rw [List.mem_singleton.1 hn]; exact t1
    · rw [if_pos he]
      exact ⟨s1, s2.o.trans h.o, s2.most.trans h.cap, s3, fun _ => rfl, fun e => absurd e he, fun e => absurd e he, hall, fun e => absurd e he⟩
  · rw [MS.can1_bad s hx]
    exact ⟨h.ok, h.o, h.cap, h.err, h.bad, fun e => absurd e hx, fun e => absurd e hx, fun n hn => mono _ (h.all n hn), fun e => absurd e hx⟩
theorem CanI.upto (s : MS) {most : Nat} (hm : most ≤ 20000) (l : List Int) : ∀ k, k ≤ l.length → CanI s most (l.take k) ((l.take k).foldl (MS.can1 s) (0, [], MS.none most))
  | 0, _ => by simpa using CanI.start s most hm
  | k + 1, hk => by
    rw [MS.can_take s _ l k hk, List.take_succ_eq_append_getElem hk]
    exact (CanI.upto s hm l k (by omega)).step l[k]
theorem CanI.whole (s : MS) {most : Nat} (hm : most ≤ 20000) (l : List Int) : CanI s most l (s.canAll most l) := by
  have := CanI.upto s hm l l.length (Nat.le_refl _)
  rwa [List.take_length] at this

end

end Go.Proofs.YtipocmbplcdmjaaGreatDoor

/-
  Mathematics of package read: what a search from a node adds to what was met. Nothing of the program is read here.
-/
namespace Go.Proofs.YtipocmbplcdmjaaGreatDoor

end Go.Proofs.YtipocmbplcdmjaaGreatDoor

/-
  Mathematics of layer 12: what nobody needs is freed, level by level. Nothing of the program is read here.
-/
namespace Go.Proofs.YtipocmbplcdmjaaGreatDoor

section
variable {s : MS} {K : List Int} {r : Int × MS}

end

end Go.Proofs.YtipocmbplcdmjaaGreatDoor
