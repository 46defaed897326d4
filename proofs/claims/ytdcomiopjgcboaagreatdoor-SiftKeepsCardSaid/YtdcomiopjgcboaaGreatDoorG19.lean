/-
  Texts of this proof, one behind the other: SiftT, CanonM, CanonC, SameM, EncF, RefNodes.
-/
import Derived.Test.YtdcomiopjgcboaaGreatDoorG16
import Derived.Test.YtdcomiopjgcboaaGreatDoorG18
import Derived.Test.YtdcomiopjgcboaaGreatDoorG14
import Derived.Test.YtdcomiopjgcboaaGreatDoorG15
import Derived.Test.YtdcomiopjgcboaaGreatDoorG13
import Derived.OwnWalk
import Derived.Test.YtdcomiopjgcboaaGreatDoorG17
import Derived.Test.YtdcomiopjgcboaaGreatDoorG2
import Derived.Test.YtdcomiopjgcboaaGreatDoorG3
import Derived.Test.YtdcomiopjgcboaaGreatDoorG11
import Derived.Carry
/-
  SiftTells over contracts.
-/
namespace Go.Proofs.YtdcomiopjgcboaaGreatDoor
open Go Go.RowKit

theorem MS.sift_err (s : MS) (roots : List Int) (v grow : Int) : 0 ≤ (s.sift roots v grow).1 ∧ (s.sift roots v grow).1 ≤ 8 := by
  unfold MS.sift
  split <;> (refine ⟨?_, ?_⟩ <;> dsimp only <;> omega)
theorem MS.siftAll_err (s : MS) (roots : List Int) (grow : Int) : 0 ≤ (s.siftAll roots grow).1 ∧ (s.siftAll roots grow).1 ≤ 8 := by
  unfold MS.siftAll
  split <;> (refine ⟨?_, ?_⟩ <;> dsimp only <;> omega)

set_option maxRecDepth 100000 in
set_option maxHeartbeats 8000000 in
theorem siftTells' {StAt : World → Nat → (Nat → Prop) → MS → Prop} (H : StoreC StAt) (R : ReadC StAt) (C : SiftC StAt)
    (most : Int) (k : List Fn) (sw roots : List Int) (x grow : Int) (all : Bool) (vk vs vr : Value) (w : World) (hL : LowW w) (hk : SliceF w vk k) (hs : Reads encI w vs sw) (hsw : ∀ a ∈ sw, (Lit.int .i64 a).wf = true) (hr : Reads encI w vr roots) (hrw : ∀ a ∈ roots, (Lit.int .i64 a).wf = true) :
    Calls Tryz.prog 3 #[.int .i64 most, vk, vs, vr, .int .i64 x, .int .i64 grow, .bool all] w fun e w' => e = .returned (.bool true) ∧ Below w.heap.size w w' := by
  obtain ⟨ar, cr, rfl⟩ := hr.form
  go_enter Tryz.func3, Tryz.ntmps3
  go_wp2_with fail
  refine (up13 H C _).mono ?_
  rintro e w1 ⟨rfl, hb1⟩
  have HB := lawBuilt H R most k sw vk vs w1 (hL.keep hb1) (hk.keep hb1 (Nat.le_refl _)) (hs.keep hb1) hsw
  go_wp2_with fail
  refine HB.mono ?_
  clear HB hk hs hsw hL
  rintro e w2 (⟨rfl, hb2⟩ | ⟨bA, bM, FA, FM, s, rfl, ok, P⟩)
  · go_wp2
    go_ret
    exact ⟨rfl, hb1.trans (hb2.mono hb1.size)⟩
  by_cases hl20 : roots.length ≤ 20
  · have hl3 : ¬ 20 < (roots.length : Int) := by omega
    have hp1 := ok.toBase.picks_le (l := roots) (fun n hn => le_of_wf (hrw n hn))
    have hp2 := ok.toBase.picks_ge (l := roots) (fun n hn => ge_of_wf (hrw n hn))
    have hpl := MS.picks_length s roots
    have HN := lawNodes P.m ok.toBase roots _ (hr.keep (hb1.trans (P.below.mono hb1.size))) (by omega) hrw
    have hrp : ∀ r ∈ s.picks roots, r ≤ 9223372036854775807 ∧ -9223372036854775808 ≤ r := fun r hr => ⟨hp1 r hr, hp2 r hr⟩
    have hpl2 : (s.picks roots).length ≤ 100000 := by omega
    generalize s.picks roots = pk at *
    have hltA := H.lt P.a
    have hltM := P.m.lt
    replace P := Lib.hid P
    clear hr
    go_wp2_with fail
    refine HN.mono ?_
    rintro e w3 ⟨vs, rfl, RS⟩
    clear HN
    have P3 := P.out.keep H RS.below
    have hnA : ∀ g, vs.ownBlock = Option.some g → ¬ FA g := fun g hg hf => by have := RS.new g hg; have := hltA g hf; omega
    have hnM : ∀ g, vs.ownBlock = Option.some g → ¬ FM g := fun g hg hf => by have := RS.new g hg; have := hltM g hf; omega
    clear P
    cases all
    · -- one variable
      have hC := C.sift P3.a ok pk vs (RootsAt.of_owns RS.own hnA) hpl2 hrp x grow
      have hD := fun W (hV : RefSAt W bM FM s) (hrd : RootsAt W FM vs pk) => refSSift hV ok pk vs hrd hpl2 hp1 x grow
      have hE := s.sift_err pk x grow
      generalize s.sift pk x grow = z at *
      obtain ⟨z1, S⟩ := z
      dsimp only at *
      have HC := fun V => lawCode z1 V hE.1 hE.2
      replace P3 := Lib.hid P3
      go_wp2_with fail
      refine hC.mono ?_
      rintro e w4 ⟨rfl, FA4, hA4, hK4, hW4⟩
      have P4 := P3.out.code H hA4 hK4 hW4
      have hrd := RootsAt.of_owns (F := FM) (RS.own.keep hK4 hnA) hnM
      replace P4 := Lib.hid P4
      clear hC hA4 hK4 hW4 P3
      go_wp2_with fail
      refine (HC _).mono ?_
      rintro e w5 ⟨rfl, rfl⟩
      go_wp2_with fail
      refine (hD _ P4.out.m hrd).mono ?_
      rintro e w6 ⟨rfl, okS, FM6, hM6, hK6, hW6⟩
      have P6 := P4.out.ref H hM6 hK6 hW6
      clear hD hM6 hK6 hW6 P4 hrd
      have hSm := lawSame H P6 okS
      replace P6 := Lib.hid P6
      go_wp2_with fail
      refine hSm.mono ?_
      rintro e w7 ⟨rfl, hb7⟩
      have P7 := P6.out.keep H hb7
      go_wp2
      go_ret
      exact ⟨rfl, hb1.trans (P7.below.mono hb1.size)⟩
    · -- all of them
      have hC := C.all P3.a ok pk vs (RootsAt.of_owns RS.own hnA) hpl2 hrp grow
      have hD := fun W (hV : RefSAt W bM FM s) (hrd : RootsAt W FM vs pk) => refSSiftAll hV ok pk vs hrd hpl2 hp1 grow
      have hE := s.siftAll_err pk grow
      generalize s.siftAll pk grow = z at *
      obtain ⟨z1, S⟩ := z
      dsimp only at *
      have HC := fun V => lawCode z1 V hE.1 hE.2
      replace P3 := Lib.hid P3
      go_wp2_with fail
      refine hC.mono ?_
      rintro e w4 ⟨rfl, FA4, hA4, hK4, hW4⟩
      have P4 := P3.out.code H hA4 hK4 hW4
      have hrd := RootsAt.of_owns (F := FM) (RS.own.keep hK4 hnA) hnM
      replace P4 := Lib.hid P4
      clear hC hA4 hK4 hW4 P3
      go_wp2_with fail
      refine (HC _).mono ?_
      rintro e w5 ⟨rfl, rfl⟩
      go_wp2_with fail
      refine (hD _ P4.out.m hrd).mono ?_
      rintro e w6 ⟨rfl, okS, FM6, hM6, hK6, hW6⟩
      have P6 := P4.out.ref H hM6 hK6 hW6
      clear hD hM6 hK6 hW6 P4 hrd
      have hSm := lawSame H P6 okS
      replace P6 := Lib.hid P6
      go_wp2_with fail
      refine hSm.mono ?_
      rintro e w7 ⟨rfl, hb7⟩
      have P7 := P6.out.keep H hb7
      go_wp2
      go_ret
      exact ⟨rfl, hb1.trans (P7.below.mono hb1.size)⟩
  · have hl3 : 20 < (roots.length : Int) := by omega
    go_wp2
    go_ret
    exact ⟨rfl, hb1.trans (P.below.mono hb1.size)⟩

end Go.Proofs.YtdcomiopjgcboaaGreatDoor

/-
  Mathematics of layer 14: a store made anew. Nothing of the program is read here.
-/
namespace Go.Proofs.YtdcomiopjgcboaaGreatDoor

/-- One root more is built: the error's number, the numbers, the new store. -/
def MS.can1 (s : MS) (x : Int × List Int × MS) (r : Int) : Int × List Int × MS :=
  if x.1 ≠ 0 then x
  else if (MS.bld 8 x.2.2 (s.tab r)).2.1 ≠ 0 then ((MS.bld 8 x.2.2 (s.tab r)).2.1, [], (MS.bld 8 x.2.2 (s.tab r)).2.2)
  else (0, x.2.1 ++ [(MS.bld 8 x.2.2 (s.tab r)).1], (MS.bld 8 x.2.2 (s.tab r)).2.2)
/-- All of them, one behind the other. -/
def MS.canAll (s : MS) (most : Nat) (roots : List Int) : Int × List Int × MS := roots.foldl (MS.can1 s) (0, [], MS.none most)
/-- What Canon comes to. -/
def MS.canon (s : MS) (most : Int) (roots : List Int) : Int × List Int × MS :=
  if most < 0 ∨ 20000 < most ∨ ∃ r ∈ roots, s.there r = false then (1, [], s) else s.canAll most.toNat roots

section
variable {s : MS}
theorem MS.can1_bad (s : MS) {x : Int × List Int × MS} (h : x.1 ≠ 0) (r : Int) : MS.can1 s x r = x := if_pos h
theorem MS.can1_good (s : MS) {x : Int × List Int × MS} (h : x.1 = 0) {r : Int} (h2 : (MS.bld 8 x.2.2 (s.tab r)).2.1 = 0) : (MS.can1 s x r).1 = 0 := by
  unfold MS.can1
  rw [if_neg (by simpa using h), if_neg (by simpa using h2)]
theorem MS.can_bad (s : MS) {x : Int × List Int × MS} (h : x.1 ≠ 0) : ∀ l : List Int, l.foldl (MS.can1 s) x = x
  | [] => rfl
  | r :: l => by rw [List.foldl_cons, MS.can1_bad s h, MS.can_bad s h l]
theorem MS.can_take (s : MS) (x : Int × List Int × MS) (l : List Int) (k : Nat) (h : k < l.length) : (l.take (k + 1)).foldl (MS.can1 s) x = MS.can1 s ((l.take k).foldl (MS.can1 s) x) l[k] := by
  rw [List.take_succ_eq_append_getElem h, List.foldl_append]; rfl

/-- What holds of the new store on the way. -/
structure CanI (s : MS) (most : Nat) (l : List Int) (x : Int × List Int × MS) : Prop where
  ok : x.2.2.Ok
  o : x.2.2.o = (MS.none most).o
  cap : x.2.2.ar.most = (MS.none most).ar.most
  err : x.1 = 0 ∨ x.1 = 2
  bad : x.1 ≠ 0 → x.2.1 = []
  len : x.1 = 0 → x.2.1.length = l.length
  num : x.1 = 0 → ∀ (i : Nat) (h : i < l.length) (h' : i < x.2.1.length), x.2.2.there x.2.1[i] = true ∧ x.2.2.tab x.2.1[i] = s.tab l[i]
  all : ∀ n, x.2.2.has n = true → IsNode (l.map s.tab) (MS.none most).o (x.2.2.tab n)
  mem : x.1 = 0 → ∀ n ∈ x.2.1, x.2.2.there n = true

theorem CanI.start (s : MS) (most : Nat) (h : most ≤ 20000) : CanI s most [] (0, [], MS.none most) where
  ok := MS.none_ok most h
  o := rfl
  cap := rfl
  err := .inl rfl
  bad := fun h => absurd rfl h
  len := fun _ => rfl
  num := fun _ i h => absurd h (Nat.not_lt_zero i)
  all := fun n hn => by simp [MS.has, MS.none] at hn
  mem := fun _ n hn => by cases hn

theorem CanI.step {s : MS} {most : Nat} {l : List Int} {x : Int × List Int × MS} (h : CanI s most l x) (r : Int) : CanI s most (l ++ [r]) (MS.can1 s x r) := by
  have mono : ∀ g, IsNode (l.map s.tab) (MS.none most).o g → IsNode ((l ++ [r]).map s.tab) (MS.none most).o g := fun g hg => ⟨hg.1.mono (fun x hx => by rw [List.map_append]; exact List.mem_append_left _ hx), hg.2⟩
  by_cases hx : x.1 = 0
  · have hs := MS.bld_spec 8 x.2.2 (s.tab r) h.ok (supN_8 _)
    unfold MS.can1
    rw [if_neg (by simpa using hx)]
    generalize MS.bld 8 x.2.2 (s.tab r) = A at *
    obtain ⟨a, e, u⟩ := A
    dsimp only at *
    obtain ⟨s1, s2, s3, s4, s5⟩ := hs
    have hall : ∀ n, u.has n = true → IsNode ((l ++ [r]).map s.tab) (MS.none most).o (u.tab n) := fun n hn => by
      rcases s5 n hn with h1 | h1
      · rw [s2.tab h.ok s1 (by simp [MS.there, h1])]
        exact mono _ (h.all n h1)
      · rw [h.o] at h1
        exact ⟨h1.1.mono (fun x hx => by rw [List.mem_singleton.1 hx]; simp), h1.2⟩
    by_cases he : e = 0
    · subst he
      obtain ⟨t1, t2⟩ := s4 rfl
      rw [if_neg (by simp)]
      refine ⟨s1, s2.o.trans h.o, s2.most.trans h.cap, .inl rfl, fun e => absurd rfl e, fun _ => by simp [h.len hx], fun _ i hi hi' => ?_, hall, fun _ n hn => ?_⟩
      · dsimp only at hi' ⊢
        have hlen := h.len hx
        by_cases hil : i < l.length
        · have hix : i < x.2.1.length := by omega
          obtain ⟨a1, a2⟩ := h.num hx i hil hix
          simp only [List.getElem_append_left hix, List.getElem_append_left hil]
          exact ⟨s2.there a1, (s2.tab h.ok s1 a1).trans a2⟩
        · have hi2 : i = l.length := by simp at hi; omega
          subst hi2
          simp only [List.getElem_append_right (Nat.le_refl _), List.getElem_append_right (show x.2.1.length ≤ l.length by omega), hlen, Nat.sub_self, List.getElem_cons_zero]
          exact ⟨t1, t2⟩
      · rcases List.mem_append.1 hn with hn | hn
        · exact s2.there (h.mem hx n hn)
        · rw [List.mem_singleton.1 hn]; exact t1
    · rw [if_pos he]
      exact ⟨s1, s2.o.trans h.o, s2.most.trans h.cap, s3, fun _ => rfl, fun e => absurd e he, fun e => absurd e he, hall, fun e => absurd e he⟩
  · rw [MS.can1_bad s hx]
    exact ⟨h.ok, h.o, h.cap, h.err, h.bad, fun e => absurd e hx, fun e => absurd e hx, fun n hn => mono _ (h.all n hn), fun e => absurd e hx⟩
theorem CanI.upto (s : MS) {most : Nat} (hm : most ≤ 20000) (l : List Int) : ∀ k, k ≤ l.length → CanI s most (l.take k) ((l.take k).foldl (MS.can1 s) (0, [], MS.none most))
  | 0, _ => by simpa using CanI.start s most hm
  | k + 1, hk => by
    rw [MS.can_take s _ l k hk, List.take_succ_eq_append_getElem hk]
    exact (CanI.upto s hm l k (by omega)).step l[k]
theorem CanI.whole (s : MS) {most : Nat} (hm : most ≤ 20000) (l : List Int) : CanI s most l (s.canAll most l) := by
  have := CanI.upto s hm l l.length (Nat.le_refl _)
  rwa [List.take_length] at this

/-- With room for what all need none is refused. -/
theorem CanI.room (s : MS) {most : Nat} (hm : most ≤ 20000) (l : List Int) (h : sizeF (l.map s.tab) plainO ≤ most) : ∀ k, k ≤ l.length → ((l.take k).foldl (MS.can1 s) (0, [], MS.none most)).1 = 0
  | 0, _ => rfl
  | k + 1, hk => by
    have h0 := CanI.room s hm l h k (by omega)
    have I := CanI.upto s hm l k (by omega)
    rw [MS.can_take s _ l k hk]
    have hs := MS.bld_room 8 _ (s.tab l[k]) (l.map s.tab) I.ok (supN_8 _) (fun n hn => by
      rw [I.o]
      have := I.all n hn
      exact ⟨this.1.mono (fun x hx => by obtain ⟨r, hr, rfl⟩ := List.mem_map.1 hx; exact List.mem_map.2 ⟨r, List.mem_of_mem_take hr, rfl⟩), this.2⟩) (Reach.base (List.mem_map.2 ⟨l[k], List.getElem_mem hk, rfl⟩)) (by rw [I.o, I.cap]; exact h)
    exact MS.can1_good s h0 hs
/-- Where none is refused there are just as many nodes as all need. -/
theorem CanI.size (s : MS) {most : Nat} (hm : most ≤ 20000) (l : List Int) (h : (s.canAll most l).1 = 0) : sizeF (l.map s.tab) plainO = (s.canAll most l).2.2.all.length := by
  have I := CanI.whole s hm l
  have ho : (s.canAll most l).2.2.o = plainO := I.o
  rw [← ho]
  refine I.ok.size_is (fun n hn => by rw [ho]; exact I.all n hn) fun g hg => ?_
  obtain ⟨f, hf, hr⟩ := reach_one hg.1
  obtain ⟨r, hrl, rfl⟩ := List.mem_map.1 hf
  obtain ⟨i, hi, rfl⟩ := List.getElem_of_mem hrl
  have hi' : i < (s.canAll most l).2.1.length := by rw [I.len h]; exact hi
  obtain ⟨a1, a2⟩ := I.num h i hi hi'
  rw [← a2] at hr
  obtain ⟨m, hm1, hm2⟩ := I.ok.reach_there a1 hr
  refine ⟨m, ?_, hm2⟩
  rcases MS.there_cases hm1 with ⟨_, hh⟩ | hh
  · exfalso
    apply hg.2
    rw [← hm2, MS.tab_const hh]
    split
    · exact sup_const.1
    · exact sup_const.2
  · exact hh
/-- With just the room that all need. -/
theorem MS.Ok.canon_small (s : MS) (l : List Int) (hl : sizeF (l.map s.tab) plainO ≤ 20000) (hth : ∀ r ∈ l, s.there r = true) :
    ∃ ns t, s.canon (sizeF (l.map s.tab) plainO) l = (0, ns, t) ∧ CanI s (sizeF (l.map s.tab) plainO) l (0, ns, t) ∧ t.all.length = sizeF (l.map s.tab) plainO ∧ t.room = 0 ∧ t.o = plainO := by
  have h0 : (s.canAll (sizeF (l.map s.tab) plainO) l).1 = 0 := by
    have := CanI.room s hl l (Nat.le_refl _) l.length (Nat.le_refl _)
    rwa [List.take_length] at this
  have I := CanI.whole s hl l
  have hz := CanI.size s hl l h0
  have e : s.canon (sizeF (l.map s.tab) plainO) l = s.canAll (sizeF (l.map s.tab) plainO) l := by
    unfold MS.canon
    rw [if_neg, Int.toNat_natCast]
    rintro (h | h | ⟨r, hr, h⟩)
    · omega
    · omega
    · rw [hth r hr] at h; cases h
  generalize s.canAll (sizeF (l.map s.tab) plainO) l = x at *
  obtain ⟨x0, x1, x2⟩ := x
  dsimp only at h0 hz
  subst h0
  have hc := I.ok.toBase.count
  have hmost := I.cap
  have ho := I.o
  dsimp only at hc hmost ho
  refine ⟨x1, x2, e, I, hz.symm, ?_, ho⟩
  have hmn : (MS.none (sizeF (l.map s.tab) plainO)).ar.most = sizeF (l.map s.tab) plainO := rfl
  unfold MS.room
  rw [hmost, hmn]
  omega
/-- With one less: there is none. -/
theorem MS.Ok.canon_less (s : MS) (l : List Int) (hl : sizeF (l.map s.tab) plainO ≤ 20000) (h1 : 1 ≤ sizeF (l.map s.tab) plainO) (hth : ∀ r ∈ l, s.there r = true) : (s.canon ((sizeF (l.map s.tab) plainO : Int) - 1) l).1 = 2 := by
  have e : s.canon ((sizeF (l.map s.tab) plainO : Int) - 1) l = s.canAll (sizeF (l.map s.tab) plainO - 1) l := by
    unfold MS.canon
    rw [if_neg, show ((sizeF (l.map s.tab) plainO : Int) - 1).toNat = sizeF (l.map s.tab) plainO - 1 by omega]
    rintro (h | h | ⟨r, hr, h⟩)
    · omega
    · omega
    · rw [hth r hr] at h; cases h
  rw [e]
  have hm : sizeF (l.map s.tab) plainO - 1 ≤ 20000 := by omega
  have I := CanI.whole s hm l
  rcases I.err with h0 | h0
  · exfalso
    have hz := CanI.size s hm l h0
    have hc := I.ok.toBase.count
    have hle := I.ok.toBase.ar.len
    have hle2 := I.ok.toBase.ar.nextLe
    have hmost := I.cap
    have hmn : (MS.none (sizeF (l.map s.tab) plainO - 1)).ar.most = sizeF (l.map s.tab) plainO - 1 := rfl
    omega
  · exact h0
end

end Go.Proofs.YtdcomiopjgcboaaGreatDoor

/-
  What is asked of the code's package canon; the document's example.
-/
namespace Go.Proofs.YtdcomiopjgcboaaGreatDoor
open Go Go.RowKit

/-- What Canon comes to: a new store and a new list, or an error and nothing. -/
def CanonPost (StAt : World → Nat → (Nat → Prop) → MS → Prop) (w : World) (r : Int × List Int × MS) (e : Ending) (w' : World) : Prop :=
  (r.1 = 0 ∧ ∃ b F v, e = .returned (.tuple #[.pointer (some ⟨b, 0, none⟩), v, .nilIface]) ∧ StAt w' b F r.2.2 ∧ (∀ k, F k → w.heap.size ≤ k) ∧ Owns encI w' v r.2.1 ∧ (∀ g, v.ownBlock = some g → w.heap.size ≤ g ∧ ¬ F g) ∧ Below w.heap.size w w') ∨
  (r.1 ≠ 0 ∧ ∃ a c, e = .returned (.tuple #[.pointer none, .slice a 0 c, errV r.1]) ∧ Below w.heap.size w w')

/-- Each call of package canon. -/
structure CanonC (StAt : World → Nat → (Nat → Prop) → MS → Prop) : Prop where ofAll ::

theorem up14_a : (MS.none 3).canon 5 [0, 1] = (0, [0, 1], MS.none 5) := by
  unfold MS.canon
  rw [if_neg (by decide)]
  kernel_rfl
theorem up14_b : (MS.none 3).canon 5 [2] = (1, [], MS.none 3) := by
  unfold MS.canon
  rw [if_pos (by decide)]


end Go.Proofs.YtdcomiopjgcboaaGreatDoor

/-
  Mathematics of the own laws of layers 9 to 11: where there is room enough, each call makes its number. Nothing of the program is read here.
-/
namespace Go.Proofs.YtdcomiopjgcboaaGreatDoor

/-- All nodes are those of the functions L by order; for each of these there is room for 77. -/
structure MS.Fits (s : MS) (L : List Fn) (o : Nat → Int) (most : Nat) : Prop where
  ok : s.Ok
  may : mayO o = true
  ord : s.o = o
  cap : s.ar.most = most
  nodes : ∀ n, s.has n = true → IsNode L o (s.tab n)

section
variable {s : MS} {L : List Fn} {o : Nat → Int} {most : Nat}

theorem size_77s (o : Nat → Int) (ho : mayO o = true) : ∀ L : List Fn, sizeF L o ≤ 77 * L.length
  | [] => by
    obtain ⟨a, _, hma, hla⟩ := sizeF_is [] o
    rw [← hla]
    have : a = [] := by
      cases a with
      | nil => rfl
      | cons x t =>
        have h := ((hma x).1 (by simp)).1
        exact absurd h (fun h => by
          have key : ∀ g, Reach [] o g → False := fun g hg => by induction hg <;> simp_all
          exact key _ h)
    rw [this]; simp
  | f :: L => by
    have h := size_add [f] L o
    have h1 := size_77 f o (full_of ho)
    have h2 := size_77s o ho L
    have e : ([f] ++ L : List Fn) = f :: L := rfl
    rw [e] at h
    simp only [List.length_cons]
    omega

theorem MS.Fits.none (most : Nat) (h : most ≤ 20000) : (MS.none most).Fits [] plainO most :=
  ⟨MS.none_ok most h, plainO_may, rfl, rfl, fun n h => by simp [MS.has, MS.none] at h⟩

theorem MS.Fits.empty {most : Nat} (h : most ≤ 20000) {o : Nat → Int} (ho : mayO o = true) : (MS.empty most o).Fits [] o most := ⟨MS.empty_ok most h ho, ho, rfl, rfl, fun n h => by rw [MS.empty_has] at h; cases h⟩

/-- One more. -/
theorem MS.Fits.bld (h : s.Fits L o most) (f : Fn) (hs : 77 * (L.length + 1) ≤ most) : ∃ n t, MS.bld 8 s f = (n, 0, t) ∧ t.Fits (f :: L) o most ∧ MS.Ext s t ∧ t.there n = true ∧ t.tab n = f := by
  have mono : ∀ k, IsNode L o k → IsNode (f :: L) o k := fun k hk => ⟨hk.1.mono (fun x hx => by simp [hx]), hk.2⟩
  have mono2 : ∀ k, IsNode [f] o k → IsNode (f :: L) o k := fun k hk => ⟨hk.1.mono (fun x hx => by simp only [List.mem_singleton] at hx; simp [hx]), hk.2⟩
  obtain ⟨h1, h2, h3, h4, h5⟩ := MS.bld_spec 8 s f h.ok (supN_8 f)
  have h0 := MS.bld_room 8 s f (f :: L) h.ok (supN_8 f) (fun n hn => by rw [h.ord]; exact mono _ (h.nodes n hn)) (Reach.base (by simp)) (by
    rw [h.ord, h.cap]; exact Nat.le_trans (size_77s o h.may _) (by simpa using hs))
  obtain ⟨t, e⟩ := h4 h0
  refine ⟨(MS.bld 8 s f).1, (MS.bld 8 s f).2.2, ?_, ⟨h1, h.may, h2.o.trans h.ord, h2.most.trans h.cap, fun n hn => ?_⟩, h2, t, e⟩
  · rw [← h0]
  · rcases h5 n hn with hm | hm
    · rw [h2.tab h.ok h1 (by simp [MS.there, hm])]; exact mono _ (h.nodes n hm)
    · rw [h.ord] at hm; exact mono2 _ hm
/-- If, then, else of numbers that are there. -/
theorem MS.Fits.ite (h : s.Fits L o most) {f g k : Int} (hf : s.there f = true) (hg : s.there g = true) (hk : s.there k = true) (hs : 77 * (L.length + 1) ≤ most) :
    ∃ n t, s.ite f g k = (n, 0, t) ∧ t.Fits (iteF (s.tab f) (s.tab g) (s.tab k) :: L) o most ∧ MS.Ext s t ∧ t.there n = true ∧ t.tab n = iteF (s.tab f) (s.tab g) (s.tab k) := by
  obtain ⟨n, t, e, q⟩ := h.bld (iteF (s.tab f) (s.tab g) (s.tab k)) hs
  exact ⟨n, t, by unfold MS.ite; rw [if_pos ⟨hf, hg, hk⟩]; exact e, q⟩
/-- A number is asked for that is there. -/
theorem MS.Ok.ite_same (h : s.Ok) {f g k n : Int} (hf : s.there f = true) (hg : s.there g = true) (hk : s.there k = true) (hn : s.there n = true) (e : s.tab n = iteF (s.tab f) (s.tab g) (s.tab k)) : s.ite f g k = (n, 0, s) := by
  unfold MS.ite
  rw [if_pos ⟨hf, hg, hk⟩]
  exact MS.bld_same 8 s _ n h (supN_8 _) hn e
theorem MS.tab_zero (s : MS) : s.there 0 = true ∧ s.tab 0 = 0 := by
  have h := const_tab (f := 0) (by decide +kernel) s
  rw [show constN 0 = 0 by decide +kernel] at h
  exact ⟨h.2.1, h.1⟩
theorem MS.tab_one (s : MS) : s.there 1 = true ∧ s.tab 1 = BitVec.allOnes 256 := by
  have h := const_tab (f := BitVec.allOnes 256) (by decide +kernel) s
  rw [show constN (BitVec.allOnes 256) = 1 by decide +kernel] at h
  exact ⟨h.2.1, h.1⟩
theorem iteF_10 (f : Fn) : iteF f (BitVec.allOnes 256) 0 = f := by
  unfold iteF
  show f &&& BitVec.allOnes 256 ||| ~~~f &&& 0#256 = f
  rw [BitVec.and_allOnes, BitVec.and_zero, BitVec.or_zero]
theorem iteF_same (f g : Fn) : iteF f g g = g := by
  unfold iteF
  apply BitVec.eq_of_getElem_eq
  intro i hi
  simp only [BitVec.getElem_or, BitVec.getElem_and, BitVec.getElem_not]
  cases f[i] <;> simp
/-- A number is there, and is this function. -/
def MS.At (s : MS) (n : Int) (f : Fn) : Prop := s.there n = true ∧ s.tab n = f
theorem MS.At.ext {t : MS} {n : Int} {f : Fn} (h : s.At n f) (e : MS.Ext s t) (ok : s.Ok) (ok' : t.Ok) : t.At n f := ⟨e.there h.1, (e.tab ok ok' h.1).trans h.2⟩
theorem MS.At.i64 {n : Int} {f : Fn} (h : s.At n f) (ok : s.Ok) : n ≤ 9223372036854775807 ∧ -9223372036854775808 ≤ n := ok.toBase.there_i64 h.1
theorem MS.at0 (s : MS) : s.At 0 0#256 := s.tab_zero
theorem MS.at1 (s : MS) : s.At 1 (BitVec.allOnes 256) := s.tab_one
theorem MS.Fits.bldAt (h : s.Fits L o most) (f : Fn) (hs : 77 * (L.length + 1) ≤ most) : ∃ n t, MS.bld 8 s f = (n, 0, t) ∧ t.Fits (f :: L) o most ∧ MS.Ext s t ∧ t.At n f := by
  obtain ⟨n, t, e, q1, q2, q3⟩ := h.bld f hs
  exact ⟨n, t, e, q1, q2, q3⟩
theorem MS.Fits.iteAt (h : s.Fits L o most) {f g k : Int} {x y z : Fn} (hf : s.At f x) (hg : s.At g y) (hk : s.At k z) (hs : 77 * (L.length + 1) ≤ most) (v : Fn) (hv : iteF x y z = v) :
    ∃ n t, s.ite f g k = (n, 0, t) ∧ t.Fits (v :: L) o most ∧ MS.Ext s t ∧ t.At n v := by
  obtain ⟨n, t, e, q1, q2, q3, q4⟩ := h.ite hf.1 hg.1 hk.1 hs
  rw [hf.2, hg.2, hk.2, hv] at q1 q4
  exact ⟨n, t, e, q1, q2, q3, q4⟩
theorem MS.At.same {f g k n : Int} {x y z v : Fn} (hn : s.At n v) (ok : s.Ok) (hf : s.At f x) (hg : s.At g y) (hk : s.At k z) (hv : iteF x y z = v) : s.ite f g k = (n, 0, s) :=
  ok.ite_same hf.1 hg.1 hk.1 hn.1 (by rw [hn.2, hf.2, hg.2, hk.2, hv])
theorem MS.At.xor {t : MS} {f g m n : Int} {x y : Fn} (hf : s.At f x) (hg : s.At g y) (ok : s.Ok) (hm : s.At m (~~~y)) (hv : iteF y 0#256 (BitVec.allOnes 256) = ~~~y) (hn : s.ite f m g = (n, 0, t)) : s.xor f g = (n, 0, t) := by
  unfold MS.xor
  rw [if_pos ⟨hf.1, hg.1⟩, hm.same ok hg s.at0 s.at1 hv]
  exact hn

theorem iteF_not (f : Fn) : iteF f 0#256 (BitVec.allOnes 256) = ~~~f := by
  apply BitVec.eq_of_getElem_eq
  intro i hi
  simp only [iteF, BitVec.getElem_or, BitVec.getElem_and, BitVec.getElem_not, BitVec.getElem_zero, BitVec.getElem_allOnes]
  cases f[i] <;> rfl
theorem iteF_not2 (f : Fn) : iteF (~~~f) 0#256 (BitVec.allOnes 256) = f := by
  apply BitVec.eq_of_getElem_eq
  intro i hi
  simp only [iteF, BitVec.getElem_or, BitVec.getElem_and, BitVec.getElem_not, BitVec.getElem_zero, BitVec.getElem_allOnes]
  cases f[i] <;> rfl
theorem iteF_and (f g : Fn) : iteF f g 0#256 = f &&& g := by
  apply BitVec.eq_of_getElem_eq
  intro i hi
  simp only [iteF, BitVec.getElem_or, BitVec.getElem_and, BitVec.getElem_not, BitVec.getElem_zero]
  cases f[i] <;> cases g[i] <;> rfl
theorem iteF_or (f g : Fn) : iteF f (BitVec.allOnes 256) g = f ||| g := by
  apply BitVec.eq_of_getElem_eq
  intro i hi
  simp only [iteF, BitVec.getElem_or, BitVec.getElem_and, BitVec.getElem_not, BitVec.getElem_allOnes]
  cases f[i] <;> cases g[i] <;> rfl
theorem iteF_xor (f g : Fn) : iteF f (~~~g) g = f ^^^ g := by
  apply BitVec.eq_of_getElem_eq
  intro i hi
  simp only [iteF, BitVec.getElem_or, BitVec.getElem_and, BitVec.getElem_not, BitVec.getElem_xor]
  cases f[i] <;> cases g[i] <;> rfl
theorem iteF_and2 (f g : Fn) : iteF g f 0#256 = f &&& g := by rw [iteF_and, BitVec.and_comm]
theorem iteF_or2 (f g : Fn) : iteF g (BitVec.allOnes 256) f = f ||| g := by rw [iteF_or, BitVec.or_comm]
theorem iteF_xor2 (f g : Fn) : iteF g (~~~f) f = f ^^^ g := by rw [iteF_xor, BitVec.xor_comm]
theorem iteF_nand (f g : Fn) : iteF (~~~f) (BitVec.allOnes 256) (~~~g) = ~~~(f &&& g) := by
  apply BitVec.eq_of_getElem_eq
  intro i hi
  simp only [iteF, BitVec.getElem_or, BitVec.getElem_and, BitVec.getElem_not, BitVec.getElem_allOnes]
  cases f[i] <;> cases g[i] <;> rfl
theorem iteF_self (f : Fn) : iteF f (~~~f) f = 0#256 := by
  apply BitVec.eq_of_getElem_eq
  intro i hi
  simp only [iteF, BitVec.getElem_or, BitVec.getElem_and, BitVec.getElem_not, BitVec.getElem_zero]
  cases f[i] <;> rfl
theorem iteF_in (f g : Fn) : iteF f (f ||| g) 0#256 = f := by
  apply BitVec.eq_of_getElem_eq
  intro i hi
  simp only [iteF, BitVec.getElem_or, BitVec.getElem_and, BitVec.getElem_not, BitVec.getElem_zero]
  cases f[i] <;> cases g[i] <;> rfl
end

/-- A store's exchange of a level that is one: no error, or no room. -/
theorem MS.swap_in (s : MS) {l : Int} (h0 : 0 ≤ l) (h6 : l ≤ 6) : (s.swap l).1 = 0 ∨ (s.swap l).1 = 2 := by
  unfold MS.swap
  split
  · omega
  · dsimp only
    split <;> simp

end Go.Proofs.YtdcomiopjgcboaaGreatDoor

/-
  Functions as elements of slices of somebody's own; a slice of one's own beside a footprint.
-/
namespace Go.Proofs.YtdcomiopjgcboaaGreatDoor
open Go Go.RowKit

/-- Functions. -/
def encFn : Enc Tryz.prog Fn where
  slice := 22
  elem := 46
  size := 4
  bytes := 32
  cells f := [.int .u64 (wd f 0), .int .u64 (wd f 1), .int .u64 (wd f 2), .int .u64 (wd f 3)]
  zero := .agg #[.int .u64 0, .int .u64 0, .int .u64 0, .int .u64 0]
  und := Tryz.underlying22
  info := info_of _ _ _ _ _ (by kernel_rfl)
  zsize := rfl
  pos := by decide
  few := by decide
  len _ := rfl
  one d u h := by
    simp only [List.mem_cons, List.not_mem_nil, or_false] at h
    rcases h with rfl | rfl | rfl | rfl <;> rfl
theorem encFn_all (l : List Fn) : encFn.all l = cellsL l := by
  induction l with
  | nil => rfl
  | cons f l ih =>
    show encFn.cells f ++ encFn.all l = _
    rw [ih]; rfl
theorem Reads.sliceF {w : World} {v : Value} {l : List Fn} (h : Reads encFn w v l) : SliceF w v l := by
  rcases h with h | ⟨ad, cap, rfl, hc⟩
  · exact .inl h
  · exact .inr ⟨ad, cap, rfl, fun j u hj => hc j u (by rw [encFn_all]; exact hj)⟩
theorem appendFn {ops : Array Oper} {rest : List Oper} {o : Oper} {a : Act} {w : World} {Q : Exit → Act → World → Prop} (hgd : o.guard = none) (s x : Operand)
    (ho : o.op = .call { callee := .builtin .append, args := #[s, x], argTypes := #[22, 22] })
    (v y : Value) (l k : List Fn) (hs : a.eval s = v) (hown : Owns encFn w v l) (hx : a.eval x = y) (hsrc : Reads encFn w y k) (hn : l.length + k.length ≤ 1000000)
    (h : ∀ v' w', Owns encFn w' v' (l ++ k) → w.grownBy w' v.ownBlock → (v'.ownBlock = v.ownBlock ∨ v'.ownBlock = some w.heap.size) → wpList Tryz.prog ops Q rest (a.put o.dst v') w') : wpList Tryz.prog ops Q (o :: rest) a w :=
  wpList_append_owns encFn hgd s x ho v y l k hs hown hx hsrc hn h
theorem oneFn (w : World) (f : Fn) (b : Nat) (hb : b = w.heap.size := by rfl) : Reads encFn (w.alloc (.cells #[.int .u64 (wd f 0), .int .u64 (wd f 1), .int .u64 (wd f 2), .int .u64 (wd f 3)] 46)) (.slice (some ⟨b, 0, none⟩) 1 1) [f] := Reads.one encFn w f _ rfl b hb

/-- A slice of one's own, of blocks that are new since w0, outside of a footprint. -/
structure Mine {α : Type} (E : Enc Tryz.prog α) (w0 : World) (F : Nat → Prop) (v : Value) (l : List α) (W : World) : Prop where
  own : Owns E W v l
  low : ∀ g, v.ownBlock = some g → w0.heap.size ≤ g
  out : ∀ g, v.ownBlock = some g → ¬ F g
section
variable {α : Type} {E : Enc Tryz.prog α} {w0 W W' : World} {F F' : Nat → Prop} {v v' u : Value} {l k : List α}
theorem Mine.nil (E : Enc Tryz.prog α) (w0 : World) (F : Nat → Prop) (W : World) : Mine E w0 F (.slice none 0 0) [] W := ⟨Owns.nil _ _, (fun g h => by cases h), (fun g h => by cases h)⟩
theorem Mine.below (h : Mine E w0 F v l W) (hb : Below W.heap.size W W') : Mine E w0 F v l W' := ⟨h.own.keep (Keeps.of_below hb noBlock) (fun _ _ h => h), h.low, h.out⟩
theorem Mine.store (h : Mine E w0 F v l W) (hK : Keeps F W W') (hW : Within W F F') : Mine E w0 F' v l W' :=
  ⟨h.own.keep hK h.out, h.low, fun g hg hF => (hW g hF).elim (h.out g hg) (fun h3 => by have := h.own.lt g hg; omega)⟩
/-- Another one was appended to. -/
theorem Mine.grown (h : Mine E w0 F v l W) (hg : W.grownBy W' u.ownBlock) (ha : ∀ g, v.ownBlock = some g → u.ownBlock ≠ some g) : Mine E w0 F v l W' :=
  ⟨h.own.keep (F := fun q => u.ownBlock = some q) (Keeps.of_grown hg fun _ e => e) (fun g hg => ha g hg), h.low, h.out⟩
/-- It was appended to. -/
theorem Mine.push (h : Mine E w0 F v l W) (hb : w0.heap.size ≤ W.heap.size) (hF : ∀ q, F q → q < W.heap.size) (hown : Owns E W' v' k) (hat : v'.ownBlock = v.ownBlock ∨ v'.ownBlock = some W.heap.size) : Mine E w0 F v' k W' :=
by
  refine ⟨hown, fun g hg => ?_, fun g hg hq => ?_⟩
  · rcases hat with e | e
    · exact h.low g (e ▸ hg)
    · rw [e] at hg; cases hg; exact hb
  · rcases hat with e | e
    · exact h.out g (e ▸ hg) hq
    · rw [e] at hg; cases hg; have := hF _ hq; omega
end

end Go.Proofs.YtdcomiopjgcboaaGreatDoor

/-
  Walk of the document's Nodes and Size.
-/
namespace Go.Proofs.YtdcomiopjgcboaaGreatDoor
open Go Go.RowKit Go.Maps

/-- 1 at those that were looked at. -/
def seenM (l : List Fn) (f : Fn) : Int := if f ∈ l then 1 else 0

/-- At the loop's head of Nodes. -/
structure NRel (w : World) (l : List Fn) (o : Nat → Int) (out work : List Fn) (k : Nat) (vo vw : Value) (wr : World) : Prop where
  inv : NInv l o out work k
  hout : OwnsF wr (w.heap.size + 1 + 1) vo out
  hwork : OwnsF wr (w.heap.size + 1 + 1) vw work
  apart : ∀ g, vo.ownBlock = some g → vw.ownBlock ≠ some g
  ord : HoldsO wr w.heap.size o
  map : IMap encF 3 wr (w.heap.size + 1) k (seenM (work.take k))
  below : Below w.heap.size w wr
  room : w.heap.size + 1 + 1 ≤ wr.heap.size

theorem ownsF_empty (w : World) (b : Nat) (hb : b = w.heap.size := by simp) : OwnsF (w.alloc (.cells #[] 46)) b (.slice (some ⟨b, 0, none⟩) 0 0) [] := by
  subst hb
  exact ⟨rfl, .inr ⟨w.heap.size, 0, #[], rfl, Nat.le_refl _, heap_alloc_new _ _, Nat.le_refl _, by unfold maxLen; omega, rfl, rfl⟩⟩

theorem below_grown {B : Nat} {a w w' : World} {row : Option Nat} (h : Below B a w) (hg : w.grownBy w' row) (hB : B ≤ w.heap.size) (hr : ∀ k, row = some k → B ≤ k) : Below B a w' := h.grown hg hB hr

/-- Within a round of Nodes: what the call's own variables hold. -/
structure NSt (w : World) (o : Nat → Int) (bf : Nat) (f : Fn) (out work : List Fn) (vo vw : Value) (n : Nat) (m : Fn → Int) (W : World) : Prop where
  hf : Holds W bf f
  hout : OwnsF W (w.heap.size + 1 + 1) vo out
  hwork : OwnsF W (w.heap.size + 1 + 1) vw work
  ord : HoldsO W w.heap.size o
  map : IMap encF 3 W (w.heap.size + 1) n m
  below : Below w.heap.size w W
  room : w.heap.size + 1 + 1 ≤ bf
  apart : ∀ g, vo.ownBlock = some g → vw.ownBlock ≠ some g
  farO : vo.ownBlock ≠ some bf
  farW : vw.ownBlock ≠ some bf

theorem NSt.keep {w : World} {o : Nat → Int} {bf : Nat} {f : Fn} {out work : List Fn} {vo vw : Value} {n : Nat} {m : Fn → Int} {W W' : World} (h : NSt w o bf f out work vo vw n m W) (hb : Below W.heap.size W W') : NSt w o bf f out work vo vw n m W' :=
  ⟨h.hf.keep hb h.hf.lt, h.hout.keep hb (Nat.le_refl _), h.hwork.keep hb (Nat.le_refl _), h.ord.keep hb h.ord.lt, h.map.keep hb h.map.lt, h.below.trans (hb.mono h.below.size), h.room, h.apart, h.farO, h.farW⟩

theorem NSt.size {w : World} {o : Nat → Int} {bf : Nat} {f : Fn} {out work : List Fn} {vo vw : Value} {n : Nat} {m : Fn → Int} {W : World} (h : NSt w o bf f out work vo vw n m W) : w.heap.size + 1 + 1 < W.heap.size := by
  have := h.hf.lt; have := h.room; omega

theorem NSt.start {w : World} {l : List Fn} {o : Nat → Int} {out work : List Fn} {k : Nat} {vo vw : Value} {wr : World} (R : NRel w l o out work k vo vw wr) (f : Fn) :
    NSt w o wr.heap.size f out work vo vw k (seenM (work.take k)) (wr.alloc (.cells #[.int .u64 (wd f 0), .int .u64 (wd f 1), .int .u64 (wd f 2), .int .u64 (wd f 3)] 46)) :=
  ⟨Holds.new _ _ _, R.hout.alloc _, R.hwork.alloc _, R.ord.alloc _, R.map.alloc _, R.below.alloc R.below.size _, R.room, R.apart,
    fun e => by have := (R.hout.lt _ e).2; omega, fun e => by have := (R.hwork.lt _ e).2; omega⟩

theorem NSt.put {w : World} {o : Nat → Int} {bf : Nat} {f : Fn} {out work : List Fn} {vo vw : Value} {n : Nat} {m : Fn → Int} {W W' : World} (h : NSt w o bf f out work vo vw n m W) {m' : Fn → Int}
    (hM : IMap encF 3 W' (w.heap.size + 1) (n + 1) m') (hg : W.grownBy W' (some (w.heap.size + 1))) : NSt w o bf f out work vo vw (n + 1) m' W' := by
  have hr := h.room
  refine ⟨?_, h.hout.grown hg (fun g hb e => ?_), h.hwork.grown hg (fun g hb e => ?_), ?_, hM, h.below.grown hg (by have := h.size; omega) (fun j hj => by cases hj; omega), h.room, h.apart, h.farO, h.farW⟩
  · unfold Holds; rw [hg.block bf h.hf.lt (fun e => by cases e; omega)]; exact h.hf
  · cases e; have := (h.hout.lt _ hb).1; omega
  · cases e; have := (h.hwork.lt _ hb).1; omega
  · unfold HoldsO; rw [hg.block _ h.ord.lt (fun e => by injection e with e; omega)]; exact h.ord

theorem NSt.outApp {w : World} {o : Nat → Int} {bf : Nat} {f : Fn} {out work : List Fn} {vo vw : Value} {n : Nat} {m : Fn → Int} {W W' : World} (h : NSt w o bf f out work vo vw n m W) {vo' : Value} {out' : List Fn}
    (hown : OwnsF W' (w.heap.size + 1 + 1) vo' out') (hg : W.grownBy W' vo.ownBlock) (hat : vo'.ownBlock = vo.ownBlock ∨ vo'.ownBlock = some W.heap.size) : NSt w o bf f out' work vo' vw n m W' := by
  have hr := h.room
  have hlow : ∀ j, vo.ownBlock = some j → w.heap.size + 1 + 1 ≤ j := fun j hj => (h.hout.lt j hj).1
  refine ⟨?_, hown, h.hwork.grown hg (fun g hb e => h.apart g e hb), ?_, h.map.grown hg (fun e => by have := hlow _ e.symm; omega), h.below.grown hg (by have := h.size; omega) (fun j hj => by have := hlow j hj; omega), h.room, fun g e1 e2 => ?_, fun e => ?_, h.farW⟩
  · unfold Holds; rw [hg.block bf h.hf.lt (fun e => h.farO e.symm)]; exact h.hf
  · unfold HoldsO; rw [hg.block _ h.ord.lt (fun e => by have := hlow _ e.symm; omega)]; exact h.ord
  · rcases hat with hat | hat
    · rw [hat] at e1; exact h.apart g e1 e2
    · rw [hat] at e1; cases e1; have := (h.hwork.lt _ e2).2; omega
  · rcases hat with hat | hat
    · rw [hat] at e; exact h.farO e
    · rw [hat] at e; cases e; have := h.hf.lt; omega

theorem NSt.workApp {w : World} {o : Nat → Int} {bf : Nat} {f : Fn} {out work : List Fn} {vo vw : Value} {n : Nat} {m : Fn → Int} {W W' : World} (h : NSt w o bf f out work vo vw n m W) {vw' : Value} {work' : List Fn}
    (hown : OwnsF W' (w.heap.size + 1 + 1) vw' work') (hg : W.grownBy W' vw.ownBlock) (hat : vw'.ownBlock = vw.ownBlock ∨ vw'.ownBlock = some W.heap.size) : NSt w o bf f out work' vo vw' n m W' := by
  have hr := h.room
  have hlow : ∀ j, vw.ownBlock = some j → w.heap.size + 1 + 1 ≤ j := fun j hj => (h.hwork.lt j hj).1
  refine ⟨?_, h.hout.grown hg (fun g hb e => h.apart g hb e), hown, ?_, h.map.grown hg (fun e => by have := hlow _ e.symm; omega), h.below.grown hg (by have := h.size; omega) (fun j hj => by have := hlow j hj; omega), h.room, fun g e1 e2 => ?_, h.farO, fun e => ?_⟩
  · unfold Holds; rw [hg.block bf h.hf.lt (fun e => h.farW e.symm)]; exact h.hf
  · unfold HoldsO; rw [hg.block _ h.ord.lt (fun e => by have := hlow _ e.symm; omega)]; exact h.ord
  · rcases hat with hat | hat
    · rw [hat] at e2; exact h.apart g e1 e2
    · rw [hat] at e2; cases e2; have := (h.hout.lt _ e1).2; omega
  · rcases hat with hat | hat
    · rw [hat] at e; exact h.farW e
    · rw [hat] at e; cases e; have := h.hf.lt; omega

theorem NSt.rel {w : World} {l : List Fn} {o : Nat → Int} {bf : Nat} {f : Fn} {out work : List Fn} {vo vw : Value} {n : Nat} {m : Fn → Int} {W : World} (h : NSt w o bf f out work vo vw n m W) (hi : NInv l o out work n) (hm : m = seenM (work.take n)) : NRel w l o out work n vo vw W :=
  ⟨hi, h.hout, h.hwork, h.apart, h.ord, hm ▸ h.map, h.below, by have := h.size; omega⟩

theorem seen_snoc (l : List Fn) (f : Fn) : (fun z => if z = f then 1 else seenM l z) = seenM (l ++ [f]) := by
  funext z
  unfold seenM
  by_cases h : z = f
  · rw [if_pos h, if_pos (List.mem_append_right _ (List.mem_singleton.2 h))]
  · rw [if_neg h]
    by_cases h2 : z ∈ l
    · rw [if_pos h2, if_pos (List.mem_append_left _ h2)]
    · rw [if_neg h2, if_neg (fun e => (List.mem_append.1 e).elim h2 (fun e => h (List.mem_singleton.1 e)))]

theorem slice_two (w : World) (f g : Fn) (b : Nat) (hb : b = w.heap.size := by simp) : SliceF (w.alloc (.cells #[.int .u64 (wd f 0), .int .u64 (wd f 1), .int .u64 (wd f 2), .int .u64 (wd f 3), .int .u64 (wd g 0), .int .u64 (wd g 1), .int .u64 (wd g 2), .int .u64 (wd g 3)] 46)) (.slice (some ⟨b, 0, none⟩) 2 2) [f, g] := by
  subst hb
  refine .inr ⟨⟨w.heap.size, 0, none⟩, 2, rfl, fun j u hj => ?_⟩
  have hj8 : j < 8 := by
    rcases Nat.lt_or_ge j 8 with h | h
    · exact h
    · rw [List.getElem?_eq_none (by simpa [cellsL] using h)] at hj; cases hj
  rw [show (⟨w.heap.size, 0, none⟩ : Addr).add j = ⟨w.heap.size, j, none⟩ by simp [Addr.add]; omega, cell_of_row _ _ _ _ _ _ (heap_alloc_new _ _)]
  rcases (by omega : j = 0 ∨ j = 1 ∨ j = 2 ∨ j = 3 ∨ j = 4 ∨ j = 5 ∨ j = 6 ∨ j = 7) with rfl | rfl | rfl | rfl | rfl | rfl | rfl | rfl <;> simpa [cellsL] using hj

theorem slice_one (w : World) (f : Fn) (b : Nat) (hb : b = w.heap.size := by simp) : SliceF (w.alloc (.cells #[.int .u64 (wd f 0), .int .u64 (wd f 1), .int .u64 (wd f 2), .int .u64 (wd f 3)] 46)) (.slice (some ⟨b, 0, none⟩) 1 1) [f] := by
  subst hb
  refine .inr ⟨⟨w.heap.size, 0, none⟩, 1, rfl, fun j u hj => ?_⟩
  have hj4 : j < 4 := by
    rcases Nat.lt_or_ge j 4 with h | h
    · exact h
    · rw [List.getElem?_eq_none (by simpa [cellsL] using h)] at hj; cases hj
  rw [show (⟨w.heap.size, 0, none⟩ : Addr).add j = ⟨w.heap.size, j, none⟩ by simp [Addr.add]; omega, cell_fv w f _ j hj4]
  rcases (by omega : j = 0 ∨ j = 1 ∨ j = 2 ∨ j = 3) with rfl | rfl | rfl | rfl <;> simpa [cellsL] using hj

set_option maxRecDepth 100000 in
set_option maxHeartbeats 2000000 in
theorem refNodes (l : List Fn) (o : Nat → Int) (v : Value) (w : World) (hv : SliceF w v l) (hl : l.length ≤ 40) :
    Calls Tryz.prog 57 #[v, ov o] w fun e w' => ∃ v' out, e = .returned v' ∧ OwnsF w' (w.heap.size + 1 + 1) v' out ∧ IsSize l o out.length ∧ Below w.heap.size w w' := by
  have hmm := @run_makeMap Tryz.prog
  have hown0 : OwnsF (((w.alloc (.cells #[.int .i64 (o 0), .int .i64 (o 1), .int .i64 (o 2), .int .i64 (o 3), .int .i64 (o 4), .int .i64 (o 5), .int .i64 (o 6), .int .i64 (o 7)] 49)).alloc (.map #[] 0)).alloc (.cells #[] 46)) (w.heap.size + 1 + 1) (.slice (some ⟨w.heap.size + 1 + 1, 0, none⟩) 0 0) [] := ownsF_empty _ _
  have hb0 : Below w.heap.size w (((w.alloc (.cells #[.int .i64 (o 0), .int .i64 (o 1), .int .i64 (o 2), .int .i64 (o 3), .int .i64 (o 4), .int .i64 (o 5), .int .i64 (o 6), .int .i64 (o 7)] 49)).alloc (.map #[] 0)).alloc (.cells #[] 46)) := by go_grown
  have hsl0 : SliceF (((w.alloc (.cells #[.int .i64 (o 0), .int .i64 (o 1), .int .i64 (o 2), .int .i64 (o 3), .int .i64 (o 4), .int .i64 (o 5), .int .i64 (o 6), .int .i64 (o 7)] 49)).alloc (.map #[] 0)).alloc (.cells #[] 46)) v l := hv.keep hb0 (Nat.le_refl _)
  have hord0 : HoldsO (((w.alloc (.cells #[.int .i64 (o 0), .int .i64 (o 1), .int .i64 (o 2), .int .i64 (o 3), .int .i64 (o 4), .int .i64 (o 5), .int .i64 (o 6), .int .i64 (o 7)] 49)).alloc (.map #[] 0)).alloc (.cells #[] 46)) w.heap.size o := ((HoldsO.new _ _ _).alloc _).alloc _
  have hmap0 : IMap encF 3 (((w.alloc (.cells #[.int .i64 (o 0), .int .i64 (o 1), .int .i64 (o 2), .int .i64 (o 3), .int .i64 (o 4), .int .i64 (o 5), .int .i64 (o 6), .int .i64 (o 7)] 49)).alloc (.map #[] 0)).alloc (.cells #[] 46)) (w.heap.size + 1) 0 (fun _ => 0) := by
    have h := IMap.made encF 3 (w.alloc (.cells #[.int .i64 (o 0), .int .i64 (o 1), .int .i64 (o 2), .int .i64 (o 3), .int .i64 (o 4), .int .i64 (o 5), .int .i64 (o 6), .int .i64 (o 7)] 49))
    rw [show (w.alloc (.cells #[.int .i64 (o 0), .int .i64 (o 1), .int .i64 (o 2), .int .i64 (o 3), .int .i64 (o 4), .int .i64 (o 5), .int .i64 (o 6), .int .i64 (o 7)] 49)).heap.size = w.heap.size + 1 by simp] at h
    exact h.alloc _
  have hr0 : w.heap.size + 1 + 1 ≤ (((w.alloc (.cells #[.int .i64 (o 0), .int .i64 (o 1), .int .i64 (o 2), .int .i64 (o 3), .int .i64 (o 4), .int .i64 (o 5), .int .i64 (o 6), .int .i64 (o 7)] 49)).alloc (.map #[] 0)).alloc (.cells #[] 46)).heap.size := by simp
  simp only [ov]
  go_enter Tryz.func57, Tryz.ntmps57
  go_wp2_with (at_builtin; refine appendF rfl (.tmp 12) (.tmp 13) rfl (w.heap.size + 1 + 1) _ v [] l rfl hown0 rfl hsl0 (by simp; omega) hr0 ?_; intro v1 w1 hown1 hgr1 hat1)
  have hrel0 : NRel w l o [] l 0 (.slice none 0 0) v1 w1 := by
    have hbk : ∀ j, (Value.slice (some ⟨w.heap.size + 1 + 1, 0, none⟩) 0 0).ownBlock = some j → w.heap.size + 1 + 1 ≤ j := fun j hj => by cases hj; exact Nat.le_refl _
    have hs1 := hgr1.size
    refine ⟨NInv.start l o, OwnsF.nil _ _, by simpa using hown1, (fun g hg => by cases hg), ?_, ?_, ?_, by omega⟩
    · unfold HoldsO; rw [hgr1.block _ (by omega) (fun e => by have := hbk _ e.symm; omega)]; exact hord0
    · have h := hmap0.grown hgr1 (fun e => by have := hbk _ e.symm; omega)
      have e0 : seenM (l.take 0) = fun _ => 0 := by funext f; simp [seenM]
      rw [e0]; exact h
    · exact hb0.grown hgr1 (by omega) (fun j hj => by have := hbk j hj; omega)
  clear hown0 hb0 hsl0 hord0 hmap0 hr0 hown1 hgr1 hat1 hv hmm
  go_loopw [5, 7, 8] (fun vo vw i wr => ∃ out work k, i = .int .i64 ((k : Nat) : Int) ∧ NRel w l o out work k vo vw wr) (fun _ _ i _ => 511 * l.length - (intOf i).toNat)
  case atStart => exact ⟨[], l, 0, rfl, hrel0⟩
  case round =>
    clear hrel0
    obtain ⟨out, work, k, rfl, R⟩ := hrel
    have hlen := R.inv.len
    have holen := R.inv.out_len
    by_cases hlt : k < work.length
    · obtain ⟨g, cap, cc, rfl, hcap⟩ : ∃ g cap, ∃ c0 : ∀ j, j < 4 → wr.cell? ⟨g, k * 4 + j, none⟩ = some (.int .u64 (wd work[k] j)), u7 = .slice (some ⟨g, 0, none⟩) work.length cap ∧ work.length ≤ cap := by
        obtain ⟨h1, ⟨rfl, h2⟩ | ⟨g, cap, cur, rfl, hr⟩⟩ := R.hwork
        · omega
        · refine ⟨g, cap, fun j hj => ?_, rfl, hr.2.2.1⟩
          rw [World.ownsRow.cellAt (w := wr) (base := w.heap.size + 1 + 1) (e := 46) (size := 4) (n := work.length) (cap := cap) (xs := cellsL work) ⟨h1, .inr ⟨g, cap, cur, rfl, hr⟩⟩ (k * 4 + j) (by omega)]
          exact cellsL_get work k hlt j hj
      have q0 : wr.cell? ⟨g, k * 4, none⟩ = some (.int .u64 (wd work[k] 0)) := cc 0 (by decide)
      have q1 := cc 1 (by decide)
      have q2 := cc 2 (by decide)
      have q3 := cc 3 (by decide)
      clear cc
      have hk0 : (0 : Int) ≤ (k : Int) := by omega
      have hk1 : (k : Int) < (work.length : Int) := by omega
      have hnk : k < 511 * l.length := by omega
      have stepSeen := R.inv.seen hlt
      have stepConst := R.inv.const hlt
      have stepLeaf := R.inv.leaf hlt
      have stepNode := R.inv.node hlt
      have htake := take_one hlt
      generalize work[k] = f at *
      have HS := Lib.hid stepSeen
      have HC := Lib.hid stepConst
      have HL := Lib.hid stepLeaf
      have HN := Lib.hid stepNode
      have HT := Lib.hid htake
      clear stepSeen stepConst stepLeaf stepNode htake
      have hM := R.map.alloc (.cells #[.int .u64 (wd f 0), .int .u64 (wd f 1), .int .u64 (wd f 2), .int .u64 (wd f 3)] 46)
      have hlook : (Instr.lookup 133 (.map (some (w.heap.size + 1))) (.agg #[.int .u64 (wd f 0), .int .u64 (wd f 1), .int .u64 (wd f 2), .int .u64 (wd f 3)]) false).run Tryz.prog (wr.alloc (.cells #[.int .u64 (wd f 0), .int .u64 (wd f 1), .int .u64 (wd f 2), .int .u64 (wd f 3)] 46)) = .ok (.int .i64 (seenM (work.take k) f)) (wr.alloc (.cells #[.int .u64 (wd f 0), .int .u64 (wd f 1), .int .u64 (wd f 2), .int .u64 (wd f 3)] 46)) := hM.look Tryz.underlying133 Tryz.underlying3 (zeroI _) f
      by_cases hin : f ∈ work.take k
      · have e1 : seenM (work.take k) f = 1 := if_pos hin
        rw [e1] at hlook
        clear e1
        go_wp2_with fail
        have e2 : seenM (work.take (k + 1)) = seenM (work.take k) := by
          funext z
          rw [HT.out]
          unfold seenM
          by_cases hz : z ∈ work.take k
          · rw [if_pos (List.mem_append_left _ hz), if_pos hz]
          · rw [if_neg (fun h => (List.mem_append.1 h).elim hz (fun h => hz (by rw [List.mem_singleton.1 h]; exact hin))), if_neg hz]
        exact ⟨⟨out, work, k + 1, by go_num, ⟨HS.out hin, R.hout.alloc _, R.hwork.alloc _, R.apart, R.ord.alloc _, by rw [e2]; exact IMap.le hM, R.below.alloc R.below.size _, by have := R.room; simp; omega⟩⟩, by simp [intOf]; omega⟩
      · have e1 : seenM (work.take k) f = 0 := if_neg hin
        rw [e1] at hlook
        clear e1
        have hkm : k < maxLen := by unfold maxLen; omega
        have S := NSt.start R f
        clear R
        go_wp2_with (at_mapUpdate; refine IMap.put hM Tryz.underlying133 Tryz.underlying3 hkm rfl (.tmp 29) (.tmp 30) (.const (.int .i64 1)) rfl f 1 (by decide) rfl rfl rfl ?_; intro w2 hM2 hgr2; replace S := S.put hM2 hgr2; clear hM2 hgr2 hM hlook q0 q1 q2 q3; obtain ⟨c0, c1, c2, c3⟩ := S.hf.cells)
        clear c0 c1 c2 c3
        refine (refSupport f _).mono ?_
        rintro e w3 ⟨rfl, hb3⟩
        replace S := S.keep hb3
        clear hb3 w2
        have hbf : wr.heap.size < w3.heap.size := S.hf.lt
        by_cases hsup : supF f = 0
        · rw [hsup]
          go_wp2
          exact ⟨⟨out, work, k + 1, by go_num, S.rel (HC.out hsup) (by rw [HT.out]; exact seen_snoc _ _)⟩, by simp [intOf]; omega⟩
        · have hsb : (((supF f : Nat) : Int) == 0) = false := by rw [beq_eq_false_iff_ne]; omega
          obtain ⟨c0, c1, c2, c3⟩ := S.hf.cells
          have hsl := slice_one w3 f w3.heap.size rfl
          have S4 := S.keep ((Below.refl w3.heap.size w3).alloc (Nat.le_refl _) (.cells #[.int .u64 (wd f 0), .int .u64 (wd f 1), .int .u64 (wd f 2), .int .u64 (wd f 3)] 46))
          have hol := HL.out hin hsup
          have hon := HN.out hin hsup
          have hro : out.length + 1 ≤ 1000000 := by omega
          have hrm := S4.size
          go_wp2_with (at_builtin; refine appendF rfl (.tmp 34) (.tmp 36) rfl (w.heap.size + 1 + 1) _ _ out [f] rfl S4.hout rfl hsl hro (Nat.le_of_lt hrm) ?_; intro v5 w5 hown5 hgr5 hat5; replace S4 := S4.outApp hown5 hgr5 hat5; clear hown5 hgr5 hat5 hsl c0 c1 c2 c3 S; obtain ⟨c0, c1, c2, c3⟩ := S4.hf.cells; have o0 := S4.ord.cell 0 (by decide); have o1 := S4.ord.cell 1 (by decide); have o2 := S4.ord.cell 2 (by decide); have o3 := S4.ord.cell 3 (by decide); have o4 := S4.ord.cell 4 (by decide); have o5 := S4.ord.cell 5 (by decide); have o6 := S4.ord.cell 6 (by decide); have o7 := S4.ord.cell 7 (by decide))
          clear c0 c1 c2 c3 o0 o1 o2 o3 o4 o5 o6 o7
          refine (refTop f o _).mono ?_
          rintro e w6 ⟨rfl, hb6⟩
          have S := S4.keep hb6
          clear hb6 S4 hrm hbf
          by_cases htop : 0 ≤ topF f o
          · replace hon := hon htop
            clear hol HL HN HC HS
            generalize topF f o = t at *
            have c0 : ∀ u : Sub w6, u.1.cell? ⟨wr.heap.size, 0, none⟩ = some (.int .u64 (wd f 0)) := fun u => (S.hf.sub u).cells.1
            have c1 : ∀ u : Sub w6, u.1.cell? ⟨wr.heap.size, 1, none⟩ = some (.int .u64 (wd f 1)) := fun u => (S.hf.sub u).cells.2.1
            have c2 : ∀ u : Sub w6, u.1.cell? ⟨wr.heap.size, 2, none⟩ = some (.int .u64 (wd f 2)) := fun u => (S.hf.sub u).cells.2.2.1
            have c3 : ∀ u : Sub w6, u.1.cell? ⟨wr.heap.size, 3, none⟩ = some (.int .u64 (wd f 3)) := fun u => (S.hf.sub u).cells.2.2.2
            go_wp2
            refine wp_region_move_tail (C := fun w' => ∃ u : Sub w6, w' = u.1) 6 (.tmp 7) rfl rfl (by kernel_rfl) (by kernel_rfl) (fun _ _ _ _ h => h) (InSub.drew w6) ?_
            simp only [List.take_succ_cons, List.take_zero, List.drop_succ_cons, List.drop_zero, Act.put, Act.eval, List.setIfInBounds_toArray, List.set_cons_zero, List.set_cons_succ]
            iterate 2 (go_big_quiet_step (fail))
            go_big_quiet_step (exact sub_below (refCof f t false _))
            iterate 2 (go_big_quiet_step (fail))
            go_big_quiet_step (exact sub_below (refCof f t true _))
            refine wpQuiet_nil ?_
            clear c0 c1 c2 c3
            intro w' hw'
            obtain ⟨u, rfl⟩ := hw'
            replace S := S.keep u.2
            generalize u.1 = w7 at *
            clear u w6
            generalize cofAny f t false = p at *
            generalize cofAny f t true = q at *
            have hsl := slice_two w7 p q w7.heap.size rfl
            replace S := S.keep ((Below.refl w7.heap.size w7).alloc (Nat.le_refl _) (.cells #[.int .u64 (wd p 0), .int .u64 (wd p 1), .int .u64 (wd p 2), .int .u64 (wd p 3), .int .u64 (wd q 0), .int .u64 (wd q 1), .int .u64 (wd q 2), .int .u64 (wd q 3)] 46))
            have hrm := S.size
            have hrw : work.length + 2 ≤ 1000000 := by omega
            simp only [fv]
            go_wp2_with (at_builtin; refine appendF rfl (.tmp 43) (.tmp 50) rfl (w.heap.size + 1 + 1) _ _ work [p, q] rfl S.hwork rfl hsl hrw (Nat.le_of_lt hrm) ?_; intro v8 w8 hown8 hgr8 hat8)
            replace S := S.workApp hown8 hgr8 hat8
            exact ⟨⟨out ++ [f], work ++ [p, q], k + 1, by go_num, S.rel hon (by rw [List.take_append_of_le_length (by omega), HT.out]; exact seen_snoc _ _)⟩, by simp [intOf]; omega⟩
          · replace hol := hol (by omega)
            clear hon HL HN HC HS
            go_wp2
            exact ⟨⟨out ++ [f], work, k + 1, by go_num, S.rel hol (by rw [HT.out]; exact seen_snoc _ _)⟩, by simp [intOf]; omega⟩
    · obtain ⟨a, cap, rfl⟩ : ∃ a cap, u7 = .slice a work.length cap := by
        obtain ⟨h1, ⟨rfl, h2⟩ | ⟨g, cap, cur, rfl, hr⟩⟩ := R.hwork
        · exact ⟨none, 0, by rw [h2]⟩
        · exact ⟨_, _, rfl⟩
      go_wp2
      go_ret
      exact ⟨u5, out, rfl, R.hout, R.inv.done hlt, R.below⟩

end Go.Proofs.YtdcomiopjgcboaaGreatDoor
