/-
  Texts of this proof, one behind the other: SameM, SiftM, SweepN, Ref2.
-/
import Derived.Test.YtipocmbplcdmjaaDoorG18
import Derived.Test.YtipocmbplcdmjaaDoorG17
import Derived.Test.YtipocmbplcdmjaaDoorG16
import Derived.Test.YtipocmbplcdmjaaDoorG2
import Derived.Test.YtipocmbplcdmjaaDoorG11
import Derived.Test.YtipocmbplcdmjaaDoorG15
/-
  Mathematics of the own laws of layers 9 to 11: where there is room enough, each call makes its number. Nothing of the program is read here.
-/
namespace Go.Proofs.YtipocmbplcdmjaaDoor

/-- All nodes are those of the functions L by order; for each of these there is room for 77. -/
structure MS.Fits (s : MS) (L : List Fn) (o : Nat → Int) (most : Nat) : Prop where
  ok : s.Ok
  may : mayO o = true
  ord : s.o = o
  cap : s.ar.most = most
  nodes : ∀ n, s.has n = true → IsNode L o (s.tab n)

section
variable {s : MS} {L : List Fn} {o : Nat → Int} {most : Nat}

theorem size_77s (o : Nat → Int) (ho : mayO o = true) : ∀ L : List Fn, sizeF L o ≤ 77 * L.length
  | [] => by
    obtain ⟨a, _, hma, hla⟩ := sizeF_is [] o
    rw [← hla]
    have : a = [] := by
      cases a with
      | nil => rfl
      | cons x t =>
        have h := ((hma x).1 (by simp)).1
        exact absurd h (fun h => by
          have key : ∀ g, Reach [] o g → False := fun g hg => by induction hg <;> simp_all
          exact key _ h)
    rw [this]; simp
  | f :: L => by
    have h := size_add [f] L o
    have h1 := size_77 f o (full_of ho)
    have h2 := size_77s o ho L
    have e : ([f] ++ L : List Fn) = f :: L := rfl
    rw [e] at h
    simp only [List.length_cons]
    omega

theorem MS.Fits.empty {most : Nat} (h : most ≤ 20000) {o : Nat → Int} (ho : mayO o = true) : (MS.empty most o).Fits [] o most := ⟨MS.empty_ok most h ho, ho, rfl, rfl, fun n h => by rw [MS.empty_has] at h; cases h⟩

/-- One more. -/
theorem MS.Fits.bld (h : s.Fits L o most) (f : Fn) (hs : 77 * (L.length + 1) ≤ most) : ∃ n t, MS.bld 8 s f = (n, 0, t) ∧ t.Fits (f :: L) o most ∧ MS.Ext s t ∧ t.there n = true ∧ t.tab n = f := by
  have mono : ∀ k, IsNode L o k → IsNode (f :: L) o k := fun k hk => ⟨hk.1.mono (fun x hx => by simp [hx]), hk.2⟩
  have mono2 : ∀ k, IsNode [f] o k → IsNode (f :: L) o k := fun k hk => ⟨hk.1.mono (fun x hx => by simp only [List.mem_singleton] at hx; simp [hx]), hk.2⟩
  obtain ⟨h1, h2, h3, h4, h5⟩ := MS.bld_spec 8 s f h.ok (supN_8 f)
  have h0 := MS.bld_room 8 s f (f :: L) h.ok (supN_8 f) (fun n hn => by rw [h.ord]; exact mono _ (h.nodes n hn)) (Reach.base (by simp)) (by
    rw [h.ord, h.cap]; exact Nat.le_trans (size_77s o h.may _) (by simpa using hs))
  obtain ⟨t, e⟩ := h4 h0
  refine ⟨(MS.bld 8 s f).1, (MS.bld 8 s f).2.2, ?_, ⟨h1, h.may, h2.o.trans h.ord, h2.most.trans h.cap, fun n hn => ?_⟩, h2, t, e⟩
  · rw [← h0]
  · rcases h5 n hn with hm | hm
    · rw [h2.tab h.ok h1 (by simp [MS.there, hm])]; exact mono _ (h.nodes n hm)
    · rw [h.ord] at hm; exact mono2 _ hm

end

end Go.Proofs.YtipocmbplcdmjaaDoor

/-
  Mathematics of layer 13: a variable moved to where the fewest nodes are. Nothing of the program is read here.
-/
namespace Go.Proofs.YtipocmbplcdmjaaDoor

section
variable {s : MS} {roots : List Int} {v grow : Int}

end

end Go.Proofs.YtipocmbplcdmjaaDoor

/-
  Mathematics of layers 12 and 13: how many nodes are left; where a variable comes to. Nothing of the program is read here.
-/
namespace Go.Proofs.YtipocmbplcdmjaaDoor

section
variable {s t : MS} {roots : List Int}

end

section
variable {s t : MS} {roots : List Int} {v : Nat} {P : Nat → Nat → Int}

end

end Go.Proofs.YtipocmbplcdmjaaDoor

/-
  Walks of the document's row, Cof, Depends, Support, Count.
-/
namespace Go.Proofs.YtipocmbplcdmjaaDoor
open Go Go.RowKit

theorem ret_int {k : IntKind} {a b : Int} (h : a = b) : Ending.returned (.int k a) = .returned (.int k b) := by rw [h]

set_option maxRecDepth 100000 in
set_option maxHeartbeats 400000 in
theorem refRow (x m : Nat) (b : Bool) (w : World) (hx : x < 256) (hm : m < 8) :
    Calls Tryd.prog 68 #[.int .i64 x, .int .i64 m, .bool b] w fun e w' => e = .returned (.int .i64 (rowF x m b)) ∧ w = w' := by
  go_enter Tryd.func68, Tryd.ntmps68
  go_wp2
  go_loop [7, 8] (fun p i => ∃ j : Nat, j ≤ m ∧ i = .int .i64 j ∧ p = .int .i64 ((2 ^ j : Nat) : Int)) (fun _ i => m - (intOf i).toNat)
  case atStart => exact ⟨0, Nat.zero_le _, rfl, rfl⟩
  case round =>
    obtain ⟨j, hj, rfl, rfl⟩ := hrel
    have hp := pow8 (show j < 8 by omega)
    have Hn : Hid (2 ^ (j + 1) = 2 * 2 ^ j) := by show _ = _; rw [Nat.pow_succ, Nat.mul_comm]
    by_cases hlt : j < m
    · generalize 2 ^ j = y at *
      have hy : 1 ≤ y ∧ y ≤ 128 := by omega
      clear hp
      go_wp2
      go_round
      case rel => exact ⟨j + 1, by omega, by go_num, by rw [Hn.out]; go_num⟩
      case measure => simp [intOf]; omega
    · obtain rfl : j = m := by omega
      have Hr := Lib.hid (show rowF x j b = (if x / 2 ^ j % 2 = 1 then x - 2 ^ j else x) + (if b then 2 ^ j else 0) from rfl)
      clear Hn
      generalize 2 ^ j = y at *
      rcases hp with rfl | rfl | rfl | rfl | rfl | rfl | rfl | rfl
      all_goals
        cases b <;> go_wp2 <;> go_ret <;> (rename_i hbit _; (first | rw [beq_iff_eq] at hbit | rw [beq_eq_false_iff_ne] at hbit); refine ⟨ret_int ?_, rfl⟩; rw [Hr.out]; simp only [if_true, if_false, Bool.false_eq_true]; split <;> omega)

/-- At the loop's head of Cof: what came in, the result's variable, the one that is filled. -/
def Coffing (w : World) (f o : Fn) (wr : World) : Prop :=
  Holds wr w.heap.size f ∧ Holds wr (w.heap.size + 1) 0#256 ∧ Holds wr (w.heap.size + 1 + 1) o ∧ Below w.heap.size w wr

set_option maxRecDepth 100000 in
set_option maxHeartbeats 1000000 in
theorem refCof (f : Fn) (v : Int) (b : Bool) (w : World) :
    Calls Tryd.prog 53 #[fv f, .int .i64 v, .bool b] w fun e w' => e = .returned (fv (cofAny f v b)) ∧ Below w.heap.size w w' := by
  by_cases hv : 0 ≤ v ∧ v < 8
  · obtain ⟨m, rfl⟩ := Int.eq_ofNat_of_zero_le hv.1
    have hm : m < 8 := by omega
    have hm0 : (0 : Int) ≤ (m : Int) := by omega
    have hm7 : (m : Int) ≤ 7 := by omega
    have e : cofAny f (m : Int) b = ofRow (fun x => f.getLsbD (rowF x m b)) := by rw [cofAny, if_pos hv, Int.toNat_natCast]; rfl
    rw [e]
    clear e
    simp only [fv]
    go_enter Tryd.func53, Tryd.ntmps53
    go_wp2
    go_loopw [8] (fun i wr => ∃ n : Nat, n ≤ 256 ∧ i = .int .i64 n ∧ Coffing w f (upTo (fun x => f.getLsbD (rowF x m b)) n) wr) (fun i _ => 256 - (intOf i).toNat)
    case atStart => exact ⟨0, Nat.zero_le _, rfl, by rw [upTo_zero]; exact ⟨((Holds.new _ _ _).alloc _).alloc _, (Holds.new0 _ _).alloc _, Holds.new0 _ _, by go_grown⟩⟩
    case round =>
      obtain ⟨n, hn, rfl, h0, h1, h2, hb⟩ := hrel
      by_cases hlt : n < 256
      · have hr := rowF_lt n m b hlt hm
        have Hf := Lib.hid (upTo_put (fun x => f.getLsbD (rowF x m b)) n (atF f (rowF n m b)) (atF_nat f _ hr))
        generalize upTo (fun x => f.getLsbD (rowF x m b)) n = g at *
        have c0 : ∀ u : Sub wr, u.1.cell? ⟨w.heap.size, 0, none⟩ = some (.int .u64 (wd f 0)) := fun u => (h0.sub u).cells.1
        have c1 : ∀ u : Sub wr, u.1.cell? ⟨w.heap.size, 1, none⟩ = some (.int .u64 (wd f 1)) := fun u => (h0.sub u).cells.2.1
        have c2 : ∀ u : Sub wr, u.1.cell? ⟨w.heap.size, 2, none⟩ = some (.int .u64 (wd f 2)) := fun u => (h0.sub u).cells.2.2.1
        have c3 : ∀ u : Sub wr, u.1.cell? ⟨w.heap.size, 3, none⟩ = some (.int .u64 (wd f 3)) := fun u => (h0.sub u).cells.2.2.2
        have d0 : ∀ u : Sub wr, u.1.cell? ⟨w.heap.size + 1 + 1, 0, none⟩ = some (.int .u64 (wd g 0)) := fun u => (h2.sub u).cells.1
        have d1 : ∀ u : Sub wr, u.1.cell? ⟨w.heap.size + 1 + 1, 1, none⟩ = some (.int .u64 (wd g 1)) := fun u => (h2.sub u).cells.2.1
        have d2 : ∀ u : Sub wr, u.1.cell? ⟨w.heap.size + 1 + 1, 2, none⟩ = some (.int .u64 (wd g 2)) := fun u => (h2.sub u).cells.2.2.1
        have d3 : ∀ u : Sub wr, u.1.cell? ⟨w.heap.size + 1 + 1, 3, none⟩ = some (.int .u64 (wd g 3)) := fun u => (h2.sub u).cells.2.2.2
        go_wp2
        refine wp_region_quiet_tail (C := fun w' => ∃ u : Sub wr, w' = u.1) 9 (by kernel_rfl) (by kernel_rfl) (InSub.drew wr) ?_
        simp only [List.take_succ_cons, List.take_zero, List.drop_succ_cons, List.drop_zero]
        iterate 6 (go_big_quiet_step (fail))
        go_big_quiet_step (exact sub_same (refRow n m b _ hlt hm))
        go_big_quiet_step (exact sub_below (refAt f _ _))
        go_big_quiet_step (exact sub_below (refPut g n _ _ hlt))
        refine wpQuiet_nil ?_
        rw [Hf.out]
        clear c0 c1 c2 c3 d0 d1 d2 d3
        intro w' hw'
        obtain ⟨u, rfl⟩ := hw'
        have k0 := h0.sub u
        have k1 := h1.sub u
        have k2 := h2.sub u
        have hb1 := u.2
        generalize u.1 = w1 at *
        obtain ⟨c0, c1, c2, c3⟩ := k2.cells
        obtain ⟨z0, z1, z2, z3⟩ := k2.free
        simp only [fv]
        go_wp2
        exact ⟨⟨n + 1, by omega, by go_num, k0.other4 (by omega), k1.other4 (by omega), k2.set4 _, below_set4 (hb.trans (hb1.mono hb.size)) (by omega)⟩, by simp [intOf]; omega⟩
      · obtain rfl : n = 256 := by omega
        rw [upTo_all] at h2
        generalize hg : ofRow (fun x => f.getLsbD (rowF x m b)) = g at *
        have Hg := Lib.hid hg
        clear hg
        obtain ⟨c0, c1, c2, c3⟩ := h2.cells
        obtain ⟨d0, d1, d2, d3⟩ := h1.cells
        obtain ⟨z0, z1, z2, z3⟩ := h1.free
        go_wp2
        exact bodyPost_ret (ret_holds Tryd.results53 rfl (h1.set4 g)) rfl ⟨by rw [Hg.out]; rfl, below_set4 hb (by omega)⟩
  · have e : cofAny f v b = f := by rw [cofAny, if_neg hv]
    rw [e]
    clear e
    simp only [fv]
    go_enter Tryd.func53, Tryd.ntmps53
    go_wp2
    all_goals exact bodyPost_ret (v := .agg #[.int .u64 (wd f 0), .int .u64 (wd f 1), .int .u64 (wd f 2), .int .u64 (wd f 3)]) (by simp [results, Tryd.results53, go_sem]) rfl ⟨rfl, by go_grown⟩

end Go.Proofs.YtipocmbplcdmjaaDoor
