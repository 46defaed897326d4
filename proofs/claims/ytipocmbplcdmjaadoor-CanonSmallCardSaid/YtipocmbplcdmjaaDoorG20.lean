/-
  Texts of this proof, one behind the other: Ref3, Ref4, RefTop, RefNodes, RefSize, SweepK.
-/
import Derived.Test.YtipocmbplcdmjaaDoorG19
import Derived.Test.YtipocmbplcdmjaaDoorG11
import Derived.Test.YtipocmbplcdmjaaDoorG16
import Derived.Test.YtipocmbplcdmjaaDoorG6
import Derived.Test.YtipocmbplcdmjaaDoorG12
import Derived.Test.YtipocmbplcdmjaaDoorG17
import Derived.Carry
import Derived.Test.YtipocmbplcdmjaaDoorG18
import Derived.Test.YtipocmbplcdmjaaDoorG15
import Derived.Deep.CutRange
import Derived.OwnWalk
/-
  Walks of the document's Depends, Support, Count.
-/
namespace Go.Proofs.YtipocmbplcdmjaaDoor
open Go Go.RowKit

theorem cmp_row (f : Fn) (m n : Nat) (hn : n < 256) (hm : m < 8) (h0 : n / 2 ^ m % 2 = 0) : shows f m n = (atF f n != atF f ((n : Int) + ((2 ^ m : Nat) : Int))) := by
  have h1 : n + 2 ^ m < 256 := by rcases pow8 hm with h | h | h | h | h | h | h | h <;> rw [h] at h0 ⊢ <;> omega
  have e : ((n : Int) + ((2 ^ m : Nat) : Int)) = ((n + 2 ^ m : Nat) : Int) := by simp
  rw [e, atF_nat _ _ hn, atF_nat _ _ h1, shows, decide_eq_true h0, Bool.true_and]

set_option maxRecDepth 100000 in
set_option maxHeartbeats 1000000 in
theorem refDepends (f : Fn) (v : Int) (w : World) :
    Calls Tryd.prog 65 #[fv f, .int .i64 v] w fun e w' => e = .returned (.bool (depAny f v)) ∧ Below w.heap.size w w' := by
  by_cases hv : 0 ≤ v ∧ v < 8
  · obtain ⟨m, rfl⟩ := Int.eq_ofNat_of_zero_le hv.1
    have hm : m < 8 := by omega
    have hm0 : (0 : Int) ≤ (m : Int) := by omega
    have hm7 : (m : Int) ≤ 7 := by omega
    have e : depAny f (m : Int) = depF f m := by rw [depAny, if_pos hv, Int.toNat_natCast]
    rw [e]
    clear e
    simp only [fv]
    go_enter Tryd.func65, Tryd.ntmps65
    go_wp2
    have hy := pow8 hm
    have ew : wrap64 (2 ^ m) = ((2 ^ m : Nat) : Int) := by
      have e2 : ((2 : Int) ^ m) = ((2 ^ m : Nat) : Int) := by simp
      rw [e2]
      exact IntWalk.wrap64_in _ ⟨by omega, by omega⟩
    rw [ew]
    clear ew
    have Hs : ∀ n, n < 256 → n / 2 ^ m % 2 = 0 → Hid (shows f m n = !(atF f n == atF f ((n : Int) + ((2 ^ m : Nat) : Int)))) := fun n hn h0 => cmp_row f m n hn hm h0
    have Hz : ∀ n, ¬ n / 2 ^ m % 2 = 0 → Hid (shows f m n = false) := fun n h0 => by show _ = _; rw [shows, decide_eq_false h0, Bool.false_and]
    generalize 2 ^ m = y at *
    have hy1 : 1 ≤ y ∧ y ≤ 128 := by omega
    clear hy
    go_loopw [6] (fun i wr => ∃ n : Nat, n ≤ 256 ∧ i = .int .i64 n ∧ Hid (∀ x, x < n → shows f m x = false) ∧ Holds wr w.heap.size f ∧ Below w.heap.size w wr) (fun i _ => 256 - (intOf i).toNat)
    case atStart => exact ⟨0, Nat.zero_le _, rfl, fun x hx => absurd hx (Nat.not_lt_zero _), Holds.new _ _ _, by go_grown⟩
    case round =>
      obtain ⟨n, hn, rfl, hno, h0, hb⟩ := hrel
      by_cases hlt : n < 256
      · have hq : n / y ≤ n := Nat.div_le_self _ _
        have hqe : (n : Int) / (y : Int) = ((n / y : Nat) : Int) := by simp
        have hq0 : (0 : Int) ≤ (n : Int) / (y : Int) := by rw [hqe]; exact Int.natCast_nonneg _
        have hq1 : (n : Int) / (y : Int) ≤ 255 := by rw [hqe]; generalize n / y = z at hq; omega
        by_cases hbit : n / y % 2 = 0
        · have hs := Hs n hlt hbit
          have hB : ((n : Int) / (y : Int) % 2 == 0) = true := by rw [beq_iff_eq, hqe]; generalize n / y = z at hbit; omega
          clear Hs Hz hqe
          have hyz : ((y : Int) == 0) = false := by rw [beq_eq_false_iff_ne]; omega
          have c0 : ∀ u : Sub wr, u.1.cell? ⟨w.heap.size, 0, none⟩ = some (.int .u64 (wd f 0)) := fun u => (h0.sub u).cells.1
          have c1 : ∀ u : Sub wr, u.1.cell? ⟨w.heap.size, 1, none⟩ = some (.int .u64 (wd f 1)) := fun u => (h0.sub u).cells.2.1
          have c2 : ∀ u : Sub wr, u.1.cell? ⟨w.heap.size, 2, none⟩ = some (.int .u64 (wd f 2)) := fun u => (h0.sub u).cells.2.2.1
          have c3 : ∀ u : Sub wr, u.1.cell? ⟨w.heap.size, 3, none⟩ = some (.int .u64 (wd f 3)) := fun u => (h0.sub u).cells.2.2.2
          go_wp2
          refine wp_region_quiet_all (C := fun w' => ∃ u : Sub wr, w' = u.1) (by kernel_rfl) (by kernel_rfl) (InSub.drew wr) ?_
          iterate 8 (go_big_quiet_step (fail))
          go_big_quiet_step (exact sub_below (refAt f _ _))
          iterate 4 (go_big_quiet_step (fail))
          go_big_quiet_step (exact sub_below (refAt f _ _))
          iterate 2 (go_big_quiet_step (fail))
          refine wpQuiet_nil ?_
          clear c0 c1 c2 c3
          intro w' hw'
          obtain ⟨u, rfl⟩ := hw'
          have k0 := h0.sub u
          have kb := hb.trans (u.2.mono hb.size)
          clear h0 hb
          generalize u.1 = w1 at *
          generalize (!(atF f n == atF f ((n : Int) + (y : Int)))) = q at *
          cases q
          · go_wp2
            exact ⟨⟨n + 1, by omega, by go_num, fun x hx => by
              rcases Nat.lt_or_ge x n with h | h
              · exact hno.out x h
              · obtain rfl : x = n := by omega
                exact hs.out, k0, kb⟩, by simp [intOf]; omega⟩
          · go_wp2
            go_ret
            exact ⟨ret_bool (depF_true hlt hs.out).symm, kb⟩
        · have hs := Hz n hbit
          have hB : ((n : Int) / (y : Int) % 2 == 0) = false := by rw [beq_eq_false_iff_ne, hqe]; generalize n / y = z at hbit; omega
          clear Hs Hz hqe
          have hyz : ((y : Int) == 0) = false := by rw [beq_eq_false_iff_ne]; omega
          go_wp2
          refine wp_region_quiet_all (C := fun w' => ∃ u : Sub wr, w' = u.1) (by kernel_rfl) (by kernel_rfl) (InSub.drew wr) ?_
          iterate 6 (go_big_quiet_step (fail))
          iterate 9 go_big_quiet_skip
          go_big_quiet_step (fail)
          refine wpQuiet_nil ?_
          intro w' hw'
          obtain ⟨u, rfl⟩ := hw'
          have k0 := h0.sub u
          have kb := hb.trans (u.2.mono hb.size)
          clear h0 hb
          generalize u.1 = w1 at *
          go_wp2
          exact ⟨⟨n + 1, by omega, by go_num, fun x hx => by
            rcases Nat.lt_or_ge x n with h | h
            · exact hno.out x h
            · obtain rfl : x = n := by omega
              exact hs.out, k0, kb⟩, by simp [intOf]; omega⟩
      · obtain rfl : n = 256 := by omega
        have Hd := Lib.hid (depF_false hno.out)
        clear Hs Hz
        go_wp2
        go_ret
        exact ⟨ret_bool Hd.out.symm, hb⟩
  · have e : depAny f v = false := by rw [depAny, if_neg hv]
    rw [e]
    clear e
    simp only [fv]
    go_enter Tryd.func65, Tryd.ntmps65
    go_wp2
    all_goals
      go_ret
      exact ⟨rfl, by go_grown⟩

end Go.Proofs.YtipocmbplcdmjaaDoor

/-
  Walks of the document's Support, Exists, Forall, Compose.
-/
namespace Go.Proofs.YtipocmbplcdmjaaDoor
open Go Go.RowKit

set_option maxRecDepth 100000 in
set_option maxHeartbeats 1000000 in
theorem refSupport (f : Fn) (w : World) :
    Calls Tryd.prog 51 #[fv f] w fun e w' => e = .returned (.int .i64 (supF f)) ∧ Below w.heap.size w w' := by
  simp only [fv]
  go_enter Tryd.func51, Tryd.ntmps51
  go_wp2
  go_loopw [3, 4] (fun s i wr => ∃ j : Nat, j ≤ 8 ∧ i = .int .i64 ((j : Int) - 1) ∧ s = .int .i64 (supFrom f (8 - j) j) ∧ Holds wr w.heap.size f ∧ Below w.heap.size w wr) (fun _ i _ => (intOf i + 1).toNat)
  case atStart => exact ⟨8, Nat.le_refl _, rfl, rfl, Holds.new _ _ _, by go_grown⟩
  case round =>
    obtain ⟨j, hj, rfl, rfl, h0, hb⟩ := hrel
    by_cases hlt : 1 ≤ j
    · obtain ⟨i, rfl⟩ : ∃ i, j = i + 1 := ⟨j - 1, by omega⟩
      have Hs := Lib.hid (show supFrom f (8 - i) i = 2 * supFrom f (8 - (i + 1)) (i + 1) + (if depF f i then 1 else 0) by
        rw [show 8 - i = (8 - (i + 1)) + 1 by omega]; rfl)
      have hs : supFrom f (8 - (i + 1)) (i + 1) < 256 := Nat.lt_of_lt_of_le (supFrom_lt f _ _) (Nat.pow_le_pow_right (n := 2) (j := 8) (by decide) (by omega))
      have hi : i < 8 := by omega
      have ei : ((i + 1 : Nat) : Int) - 1 = (i : Int) := by omega
      rw [ei]
      clear ei
      generalize supFrom f (8 - (i + 1)) (i + 1) = y at *
      obtain ⟨c0, c1, c2, c3⟩ := h0.cells
      go_wp2_with fail
      clear c0 c1 c2 c3
      refine (refDepends f i _).mono ?_
      rw [depAny, if_pos (by omega), Int.toNat_natCast]
      rintro e w1 ⟨rfl, hb1⟩
      have k0 := h0.keep hb1 h0.lt
      have kb := hb.trans (hb1.mono hb.size)
      clear h0 hb hb1
      cases hd : depF f i
      · rw [hd] at Hs
        go_wp2
        exact ⟨⟨i, by omega, by go_num, by rw [Hs.out]; rfl, k0, kb⟩, by simp [intOf]⟩
      · rw [hd] at Hs
        go_wp2
        exact ⟨⟨i, by omega, by go_num, by rw [Hs.out]; rfl, k0, kb⟩, by simp [intOf]⟩
    · obtain rfl : j = 0 := by omega
      go_wp2
      go_ret
      exact ⟨rfl, hb⟩

end Go.Proofs.YtipocmbplcdmjaaDoor

/-
  Walks of the document's Top and Plain.
-/
namespace Go.Proofs.YtipocmbplcdmjaaDoor
open Go Go.RowKit

set_option maxRecDepth 100000 in
set_option maxHeartbeats 1000000 in
theorem refTop (f : Fn) (o : Nat → Int) (w : World) :
    Calls Tryd.prog 52 #[fv f, ov o] w fun e w' => e = .returned (.int .i64 (topF f o)) ∧ Below w.heap.size w w' := by
  simp only [fv, ov]
  go_enter Tryd.func52, Tryd.ntmps52
  go_wp2
  go_loopw [5] (fun i wr => ∃ n : Nat, n ≤ 8 ∧ i = .int .i64 n ∧ Hid (topF f o = topFrom f o (8 - n) n) ∧ Holds wr w.heap.size f ∧ HoldsO wr (w.heap.size + 1) o ∧ Below w.heap.size w wr) (fun i _ => 8 - (intOf i).toNat)
  case atStart => exact ⟨0, Nat.zero_le _, rfl, rfl, (Holds.new _ _ _).alloc _, HoldsO.new _ _ _, by go_grown⟩
  case round =>
    obtain ⟨n, hn, rfl, ht, h0, h1, hb⟩ := hrel
    by_cases hlt : n < 8
    · have Hs : Hid (topF f o = if depAny f (o n) then o n else topFrom f o (8 - (n + 1)) (n + 1)) := by
        have := ht.out
        rw [show 8 - n = (8 - (n + 1)) + 1 by omega] at this
        exact this
      clear ht
      have hn0 : (0 : Int) ≤ (n : Int) := by omega
      have hn8 : (n : Int) < 8 := by omega
      have c0 : ∀ u : Sub wr, u.1.cell? ⟨w.heap.size, 0, none⟩ = some (.int .u64 (wd f 0)) := fun u => (h0.sub u).cells.1
      have c1 : ∀ u : Sub wr, u.1.cell? ⟨w.heap.size, 1, none⟩ = some (.int .u64 (wd f 1)) := fun u => (h0.sub u).cells.2.1
      have c2 : ∀ u : Sub wr, u.1.cell? ⟨w.heap.size, 2, none⟩ = some (.int .u64 (wd f 2)) := fun u => (h0.sub u).cells.2.2.1
      have c3 : ∀ u : Sub wr, u.1.cell? ⟨w.heap.size, 3, none⟩ = some (.int .u64 (wd f 3)) := fun u => (h0.sub u).cells.2.2.2
      have d0 : ∀ u : Sub wr, u.1.cell? ⟨w.heap.size + 1, n, none⟩ = some (.int .i64 (o n)) := fun u => (h1.sub u).cell n hlt
      go_wp2
      refine wp_region_quiet_all (C := fun w' => ∃ u : Sub wr, w' = u.1) (by kernel_rfl) (by kernel_rfl) (InSub.drew wr) ?_
      iterate 4 (go_big_quiet_step (fail))
      go_big_quiet_step (exact sub_below (refDepends f (o n) _))
      refine wpQuiet_nil ?_
      clear c0 c1 c2 c3 d0
      intro w' hw'
      obtain ⟨u, rfl⟩ := hw'
      have k0 := h0.sub u
      have k1 := h1.sub u
      have kb := hb.trans (u.2.mono hb.size)
      clear h0 h1 hb
      generalize u.1 = w1 at *
      have hc := k1.cell n hlt
      cases hd : depAny f (o n)
      · rw [hd] at Hs
        go_wp2
        exact ⟨⟨n + 1, by omega, by go_num, Hs.out, k0, k1, kb⟩, by simp [intOf]; omega⟩
      · rw [hd] at Hs
        go_wp2
        go_ret
        exact ⟨ret_int Hs.out.symm, kb⟩
    · obtain rfl : n = 8 := by omega
      go_wp2
      go_ret
      exact ⟨ret_int ht.out.symm, hb⟩

end Go.Proofs.YtipocmbplcdmjaaDoor

/-
  Walk of the document's Nodes and Size.
-/
namespace Go.Proofs.YtipocmbplcdmjaaDoor
open Go Go.RowKit Go.Maps

/-- 1 at those that were looked at. -/
def seenM (l : List Fn) (f : Fn) : Int := if f ∈ l then 1 else 0

/-- At the loop's head of Nodes. -/
structure NRel (w : World) (l : List Fn) (o : Nat → Int) (out work : List Fn) (k : Nat) (vo vw : Value) (wr : World) : Prop where
  inv : NInv l o out work k
  hout : OwnsF wr (w.heap.size + 1 + 1) vo out
  hwork : OwnsF wr (w.heap.size + 1 + 1) vw work
  apart : ∀ g, vo.ownBlock = some g → vw.ownBlock ≠ some g
  ord : HoldsO wr w.heap.size o
  map : IMap encF 3 wr (w.heap.size + 1) k (seenM (work.take k))
  below : Below w.heap.size w wr
  room : w.heap.size + 1 + 1 ≤ wr.heap.size

theorem ownsF_empty (w : World) (b : Nat) (hb : b = w.heap.size := by simp) : OwnsF (w.alloc (.cells #[] 35)) b (.slice (some ⟨b, 0, none⟩) 0 0) [] := by
  subst hb
  exact ⟨rfl, .inr ⟨w.heap.size, 0, #[], rfl, Nat.le_refl _, heap_alloc_new _ _, Nat.le_refl _, by unfold maxLen; omega, rfl, rfl⟩⟩

/-- Within a round of Nodes: what the call's own variables hold. -/
structure NSt (w : World) (o : Nat → Int) (bf : Nat) (f : Fn) (out work : List Fn) (vo vw : Value) (n : Nat) (m : Fn → Int) (W : World) : Prop where
  hf : Holds W bf f
  hout : OwnsF W (w.heap.size + 1 + 1) vo out
  hwork : OwnsF W (w.heap.size + 1 + 1) vw work
  ord : HoldsO W w.heap.size o
  map : IMap encF 3 W (w.heap.size + 1) n m
  below : Below w.heap.size w W
  room : w.heap.size + 1 + 1 ≤ bf
  apart : ∀ g, vo.ownBlock = some g → vw.ownBlock ≠ some g
  farO : vo.ownBlock ≠ some bf
  farW : vw.ownBlock ≠ some bf

theorem NSt.keep {w : World} {o : Nat → Int} {bf : Nat} {f : Fn} {out work : List Fn} {vo vw : Value} {n : Nat} {m : Fn → Int} {W W' : World} (h : NSt w o bf f out work vo vw n m W) (hb : Below W.heap.size W W') : NSt w o bf f out work vo vw n m W' :=
  ⟨h.hf.keep hb h.hf.lt, h.hout.keep hb (Nat.le_refl _), h.hwork.keep hb (Nat.le_refl _), h.ord.keep hb h.ord.lt, h.map.keep hb h.map.lt, h.below.trans (hb.mono h.below.size), h.room, h.apart, h.farO, h.farW⟩

theorem NSt.size {w : World} {o : Nat → Int} {bf : Nat} {f : Fn} {out work : List Fn} {vo vw : Value} {n : Nat} {m : Fn → Int} {W : World} (h : NSt w o bf f out work vo vw n m W) : w.heap.size + 1 + 1 < W.heap.size := by
  have := h.hf.lt; have := h.room; omega

theorem NSt.start {w : World} {l : List Fn} {o : Nat → Int} {out work : List Fn} {k : Nat} {vo vw : Value} {wr : World} (R : NRel w l o out work k vo vw wr) (f : Fn) :
    NSt w o wr.heap.size f out work vo vw k (seenM (work.take k)) (wr.alloc (.cells #[.int .u64 (wd f 0), .int .u64 (wd f 1), .int .u64 (wd f 2), .int .u64 (wd f 3)] 35)) :=
  ⟨Holds.new _ _ _, R.hout.alloc _, R.hwork.alloc _, R.ord.alloc _, R.map.alloc _, R.below.alloc R.below.size _, R.room, R.apart,
    fun e => by have := (R.hout.lt _ e).2; omega, fun e => by have := (R.hwork.lt _ e).2; omega⟩

theorem NSt.put {w : World} {o : Nat → Int} {bf : Nat} {f : Fn} {out work : List Fn} {vo vw : Value} {n : Nat} {m : Fn → Int} {W W' : World} (h : NSt w o bf f out work vo vw n m W) {m' : Fn → Int}
    (hM : IMap encF 3 W' (w.heap.size + 1) (n + 1) m') (hg : W.grownBy W' (some (w.heap.size + 1))) : NSt w o bf f out work vo vw (n + 1) m' W' := by
  have hr := h.room
  refine ⟨?_, h.hout.grown hg (fun g hb e => ?_), h.hwork.grown hg (fun g hb e => ?_), ?_, hM, h.below.grown hg (by have := h.size; omega) (fun j hj => by cases hj; omega), h.room, h.apart, h.farO, h.farW⟩
  · unfold Holds; rw [hg.block bf h.hf.lt (fun e => by cases e; omega)]; exact h.hf
  · cases e; have := (h.hout.lt _ hb).1; omega
  · cases e; have := (h.hwork.lt _ hb).1; omega
  · unfold HoldsO; rw [hg.block _ h.ord.lt (fun e => by injection e with e; omega)]; exact h.ord

theorem NSt.outApp {w : World} {o : Nat → Int} {bf : Nat} {f : Fn} {out work : List Fn} {vo vw : Value} {n : Nat} {m : Fn → Int} {W W' : World} (h : NSt w o bf f out work vo vw n m W) {vo' : Value} {out' : List Fn}
    (hown : OwnsF W' (w.heap.size + 1 + 1) vo' out') (hg : W.grownBy W' vo.ownBlock) (hat : vo'.ownBlock = vo.ownBlock ∨ vo'.ownBlock = some W.heap.size) : NSt w o bf f out' work vo' vw n m W' := by
  have hr := h.room
  have hlow : ∀ j, vo.ownBlock = some j → w.heap.size + 1 + 1 ≤ j := fun j hj => (h.hout.lt j hj).1
  refine ⟨?_, hown, h.hwork.grown hg (fun g hb e => h.apart g e hb), ?_, h.map.grown hg (fun e => by have := hlow _ e.symm; omega), h.below.grown hg (by have := h.size; omega) (fun j hj => by have := hlow j hj; omega), h.room, fun g e1 e2 => ?_, fun e => ?_, h.farW⟩
  · unfold Holds; rw [hg.block bf h.hf.lt (fun e => h.farO e.symm)]; exact h.hf
  · unfold HoldsO; rw [hg.block _ h.ord.lt (fun e => by have := hlow _ e.symm; omega)]; exact h.ord
  · rcases hat with hat | hat
    · rw [hat] at e1; exact h.apart g e1 e2
    · rw [hat] at e1; cases e1; have := (h.hwork.lt _ e2).2; omega
  · rcases hat with hat | hat
    · rw [hat] at e; exact h.farO e
    · rw [hat] at e; cases e; have := h.hf.lt; omega

theorem NSt.workApp {w : World} {o : Nat → Int} {bf : Nat} {f : Fn} {out work : List Fn} {vo vw : Value} {n : Nat} {m : Fn → Int} {W W' : World} (h : NSt w o bf f out work vo vw n m W) {vw' : Value} {work' : List Fn}
    (hown : OwnsF W' (w.heap.size + 1 + 1) vw' work') (hg : W.grownBy W' vw.ownBlock) (hat : vw'.ownBlock = vw.ownBlock ∨ vw'.ownBlock = some W.heap.size) : NSt w o bf f out work' vo vw' n m W' := by
  have hr := h.room
  have hlow : ∀ j, vw.ownBlock = some j → w.heap.size + 1 + 1 ≤ j := fun j hj => (h.hwork.lt j hj).1
  refine ⟨?_, h.hout.grown hg (fun g hb e => h.apart g hb e), hown, ?_, h.map.grown hg (fun e => by have := hlow _ e.symm; omega), h.below.grown hg (by have := h.size; omega) (fun j hj => by have := hlow j hj; omega), h.room, fun g e1 e2 => ?_, h.farO, fun e => ?_⟩
  · unfold Holds; rw [hg.block bf h.hf.lt (fun e => h.farW e.symm)]; exact h.hf
  · unfold HoldsO; rw [hg.block _ h.ord.lt (fun e => by have := hlow _ e.symm; omega)]; exact h.ord
  · rcases hat with hat | hat
    · rw [hat] at e2; exact h.apart g e1 e2
    · rw [hat] at e2; cases e2; have := (h.hout.lt _ e1).2; omega
  · rcases hat with hat | hat
    · rw [hat] at e; exact h.farW e
    · rw [hat] at e; cases e; have := h.hf.lt; omega

theorem NSt.rel {w : World} {l : List Fn} {o : Nat → Int} {bf : Nat} {f : Fn} {out work : List Fn} {vo vw : Value} {n : Nat} {m : Fn → Int} {W : World} (h : NSt w o bf f out work vo vw n m W) (hi : NInv l o out work n) (hm : m = seenM (work.take n)) : NRel w l o out work n vo vw W :=
  ⟨hi, h.hout, h.hwork, h.apart, h.ord, hm ▸ h.map, h.below, by have := h.size; omega⟩

theorem seen_snoc (l : List Fn) (f : Fn) : (fun z => if z = f then 1 else seenM l z) = seenM (l ++ [f]) := by
  funext z
  unfold seenM
  by_cases h : z = f
  · rw [if_pos h, if_pos (List.mem_append_right _ (List.mem_singleton.2 h))]
  · rw [if_neg h]
    by_cases h2 : z ∈ l
    · rw [if_pos h2, if_pos (List.mem_append_left _ h2)]
    · rw [if_neg h2, if_neg (fun e => (List.mem_append.1 e).elim h2 (fun e => h (List.mem_singleton.1 e)))]

theorem slice_two (w : World) (f g : Fn) (b : Nat) (hb : b = w.heap.size := by simp) : SliceF (w.alloc (.cells #[.int .u64 (wd f 0), .int .u64 (wd f 1), .int .u64 (wd f 2), .int .u64 (wd f 3), .int .u64 (wd g 0), .int .u64 (wd g 1), .int .u64 (wd g 2), .int .u64 (wd g 3)] 35)) (.slice (some ⟨b, 0, none⟩) 2 2) [f, g] := by
  subst hb
  refine .inr ⟨⟨w.heap.size, 0, none⟩, 2, rfl, fun j u hj => ?_⟩
  have hj8 : j < 8 := by
    rcases Nat.lt_or_ge j 8 with h | h
    · exact h
    · rw [List.getElem?_eq_none (by simpa [cellsL] using h)] at hj; cases hj
  rw [show (⟨w.heap.size, 0, none⟩ : Addr).add j = ⟨w.heap.size, j, none⟩ by simp [Addr.add]; omega, cell_of_row _ _ _ _ _ _ (heap_alloc_new _ _)]
  rcases (by omega : j = 0 ∨ j = 1 ∨ j = 2 ∨ j = 3 ∨ j = 4 ∨ j = 5 ∨ j = 6 ∨ j = 7) with rfl | rfl | rfl | rfl | rfl | rfl | rfl | rfl <;> simpa [cellsL] using hj

theorem slice_one (w : World) (f : Fn) (b : Nat) (hb : b = w.heap.size := by simp) : SliceF (w.alloc (.cells #[.int .u64 (wd f 0), .int .u64 (wd f 1), .int .u64 (wd f 2), .int .u64 (wd f 3)] 35)) (.slice (some ⟨b, 0, none⟩) 1 1) [f] := by
  subst hb
  refine .inr ⟨⟨w.heap.size, 0, none⟩, 1, rfl, fun j u hj => ?_⟩
  have hj4 : j < 4 := by
    rcases Nat.lt_or_ge j 4 with h | h
    · exact h
    · rw [List.getElem?_eq_none (by simpa [cellsL] using h)] at hj; cases hj
  rw [show (⟨w.heap.size, 0, none⟩ : Addr).add j = ⟨w.heap.size, j, none⟩ by simp [Addr.add]; omega, cell_fv w f _ j hj4]
  rcases (by omega : j = 0 ∨ j = 1 ∨ j = 2 ∨ j = 3) with rfl | rfl | rfl | rfl <;> simpa [cellsL] using hj

set_option maxRecDepth 100000 in
set_option maxHeartbeats 2000000 in
theorem refNodes (l : List Fn) (o : Nat → Int) (v : Value) (w : World) (hv : SliceF w v l) (hl : l.length ≤ 40) :
    Calls Tryd.prog 29 #[v, ov o] w fun e w' => ∃ v' out, e = .returned v' ∧ OwnsF w' (w.heap.size + 1 + 1) v' out ∧ IsSize l o out.length ∧ Below w.heap.size w w' := by
  have hmm := @run_makeMap Tryd.prog
  have hown0 : OwnsF (((w.alloc (.cells #[.int .i64 (o 0), .int .i64 (o 1), .int .i64 (o 2), .int .i64 (o 3), .int .i64 (o 4), .int .i64 (o 5), .int .i64 (o 6), .int .i64 (o 7)] 37)).alloc (.map #[] 0)).alloc (.cells #[] 35)) (w.heap.size + 1 + 1) (.slice (some ⟨w.heap.size + 1 + 1, 0, none⟩) 0 0) [] := ownsF_empty _ _
  have hb0 : Below w.heap.size w (((w.alloc (.cells #[.int .i64 (o 0), .int .i64 (o 1), .int .i64 (o 2), .int .i64 (o 3), .int .i64 (o 4), .int .i64 (o 5), .int .i64 (o 6), .int .i64 (o 7)] 37)).alloc (.map #[] 0)).alloc (.cells #[] 35)) := by go_grown
  have hsl0 : SliceF (((w.alloc (.cells #[.int .i64 (o 0), .int .i64 (o 1), .int .i64 (o 2), .int .i64 (o 3), .int .i64 (o 4), .int .i64 (o 5), .int .i64 (o 6), .int .i64 (o 7)] 37)).alloc (.map #[] 0)).alloc (.cells #[] 35)) v l := hv.keep hb0 (Nat.le_refl _)
  have hord0 : HoldsO (((w.alloc (.cells #[.int .i64 (o 0), .int .i64 (o 1), .int .i64 (o 2), .int .i64 (o 3), .int .i64 (o 4), .int .i64 (o 5), .int .i64 (o 6), .int .i64 (o 7)] 37)).alloc (.map #[] 0)).alloc (.cells #[] 35)) w.heap.size o := ((HoldsO.new _ _ _).alloc _).alloc _
  have hmap0 : IMap encF 3 (((w.alloc (.cells #[.int .i64 (o 0), .int .i64 (o 1), .int .i64 (o 2), .int .i64 (o 3), .int .i64 (o 4), .int .i64 (o 5), .int .i64 (o 6), .int .i64 (o 7)] 37)).alloc (.map #[] 0)).alloc (.cells #[] 35)) (w.heap.size + 1) 0 (fun _ => 0) := by
    have h := IMap.made encF 3 (w.alloc (.cells #[.int .i64 (o 0), .int .i64 (o 1), .int .i64 (o 2), .int .i64 (o 3), .int .i64 (o 4), .int .i64 (o 5), .int .i64 (o 6), .int .i64 (o 7)] 37))
    rw [show (w.alloc (.cells #[.int .i64 (o 0), .int .i64 (o 1), .int .i64 (o 2), .int .i64 (o 3), .int .i64 (o 4), .int .i64 (o 5), .int .i64 (o 6), .int .i64 (o 7)] 37)).heap.size = w.heap.size + 1 by simp] at h
    exact h.alloc _
  have hr0 : w.heap.size + 1 + 1 ≤ (((w.alloc (.cells #[.int .i64 (o 0), .int .i64 (o 1), .int .i64 (o 2), .int .i64 (o 3), .int .i64 (o 4), .int .i64 (o 5), .int .i64 (o 6), .int .i64 (o 7)] 37)).alloc (.map #[] 0)).alloc (.cells #[] 35)).heap.size := by simp
  simp only [ov]
  go_enter Tryd.func29, Tryd.ntmps29
  go_wp2_with (at_builtin; refine appendF rfl (.tmp 12) (.tmp 13) rfl (w.heap.size + 1 + 1) _ v [] l rfl hown0 rfl hsl0 (by simp; omega) hr0 ?_; intro v1 w1 hown1 hgr1 hat1)
  have hrel0 : NRel w l o [] l 0 (.slice none 0 0) v1 w1 := by
    have hbk : ∀ j, (Value.slice (some ⟨w.heap.size + 1 + 1, 0, none⟩) 0 0).ownBlock = some j → w.heap.size + 1 + 1 ≤ j := fun j hj => by cases hj; exact Nat.le_refl _
    have hs1 := hgr1.size
    refine ⟨NInv.start l o, OwnsF.nil _ _, by simpa using hown1, (fun g hg => by cases hg), ?_, ?_, ?_, by omega⟩
    · unfold HoldsO; rw [hgr1.block _ (by omega) (fun e => by have := hbk _ e.symm; omega)]; exact hord0
    · have h := hmap0.grown hgr1 (fun e => by have := hbk _ e.symm; omega)
      have e0 : seenM (l.take 0) = fun _ => 0 := by funext f; simp [seenM]
      rw [e0]; exact h
    · exact hb0.grown hgr1 (by omega) (fun j hj => by have := hbk j hj; omega)
  clear hown0 hb0 hsl0 hord0 hmap0 hr0 hown1 hgr1 hat1 hv hmm
  go_loopw [5, 7, 8] (fun vo vw i wr => ∃ out work k, i = .int .i64 ((k : Nat) : Int) ∧ NRel w l o out work k vo vw wr) (fun _ _ i _ => 511 * l.length - (intOf i).toNat)
  case atStart => exact ⟨[], l, 0, rfl, hrel0⟩
  case round =>
    clear hrel0
    obtain ⟨out, work, k, rfl, R⟩ := hrel
    have hlen := R.inv.len
    have holen := R.inv.out_len
    by_cases hlt : k < work.length
    · obtain ⟨g, cap, cc, rfl, hcap⟩ : ∃ g cap, ∃ c0 : ∀ j, j < 4 → wr.cell? ⟨g, k * 4 + j, none⟩ = some (.int .u64 (wd work[k] j)), u7 = .slice (some ⟨g, 0, none⟩) work.length cap ∧ work.length ≤ cap := by
        obtain ⟨h1, ⟨rfl, h2⟩ | ⟨g, cap, cur, rfl, hr⟩⟩ := R.hwork
        · omega
        · refine ⟨g, cap, fun j hj => ?_, rfl, hr.2.2.1⟩
          rw [World.ownsRow.cellAt (w := wr) (base := w.heap.size + 1 + 1) (e := 35) (size := 4) (n := work.length) (cap := cap) (xs := cellsL work) ⟨h1, .inr ⟨g, cap, cur, rfl, hr⟩⟩ (k * 4 + j) (by omega)]
          exact cellsL_get work k hlt j hj
      have q0 : wr.cell? ⟨g, k * 4, none⟩ = some (.int .u64 (wd work[k] 0)) := cc 0 (by decide)
      have q1 := cc 1 (by decide)
      have q2 := cc 2 (by decide)
      have q3 := cc 3 (by decide)
      clear cc
      have hk0 : (0 : Int) ≤ (k : Int) := by omega
      have hk1 : (k : Int) < (work.length : Int) := by omega
      have hnk : k < 511 * l.length := by omega
      have stepSeen := R.inv.seen hlt
      have stepConst := R.inv.const hlt
      have stepLeaf := R.inv.leaf hlt
      have stepNode := R.inv.node hlt
      have htake := take_one hlt
      generalize work[k] = f at *
      have HS := Lib.hid stepSeen
      have HC := Lib.hid stepConst
      have HL := Lib.hid stepLeaf
      have HN := Lib.hid stepNode
      have HT := Lib.hid htake
      clear stepSeen stepConst stepLeaf stepNode htake
      have hM := R.map.alloc (.cells #[.int .u64 (wd f 0), .int .u64 (wd f 1), .int .u64 (wd f 2), .int .u64 (wd f 3)] 35)
      have hlook : (Instr.lookup 96 (.map (some (w.heap.size + 1))) (.agg #[.int .u64 (wd f 0), .int .u64 (wd f 1), .int .u64 (wd f 2), .int .u64 (wd f 3)]) false).run Tryd.prog (wr.alloc (.cells #[.int .u64 (wd f 0), .int .u64 (wd f 1), .int .u64 (wd f 2), .int .u64 (wd f 3)] 35)) = .ok (.int .i64 (seenM (work.take k) f)) (wr.alloc (.cells #[.int .u64 (wd f 0), .int .u64 (wd f 1), .int .u64 (wd f 2), .int .u64 (wd f 3)] 35)) := hM.look Tryd.underlying96 Tryd.underlying3 (zeroI _) f
      by_cases hin : f ∈ work.take k
      · have e1 : seenM (work.take k) f = 1 := if_pos hin
        rw [e1] at hlook
        clear e1
        go_wp2_with fail
        have e2 : seenM (work.take (k + 1)) = seenM (work.take k) := by
          funext z
          rw [HT.out]
          unfold seenM
          by_cases hz : z ∈ work.take k
          · rw [if_pos (List.mem_append_left _ hz), if_pos hz]
          · rw [if_neg (fun h => (List.mem_append.1 h).elim hz (fun h => hz (by rw [List.mem_singleton.1 h]; exact hin))), if_neg hz]
        exact ⟨⟨out, work, k + 1, by go_num, ⟨HS.out hin, R.hout.alloc _, R.hwork.alloc _, R.apart, R.ord.alloc _, by rw [e2]; exact IMap.le hM, R.below.alloc R.below.size _, by have := R.room; simp; omega⟩⟩, by simp [intOf]; omega⟩
      · have e1 : seenM (work.take k) f = 0 := if_neg hin
        rw [e1] at hlook
        clear e1
        have hkm : k < maxLen := by unfold maxLen; omega
        have S := NSt.start R f
        clear R
        go_wp2_with (at_mapUpdate; refine IMap.put hM Tryd.underlying96 Tryd.underlying3 hkm rfl (.tmp 29) (.tmp 30) (.const (.int .i64 1)) rfl f 1 (by decide) rfl rfl rfl ?_; intro w2 hM2 hgr2; replace S := S.put hM2 hgr2; clear hM2 hgr2 hM hlook q0 q1 q2 q3; obtain ⟨c0, c1, c2, c3⟩ := S.hf.cells)
        clear c0 c1 c2 c3
        refine (refSupport f _).mono ?_
        rintro e w3 ⟨rfl, hb3⟩
        replace S := S.keep hb3
        clear hb3 w2
        have hbf : wr.heap.size < w3.heap.size := S.hf.lt
        by_cases hsup : supF f = 0
        · rw [hsup]
          go_wp2
          exact ⟨⟨out, work, k + 1, by go_num, S.rel (HC.out hsup) (by rw [HT.out]; exact seen_snoc _ _)⟩, by simp [intOf]; omega⟩
        · have hsb : (((supF f : Nat) : Int) == 0) = false := by rw [beq_eq_false_iff_ne]; omega
          obtain ⟨c0, c1, c2, c3⟩ := S.hf.cells
          have hsl := slice_one w3 f w3.heap.size rfl
          have S4 := S.keep ((Below.refl w3.heap.size w3).alloc (Nat.le_refl _) (.cells #[.int .u64 (wd f 0), .int .u64 (wd f 1), .int .u64 (wd f 2), .int .u64 (wd f 3)] 35))
          have hol := HL.out hin hsup
          have hon := HN.out hin hsup
          have hro : out.length + 1 ≤ 1000000 := by omega
          have hrm := S4.size
          go_wp2_with (at_builtin; refine appendF rfl (.tmp 34) (.tmp 36) rfl (w.heap.size + 1 + 1) _ _ out [f] rfl S4.hout rfl hsl hro (Nat.le_of_lt hrm) ?_; intro v5 w5 hown5 hgr5 hat5; replace S4 := S4.outApp hown5 hgr5 hat5; clear hown5 hgr5 hat5 hsl c0 c1 c2 c3 S; obtain ⟨c0, c1, c2, c3⟩ := S4.hf.cells; have o0 := S4.ord.cell 0 (by decide); have o1 := S4.ord.cell 1 (by decide); have o2 := S4.ord.cell 2 (by decide); have o3 := S4.ord.cell 3 (by decide); have o4 := S4.ord.cell 4 (by decide); have o5 := S4.ord.cell 5 (by decide); have o6 := S4.ord.cell 6 (by decide); have o7 := S4.ord.cell 7 (by decide))
          clear c0 c1 c2 c3 o0 o1 o2 o3 o4 o5 o6 o7
          refine (refTop f o _).mono ?_
          rintro e w6 ⟨rfl, hb6⟩
          have S := S4.keep hb6
          clear hb6 S4 hrm hbf
          by_cases htop : 0 ≤ topF f o
          · replace hon := hon htop
            clear hol HL HN HC HS
            generalize topF f o = t at *
            have c0 : ∀ u : Sub w6, u.1.cell? ⟨wr.heap.size, 0, none⟩ = some (.int .u64 (wd f 0)) := fun u => (S.hf.sub u).cells.1
            have c1 : ∀ u : Sub w6, u.1.cell? ⟨wr.heap.size, 1, none⟩ = some (.int .u64 (wd f 1)) := fun u => (S.hf.sub u).cells.2.1
            have c2 : ∀ u : Sub w6, u.1.cell? ⟨wr.heap.size, 2, none⟩ = some (.int .u64 (wd f 2)) := fun u => (S.hf.sub u).cells.2.2.1
            have c3 : ∀ u : Sub w6, u.1.cell? ⟨wr.heap.size, 3, none⟩ = some (.int .u64 (wd f 3)) := fun u => (S.hf.sub u).cells.2.2.2
            go_wp2
            refine wp_region_move_tail (C := fun w' => ∃ u : Sub w6, w' = u.1) 6 (.tmp 7) rfl rfl (by kernel_rfl) (by kernel_rfl) (fun _ _ _ _ h => h) (InSub.drew w6) ?_
            simp only [List.take_succ_cons, List.take_zero, List.drop_succ_cons, List.drop_zero, Act.put, Act.eval, List.setIfInBounds_toArray, List.set_cons_zero, List.set_cons_succ]
            iterate 2 (go_big_quiet_step (fail))
            go_big_quiet_step (exact sub_below (refCof f t false _))
            iterate 2 (go_big_quiet_step (fail))
            go_big_quiet_step (exact sub_below (refCof f t true _))
            refine wpQuiet_nil ?_
            clear c0 c1 c2 c3
            intro w' hw'
            obtain ⟨u, rfl⟩ := hw'
            replace S := S.keep u.2
            generalize u.1 = w7 at *
            clear u w6
            generalize cofAny f t false = p at *
            generalize cofAny f t true = q at *
            have hsl := slice_two w7 p q w7.heap.size rfl
            replace S := S.keep ((Below.refl w7.heap.size w7).alloc (Nat.le_refl _) (.cells #[.int .u64 (wd p 0), .int .u64 (wd p 1), .int .u64 (wd p 2), .int .u64 (wd p 3), .int .u64 (wd q 0), .int .u64 (wd q 1), .int .u64 (wd q 2), .int .u64 (wd q 3)] 35))
            have hrm := S.size
            have hrw : work.length + 2 ≤ 1000000 := by omega
            simp only [fv]
            go_wp2_with (at_builtin; refine appendF rfl (.tmp 43) (.tmp 50) rfl (w.heap.size + 1 + 1) _ _ work [p, q] rfl S.hwork rfl hsl hrw (Nat.le_of_lt hrm) ?_; intro v8 w8 hown8 hgr8 hat8)
            replace S := S.workApp hown8 hgr8 hat8
            exact ⟨⟨out ++ [f], work ++ [p, q], k + 1, by go_num, S.rel hon (by rw [List.take_append_of_le_length (by omega), HT.out]; exact seen_snoc _ _)⟩, by simp [intOf]; omega⟩
          · replace hol := hol (by omega)
            clear hon HL HN HC HS
            go_wp2
            exact ⟨⟨out ++ [f], work, k + 1, by go_num, S.rel hol (by rw [HT.out]; exact seen_snoc _ _)⟩, by simp [intOf]; omega⟩
    · obtain ⟨a, cap, rfl⟩ : ∃ a cap, u7 = .slice a work.length cap := by
        obtain ⟨h1, ⟨rfl, h2⟩ | ⟨g, cap, cur, rfl, hr⟩⟩ := R.hwork
        · exact ⟨none, 0, by rw [h2]⟩
        · exact ⟨_, _, rfl⟩
      go_wp2
      go_ret
      exact ⟨u5, out, rfl, R.hout, R.inv.done hlt, R.below⟩

end Go.Proofs.YtipocmbplcdmjaaDoor

/-
  Walk of the document's Size and Plain.
-/
namespace Go.Proofs.YtipocmbplcdmjaaDoor
open Go Go.RowKit Go.Maps

theorem OwnsF.form {w : World} {base : Nat} {v : Value} {l : List Fn} (h : OwnsF w base v l) : ∃ a cap, v = .slice a l.length cap := by
  obtain ⟨h1, ⟨rfl, h2⟩ | ⟨g, cap, cur, rfl, hr⟩⟩ := h
  · exact ⟨none, 0, by rw [h2]⟩
  · exact ⟨_, _, rfl⟩

set_option maxRecDepth 100000 in
set_option maxHeartbeats 400000 in
theorem refSize (l : List Fn) (o : Nat → Int) (v : Value) (w : World) (hv : SliceF w v l) (hl : l.length ≤ 40) :
    Calls Tryd.prog 9 #[v, ov o] w fun e w' => e = .returned (.int .i64 (sizeF l o)) ∧ Below w.heap.size w w' := by
  have hb0 : Below w.heap.size w (w.alloc (.cells #[.int .i64 (o 0), .int .i64 (o 1), .int .i64 (o 2), .int .i64 (o 3), .int .i64 (o 4), .int .i64 (o 5), .int .i64 (o 6), .int .i64 (o 7)] 37)) := by go_grown
  have hv0 := hv.keep hb0 (Nat.le_refl _)
  simp only [ov]
  go_enter Tryd.func9, Tryd.ntmps9
  go_wp2_with fail
  refine (refNodes l o v _ hv0 hl).mono ?_
  rintro e w1 ⟨v1, out, rfl, h1, h2, hb1⟩
  have Hz := Lib.hid (sizeF_eq h2)
  obtain ⟨a, cap, rfl⟩ := h1.form
  clear h2
  go_wp2
  go_ret
  exact ⟨ret_int (by rw [Hz.out]), hb0.trans (hb1.mono hb0.size)⟩

end Go.Proofs.YtipocmbplcdmjaaDoor

/-
  SweepKeeps over contracts.
-/
namespace Go.Proofs.YtipocmbplcdmjaaDoor
open Go Go.RowKit
attribute [local go_sem] run_eql_fv run_eql_fv1 run_neq_fv run_neq_fv1 run_guard_fv run_guard_fv1 run_eql_fv2 run_guard_fv2 run_equal_fv2

section
variable {StAt : World → Nat → (Nat → Prop) → MS → Prop} {w0 W W' : World} {b : Nat} {F F' : Nat → Prop} {s t : MS} {va vr vk v' : Value} {la lr l' : List Int} {lk k' : List Fn}
end

/-- What is known of roots: each is there, and is its function. -/
def Are (s : MS) (lr : List Int) (lk : List Fn) : Prop := (∀ r ∈ lr, s.there r = true) ∧ lr.map s.tab = lk
theorem Are.nil (s : MS) : Are s [] [] := ⟨(fun r h => by cases h), rfl⟩
theorem Are.grows {s t : MS} {lr : List Int} {lk : List Fn} (h : Are s lr lk) (g : MS.Grows s t) : Are t lr lk :=
  ⟨fun r hr => g.there r (h.1 r hr), by rw [← h.2]; exact List.map_congr_left fun r hr => g.tab (h.1 r hr)⟩
theorem Are.snoc {s : MS} {lr : List Int} {lk : List Fn} (h : Are s lr lk) {n : Int} {f : Fn} (hn : s.there n = true) (e : s.tab n = f) : Are s (lr ++ [n]) (lk ++ [f]) :=
  ⟨fun r hr => (List.mem_append.1 hr).elim (h.1 r) (fun h => by rw [List.mem_singleton.1 h]; exact hn), by rw [List.map_append, h.2]; simp [e]⟩

theorem Are.at {s : MS} {lr : List Int} {lk : List Fn} (h : Are s lr lk) (i : Nat) (hi : i < lr.length) (hk : i < lk.length) : lk[i] = s.tab lr[i] := by
  have := h.2
  subst this
  simp
theorem Mine.intAt {w0 W : World} {F : Nat → Prop} {v : Value} {l : List Int} (h : Mine encI w0 F v l W) (i : Nat) (hi : i < l.length) : ∃ g c, v = .slice (some ⟨g, 0, none⟩) l.length c ∧ W.cell? ⟨g, i, none⟩ = some (.int .i64 l[i]) := by
  obtain ⟨g, c, rfl, _, _⟩ := h.own.some (by omega)
  exact ⟨g, c, rfl, h.own.intAt i hi⟩

end Go.Proofs.YtipocmbplcdmjaaDoor
