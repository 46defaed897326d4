/-
  Walks of package size: gather and Size.
-/
import Derived.Test.YtgccgjeehggagaaDoorSizeP
import Derived.Test.YtgccgjeehggagaaDoorBSet
import Derived.Test.YtgccgjeehggagaaDoorRefSize
namespace Go.Proofs.YtgccgjeehggagaaDoor
open Go Go.RowKit Go.Maps

theorem LowW.grown {w w' : World} {b : Nat} (h : LowW w) (hg : w.grownBy w' (some b)) (hb : 0 ≠ b) : LowW w' := fun i hi => hg.cell (h i hi) (fun e => hb (Option.some.inj e))
theorem grown_of_below {w w' : World} (row : Option Nat) (h : Below w.heap.size w w') : w.grownBy w' row := ⟨h.os, h.tape, h.output, h.size, fun i hi _ => h.block i hi⟩
theorem grown_trans {w w' w'' : World} {row : Option Nat} (h : w.grownBy w' row) (k : w'.grownBy w'' row) : w.grownBy w'' row := h.trans k
theorem Holds.grown {w w' : World} {b c : Nat} {f : Fn} (h : Holds w b f) (hg : w.grownBy w' (some c)) (hne : b ≠ c) : Holds w' b f := by
  unfold Holds; rw [hg.block b h.lt (fun e => hne (Option.some.inj e))]; exact h
theorem HoldsO.grown {w w' : World} {b c : Nat} {o : Nat → Int} (h : HoldsO w b o) (hg : w.grownBy w' (some c)) (hne : b ≠ c) : HoldsO w' b o := by
  unfold HoldsO; rw [hg.block b h.lt (fun e => hne (Option.some.inj e))]; exact h
theorem zeroB (w : World) : (zeroValue 4).run Tryd.prog w = .ok (.bool false) w := by kernel_rfl

theorem topFrom_none (f : Fn) (o : Nat → Int) (n : Nat) : ∀ i, ¬ 0 ≤ topFrom f o n i → topFrom f o n i = -1 := by
  induction n with
  | zero => intro i _; rfl
  | succ n ih =>
    intro i h
    simp only [topFrom] at h ⊢
    split
    · rename_i hd
      rw [if_pos hd] at h
      exact absurd (depAny_range hd).1 h
    · rename_i hd
      rw [if_neg hd] at h
      exact ih (i + 1) h

/-- Within a call of gather: what the call's own variables hold, and the map. -/
structure GSt (w : World) (o : Nat → Int) (f : Fn) (b : Nat) (S : List Fn) (W : World) : Prop where
  low : LowW W
  hf : Holds W w.heap.size f
  ord : HoldsO W (w.heap.size + 1) o
  map : BSet encF 4 W b S
  grown : w.grownBy W (some b)

theorem GSt.keep {w : World} {o : Nat → Int} {f : Fn} {b : Nat} {S : List Fn} {W W' : World} (h : GSt w o f b S W) (hb : Below W.heap.size W W') : GSt w o f b S W' :=
  ⟨h.low.keep hb, h.hf.keep hb h.hf.lt, h.ord.keep hb h.ord.lt, h.map.keep hb h.map.lt, grown_trans h.grown (grown_of_below _ hb)⟩

theorem GSt.turn {w : World} {o : Nat → Int} {f : Fn} {b : Nat} {S S2 : List Fn} {W W' : World} (h : GSt w o f b S W) (hlb : 0 ≠ b) (hb : b < w.heap.size) (hM : BSet encF 4 W' b S2) (hg : W.grownBy W' (some b)) : GSt w o f b S2 W' :=
  ⟨h.low.grown hg hlb, h.hf.grown hg (by omega), h.ord.grown hg (by omega), hM, grown_trans h.grown hg⟩

set_option maxRecDepth 100000 in
set_option maxHeartbeats 2000000 in
theorem sizeGather (o : Nat → Int) (b : Nat) (hlb : 0 ≠ b) (k : Nat) : ∀ (f : Fn) (S : List Fn) (w : World), supN f < k → LowW w → BSet encF 4 w b S → S.Nodup → S.length + wt f ≤ 1000000 →
    Calls Tryd.prog 20 #[.map (some b), fv f, ov o] w fun e w' => e = .returned (.tuple #[]) ∧ ∃ S2, BSet encF 4 w' b S2 ∧ Gath o f S S2 ∧ w.grownBy w' (some b) := by
  induction k with
  | zero => intro f S w h; omega
  | succ k ih =>
    intro f S w hk hl hM hS hlen
    have G0 : GSt w o f b S ((w.alloc (.cells #[.int .u64 (wd f 0), .int .u64 (wd f 1), .int .u64 (wd f 2), .int .u64 (wd f 3)] 26)).alloc (.cells #[.int .i64 (o 0), .int .i64 (o 1), .int .i64 (o 2), .int .i64 (o 3), .int .i64 (o 4), .int .i64 (o 5), .int .i64 (o 6), .int .i64 (o 7)] 23)) :=
      ⟨hl.keep (by go_grown), (Holds.new _ _ _).alloc _, HoldsO.new _ _ _, (hM.alloc _).alloc _, grown_of_below _ (by go_grown)⟩
    have hlook := G0.map.look Tryd.underlying40 Tryd.underlying4 (zeroB _) f
    have hbw : b < w.heap.size := hM.lt
    clear hM hl
    change (Instr.lookup 40 (.map (some b)) (.agg #[.int .u64 (wd f 0), .int .u64 (wd f 1), .int .u64 (wd f 2), .int .u64 (wd f 3)]) false).run Tryd.prog _ = _ at hlook
    have G := Lib.hid G0
    clear G0
    simp only [fv, ov]
    go_enter Tryd.func20, Tryd.ntmps20
    by_cases hin : f ∈ S
    · rw [decide_eq_true hin] at hlook
      go_wp2
      exact bodyPost_ret (v := .tuple #[]) (by simp [results, Tryd.results20, go_sem]) rfl ⟨rfl, S, G.out.map, .seen hS hin, G.out.grown⟩
    · rw [decide_eq_false hin] at hlook
      go_wp2_with fail
      refine (cofSupport f _ G.out.low).mono ?_
      rintro e w1 ⟨rfl, hb1⟩
      replace G := Lib.hid (G.out.keep hb1)
      clear hb1 hlook
      by_cases hsup : supF f = 0
      · rw [hsup]
        go_wp2
        exact bodyPost_ret (v := .tuple #[]) (by simp [results, Tryd.results20, go_sem]) rfl ⟨rfl, S, G.out.map, .const hS hsup, G.out.grown⟩
      · have hsb : (((supF f : Nat) : Int) == 0) = false := by rw [beq_eq_false_iff_ne]; omega
        have hML : S.length < maxLen := by unfold maxLen; omega
        have hM1 := G.out.map
        obtain ⟨c0, c1, c2, c3⟩ := G.out.hf.cells
        go_wp2_with (at_mapUpdate; refine BSet.put hM1 Tryd.underlying40 Tryd.underlying4 hML rfl (.tmp 15) (.tmp 16) (.const (.bool true)) rfl f hin rfl rfl rfl ?_; intro w2 hM2 hgr2; replace G := Lib.hid (G.out.turn hlb hbw hM2 hgr2); clear hM2 hgr2 hM1 c0 c1 c2 c3; obtain ⟨c0, c1, c2, c3⟩ := G.out.hf.cells; have o0 := G.out.ord.cell 0 (by decide); have o1 := G.out.ord.cell 1 (by decide); have o2 := G.out.ord.cell 2 (by decide); have o3 := G.out.ord.cell 3 (by decide); have o4 := G.out.ord.cell 4 (by decide); have o5 := G.out.ord.cell 5 (by decide); have o6 := G.out.ord.cell 6 (by decide); have o7 := G.out.ord.cell 7 (by decide))
        clear c0 c1 c2 c3 o0 o1 o2 o3 o4 o5 o6 o7
        refine (sizeTop f o _ G.out.low).mono ?_
        rintro e w3 ⟨rfl, hb3⟩
        replace G := Lib.hid (G.out.keep hb3)
        clear hb3 hsb
        by_cases htop : 0 ≤ topF f o
        · have hw := wt_cof f o false true htop
          have hk1 := supN_cof f o false htop
          have hk2 := supN_cof f o true htop
          have HN := Lib.hid (fun (S1 S2 : List Fn) => Gath.node (S := S) (S1 := S1) (S2 := S2) hsup htop)
          have htb : (topF f o == -1) = false := by rw [beq_eq_false_iff_ne]; omega
          generalize topF f o = t at *
          have G3 := G.out
          have c0 : ∀ u : Sub w3, u.1.cell? ⟨w.heap.size, 0, none⟩ = some (.int .u64 (wd f 0)) := fun u => (G3.hf.sub u).cells.1
          have c1 : ∀ u : Sub w3, u.1.cell? ⟨w.heap.size, 1, none⟩ = some (.int .u64 (wd f 1)) := fun u => (G3.hf.sub u).cells.2.1
          have c2 : ∀ u : Sub w3, u.1.cell? ⟨w.heap.size, 2, none⟩ = some (.int .u64 (wd f 2)) := fun u => (G3.hf.sub u).cells.2.2.1
          have c3 : ∀ u : Sub w3, u.1.cell? ⟨w.heap.size, 3, none⟩ = some (.int .u64 (wd f 3)) := fun u => (G3.hf.sub u).cells.2.2.2
          have d0 : ∀ u : Sub w3, u.1.cell? ⟨w.heap.size + 1, 0, none⟩ = some (.int .i64 (o 0)) := fun u => (G3.ord.sub u).cell 0 (by decide)
          have d1 : ∀ u : Sub w3, u.1.cell? ⟨w.heap.size + 1, 1, none⟩ = some (.int .i64 (o 1)) := fun u => (G3.ord.sub u).cell 1 (by decide)
          have d2 : ∀ u : Sub w3, u.1.cell? ⟨w.heap.size + 1, 2, none⟩ = some (.int .i64 (o 2)) := fun u => (G3.ord.sub u).cell 2 (by decide)
          have d3 : ∀ u : Sub w3, u.1.cell? ⟨w.heap.size + 1, 3, none⟩ = some (.int .i64 (o 3)) := fun u => (G3.ord.sub u).cell 3 (by decide)
          have d4 : ∀ u : Sub w3, u.1.cell? ⟨w.heap.size + 1, 4, none⟩ = some (.int .i64 (o 4)) := fun u => (G3.ord.sub u).cell 4 (by decide)
          have d5 : ∀ u : Sub w3, u.1.cell? ⟨w.heap.size + 1, 5, none⟩ = some (.int .i64 (o 5)) := fun u => (G3.ord.sub u).cell 5 (by decide)
          have d6 : ∀ u : Sub w3, u.1.cell? ⟨w.heap.size + 1, 6, none⟩ = some (.int .i64 (o 6)) := fun u => (G3.ord.sub u).cell 6 (by decide)
          have d7 : ∀ u : Sub w3, u.1.cell? ⟨w.heap.size + 1, 7, none⟩ = some (.int .i64 (o 7)) := fun u => (G3.ord.sub u).cell 7 (by decide)
          have hlW : ∀ u : Sub w3, LowW u.1 := fun u => G3.low.keep u.2
          clear G3
          go_wp2
          refine wp_region_quiet_tail (C := fun w' => ∃ u : Sub w3, w' = u.1) 5 (by kernel_rfl) (by kernel_rfl) (InSub.drew w3) ?_
          simp only [List.take_succ_cons, List.take_zero, List.drop_succ_cons, List.drop_zero]
          iterate 3 (go_big_quiet_step (fail))
          go_big_quiet_step (exact sub_below (cofCof f t false _ (hlW _)))
          go_big_quiet_step (fail)
          refine wpQuiet_nil ?_
          clear c0 c1 c2 c3 d0 d1 d2 d3 d4 d5 d6 d7 hlW
          intro w' hw'
          obtain ⟨u, rfl⟩ := hw'
          replace G := Lib.hid (G.out.keep u.2)
          generalize u.1 = w4 at *
          clear u w3
          go_wp2_with fail
          refine (ih _ _ _ (by omega) G.out.low G.out.map (nodup_snoc hS hin) (by simp only [List.length_append, List.length_singleton]; omega)).mono ?_
          rintro e w5 ⟨rfl, S1, hM5, hG1, hgr5⟩
          replace G := Lib.hid (G.out.turn hlb hbw hM5 hgr5)
          have hl1 := hG1.len
          have hn1 := hG1.nodup
          have H1 := Lib.hid hG1
          clear hM5 hgr5 hG1 w4
          rw [List.length_append, List.length_singleton] at hl1
          have G3 := G.out
          have c0 : ∀ u : Sub w5, u.1.cell? ⟨w.heap.size, 0, none⟩ = some (.int .u64 (wd f 0)) := fun u => (G3.hf.sub u).cells.1
          have c1 : ∀ u : Sub w5, u.1.cell? ⟨w.heap.size, 1, none⟩ = some (.int .u64 (wd f 1)) := fun u => (G3.hf.sub u).cells.2.1
          have c2 : ∀ u : Sub w5, u.1.cell? ⟨w.heap.size, 2, none⟩ = some (.int .u64 (wd f 2)) := fun u => (G3.hf.sub u).cells.2.2.1
          have c3 : ∀ u : Sub w5, u.1.cell? ⟨w.heap.size, 3, none⟩ = some (.int .u64 (wd f 3)) := fun u => (G3.hf.sub u).cells.2.2.2
          have d0 : ∀ u : Sub w5, u.1.cell? ⟨w.heap.size + 1, 0, none⟩ = some (.int .i64 (o 0)) := fun u => (G3.ord.sub u).cell 0 (by decide)
          have d1 : ∀ u : Sub w5, u.1.cell? ⟨w.heap.size + 1, 1, none⟩ = some (.int .i64 (o 1)) := fun u => (G3.ord.sub u).cell 1 (by decide)
          have d2 : ∀ u : Sub w5, u.1.cell? ⟨w.heap.size + 1, 2, none⟩ = some (.int .i64 (o 2)) := fun u => (G3.ord.sub u).cell 2 (by decide)
          have d3 : ∀ u : Sub w5, u.1.cell? ⟨w.heap.size + 1, 3, none⟩ = some (.int .i64 (o 3)) := fun u => (G3.ord.sub u).cell 3 (by decide)
          have d4 : ∀ u : Sub w5, u.1.cell? ⟨w.heap.size + 1, 4, none⟩ = some (.int .i64 (o 4)) := fun u => (G3.ord.sub u).cell 4 (by decide)
          have d5 : ∀ u : Sub w5, u.1.cell? ⟨w.heap.size + 1, 5, none⟩ = some (.int .i64 (o 5)) := fun u => (G3.ord.sub u).cell 5 (by decide)
          have d6 : ∀ u : Sub w5, u.1.cell? ⟨w.heap.size + 1, 6, none⟩ = some (.int .i64 (o 6)) := fun u => (G3.ord.sub u).cell 6 (by decide)
          have d7 : ∀ u : Sub w5, u.1.cell? ⟨w.heap.size + 1, 7, none⟩ = some (.int .i64 (o 7)) := fun u => (G3.ord.sub u).cell 7 (by decide)
          have hlW : ∀ u : Sub w5, LowW u.1 := fun u => G3.low.keep u.2
          clear G3
          go_wp2
          refine wp_region_quiet_tail (C := fun w' => ∃ u : Sub w5, w' = u.1) 5 (by kernel_rfl) (by kernel_rfl) (InSub.drew w5) ?_
          simp only [List.take_succ_cons, List.take_zero, List.drop_succ_cons, List.drop_zero]
          iterate 3 (go_big_quiet_step (fail))
          go_big_quiet_step (exact sub_below (cofCof f t true _ (hlW _)))
          go_big_quiet_step (fail)
          refine wpQuiet_nil ?_
          clear c0 c1 c2 c3 d0 d1 d2 d3 d4 d5 d6 d7 hlW
          intro w' hw'
          obtain ⟨u, rfl⟩ := hw'
          replace G := Lib.hid (G.out.keep u.2)
          generalize u.1 = w6 at *
          clear u w5
          go_wp2_with fail
          refine (ih _ _ _ (by omega) G.out.low G.out.map hn1 (by omega)).mono ?_
          rintro e w7 ⟨rfl, S2, hM7, hG2, hgr7⟩
          replace G := Lib.hid (G.out.turn hlb hbw hM7 hgr7)
          have H2 := Lib.hid hG2
          clear hM7 hgr7 hG2 w6
          go_wp2
          exact bodyPost_end (v := .tuple #[]) (by simp [results, Tryd.results20, go_sem]) rfl ⟨rfl, S2, G.out.map, HN.out S1 S2 H1.out H2.out, G.out.grown⟩
        · have htb : topF f o = -1 := topFrom_none f o 8 0 htop
          rw [htb]
          go_wp2
          exact bodyPost_ret (v := .tuple #[]) (by simp [results, Tryd.results20, go_sem]) rfl ⟨rfl, S ++ [f], G.out.map, .leaf hS hin hsup (by omega), G.out.grown⟩

/-- At the loop's head of Size. -/
structure ZRel (w : World) (l : List Fn) (o : Nat → Int) (i : Nat) (S : List Fn) (wr : World) : Prop where
  inv : SInv l o i S
  low : LowW wr
  ord : HoldsO wr w.heap.size o
  map : BSet encF 4 wr (w.heap.size + 1) S
  below : Below w.heap.size w wr

set_option maxRecDepth 100000 in
set_option maxHeartbeats 2000000 in
theorem sizeSize (l : List Fn) (o : Nat → Int) (v : Value) (w : World) (hl : LowW w) (hv : SliceF w v l) (hn : l.length ≤ 40) :
    Calls Tryd.prog 10 #[v, ov o] w fun e w' => e = .returned (.int .i64 (sizeF l o)) ∧ Below w.heap.size w w' := by
  have hmm := @run_makeMap Tryd.prog
  have hlb : 0 ≠ w.heap.size + 1 := by have := hl.pos; omega
  have hb0 : Below w.heap.size w ((w.alloc (.cells #[.int .i64 (o 0), .int .i64 (o 1), .int .i64 (o 2), .int .i64 (o 3), .int .i64 (o 4), .int .i64 (o 5), .int .i64 (o 6), .int .i64 (o 7)] 23)).alloc (.map #[] 0)) := by go_grown
  have hmap0 : BSet encF 4 ((w.alloc (.cells #[.int .i64 (o 0), .int .i64 (o 1), .int .i64 (o 2), .int .i64 (o 3), .int .i64 (o 4), .int .i64 (o 5), .int .i64 (o 6), .int .i64 (o 7)] 23)).alloc (.map #[] 0)) (w.heap.size + 1) [] := by
    have h := BSet.made encF 4 (w.alloc (.cells #[.int .i64 (o 0), .int .i64 (o 1), .int .i64 (o 2), .int .i64 (o 3), .int .i64 (o 4), .int .i64 (o 5), .int .i64 (o 6), .int .i64 (o 7)] 23))
    rwa [show (w.alloc (.cells #[.int .i64 (o 0), .int .i64 (o 1), .int .i64 (o 2), .int .i64 (o 3), .int .i64 (o 4), .int .i64 (o 5), .int .i64 (o 6), .int .i64 (o 7)] 23)).heap.size = w.heap.size + 1 by simp] at h
  have R0 := Lib.hid (show ZRel w l o 0 [] _ from ⟨SInv.start l o, hl.keep hb0, (HoldsO.new _ _ _).alloc _, hmap0, hb0⟩)
  clear hb0 hmap0 hl
  obtain ⟨a, cap, rfl⟩ : ∃ a cap, v = .slice a l.length cap := by
    rcases hv with ⟨rfl, rfl⟩ | ⟨ad, cap, rfl, _⟩
    · exact ⟨none, 0, rfl⟩
    · exact ⟨_, _, rfl⟩
  have Hv := Lib.hid hv
  clear hv
  simp only [ov]
  go_enter Tryd.func10, Tryd.ntmps10
  go_wp2
  go_loopw [11] (fun i wr => ∃ (n : Nat) (S : List Fn), n ≤ l.length ∧ i = .int .i64 n ∧ ZRel w l o n S wr) (fun i _ => l.length - (intOf i).toNat)
  case atStart => exact ⟨0, [], Nat.zero_le _, rfl, R0.out⟩
  case round =>
    clear R0 hmm
    obtain ⟨n, S, hnl, rfl, R⟩ := hrel
    by_cases hlt : n < l.length
    · have hk0 : (0 : Int) ≤ (n : Int) := by omega
      have hk1 : (n : Int) < (l.length : Int) := by omega
      obtain ⟨ad, rfl, hc⟩ : ∃ ad, a = some ad ∧ ∀ j, j < 4 → wr.cell? (ad.add (n * 4 + j)) = some (.int .u64 (wd l[n] j)) := by
        rcases Hv.out with ⟨h1, h2⟩ | ⟨ad, cap', h1, hc⟩
        · subst h2; cases hlt
        · injection h1 with h1 _ _
          refine ⟨ad, h1, fun j hj => ?_⟩
          have h3 := hc _ _ (cellsL_get l n hlt j hj)
          rw [R.below.cell (block_lt_of_cell h3)]
          exact h3
      have q0 : wr.cell? (ad.add (n * 4)) = some (.int .u64 (wd l[n] 0)) := hc 0 (by decide)
      have hq : ∀ j, 0 < j → j < 4 → wr.cell? ⟨(ad.add (n * 4)).block, (ad.add (n * 4)).off + j, none⟩ = some (.int .u64 (wd l[n] j)) := fun j h0 h4 => by
        have h := hc j h4
        rw [← Addr.add_add, Addr.add, if_neg (by omega)] at h
        exact h
      have q1 := hq 1 (by decide) (by decide)
      have q2 := hq 2 (by decide) (by decide)
      have q3 := hq 3 (by decide) (by decide)
      clear hq
      have hstep := Lib.hid (fun S2 => R.inv.step hlt (S2 := S2))
      have hw := wt_le l[n]
      have hsl := R.inv.len
      have hsn := R.inv.nodup
      generalize l[n] = f at *
      clear hc
      have hbA := (Below.refl wr.heap.size wr).alloc (Nat.le_refl _) (.cells #[.int .u64 (wd f 0), .int .u64 (wd f 1), .int .u64 (wd f 2), .int .u64 (wd f 3)] 26)
      have hord := R.ord.keep hbA R.ord.lt
      have o0 := hord.cell 0 (by decide)
      have o1 := hord.cell 1 (by decide)
      have o2 := hord.cell 2 (by decide)
      have o3 := hord.cell 3 (by decide)
      have o4 := hord.cell 4 (by decide)
      have o5 := hord.cell 5 (by decide)
      have o6 := hord.cell 6 (by decide)
      have o7 := hord.cell 7 (by decide)
      go_wp2_with fail
      clear o0 o1 o2 o3 o4 o5 o6 o7 q0 q1 q2 q3
      refine (sizeGather o (w.heap.size + 1) hlb 9 f S _ (by have := supN_le f; omega) (R.low.keep hbA) (R.map.keep hbA R.map.lt) hsn (by omega)).mono ?_
      rintro e w2 ⟨rfl, S2, hM2, hG2, hgr2⟩
      have hlw := (R.low.keep hbA).grown hgr2 hlb
      have hor := hord.grown hgr2 (by omega)
      have hbl := (R.below.trans (hbA.mono R.below.size)).grown hgr2 (R.below.trans (hbA.mono R.below.size)).size (fun j hj => by cases hj; omega)
      have Hz := Lib.hid (hstep.out S2 hG2)
      clear hG2 hgr2 hbA hord R hstep
      go_wp2
      exact ⟨⟨n + 1, S2, by omega, by go_num, ⟨Hz.out, hlw, hor, hM2, hbl⟩⟩, by simp [intOf]; omega⟩
    · obtain rfl : n = l.length := by omega
      have hlen := R.map.len Tryd.underlying40
      have Hz := Lib.hid R.inv.done
      have hb := R.below
      clear R
      go_wp2
      go_ret
      exact ⟨ret_int (by rw [Hz.out]), hb⟩

end Go.Proofs.YtgccgjeehggagaaDoor
