/-
  Texts of this proof, one behind the other: RefC, RefIte, RefOps, Eq, CofW.
-/
import Derived.Test.YtipocmbplcdmjaaGreatDoorG14
import Derived.ChangeKeysEq
import Derived.Test.YtipocmbplcdmjaaGreatDoorG3
/-
  Walks of the document's Const, Var, Ite.
-/
namespace Go.Proofs.YtipocmbplcdmjaaGreatDoor
open Go Go.RowKit

theorem ret_holds {fn : Func} {p : Tmp} {tmps : Array Value} {w : World} {b : Nat} {f : Fn} (h : fn.results = #[.cell p 48]) (hp : tmps.getD p undef = .pointer (some ⟨b, 0, none⟩)) (hh : Holds w b f) :
    (results fn tmps).run Tryz.prog w = .ok (fv f) w :=
  results_cell_row h tmps w b _ _ _ _ hp hh Tryz.underlying48 rfl (by kernel_rfl)

set_option maxRecDepth 100000 in
set_option maxHeartbeats 400000 in
theorem refConst (b : Bool) (w : World) :
    Calls Tryz.prog 58 #[.bool b] w fun e w' => e = .returned (fv (ofRow fun _ => b)) ∧ Below w.heap.size w w' := by
  go_enter Tryz.func58, Tryz.ntmps58
  go_wp2
  go_loopw [4] (fun i wr => ∃ n : Nat, n ≤ 256 ∧ i = .int .i64 n ∧ Filled w (upTo (fun _ => b) n) wr) (fun i _ => 256 - (intOf i).toNat)
  case atStart => exact ⟨0, Nat.zero_le _, rfl, by rw [upTo_zero]; exact ⟨(Holds.new0 _ _).alloc _, Holds.new0 _ _, by go_grown⟩⟩
  case round =>
    obtain ⟨n, hn, rfl, h0, h1, hb⟩ := hrel
    by_cases hlt : n < 256
    · have Hf := Lib.hid (upTo_put (fun _ => b) n b rfl)
      generalize hg : upTo (fun _ => b) n = g at *
      clear hg
      obtain ⟨c0, c1, c2, c3⟩ := h1.cells
      go_wp2_with fail
      refine (refPut g n b _ hlt).mono ?_
      rw [Hf.out]
      rintro e w1 ⟨rfl, hb1⟩
      clear c0 c1 c2 c3
      have k0 := h0.keep hb1 h0.lt
      have k1 := h1.keep hb1 h1.lt
      obtain ⟨c0, c1, c2, c3⟩ := k1.cells
      obtain ⟨z0, z1, z2, z3⟩ := k1.free
      simp only [fv]
      go_wp2
      exact ⟨⟨n + 1, by omega, by go_num, k0.other4 (by omega), k1.set4 _, below_set4 (hb.trans (hb1.mono hb.size)) (by omega)⟩, by simp [intOf]; omega⟩
    · obtain rfl : n = 256 := by omega
      rw [upTo_all] at h1
      generalize hg : ofRow (fun _ => b) = g at *
      have Hg := Lib.hid hg
      clear hg
      obtain ⟨c0, c1, c2, c3⟩ := h1.cells
      obtain ⟨d0, d1, d2, d3⟩ := h0.cells
      obtain ⟨z0, z1, z2, z3⟩ := h0.free
      go_wp2
      exact bodyPost_ret (ret_holds Tryz.results58 rfl (h0.set4 g)) rfl ⟨by rw [Hg.out], below_set4 hb (Nat.le_refl _)⟩

theorem sub_same {P : Program} {f : FuncId} {args : Array Value} {W : World} {u : Sub W} {v : Value} (h : Calls P f args u.1 fun e w' => e = .returned v ∧ u.1 = w') :
    Calls P f args u.1 fun e w'' => e = .returned v ∧ ∃ x : Sub W, w'' = x.1 := h.mono fun _ _ ⟨he, hw⟩ => ⟨he, u, hw.symm⟩

theorem sub_below {P : Program} {f : FuncId} {args : Array Value} {W : World} {u : Sub W} {v : Value} (h : Calls P f args u.1 fun e w' => e = .returned v ∧ Below u.1.heap.size u.1 w') :
    Calls P f args u.1 fun e w'' => e = .returned v ∧ ∃ x : Sub W, w'' = x.1 := h.mono fun _ w' ⟨he, hw⟩ => ⟨he, ⟨w', u.2.trans (hw.mono u.2.size)⟩, rfl⟩

/-- The same, in any world in which what stood in wr stands as it did. -/

theorem Holds.sub {wr : World} {b : Nat} {f : Fn} (h : Holds wr b f) (u : Sub wr) : Holds u.1 b f := h.keep u.2 h.lt

set_option maxRecDepth 100000 in
set_option maxHeartbeats 400000 in
theorem refVar (v : Int) (w : World) :
    Calls Tryz.prog 60 #[.int .i64 v] w fun e w' => e = .returned (fv (varAny v)) ∧ Below w.heap.size w w' := by
  by_cases hv : 0 ≤ v ∧ v < 8
  · obtain ⟨m, rfl⟩ := Int.eq_ofNat_of_zero_le hv.1
    have hm : m < 8 := by omega
    have e : varAny (m : Int) = ofRow (fun x => x.testBit m) := by rw [varAny, if_pos hv, Int.toNat_natCast]; rfl
    rw [e]
    clear e
    go_enter Tryz.func60, Tryz.ntmps60
    go_wp2
    go_loopw [4] (fun i wr => ∃ n : Nat, n ≤ 256 ∧ i = .int .i64 n ∧ Filled w (upTo (fun x => x.testBit m) n) wr) (fun i _ => 256 - (intOf i).toNat)
    case atStart => exact ⟨0, Nat.zero_le _, rfl, by rw [upTo_zero]; exact ⟨(Holds.new0 _ _).alloc _, Holds.new0 _ _, by go_grown⟩⟩
    case round =>
      obtain ⟨n, hn, rfl, h0, h1, hb⟩ := hrel
      by_cases hlt : n < 256
      · have Hf := Lib.hid (upTo_put (fun x => x.testBit m) n (n.testBit m) rfl)
        generalize hg : upTo (fun x => x.testBit m) n = g at *
        clear hg
        have c0 : ∀ u : Sub wr, u.1.cell? ⟨w.heap.size + 1, 0, none⟩ = some (.int .u64 (wd g 0)) := fun u => (h1.sub u).cells.1
        have c1 : ∀ u : Sub wr, u.1.cell? ⟨w.heap.size + 1, 1, none⟩ = some (.int .u64 (wd g 1)) := fun u => (h1.sub u).cells.2.1
        have c2 : ∀ u : Sub wr, u.1.cell? ⟨w.heap.size + 1, 2, none⟩ = some (.int .u64 (wd g 2)) := fun u => (h1.sub u).cells.2.2.1
        have c3 : ∀ u : Sub wr, u.1.cell? ⟨w.heap.size + 1, 3, none⟩ = some (.int .u64 (wd g 3)) := fun u => (h1.sub u).cells.2.2.2
        go_wp2
        refine wp_region_quiet_tail (C := fun w' => ∃ u : Sub wr, w' = u.1) 6 (by kernel_rfl) (by kernel_rfl) (InSub.drew wr) ?_
        simp only [List.take_succ_cons, List.take_zero, List.drop_succ_cons, List.drop_zero]
        go_big_quiet_step (fail)
        go_big_quiet_step (fail)
        go_big_quiet_step (fail)
        go_big_quiet_step (fail)
        go_big_quiet_step (exact sub_same (refBit n m _ hlt hm))
        go_big_quiet_step (exact sub_below (refPut g n _ _ hlt))
        refine wpQuiet_nil ?_
        rw [Hf.out]
        clear c0 c1 c2 c3
        intro w' hw'
        obtain ⟨u, rfl⟩ := hw'
        have k0 := h0.sub u
        have k1 := h1.sub u
        have hb1 := u.2
        generalize u.1 = w1 at *
        obtain ⟨c0, c1, c2, c3⟩ := k1.cells
        obtain ⟨z0, z1, z2, z3⟩ := k1.free
        simp only [fv]
        go_wp2
        exact ⟨⟨n + 1, by omega, by go_num, k0.other4 (by omega), k1.set4 _, below_set4 (hb.trans (hb1.mono hb.size)) (by omega)⟩, by simp [intOf]; omega⟩
      · obtain rfl : n = 256 := by omega
        rw [upTo_all] at h1
        generalize hg : ofRow (fun x => x.testBit m) = g at *
        have Hg := Lib.hid hg
        clear hg
        obtain ⟨c0, c1, c2, c3⟩ := h1.cells
        obtain ⟨d0, d1, d2, d3⟩ := h0.cells
        obtain ⟨z0, z1, z2, z3⟩ := h0.free
        go_wp2
        exact bodyPost_ret (ret_holds Tryz.results60 rfl (h0.set4 g)) rfl ⟨by rw [Hg.out], below_set4 hb (Nat.le_refl _)⟩
  · have e : varAny v = 0#256 := by rw [varAny, if_neg hv]
    rw [e, fv_zero]
    clear e
    go_enter Tryz.func60, Tryz.ntmps60
    go_wp2
    refine wp_loop_rounds 1 ?_
    rw [rounds_succ]
    go_wp2
    all_goals exact bodyPost_ret (v := .agg #[.int .u64 0, .int .u64 0, .int .u64 0, .int .u64 0]) (by simp [results, Tryz.results60, go_sem]) rfl ⟨rfl, by go_grown⟩

end Go.Proofs.YtipocmbplcdmjaaGreatDoor

/-
  Walk of the document's Ite.
-/
namespace Go.Proofs.YtipocmbplcdmjaaGreatDoor
open Go Go.RowKit

/-- Row by row. -/

def iteRow (f g k : Fn) (x : Nat) : Bool := if f.getLsbD x then g.getLsbD x else k.getLsbD x

theorem iteRow_eq (f g k : Fn) : ofRow (iteRow f g k) = (f &&& g ||| ~~~f &&& k) := fn_ext fun x hx => by
  rw [ofRow_bit _ _ hx]
  simp [iteRow, hx]
  cases f[x] <;> simp

theorem atF_nat (f : Fn) (n : Nat) (h : n < 256) : atF f n = f.getLsbD n := by
  rw [atF, if_pos (by omega), Int.toNat_natCast]

/-- At the loop's head. -/

def Filling (w : World) (f g k o : Fn) (wr : World) : Prop :=
  Holds wr w.heap.size f ∧ Holds wr (w.heap.size + 1) g ∧ Holds wr (w.heap.size + 1 + 1) k ∧ Holds wr (w.heap.size + 1 + 1 + 1) 0#256 ∧ Holds wr (w.heap.size + 1 + 1 + 1 + 1) o ∧ Below w.heap.size w wr

set_option maxRecDepth 100000 in
set_option maxHeartbeats 1000000 in
theorem refIte (f g k : Fn) (w : World) :
    Calls Tryz.prog 59 #[fv f, fv g, fv k] w fun e w' => e = .returned (fv (f &&& g ||| ~~~f &&& k)) ∧ Below w.heap.size w w' := by
  rw [← iteRow_eq]
  simp only [fv]
  go_enter Tryz.func59, Tryz.ntmps59
  go_wp2
  go_loopw [8] (fun i wr => ∃ n : Nat, n ≤ 256 ∧ i = .int .i64 n ∧ Filling w f g k (upTo (iteRow f g k) n) wr) (fun i _ => 256 - (intOf i).toNat)
  case atStart =>
    exact ⟨0, Nat.zero_le _, rfl, by rw [upTo_zero]; exact ⟨((((Holds.new _ _ _).alloc _).alloc _).alloc _).alloc _, (((Holds.new _ _ _).alloc _).alloc _).alloc _, ((Holds.new _ _ _).alloc _).alloc _, (Holds.new0 _ _).alloc _, Holds.new0 _ _, by go_grown⟩⟩
  case round =>
    obtain ⟨n, hn, rfl, h0, h1, h2, h3, h4, hb⟩ := hrel
    by_cases hlt : n < 256
    · obtain ⟨c0, c1, c2, c3⟩ := h0.cells
      go_wp2_with fail
      refine (refAt f n _).mono ?_
      rintro e w1 ⟨rfl, hb1⟩
      clear c0 c1 c2 c3
      have k0 := h0.keep hb1 h0.lt
      have k1 := h1.keep hb1 h1.lt
      have k2 := h2.keep hb1 h2.lt
      have k3 := h3.keep hb1 h3.lt
      have k4 := h4.keep hb1 h4.lt
      have hb3 := hb.trans (hb1.mono hb.size)
      clear h0 h1 h2 h3 h4 hb hb1
      have hP : iteRow f g k n = if atF f n then atF g n else atF k n := by rw [iteRow, atF_nat _ _ hlt, atF_nat _ _ hlt, atF_nat _ _ hlt]
      cases ha : atF f n with
      | true =>
        rw [ha, if_pos rfl] at hP
        have Hf := Lib.hid (upTo_put (iteRow f g k) n (atF g n) hP.symm)
        clear hP ha
        generalize upTo (iteRow f g k) n = o at *
        have o0 : ∀ u : Sub w1, u.1.cell? ⟨w.heap.size + 1 + 1 + 1 + 1, 0, none⟩ = some (.int .u64 (wd o 0)) := fun u => (k4.sub u).cells.1
        have o1 : ∀ u : Sub w1, u.1.cell? ⟨w.heap.size + 1 + 1 + 1 + 1, 1, none⟩ = some (.int .u64 (wd o 1)) := fun u => (k4.sub u).cells.2.1
        have o2 : ∀ u : Sub w1, u.1.cell? ⟨w.heap.size + 1 + 1 + 1 + 1, 2, none⟩ = some (.int .u64 (wd o 2)) := fun u => (k4.sub u).cells.2.2.1
        have o3 : ∀ u : Sub w1, u.1.cell? ⟨w.heap.size + 1 + 1 + 1 + 1, 3, none⟩ = some (.int .u64 (wd o 3)) := fun u => (k4.sub u).cells.2.2.2
        have p0 : ∀ u : Sub w1, u.1.cell? ⟨w.heap.size + 1, 0, none⟩ = some (.int .u64 (wd g 0)) := fun u => (k1.sub u).cells.1
        have p1 : ∀ u : Sub w1, u.1.cell? ⟨w.heap.size + 1, 1, none⟩ = some (.int .u64 (wd g 1)) := fun u => (k1.sub u).cells.2.1
        have p2 : ∀ u : Sub w1, u.1.cell? ⟨w.heap.size + 1, 2, none⟩ = some (.int .u64 (wd g 2)) := fun u => (k1.sub u).cells.2.2.1
        have p3 : ∀ u : Sub w1, u.1.cell? ⟨w.heap.size + 1, 3, none⟩ = some (.int .u64 (wd g 3)) := fun u => (k1.sub u).cells.2.2.2
        go_wp2
        refine wp_region_quiet_tail (C := fun w' => ∃ u : Sub w1, w' = u.1) 6 (by kernel_rfl) (by kernel_rfl) (InSub.drew w1) ?_
        simp only [List.take_succ_cons, List.take_zero, List.drop_succ_cons, List.drop_zero]
        go_big_quiet_step (fail)
        go_big_quiet_step (fail)
        go_big_quiet_step (fail)
        go_big_quiet_step (fail)
        go_big_quiet_step (exact sub_below (refAt g n _))
        go_big_quiet_step (exact sub_below (refPut o n _ _ hlt))
        refine wpQuiet_nil ?_
        rw [Hf.out]
        clear o0 o1 o2 o3 p0 p1 p2 p3
        intro w' hw'
        obtain ⟨u, rfl⟩ := hw'
        replace k0 := k0.sub u
        replace k1 := k1.sub u
        replace k2 := k2.sub u
        replace k3 := k3.sub u
        replace k4 := k4.sub u
        have hb2 := u.2
        generalize u.1 = w2 at *
        obtain ⟨c0, c1, c2, c3⟩ := k4.cells
        obtain ⟨z0, z1, z2, z3⟩ := k4.free
        simp only [fv]
        go_wp2
        exact ⟨⟨n + 1, by omega, by go_num, ⟨k0.other4 (by omega), k1.other4 (by omega), k2.other4 (by omega), k3.other4 (by omega), k4.set4 _, below_set4 (hb3.trans (hb2.mono hb3.size)) (by omega)⟩⟩, by simp [intOf]; omega⟩
      | false =>
        rw [ha, if_neg (by decide)] at hP
        have Hf := Lib.hid (upTo_put (iteRow f g k) n (atF k n) hP.symm)
        clear hP ha
        generalize upTo (iteRow f g k) n = o at *
        have o0 : ∀ u : Sub w1, u.1.cell? ⟨w.heap.size + 1 + 1 + 1 + 1, 0, none⟩ = some (.int .u64 (wd o 0)) := fun u => (k4.sub u).cells.1
        have o1 : ∀ u : Sub w1, u.1.cell? ⟨w.heap.size + 1 + 1 + 1 + 1, 1, none⟩ = some (.int .u64 (wd o 1)) := fun u => (k4.sub u).cells.2.1
        have o2 : ∀ u : Sub w1, u.1.cell? ⟨w.heap.size + 1 + 1 + 1 + 1, 2, none⟩ = some (.int .u64 (wd o 2)) := fun u => (k4.sub u).cells.2.2.1
        have o3 : ∀ u : Sub w1, u.1.cell? ⟨w.heap.size + 1 + 1 + 1 + 1, 3, none⟩ = some (.int .u64 (wd o 3)) := fun u => (k4.sub u).cells.2.2.2
        have p0 : ∀ u : Sub w1, u.1.cell? ⟨w.heap.size + 1 + 1, 0, none⟩ = some (.int .u64 (wd k 0)) := fun u => (k2.sub u).cells.1
        have p1 : ∀ u : Sub w1, u.1.cell? ⟨w.heap.size + 1 + 1, 1, none⟩ = some (.int .u64 (wd k 1)) := fun u => (k2.sub u).cells.2.1
        have p2 : ∀ u : Sub w1, u.1.cell? ⟨w.heap.size + 1 + 1, 2, none⟩ = some (.int .u64 (wd k 2)) := fun u => (k2.sub u).cells.2.2.1
        have p3 : ∀ u : Sub w1, u.1.cell? ⟨w.heap.size + 1 + 1, 3, none⟩ = some (.int .u64 (wd k 3)) := fun u => (k2.sub u).cells.2.2.2
        go_wp2
        refine wp_region_quiet_tail (C := fun w' => ∃ u : Sub w1, w' = u.1) 6 (by kernel_rfl) (by kernel_rfl) (InSub.drew w1) ?_
        simp only [List.take_succ_cons, List.take_zero, List.drop_succ_cons, List.drop_zero]
        go_big_quiet_step (fail)
        go_big_quiet_step (fail)
        go_big_quiet_step (fail)
        go_big_quiet_step (fail)
        go_big_quiet_step (exact sub_below (refAt k n _))
        go_big_quiet_step (exact sub_below (refPut o n _ _ hlt))
        refine wpQuiet_nil ?_
        rw [Hf.out]
        clear o0 o1 o2 o3 p0 p1 p2 p3
        intro w' hw'
        obtain ⟨u, rfl⟩ := hw'
        replace k0 := k0.sub u
        replace k1 := k1.sub u
        replace k2 := k2.sub u
        replace k3 := k3.sub u
        replace k4 := k4.sub u
        have hb2 := u.2
        generalize u.1 = w2 at *
        obtain ⟨c0, c1, c2, c3⟩ := k4.cells
        obtain ⟨z0, z1, z2, z3⟩ := k4.free
        simp only [fv]
        go_wp2
        exact ⟨⟨n + 1, by omega, by go_num, ⟨k0.other4 (by omega), k1.other4 (by omega), k2.other4 (by omega), k3.other4 (by omega), k4.set4 _, below_set4 (hb3.trans (hb2.mono hb3.size)) (by omega)⟩⟩, by simp [intOf]; omega⟩
    · obtain rfl : n = 256 := by omega
      rw [upTo_all] at h4
      generalize hg : ofRow (iteRow f g k) = o at *
      have Hg := Lib.hid hg
      clear hg
      obtain ⟨c0, c1, c2, c3⟩ := h4.cells
      obtain ⟨d0, d1, d2, d3⟩ := h3.cells
      obtain ⟨z0, z1, z2, z3⟩ := h3.free
      go_wp2
      exact bodyPost_ret (ret_holds Tryz.results59 rfl (h3.set4 o)) rfl ⟨by rw [Hg.out]; rfl, below_set4 hb (by omega)⟩

end Go.Proofs.YtipocmbplcdmjaaGreatDoor

/-
  Walks of the document's Not, And, Or, Xor.
-/
namespace Go.Proofs.YtipocmbplcdmjaaGreatDoor
open Go Go.RowKit

end Go.Proofs.YtipocmbplcdmjaaGreatDoor

/-
  Two functions compared: '==' and '!=' on arrays of four words.
-/
namespace Go.Proofs.YtipocmbplcdmjaaGreatDoor
open Go Go.RowKit

theorem wd_ext {f g : Fn} (h0 : wd f 0 = wd g 0) (h1 : wd f 1 = wd g 1) (h2 : wd f 2 = wd g 2) (h3 : wd f 3 = wd g 3) : f = g := fn_ext fun k hk => by
  rw [wd_bit, wd_bit]
  rcases (by omega : k / 64 = 0 ∨ k / 64 = 1 ∨ k / 64 = 2 ∨ k / 64 = 3) with h | h | h | h <;> rw [h]
  · rw [h0]
  · rw [h1]
  · rw [h2]
  · rw [h3]

theorem run_equal_fv (d : Nat) (f g : Fn) (w : World) : (Op.equalIn (d + 1 + 1) 48 (fv f) (fv g)).run Tryz.prog w = .ok (f == g) w := by
  obtain ⟨i, hi⟩ : ∃ i, Tryz.prog.info? 46 = some i := info_of_underlying Tryz.underlying46
  unfold fv
  rw [run_equalIn_array w (d + 1) _ _ Tryz.underlying48 hi]
  have hc : Tryz.prog.cellsOf 46 = 1 := by kernel_rfl
  have hr : List.range 4 = [0, 1, 2, 3] := rfl
  rw [hc, hr]
  have e : (f == g) = (((wd f 0 : Int) == wd g 0) && (((wd f 1 : Int) == wd g 1) && (((wd f 2 : Int) == wd g 2) && ((wd f 3 : Int) == wd g 3)))) := by
    rw [Bool.eq_iff_iff]
    simp only [Bool.and_eq_true, beq_iff_eq]
    constructor
    · rintro rfl; simp
    · rintro ⟨h0, h1, h2, h3⟩; exact wd_ext (by omega) (by omega) (by omega) (by omega)
  rw [e]
  clear e
  generalize ((wd f 0 : Nat) : Int) = a0
  generalize ((wd f 1 : Nat) : Int) = a1
  generalize ((wd f 2 : Nat) : Int) = a2
  generalize ((wd f 3 : Nat) : Int) = a3
  generalize ((wd g 0 : Nat) : Int) = b0
  generalize ((wd g 1 : Nat) : Int) = b1
  generalize ((wd g 2 : Nat) : Int) = b2
  generalize ((wd g 3 : Nat) : Int) = b3
  have hq : ∀ (w : World) (a b : Int), (Op.equalIn (d + 1) 46 (.int .u64 a) (.int .u64 b)).run Tryz.prog w = .ok (a == b) w := fun w a b => run_equalIn_int w d _ _ _ _ _ Tryz.underlying46
  by_cases h0 : a0 = b0
  · by_cases h1 : a1 = b1
    · by_cases h2 : a2 = b2
      · by_cases h3 : a3 = b3
        · simp [Op.eqItems, part, go_sem, hq, h0, h1, h2, h3]
        · simp [Op.eqItems, part, go_sem, hq, h0, h1, h2, h3]
      · simp [Op.eqItems, part, go_sem, hq, h0, h1, h2]
    · simp [Op.eqItems, part, go_sem, hq, h0, h1]
  · simp [Op.eqItems, part, go_sem, hq, h0]

theorem run_eql_fv (f g : Fn) (w : World) : (binOp .eql 48 (fv f) (fv g)).run Tryz.prog w = .ok (.bool (f == g)) w := by
  have h := run_equal_fv 9998 f g w
  unfold fv at *
  rw [run_eql_struct, h]
  rfl

theorem run_neq_fv (f g : Fn) (w : World) : (binOp .neq 48 (fv f) (fv g)).run Tryz.prog w = .ok (.bool (!(f == g))) w := by
  have h := run_equal_fv 9998 f g w
  unfold fv at *
  rw [run_neq_struct, h]
  rfl

theorem run_guard_fv (op : BinOp) (x y : Operand) (f g : Fn) (w : World) : (eqGuard op 48 x y (fv f) (fv g)).run Tryz.prog w = .ok () w :=
  run_eqGuard_agg w op _ x y _ _ (by kernel_rfl)

end Go.Proofs.YtipocmbplcdmjaaGreatDoor

/-
  Walks of package cof: by words.
-/
namespace Go.Proofs.YtipocmbplcdmjaaGreatDoor
open Go Go.RowKit
attribute [local go_sem] run_eql_fv run_neq_fv run_guard_fv setCell_drewN alloc_drewN

theorem bits_or_0_1 : bits .or .i64 0 1 = 1 := by decide +kernel
theorem bits_or_0_2 : bits .or .i64 0 2 = 2 := by decide +kernel
theorem bits_or_1_1 : bits .or .i64 1 1 = 1 := by decide +kernel
theorem bits_or_1_2 : bits .or .i64 1 2 = 3 := by decide +kernel
theorem bits_or_2_1 : bits .or .i64 2 1 = 3 := by decide +kernel
theorem bits_or_2_2 : bits .or .i64 2 2 = 2 := by decide +kernel
theorem bits_or_3_1 : bits .or .i64 3 1 = 3 := by decide +kernel
theorem bits_or_3_2 : bits .or .i64 3 2 = 3 := by decide +kernel
theorem bits_an_0_1 : bits .andNot .i64 0 1 = 0 := by decide +kernel
theorem bits_an_0_2 : bits .andNot .i64 0 2 = 0 := by decide +kernel
theorem bits_an_1_1 : bits .andNot .i64 1 1 = 0 := by decide +kernel
theorem bits_an_1_2 : bits .andNot .i64 1 2 = 1 := by decide +kernel
theorem bits_an_2_1 : bits .andNot .i64 2 1 = 2 := by decide +kernel
theorem bits_an_2_2 : bits .andNot .i64 2 2 = 0 := by decide +kernel
theorem bits_an_3_1 : bits .andNot .i64 3 1 = 2 := by decide +kernel
theorem bits_an_3_2 : bits .andNot .i64 3 2 = 1 := by decide +kernel
attribute [local go_sem] bits_or_0_1 bits_or_0_2 bits_or_1_1 bits_or_1_2 bits_or_2_1 bits_or_2_2 bits_or_3_1 bits_or_3_2 bits_an_0_1 bits_an_0_2 bits_an_1_1 bits_an_1_2 bits_an_2_1 bits_an_2_2 bits_an_3_1 bits_an_3_2

/-- Block b is a variable that holds four words. -/
def Has4 (w : World) (b : Nat) (x0 x1 x2 x3 : Int) : Prop := w.heap[b]? = some (.cells #[.int .u64 x0, .int .u64 x1, .int .u64 x2, .int .u64 x3] 48 (0, 0))

theorem Holds.has4 {w : World} {b : Nat} {f : Fn} (h : Holds w b f) : Has4 w b (wd f 0) (wd f 1) (wd f 2) (wd f 3) := h
theorem Has4.cells {w : World} {b : Nat} {x0 x1 x2 x3 : Int} (h : Has4 w b x0 x1 x2 x3) :
    w.cell? ⟨b, 0, none⟩ = some (.int .u64 x0) ∧ w.cell? ⟨b, 1, none⟩ = some (.int .u64 x1) ∧ w.cell? ⟨b, 2, none⟩ = some (.int .u64 x2) ∧ w.cell? ⟨b, 3, none⟩ = some (.int .u64 x3) :=
  ⟨cell_of_row _ _ _ _ _ _ h, cell_of_row _ _ _ _ _ _ h, cell_of_row _ _ _ _ _ _ h, cell_of_row _ _ _ _ _ _ h⟩
theorem Has4.free {w : World} {b : Nat} {x0 x1 x2 x3 : Int} (h : Has4 w b x0 x1 x2 x3) :
    w.frozen? ⟨b, 0, none⟩ = false ∧ w.frozen? ⟨b, 1, none⟩ = false ∧ w.frozen? ⟨b, 2, none⟩ = false ∧ w.frozen? ⟨b, 3, none⟩ = false :=
  ⟨frozen_of_row _ _ _ _ _ h, frozen_of_row _ _ _ _ _ h, frozen_of_row _ _ _ _ _ h, frozen_of_row _ _ _ _ _ h⟩
theorem Has4.set0 {w : World} {b : Nat} {x0 x1 x2 x3 : Int} (h : Has4 w b x0 x1 x2 x3) (y : Int) : Has4 (w.setCell ⟨b, 0, none⟩ (.int .u64 y)) b y x1 x2 x3 := heap_setCell_same _ _ _ _ _ _ h
theorem Has4.set1 {w : World} {b : Nat} {x0 x1 x2 x3 : Int} (h : Has4 w b x0 x1 x2 x3) (y : Int) : Has4 (w.setCell ⟨b, 1, none⟩ (.int .u64 y)) b x0 y x2 x3 := heap_setCell_same _ _ _ _ _ _ h
theorem Has4.set2 {w : World} {b : Nat} {x0 x1 x2 x3 : Int} (h : Has4 w b x0 x1 x2 x3) (y : Int) : Has4 (w.setCell ⟨b, 2, none⟩ (.int .u64 y)) b x0 x1 y x3 := heap_setCell_same _ _ _ _ _ _ h
theorem Has4.set3 {w : World} {b : Nat} {x0 x1 x2 x3 : Int} (h : Has4 w b x0 x1 x2 x3) (y : Int) : Has4 (w.setCell ⟨b, 3, none⟩ (.int .u64 y)) b x0 x1 x2 y := heap_setCell_same _ _ _ _ _ _ h
theorem Has4.drewN {w : World} {b n : Nat} {x0 x1 x2 x3 : Int} (h : Has4 w b x0 x1 x2 x3) : Has4 (w.drewN n) b x0 x1 x2 x3 := h
theorem Holds.drewN {w : World} {b n : Nat} {f : Fn} (h : Holds w b f) : Holds (w.drewN n) b f := h
theorem Holds.other1 {w : World} {b c i : Nat} {f : Fn} {x : Value} (h : Holds w b f) (hne : b ≠ c) : Holds (w.setCell ⟨c, i, none⟩ x) b f := by
  unfold Holds; rw [heap_setCell_other _ _ _ _ hne]; exact h

set_option maxHeartbeats 1000000 in
theorem cofOf (f : Fn) (v : Nat) (b : Bool) (w : World) (hv : v = 6 ∨ v = 7) :
    Calls Tryz.prog 65 #[fv f, .int .i64 v, .bool b] w fun e w' => e = .returned (fv (cofF f v b)) ∧ Below w.heap.size w w' := by
  obtain ⟨⟨a0, a1, a2, a3⟩, ⟨b0, b1, b2, b3⟩, ⟨c0, c1, c2, c3⟩, ⟨d0, d1, d2, d3⟩⟩ := cof_of_words f
  rcases hv with rfl | rfl <;> cases b <;> simp only [fv, a0, a1, a2, a3, b0, b1, b2, b3, c0, c1, c2, c3, d0, d1, d2, d3] <;> clear a0 a1 a2 a3 b0 b1 b2 b3 c0 c1 c2 c3 d0 d1 d2 d3
  all_goals
    go_enter Tryz.func65, Tryz.ntmps65
    go_wp2
    refine wp_loop_rounds 5 ?_
    iterate 4 (rw [rounds_succ]; go_wp2)
    rw [rounds_succ]
    go_wp2
    exact bodyPost_ret (v := _) (by simp [results, Tryz.results65, go_sem]) rfl ⟨rfl, by go_grown⟩

theorem or_shr (f k : Fn) (v i : Nat) (hk : k = f &&& varF v) (hv : v < 6) (hi : i < 4) : bits .or .u64 (wd k i) ((wd k i : Int) / 2 ^ 2 ^ v) = (wd (cofF f v true) i : Nat) := by
  subst hk
  have hx := wd_lt (f &&& varF v) i
  rw [show ((wd (f &&& varF v) i : Int) / 2 ^ 2 ^ v) = ((wd (f &&& varF v) i / 2 ^ 2 ^ v : Nat) : Int) by simp, bits_or_u64_nat _ _ hx (Nat.lt_of_le_of_lt (Nat.div_le_self _ _) hx), cof_in_true f v i hv hi]

theorem or_shl (f k : Fn) (v i : Nat) (hk : k = f &&& ~~~varF v) (hv : v < 6) (hi : i < 4) : bits .or .u64 (wd k i) (IntKind.u64.wrap ((wd k i : Int) * 2 ^ 2 ^ v)) = (wd (cofF f v false) i : Nat) := by
  subst hk
  have hx := wd_lt (f &&& ~~~varF v) i
  have e : IntKind.u64.wrap ((wd (f &&& ~~~varF v) i : Int) * 2 ^ 2 ^ v) = ((wd (f &&& ~~~varF v) i * 2 ^ 2 ^ v % 18446744073709551616 : Nat) : Int) := by
    rw [IntKind.wrap_u64]
    simp
  rw [e, bits_or_u64_nat _ _ hx (Nat.mod_lt _ (by decide)), cof_in_false f v i hv hi]

set_option maxRecDepth 100000 in
set_option maxHeartbeats 4000000 in
theorem cofInTrue (f : Fn) (v : Nat) (w : World) (hl : LowW w) (hv : v < 6) :
    Calls Tryz.prog 64 #[fv f, .int .i64 v, .bool true] w fun e w' => e = .returned (fv (cofF f v true)) ∧ Below w.heap.size w w' := by
  have Hl := Lib.hid hl
  have hp := hl.pos
  clear hl
  have hv0 : (0 : Int) ≤ v := by omega
  have hv1 : (v : Int) < 6 := by omega
  have hvar : varAny (v : Int) = varF v := by rw [varAny, if_pos (by omega), Int.toNat_natCast]
  have Hv := Lib.hid hvar
  have hs : wrap64 (2 ^ v) = ((2 ^ v : Nat) : Int) ∧ (2 : Nat) ^ v ≤ 32 := by
    rcases (by omega : v = 0 ∨ v = 1 ∨ v = 2 ∨ v = 3 ∨ v = 4 ∨ v = 5) with rfl | rfl | rfl | rfl | rfl | rfl <;> decide +kernel
  obtain ⟨hs, hs32⟩ := hs
  have hsn : 0 ≤ wrap64 (2 ^ v) ∧ wrap64 (2 ^ v) ≤ 32 := by rw [hs]; exact ⟨Int.natCast_nonneg _, Int.ofNat_le.2 hs32⟩
  have Hs := Lib.hid (show (wrap64 (2 ^ v)).toNat = 2 ^ v by rw [hs]; exact Int.toNat_natCast _)
  clear hvar hs hs32
  simp only [fv]
  go_enter Tryz.func64, Tryz.ntmps64
  go_wp2
  have hb : Below w.heap.size w ((w.alloc (.cells #[.int .u64 (wd f 0), .int .u64 (wd f 1), .int .u64 (wd f 2), .int .u64 (wd f 3)] 48)).alloc (.cells #[.int .u64 0, .int .u64 0, .int .u64 0, .int .u64 0] 48)) := by go_grown
  have h0 : Holds ((w.alloc (.cells #[.int .u64 (wd f 0), .int .u64 (wd f 1), .int .u64 (wd f 2), .int .u64 (wd f 3)] 48)).alloc (.cells #[.int .u64 0, .int .u64 0, .int .u64 0, .int .u64 0] 48)) w.heap.size f := (Holds.new _ _ _).alloc _
  have h1 : Holds ((w.alloc (.cells #[.int .u64 (wd f 0), .int .u64 (wd f 1), .int .u64 (wd f 2), .int .u64 (wd f 3)] 48)).alloc (.cells #[.int .u64 0, .int .u64 0, .int .u64 0, .int .u64 0] 48)) (w.heap.size + 1) 0#256 := Holds.new0 _ _
  generalize (w.alloc (.cells #[.int .u64 (wd f 0), .int .u64 (wd f 1), .int .u64 (wd f 2), .int .u64 (wd f 3)] 48)).alloc (.cells #[.int .u64 0, .int .u64 0, .int .u64 0, .int .u64 0] 48) = W at *
  have HL : Hid (∀ x, Below W.heap.size W x → LowW x) := Lib.hid fun x hx => Hl.out.keep (hb.trans (hx.mono hb.size))
  refine wp_region_alloc_tail 4 _ (.cells #[.int .u64 0, .int .u64 0, .int .u64 0, .int .u64 0] 48) (by kernel_rfl) (by kernel_rfl) rfl (fun a w => by simp [go_sem]; done) ?_
  apply Exists.intro
  refine ⟨fun V hV => ?_, ?_⟩
  · have c0 : ∀ u : Sub V, u.1.cell? ⟨w.heap.size, 0, none⟩ = some (.int .u64 (wd f 0)) := fun u => ((h0.keep hV h0.lt).sub u).cells.1
    have c1 : ∀ u : Sub V, u.1.cell? ⟨w.heap.size, 1, none⟩ = some (.int .u64 (wd f 1)) := fun u => ((h0.keep hV h0.lt).sub u).cells.2.1
    have c2 : ∀ u : Sub V, u.1.cell? ⟨w.heap.size, 2, none⟩ = some (.int .u64 (wd f 2)) := fun u => ((h0.keep hV h0.lt).sub u).cells.2.2.1
    have c3 : ∀ u : Sub V, u.1.cell? ⟨w.heap.size, 3, none⟩ = some (.int .u64 (wd f 3)) := fun u => ((h0.keep hV h0.lt).sub u).cells.2.2.2
    have hlV : ∀ u : Sub V, LowW u.1 := fun u => HL.out _ (hV.trans (u.2.mono hV.size))
    simp only [List.take_succ_cons, List.take_zero]
    iterate 2 (go_big_quiet_step (fail))
    go_big_quiet_step (exact sub_below (tabVar v _ (hlV _)))
    go_big_quiet_step (exact sub_below (tabAnd f (varAny v) _))
    exact wpQuiet_nil rfl
  intro B V hV hB hz
  have k1 := h1.keep hV h1.lt
  have kb := hb.trans (hV.mono hb.size)
  have kz : Holds V B 0#256 := by unfold Holds; rw [hz]; simp [wd]
  rw [Hv.out]
  have hne : w.heap.size + 1 ≠ B := by have := h1.lt; omega
  have hBw : w.heap.size ≤ B := by have := h1.lt; omega
  clear h0 h1 hb hV hB hz HL
  obtain ⟨c0, c1, c2, c3⟩ := kz.cells
  obtain ⟨z0, z1, z2, z3⟩ := kz.free
  simp only [List.drop_succ_cons, List.drop_zero]
  generalize hk : f &&& varF v = k
  have Hk := Lib.hid hk.symm
  clear hk
  simp only [fv]
  go_wp2
  have kk := kz.set4 k
  have kr := k1.other4 (x0 := .int .u64 (wd k 0)) (x1 := .int .u64 (wd k 1)) (x2 := .int .u64 (wd k 2)) (x3 := .int .u64 (wd k 3)) hne
  have kw := below_set4 (x0 := .int .u64 (wd k 0)) (x1 := .int .u64 (wd k 1)) (x2 := .int .u64 (wd k 2)) (x3 := .int .u64 (wd k 3)) kb hBw
  clear c0 c1 c2 c3 z0 z1 z2 z3 kz k1 kb
  generalize (((V.setCell ⟨B, 0, none⟩ (.int .u64 (wd k 0))).setCell ⟨B, 1, none⟩ (.int .u64 (wd k 1))).setCell ⟨B, 2, none⟩ (.int .u64 (wd k 2))).setCell ⟨B, 3, none⟩ (.int .u64 (wd k 3)) = U0 at *
  generalize wrap64 (2 ^ v) = s at *
  replace kk := kk.has4
  obtain ⟨c0, c1, c2, c3⟩ := kk.cells
  obtain ⟨z0, z1, z2, z3⟩ := kk.free
  refine wp_loop_rounds 5 ?_
  rw [rounds_succ]
  go_wp2
  refine wp_region_draws_tail 9 (by kernel_rfl) (by kernel_rfl) ?_
  simp only [List.take_succ_cons, List.take_zero, List.drop_succ_cons, List.drop_zero]
  iterate 9 (go_big_quiet_step (fail))
  refine wpQuiet_nil ?_
  intro w' hw'
  obtain ⟨nq, hw''⟩ := hw'
  subst hw''
  go_wp2
  replace kk := (kk.set0 (bits .or .u64 (wd k 0) ((wd k 0 : Int) / 2 ^ s.toNat))).drewN (n := nq)
  replace kr := (kr.other1 (i := 0) (x := .int .u64 (bits .or .u64 (wd k 0) ((wd k 0 : Int) / 2 ^ s.toNat))) hne).drewN (n := nq)
  replace kw := below_drewN (n := nq) (kw.setCell (p := ⟨B, 0, none⟩) hBw (.int .u64 (bits .or .u64 (wd k 0) ((wd k 0 : Int) / 2 ^ s.toNat))))
  clear c0 c1 c2 c3 z0 z1 z2 z3
  generalize (U0.setCell ⟨B, 0, none⟩ (.int .u64 (bits .or .u64 (wd k 0) ((wd k 0 : Int) / 2 ^ s.toNat)))).drewN nq = U1 at *
  obtain ⟨c0, c1, c2, c3⟩ := kk.cells
  obtain ⟨z0, z1, z2, z3⟩ := kk.free
  rw [rounds_succ]
  go_wp2
  refine wp_region_draws_tail 9 (by kernel_rfl) (by kernel_rfl) ?_
  simp only [List.take_succ_cons, List.take_zero, List.drop_succ_cons, List.drop_zero]
  iterate 9 (go_big_quiet_step (fail))
  refine wpQuiet_nil ?_
  intro w' hw'
  obtain ⟨nq, hw''⟩ := hw'
  subst hw''
  go_wp2
  replace kk := (kk.set1 (bits .or .u64 (wd k 1) ((wd k 1 : Int) / 2 ^ s.toNat))).drewN (n := nq)
  replace kr := (kr.other1 (i := 1) (x := .int .u64 (bits .or .u64 (wd k 1) ((wd k 1 : Int) / 2 ^ s.toNat))) hne).drewN (n := nq)
  replace kw := below_drewN (n := nq) (kw.setCell (p := ⟨B, 1, none⟩) hBw (.int .u64 (bits .or .u64 (wd k 1) ((wd k 1 : Int) / 2 ^ s.toNat))))
  clear c0 c1 c2 c3 z0 z1 z2 z3
  generalize (U1.setCell ⟨B, 1, none⟩ (.int .u64 (bits .or .u64 (wd k 1) ((wd k 1 : Int) / 2 ^ s.toNat)))).drewN nq = U2 at *
  obtain ⟨c0, c1, c2, c3⟩ := kk.cells
  obtain ⟨z0, z1, z2, z3⟩ := kk.free
  rw [rounds_succ]
  go_wp2
  refine wp_region_draws_tail 9 (by kernel_rfl) (by kernel_rfl) ?_
  simp only [List.take_succ_cons, List.take_zero, List.drop_succ_cons, List.drop_zero]
  iterate 9 (go_big_quiet_step (fail))
  refine wpQuiet_nil ?_
  intro w' hw'
  obtain ⟨nq, hw''⟩ := hw'
  subst hw''
  go_wp2
  replace kk := (kk.set2 (bits .or .u64 (wd k 2) ((wd k 2 : Int) / 2 ^ s.toNat))).drewN (n := nq)
  replace kr := (kr.other1 (i := 2) (x := .int .u64 (bits .or .u64 (wd k 2) ((wd k 2 : Int) / 2 ^ s.toNat))) hne).drewN (n := nq)
  replace kw := below_drewN (n := nq) (kw.setCell (p := ⟨B, 2, none⟩) hBw (.int .u64 (bits .or .u64 (wd k 2) ((wd k 2 : Int) / 2 ^ s.toNat))))
  clear c0 c1 c2 c3 z0 z1 z2 z3
  generalize (U2.setCell ⟨B, 2, none⟩ (.int .u64 (bits .or .u64 (wd k 2) ((wd k 2 : Int) / 2 ^ s.toNat)))).drewN nq = U3 at *
  obtain ⟨c0, c1, c2, c3⟩ := kk.cells
  obtain ⟨z0, z1, z2, z3⟩ := kk.free
  rw [rounds_succ]
  go_wp2
  refine wp_region_draws_tail 9 (by kernel_rfl) (by kernel_rfl) ?_
  simp only [List.take_succ_cons, List.take_zero, List.drop_succ_cons, List.drop_zero]
  iterate 9 (go_big_quiet_step (fail))
  refine wpQuiet_nil ?_
  intro w' hw'
  obtain ⟨nq, hw''⟩ := hw'
  subst hw''
  go_wp2
  replace kk := (kk.set3 (bits .or .u64 (wd k 3) ((wd k 3 : Int) / 2 ^ s.toNat))).drewN (n := nq)
  replace kr := (kr.other1 (i := 3) (x := .int .u64 (bits .or .u64 (wd k 3) ((wd k 3 : Int) / 2 ^ s.toNat))) hne).drewN (n := nq)
  replace kw := below_drewN (n := nq) (kw.setCell (p := ⟨B, 3, none⟩) hBw (.int .u64 (bits .or .u64 (wd k 3) ((wd k 3 : Int) / 2 ^ s.toNat))))
  clear c0 c1 c2 c3 z0 z1 z2 z3
  generalize (U3.setCell ⟨B, 3, none⟩ (.int .u64 (bits .or .u64 (wd k 3) ((wd k 3 : Int) / 2 ^ s.toNat)))).drewN nq = U4 at *
  obtain ⟨c0, c1, c2, c3⟩ := kk.cells
  obtain ⟨z0, z1, z2, z3⟩ := kk.free
  rw [rounds_succ]
  obtain ⟨d0, d1, d2, d3⟩ := kr.cells
  obtain ⟨y0, y1, y2, y3⟩ := kr.free
  go_wp2
  clear c0 c1 c2 c3 z0 z1 z2 z3 d0 d1 d2 d3 y0 y1 y2 y3
  have e0 := or_shr f k v 0 Hk.out hv (by decide)
  have e1 := or_shr f k v 1 Hk.out hv (by decide)
  have e2 := or_shr f k v 2 Hk.out hv (by decide)
  have e3 := or_shr f k v 3 Hk.out hv (by decide)
  rw [Hs.out, e0, e1, e2, e3]
  exact bodyPost_ret (ret_holds Tryz.results64 rfl (kr.set4 (cofF f v true))) rfl ⟨rfl, below_set4 kw (by omega)⟩

set_option maxRecDepth 100000 in
set_option maxHeartbeats 4000000 in
theorem cofInFalse (f : Fn) (v : Nat) (w : World) (hl : LowW w) (hv : v < 6) :
    Calls Tryz.prog 64 #[fv f, .int .i64 v, .bool false] w fun e w' => e = .returned (fv (cofF f v false)) ∧ Below w.heap.size w w' := by
  have Hl := Lib.hid hl
  have hp := hl.pos
  clear hl
  have hv0 : (0 : Int) ≤ v := by omega
  have hv1 : (v : Int) < 6 := by omega
  have hvar : varAny (v : Int) = varF v := by rw [varAny, if_pos (by omega), Int.toNat_natCast]
  have Hv := Lib.hid hvar
  have hs : wrap64 (2 ^ v) = ((2 ^ v : Nat) : Int) ∧ (2 : Nat) ^ v ≤ 32 := by
    rcases (by omega : v = 0 ∨ v = 1 ∨ v = 2 ∨ v = 3 ∨ v = 4 ∨ v = 5) with rfl | rfl | rfl | rfl | rfl | rfl <;> decide +kernel
  obtain ⟨hs, hs32⟩ := hs
  have hsn : 0 ≤ wrap64 (2 ^ v) ∧ wrap64 (2 ^ v) ≤ 32 := by rw [hs]; exact ⟨Int.natCast_nonneg _, Int.ofNat_le.2 hs32⟩
  have Hs := Lib.hid (show (wrap64 (2 ^ v)).toNat = 2 ^ v by rw [hs]; exact Int.toNat_natCast _)
  clear hvar hs hs32
  simp only [fv]
  go_enter Tryz.func64, Tryz.ntmps64
  go_wp2
  have hb : Below w.heap.size w ((w.alloc (.cells #[.int .u64 (wd f 0), .int .u64 (wd f 1), .int .u64 (wd f 2), .int .u64 (wd f 3)] 48)).alloc (.cells #[.int .u64 0, .int .u64 0, .int .u64 0, .int .u64 0] 48)) := by go_grown
  have h0 : Holds ((w.alloc (.cells #[.int .u64 (wd f 0), .int .u64 (wd f 1), .int .u64 (wd f 2), .int .u64 (wd f 3)] 48)).alloc (.cells #[.int .u64 0, .int .u64 0, .int .u64 0, .int .u64 0] 48)) w.heap.size f := (Holds.new _ _ _).alloc _
  have h1 : Holds ((w.alloc (.cells #[.int .u64 (wd f 0), .int .u64 (wd f 1), .int .u64 (wd f 2), .int .u64 (wd f 3)] 48)).alloc (.cells #[.int .u64 0, .int .u64 0, .int .u64 0, .int .u64 0] 48)) (w.heap.size + 1) 0#256 := Holds.new0 _ _
  generalize (w.alloc (.cells #[.int .u64 (wd f 0), .int .u64 (wd f 1), .int .u64 (wd f 2), .int .u64 (wd f 3)] 48)).alloc (.cells #[.int .u64 0, .int .u64 0, .int .u64 0, .int .u64 0] 48) = W at *
  have HL : Hid (∀ x, Below W.heap.size W x → LowW x) := Lib.hid fun x hx => Hl.out.keep (hb.trans (hx.mono hb.size))
  refine wp_region_alloc_tail 5 _ (.cells #[.int .u64 0, .int .u64 0, .int .u64 0, .int .u64 0] 48) (by kernel_rfl) (by kernel_rfl) rfl (fun a w => by simp [go_sem]; done) ?_
  apply Exists.intro
  refine ⟨fun V hV => ?_, ?_⟩
  · have c0 : ∀ u : Sub V, u.1.cell? ⟨w.heap.size, 0, none⟩ = some (.int .u64 (wd f 0)) := fun u => ((h0.keep hV h0.lt).sub u).cells.1
    have c1 : ∀ u : Sub V, u.1.cell? ⟨w.heap.size, 1, none⟩ = some (.int .u64 (wd f 1)) := fun u => ((h0.keep hV h0.lt).sub u).cells.2.1
    have c2 : ∀ u : Sub V, u.1.cell? ⟨w.heap.size, 2, none⟩ = some (.int .u64 (wd f 2)) := fun u => ((h0.keep hV h0.lt).sub u).cells.2.2.1
    have c3 : ∀ u : Sub V, u.1.cell? ⟨w.heap.size, 3, none⟩ = some (.int .u64 (wd f 3)) := fun u => ((h0.keep hV h0.lt).sub u).cells.2.2.2
    have hlV : ∀ u : Sub V, LowW u.1 := fun u => HL.out _ (hV.trans (u.2.mono hV.size))
    simp only [List.take_succ_cons, List.take_zero]
    iterate 2 (go_big_quiet_step (fail))
    go_big_quiet_step (exact sub_below (tabVar v _ (hlV _)))
    go_big_quiet_step (exact sub_below (tabNot (varAny v) _))
    go_big_quiet_step (exact sub_below (tabAnd f (~~~varAny v) _))
    exact wpQuiet_nil rfl
  intro B V hV hB hz
  have k1 := h1.keep hV h1.lt
  have kb := hb.trans (hV.mono hb.size)
  have kz : Holds V B 0#256 := by unfold Holds; rw [hz]; simp [wd]
  rw [Hv.out]
  have hne : w.heap.size + 1 ≠ B := by have := h1.lt; omega
  have hBw : w.heap.size ≤ B := by have := h1.lt; omega
  clear h0 h1 hb hV hB hz HL
  obtain ⟨c0, c1, c2, c3⟩ := kz.cells
  obtain ⟨z0, z1, z2, z3⟩ := kz.free
  simp only [List.drop_succ_cons, List.drop_zero]
  generalize hk : f &&& ~~~varF v = k
  have Hk := Lib.hid hk.symm
  clear hk
  simp only [fv]
  go_wp2
  have kk := kz.set4 k
  have kr := k1.other4 (x0 := .int .u64 (wd k 0)) (x1 := .int .u64 (wd k 1)) (x2 := .int .u64 (wd k 2)) (x3 := .int .u64 (wd k 3)) hne
  have kw := below_set4 (x0 := .int .u64 (wd k 0)) (x1 := .int .u64 (wd k 1)) (x2 := .int .u64 (wd k 2)) (x3 := .int .u64 (wd k 3)) kb hBw
  clear c0 c1 c2 c3 z0 z1 z2 z3 kz k1 kb
  generalize (((V.setCell ⟨B, 0, none⟩ (.int .u64 (wd k 0))).setCell ⟨B, 1, none⟩ (.int .u64 (wd k 1))).setCell ⟨B, 2, none⟩ (.int .u64 (wd k 2))).setCell ⟨B, 3, none⟩ (.int .u64 (wd k 3)) = U0 at *
  generalize wrap64 (2 ^ v) = s at *
  replace kk := kk.has4
  obtain ⟨c0, c1, c2, c3⟩ := kk.cells
  obtain ⟨z0, z1, z2, z3⟩ := kk.free
  refine wp_loop_rounds 5 ?_
  rw [rounds_succ]
  go_wp2
  refine wp_region_draws_tail 9 (by kernel_rfl) (by kernel_rfl) ?_
  simp only [List.take_succ_cons, List.take_zero, List.drop_succ_cons, List.drop_zero]
  iterate 9 (go_big_quiet_step (fail))
  refine wpQuiet_nil ?_
  intro w' hw'
  obtain ⟨nq, hw''⟩ := hw'
  subst hw''
  go_wp2
  replace kk := (kk.set0 (bits .or .u64 (wd k 0) (IntKind.u64.wrap ((wd k 0 : Int) * 2 ^ s.toNat)))).drewN (n := nq)
  replace kr := (kr.other1 (i := 0) (x := .int .u64 (bits .or .u64 (wd k 0) (IntKind.u64.wrap ((wd k 0 : Int) * 2 ^ s.toNat)))) hne).drewN (n := nq)
  replace kw := below_drewN (n := nq) (kw.setCell (p := ⟨B, 0, none⟩) hBw (.int .u64 (bits .or .u64 (wd k 0) (IntKind.u64.wrap ((wd k 0 : Int) * 2 ^ s.toNat)))))
  clear c0 c1 c2 c3 z0 z1 z2 z3
  generalize (U0.setCell ⟨B, 0, none⟩ (.int .u64 (bits .or .u64 (wd k 0) (IntKind.u64.wrap ((wd k 0 : Int) * 2 ^ s.toNat))))).drewN nq = U1 at *
  obtain ⟨c0, c1, c2, c3⟩ := kk.cells
  obtain ⟨z0, z1, z2, z3⟩ := kk.free
  rw [rounds_succ]
  go_wp2
  refine wp_region_draws_tail 9 (by kernel_rfl) (by kernel_rfl) ?_
  simp only [List.take_succ_cons, List.take_zero, List.drop_succ_cons, List.drop_zero]
  iterate 9 (go_big_quiet_step (fail))
  refine wpQuiet_nil ?_
  intro w' hw'
  obtain ⟨nq, hw''⟩ := hw'
  subst hw''
  go_wp2
  replace kk := (kk.set1 (bits .or .u64 (wd k 1) (IntKind.u64.wrap ((wd k 1 : Int) * 2 ^ s.toNat)))).drewN (n := nq)
  replace kr := (kr.other1 (i := 1) (x := .int .u64 (bits .or .u64 (wd k 1) (IntKind.u64.wrap ((wd k 1 : Int) * 2 ^ s.toNat)))) hne).drewN (n := nq)
  replace kw := below_drewN (n := nq) (kw.setCell (p := ⟨B, 1, none⟩) hBw (.int .u64 (bits .or .u64 (wd k 1) (IntKind.u64.wrap ((wd k 1 : Int) * 2 ^ s.toNat)))))
  clear c0 c1 c2 c3 z0 z1 z2 z3
  generalize (U1.setCell ⟨B, 1, none⟩ (.int .u64 (bits .or .u64 (wd k 1) (IntKind.u64.wrap ((wd k 1 : Int) * 2 ^ s.toNat))))).drewN nq = U2 at *
  obtain ⟨c0, c1, c2, c3⟩ := kk.cells
  obtain ⟨z0, z1, z2, z3⟩ := kk.free
  rw [rounds_succ]
  go_wp2
  refine wp_region_draws_tail 9 (by kernel_rfl) (by kernel_rfl) ?_
  simp only [List.take_succ_cons, List.take_zero, List.drop_succ_cons, List.drop_zero]
  iterate 9 (go_big_quiet_step (fail))
  refine wpQuiet_nil ?_
  intro w' hw'
  obtain ⟨nq, hw''⟩ := hw'
  subst hw''
  go_wp2
  replace kk := (kk.set2 (bits .or .u64 (wd k 2) (IntKind.u64.wrap ((wd k 2 : Int) * 2 ^ s.toNat)))).drewN (n := nq)
  replace kr := (kr.other1 (i := 2) (x := .int .u64 (bits .or .u64 (wd k 2) (IntKind.u64.wrap ((wd k 2 : Int) * 2 ^ s.toNat)))) hne).drewN (n := nq)
  replace kw := below_drewN (n := nq) (kw.setCell (p := ⟨B, 2, none⟩) hBw (.int .u64 (bits .or .u64 (wd k 2) (IntKind.u64.wrap ((wd k 2 : Int) * 2 ^ s.toNat)))))
  clear c0 c1 c2 c3 z0 z1 z2 z3
  generalize (U2.setCell ⟨B, 2, none⟩ (.int .u64 (bits .or .u64 (wd k 2) (IntKind.u64.wrap ((wd k 2 : Int) * 2 ^ s.toNat))))).drewN nq = U3 at *
  obtain ⟨c0, c1, c2, c3⟩ := kk.cells
  obtain ⟨z0, z1, z2, z3⟩ := kk.free
  rw [rounds_succ]
  go_wp2
  refine wp_region_draws_tail 9 (by kernel_rfl) (by kernel_rfl) ?_
  simp only [List.take_succ_cons, List.take_zero, List.drop_succ_cons, List.drop_zero]
  iterate 9 (go_big_quiet_step (fail))
  refine wpQuiet_nil ?_
  intro w' hw'
  obtain ⟨nq, hw''⟩ := hw'
  subst hw''
  go_wp2
  replace kk := (kk.set3 (bits .or .u64 (wd k 3) (IntKind.u64.wrap ((wd k 3 : Int) * 2 ^ s.toNat)))).drewN (n := nq)
  replace kr := (kr.other1 (i := 3) (x := .int .u64 (bits .or .u64 (wd k 3) (IntKind.u64.wrap ((wd k 3 : Int) * 2 ^ s.toNat)))) hne).drewN (n := nq)
  replace kw := below_drewN (n := nq) (kw.setCell (p := ⟨B, 3, none⟩) hBw (.int .u64 (bits .or .u64 (wd k 3) (IntKind.u64.wrap ((wd k 3 : Int) * 2 ^ s.toNat)))))
  clear c0 c1 c2 c3 z0 z1 z2 z3
  generalize (U3.setCell ⟨B, 3, none⟩ (.int .u64 (bits .or .u64 (wd k 3) (IntKind.u64.wrap ((wd k 3 : Int) * 2 ^ s.toNat))))).drewN nq = U4 at *
  obtain ⟨c0, c1, c2, c3⟩ := kk.cells
  obtain ⟨z0, z1, z2, z3⟩ := kk.free
  rw [rounds_succ]
  obtain ⟨d0, d1, d2, d3⟩ := kr.cells
  obtain ⟨y0, y1, y2, y3⟩ := kr.free
  go_wp2
  clear c0 c1 c2 c3 z0 z1 z2 z3 d0 d1 d2 d3 y0 y1 y2 y3
  have e0 := or_shl f k v 0 Hk.out hv (by decide)
  have e1 := or_shl f k v 1 Hk.out hv (by decide)
  have e2 := or_shl f k v 2 Hk.out hv (by decide)
  have e3 := or_shl f k v 3 Hk.out hv (by decide)
  rw [Hs.out, e0, e1, e2, e3]
  exact bodyPost_ret (ret_holds Tryz.results64 rfl (kr.set4 (cofF f v false))) rfl ⟨rfl, below_set4 kw (by omega)⟩

end Go.Proofs.YtipocmbplcdmjaaGreatDoor
