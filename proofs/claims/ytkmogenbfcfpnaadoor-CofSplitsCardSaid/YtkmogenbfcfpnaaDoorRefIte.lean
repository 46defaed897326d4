/-
  Walk of the document's Ite.
-/
import Derived.Test.YtkmogenbfcfpnaaDoorRefC
namespace Go.Proofs.YtkmogenbfcfpnaaDoor
open Go Go.RowKit

/-- Row by row. -/

def iteRow (f g k : Fn) (x : Nat) : Bool := if f.getLsbD x then g.getLsbD x else k.getLsbD x

theorem iteRow_eq (f g k : Fn) : ofRow (iteRow f g k) = (f &&& g ||| ~~~f &&& k) := fn_ext fun x hx => by
  rw [ofRow_bit _ _ hx]
  simp [iteRow, hx]
  cases f[x] <;> simp

theorem atF_nat (f : Fn) (n : Nat) (h : n < 256) : atF f n = f.getLsbD n := by
  rw [atF, if_pos (by omega), Int.toNat_natCast]

/-- At the loop's head. -/

def Filling (w : World) (f g k o : Fn) (wr : World) : Prop :=
  Holds wr w.heap.size f ∧ Holds wr (w.heap.size + 1) g ∧ Holds wr (w.heap.size + 1 + 1) k ∧ Holds wr (w.heap.size + 1 + 1 + 1) 0#256 ∧ Holds wr (w.heap.size + 1 + 1 + 1 + 1) o ∧ Below w.heap.size w wr

set_option maxRecDepth 100000 in
set_option maxHeartbeats 1000000 in
theorem refIte (f g k : Fn) (w : World) :
    Calls Tryd.prog 34 #[fv f, fv g, fv k] w fun e w' => e = .returned (fv (f &&& g ||| ~~~f &&& k)) ∧ Below w.heap.size w w' := by
  rw [← iteRow_eq]
  simp only [fv]
  go_enter Tryd.func34, Tryd.ntmps34
  go_wp2
  go_loopw [8] (fun i wr => ∃ n : Nat, n ≤ 256 ∧ i = .int .i64 n ∧ Filling w f g k (upTo (iteRow f g k) n) wr) (fun i _ => 256 - (intOf i).toNat)
  case atStart =>
    exact ⟨0, Nat.zero_le _, rfl, by rw [upTo_zero]; exact ⟨((((Holds.new _ _ _).alloc _).alloc _).alloc _).alloc _, (((Holds.new _ _ _).alloc _).alloc _).alloc _, ((Holds.new _ _ _).alloc _).alloc _, (Holds.new0 _ _).alloc _, Holds.new0 _ _, by go_grown⟩⟩
  case round =>
    obtain ⟨n, hn, rfl, h0, h1, h2, h3, h4, hb⟩ := hrel
    by_cases hlt : n < 256
    · obtain ⟨c0, c1, c2, c3⟩ := h0.cells
      go_wp2_with fail
      refine (refAt f n _).mono ?_
      rintro e w1 ⟨rfl, hb1⟩
      clear c0 c1 c2 c3
      have k0 := h0.keep hb1 h0.lt
      have k1 := h1.keep hb1 h1.lt
      have k2 := h2.keep hb1 h2.lt
      have k3 := h3.keep hb1 h3.lt
      have k4 := h4.keep hb1 h4.lt
      have hb3 := hb.trans (hb1.mono hb.size)
      clear h0 h1 h2 h3 h4 hb hb1
      have hP : iteRow f g k n = if atF f n then atF g n else atF k n := by rw [iteRow, atF_nat _ _ hlt, atF_nat _ _ hlt, atF_nat _ _ hlt]
      cases ha : atF f n with
      | true =>
        rw [ha, if_pos rfl] at hP
        have Hf := Lib.hid (upTo_put (iteRow f g k) n (atF g n) hP.symm)
        clear hP ha
        generalize upTo (iteRow f g k) n = o at *
        have o0 : ∀ u : Sub w1, u.1.cell? ⟨w.heap.size + 1 + 1 + 1 + 1, 0, none⟩ = some (.int .u64 (wd o 0)) := fun u => (k4.sub u).cells.1
        have o1 : ∀ u : Sub w1, u.1.cell? ⟨w.heap.size + 1 + 1 + 1 + 1, 1, none⟩ = some (.int .u64 (wd o 1)) := fun u => (k4.sub u).cells.2.1
        have o2 : ∀ u : Sub w1, u.1.cell? ⟨w.heap.size + 1 + 1 + 1 + 1, 2, none⟩ = some (.int .u64 (wd o 2)) := fun u => (k4.sub u).cells.2.2.1
        have o3 : ∀ u : Sub w1, u.1.cell? ⟨w.heap.size + 1 + 1 + 1 + 1, 3, none⟩ = some (.int .u64 (wd o 3)) := fun u => (k4.sub u).cells.2.2.2
        have p0 : ∀ u : Sub w1, u.1.cell? ⟨w.heap.size + 1, 0, none⟩ = some (.int .u64 (wd g 0)) := fun u => (k1.sub u).cells.1
        have p1 : ∀ u : Sub w1, u.1.cell? ⟨w.heap.size + 1, 1, none⟩ = some (.int .u64 (wd g 1)) := fun u => (k1.sub u).cells.2.1
        have p2 : ∀ u : Sub w1, u.1.cell? ⟨w.heap.size + 1, 2, none⟩ = some (.int .u64 (wd g 2)) := fun u => (k1.sub u).cells.2.2.1
        have p3 : ∀ u : Sub w1, u.1.cell? ⟨w.heap.size + 1, 3, none⟩ = some (.int .u64 (wd g 3)) := fun u => (k1.sub u).cells.2.2.2
        go_wp2
        refine wp_region_quiet_tail (C := fun w' => ∃ u : Sub w1, w' = u.1) 6 (by kernel_rfl) (by kernel_rfl) (InSub.drew w1) ?_
        simp only [List.take_succ_cons, List.take_zero, List.drop_succ_cons, List.drop_zero]
        go_big_quiet_step (fail)
        go_big_quiet_step (fail)
        go_big_quiet_step (fail)
        go_big_quiet_step (fail)
        go_big_quiet_step (exact sub_below (refAt g n _))
        go_big_quiet_step (exact sub_below (refPut o n _ _ hlt))
        refine wpQuiet_nil ?_
        rw [Hf.out]
        clear o0 o1 o2 o3 p0 p1 p2 p3
        intro w' hw'
        obtain ⟨u, rfl⟩ := hw'
        replace k0 := k0.sub u
        replace k1 := k1.sub u
        replace k2 := k2.sub u
        replace k3 := k3.sub u
        replace k4 := k4.sub u
        have hb2 := u.2
        generalize u.1 = w2 at *
        obtain ⟨c0, c1, c2, c3⟩ := k4.cells
        obtain ⟨z0, z1, z2, z3⟩ := k4.free
        simp only [fv]
        go_wp2
        exact ⟨⟨n + 1, by omega, by go_num, ⟨k0.other4 (by omega), k1.other4 (by omega), k2.other4 (by omega), k3.other4 (by omega), k4.set4 _, below_set4 (hb3.trans (hb2.mono hb3.size)) (by omega)⟩⟩, by simp [intOf]; omega⟩
      | false =>
        rw [ha, if_neg (by decide)] at hP
        have Hf := Lib.hid (upTo_put (iteRow f g k) n (atF k n) hP.symm)
        clear hP ha
        generalize upTo (iteRow f g k) n = o at *
        have o0 : ∀ u : Sub w1, u.1.cell? ⟨w.heap.size + 1 + 1 + 1 + 1, 0, none⟩ = some (.int .u64 (wd o 0)) := fun u => (k4.sub u).cells.1
        have o1 : ∀ u : Sub w1, u.1.cell? ⟨w.heap.size + 1 + 1 + 1 + 1, 1, none⟩ = some (.int .u64 (wd o 1)) := fun u => (k4.sub u).cells.2.1
        have o2 : ∀ u : Sub w1, u.1.cell? ⟨w.heap.size + 1 + 1 + 1 + 1, 2, none⟩ = some (.int .u64 (wd o 2)) := fun u => (k4.sub u).cells.2.2.1
        have o3 : ∀ u : Sub w1, u.1.cell? ⟨w.heap.size + 1 + 1 + 1 + 1, 3, none⟩ = some (.int .u64 (wd o 3)) := fun u => (k4.sub u).cells.2.2.2
        have p0 : ∀ u : Sub w1, u.1.cell? ⟨w.heap.size + 1 + 1, 0, none⟩ = some (.int .u64 (wd k 0)) := fun u => (k2.sub u).cells.1
        have p1 : ∀ u : Sub w1, u.1.cell? ⟨w.heap.size + 1 + 1, 1, none⟩ = some (.int .u64 (wd k 1)) := fun u => (k2.sub u).cells.2.1
        have p2 : ∀ u : Sub w1, u.1.cell? ⟨w.heap.size + 1 + 1, 2, none⟩ = some (.int .u64 (wd k 2)) := fun u => (k2.sub u).cells.2.2.1
        have p3 : ∀ u : Sub w1, u.1.cell? ⟨w.heap.size + 1 + 1, 3, none⟩ = some (.int .u64 (wd k 3)) := fun u => (k2.sub u).cells.2.2.2
        go_wp2
        refine wp_region_quiet_tail (C := fun w' => ∃ u : Sub w1, w' = u.1) 6 (by kernel_rfl) (by kernel_rfl) (InSub.drew w1) ?_
        simp only [List.take_succ_cons, List.take_zero, List.drop_succ_cons, List.drop_zero]
        go_big_quiet_step (fail)
        go_big_quiet_step (fail)
        go_big_quiet_step (fail)
        go_big_quiet_step (fail)
        go_big_quiet_step (exact sub_below (refAt k n _))
        go_big_quiet_step (exact sub_below (refPut o n _ _ hlt))
        refine wpQuiet_nil ?_
        rw [Hf.out]
        clear o0 o1 o2 o3 p0 p1 p2 p3
        intro w' hw'
        obtain ⟨u, rfl⟩ := hw'
        replace k0 := k0.sub u
        replace k1 := k1.sub u
        replace k2 := k2.sub u
        replace k3 := k3.sub u
        replace k4 := k4.sub u
        have hb2 := u.2
        generalize u.1 = w2 at *
        obtain ⟨c0, c1, c2, c3⟩ := k4.cells
        obtain ⟨z0, z1, z2, z3⟩ := k4.free
        simp only [fv]
        go_wp2
        exact ⟨⟨n + 1, by omega, by go_num, ⟨k0.other4 (by omega), k1.other4 (by omega), k2.other4 (by omega), k3.other4 (by omega), k4.set4 _, below_set4 (hb3.trans (hb2.mono hb3.size)) (by omega)⟩⟩, by simp [intOf]; omega⟩
    · obtain rfl : n = 256 := by omega
      rw [upTo_all] at h4
      generalize hg : ofRow (iteRow f g k) = o at *
      have Hg := Lib.hid hg
      clear hg
      obtain ⟨c0, c1, c2, c3⟩ := h4.cells
      obtain ⟨d0, d1, d2, d3⟩ := h3.cells
      obtain ⟨z0, z1, z2, z3⟩ := h3.free
      go_wp2
      exact bodyPost_ret (ret_holds Tryd.results34 rfl (h3.set4 o)) rfl ⟨by rw [Hg.out]; rfl, below_set4 hb (by omega)⟩

end Go.Proofs.YtkmogenbfcfpnaaDoor
