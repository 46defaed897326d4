/-
  Texts of this proof, one behind the other: WireR, WireS, WireT.
-/
import Derived.Test.YtnnkkedflfmaoaaG7
/-
  Walks of package wire: Put, Get, PutResp, GetResp.
-/
namespace Go.Proofs.Ytnnkkedflfmaoaa
open Go Go.RowKit

/-- A request's cells. -/
def rqC (r : Rq) : Array Value := #[.int .i64 r.op, .int .i64 r.tenant, .int .u64 r.a, .int .u64 r.b, .int .u64 r.c, .int .i64 r.n, .int .i64 r.bit]
def rqV (r : Rq) : Value := .agg #[.int .i64 r.op, .int .i64 r.tenant, .int .u64 r.a, .int .u64 r.b, .int .u64 r.c, .int .i64 r.n, .int .i64 r.bit]
def HoldsR (w : World) (b : Nat) (r : Rq) : Prop := w.heap[b]? = some (.cells #[.int .i64 r.op, .int .i64 r.tenant, .int .u64 r.a, .int .u64 r.b, .int .u64 r.c, .int .i64 r.n, .int .i64 r.bit] 24 (0, 0))
def rsV (r : Rs) : Value := .agg #[.int .i64 r.code, .int .i64 r.tenant, .int .u64 r.val, .int .i64 r.charge, .int .i64 r.cost]
def HoldsS (w : World) (b : Nat) (r : Rs) : Prop := w.heap[b]? = some (.cells #[.int .i64 r.code, .int .i64 r.tenant, .int .u64 r.val, .int .i64 r.charge, .int .i64 r.cost] 26 (0, 0))
section
variable {w w' : World} {b : Nat} {r : Rq} {s : Rs}
theorem HoldsR.lt (h : HoldsR w b r) : b < w.heap.size := (Array.getElem?_eq_some_iff.1 h).1
theorem HoldsR.below (h : HoldsR w b r) (hb : Below w.heap.size w w') : HoldsR w' b r := (hb.block b h.lt).trans h
theorem HoldsR.cells (h : HoldsR w b r) : w.cell? ⟨b, 0, none⟩ = some (.int .i64 r.op) ∧ w.cell? ⟨b, 1, none⟩ = some (.int .i64 r.tenant) ∧ w.cell? ⟨b, 2, none⟩ = some (.int .u64 r.a) ∧ w.cell? ⟨b, 3, none⟩ = some (.int .u64 r.b) ∧
    w.cell? ⟨b, 4, none⟩ = some (.int .u64 r.c) ∧ w.cell? ⟨b, 5, none⟩ = some (.int .i64 r.n) ∧ w.cell? ⟨b, 6, none⟩ = some (.int .i64 r.bit) := by
  unfold HoldsR at h
  simp only [cell_of_row _ _ _ _ _ _ h]
  exact ⟨rfl, rfl, rfl, rfl, rfl, rfl, rfl⟩
theorem HoldsR.free (h : HoldsR w b r) (j : Nat) : w.frozen? ⟨b, j, none⟩ = false := frozen_of_row _ _ _ _ _ h
theorem HoldsS.lt (h : HoldsS w b s) : b < w.heap.size := (Array.getElem?_eq_some_iff.1 h).1
theorem HoldsS.below (h : HoldsS w b s) (hb : Below w.heap.size w w') : HoldsS w' b s := (hb.block b h.lt).trans h
theorem HoldsS.cells (h : HoldsS w b s) : w.cell? ⟨b, 0, none⟩ = some (.int .i64 s.code) ∧ w.cell? ⟨b, 1, none⟩ = some (.int .i64 s.tenant) ∧ w.cell? ⟨b, 2, none⟩ = some (.int .u64 s.val) ∧ w.cell? ⟨b, 3, none⟩ = some (.int .i64 s.charge) ∧
    w.cell? ⟨b, 4, none⟩ = some (.int .i64 s.cost) := by
  unfold HoldsS at h
  simp only [cell_of_row _ _ _ _ _ _ h]
  exact ⟨rfl, rfl, rfl, rfl, rfl⟩
theorem HoldsS.free (h : HoldsS w b s) (j : Nat) : w.frozen? ⟨b, j, none⟩ = false := frozen_of_row _ _ _ _ _ h
end

theorem PutPost.later {o : Option (List Nat)} {w0 w w' : World} {r x : Value} (h : PutPost o w r x w') (hb : Below w0.heap.size w0 w) : PutPost o w0 r x w' := by
  cases o with
  | none => exact ⟨h.1, h.2.1, hb.trans (h.2.2.mono hb.size)⟩
  | some b => exact ⟨h.1, h.2.own, fun g hg => Nat.le_trans hb.size (h.2.new g hg), hb.trans (h.2.below.mono hb.size)⟩

theorem PutPost.below {o : Option (List Nat)} {w w' : World} {r x : Value} (h : PutPost o w r x w') : Below w.heap.size w w' := by
  cases o with
  | none => exact h.2.2
  | some b => exact h.2.below

theorem request_few (op : Nat) : (request op).length ≤ 10 := by
  have := named_few op
  unfold request
  rw [List.length_append]
  have : headP.length = 2 := rfl
  omega

theorem wirePut' (f : List Prt) (v : Value) (n : NF) (x0 x1 x2 x3 x4 x5 x6 : Int) (w : World) (hv : RC encP w v f) (hf : Form f) (hl : f.length ≤ 10) (e0 : x0 = n 0) (e1 : x1 = n 1) (e2 : x2 = n 2) (e3 : x3 = n 3) (e4 : x4 = n 4) (e5 : x5 = n 5) (e6 : x6 = n 6) :
    Calls Try.prog 18 #[v, .agg #[.int .u64 x0, .int .u64 x1, .int .u64 x2, .int .u64 x3, .int .u64 x4, .int .u64 x5, .int .u64 x6]] w fun e w' => ∃ r x, e = .returned (.tuple #[r, x]) ∧ PutPost (putN f n) w r x w' := by
  subst e0 e1 e2 e3 e4 e5 e6
  exact wirePut f v n w hv hf hl
theorem u64_wrap (x : Int) : IntKind.u64.wrap x = ((u64 x : Nat) : Int) := by
  rw [IntKind.wrap_u64]
  unfold u64
  omega

set_option maxRecDepth 100000 in
set_option maxHeartbeats 16000000 in
theorem wirePutR (r : Rq) (w : World) :
    Calls Try.prog 7 #[rqV r] w fun e w' => ∃ v x, e = .returned (.tuple #[v, x]) ∧ PutPost (codePut r) w v x w' := by
  unfold codePut rqV
  have hB : Below w.heap.size w (w.alloc (.cells #[.int .i64 r.op, .int .i64 r.tenant, .int .u64 r.a, .int .u64 r.b, .int .u64 r.c, .int .i64 r.n, .int .i64 r.bit] 24)) := by go_grown
  have hR : HoldsR (w.alloc (.cells #[.int .i64 r.op, .int .i64 r.tenant, .int .u64 r.a, .int .u64 r.b, .int .u64 r.c, .int .i64 r.n, .int .i64 r.bit] 24)) w.heap.size r := heap_alloc_new _ _
  obtain ⟨op, tenant, a, b, c, n, bit⟩ := r
  dsimp only at hB hR ⊢
  go_enter Try.func7, Try.ntmps7
  go_wp2
  generalize w.alloc (.cells #[.int .i64 op, .int .i64 tenant, .int .u64 a, .int .u64 b, .int .u64 c, .int .i64 n, .int .i64 bit] 24) = W at *
  generalize hbx : w.heap.size = B at *
  have hS := hR.cells
  dsimp only at hS
  have HR := Lib.hid hR
  have E0 := Lib.hid (show IntKind.u64.wrap op = (Rq.nums ⟨op, tenant, a, b, c, n, bit⟩ 0 : Nat) from u64_wrap op)
  have E1 := Lib.hid (show IntKind.u64.wrap tenant = (Rq.nums ⟨op, tenant, a, b, c, n, bit⟩ 1 : Nat) from u64_wrap tenant)
  have E2 := Lib.hid (show (a : Int) = (Rq.nums ⟨op, tenant, a, b, c, n, bit⟩ 2 : Nat) from rfl)
  have E3 := Lib.hid (show (b : Int) = (Rq.nums ⟨op, tenant, a, b, c, n, bit⟩ 3 : Nat) from rfl)
  have E4 := Lib.hid (show (c : Int) = (Rq.nums ⟨op, tenant, a, b, c, n, bit⟩ 4 : Nat) from rfl)
  have E5 := Lib.hid (show IntKind.u64.wrap n = (Rq.nums ⟨op, tenant, a, b, c, n, bit⟩ 5 : Nat) from u64_wrap n)
  have E6 := Lib.hid (show IntKind.u64.wrap bit = (Rq.nums ⟨op, tenant, a, b, c, n, bit⟩ 6 : Nat) from u64_wrap bit)
  generalize hN : Rq.nums ⟨op, tenant, a, b, c, n, bit⟩ = N at *
  replace hN := Lib.hid hN
  clear hR
  go_region_held3 (fun w' => w'.cell? ⟨B, 0, none⟩ = some (.int .i64 op) ∧ w'.cell? ⟨B, 1, none⟩ = some (.int .i64 tenant) ∧ w'.cell? ⟨B, 2, none⟩ = some (.int .u64 a) ∧ w'.cell? ⟨B, 3, none⟩ = some (.int .u64 b) ∧ w'.cell? ⟨B, 4, none⟩ = some (.int .u64 c) ∧ w'.cell? ⟨B, 5, none⟩ = some (.int .i64 n) ∧ w'.cell? ⟨B, 6, none⟩ = some (.int .i64 bit)) (first | assumption)
    (first
      | (go_at_call 19; refine (wireRequest op _).mono ?_; rintro e w1 ⟨v, rfl, hv, hb1⟩; have HR1 : HoldsR w1 B ⟨op, tenant, a, b, c, n, bit⟩ := (hb1.block B HR.out.lt).trans HR.out; have hS1 := HR1.cells; dsimp only at hS1; replace HR1 := Lib.hid HR1)
      | (go_at_call 18; refine (wirePut' (request op.toNat) _ N _ _ _ _ _ _ _ _ hv (request_form _) (request_few _) E0.out E1.out E2.out E3.out E4.out E5.out E6.out).mono ?_; rintro e w2 ⟨v2, x2, rfl, hp⟩; have HR2 : HoldsR w2 B ⟨op, tenant, a, b, c, n, bit⟩ := (hp.below.block B HR1.out.lt).trans HR1.out; have hS2 := HR2.cells; dsimp only at hS2; replace hp := Lib.hid hp))
  go_wp2
  go_ret2
  subst hbx
  exact ⟨_, _, rfl, by rw [hN.out]; exact hp.out.later (hB.drew.trans (hb1.mono hB.size))⟩

end Go.Proofs.Ytnnkkedflfmaoaa

/-
  Walks of package wire: PutResp.
-/
namespace Go.Proofs.Ytnnkkedflfmaoaa
open Go Go.RowKit

set_option maxRecDepth 100000 in
set_option maxHeartbeats 16000000 in
theorem wirePutS (r : Rs) (w : World) :
    Calls Try.prog 11 #[rsV r] w fun e w' => ∃ v x, e = .returned (.tuple #[v, x]) ∧ PutPost (codePutS r) w v x w' := by
  unfold codePutS rsV
  have hB : Below w.heap.size w (w.alloc (.cells #[.int .i64 r.code, .int .i64 r.tenant, .int .u64 r.val, .int .i64 r.charge, .int .i64 r.cost] 26)) := by go_grown
  have hR : HoldsS (w.alloc (.cells #[.int .i64 r.code, .int .i64 r.tenant, .int .u64 r.val, .int .i64 r.charge, .int .i64 r.cost] 26)) w.heap.size r := heap_alloc_new _ _
  obtain ⟨code, tenant, val, charge, cost⟩ := r
  dsimp only at hB hR ⊢
  go_enter Try.func11, Try.ntmps11
  go_wp2
  generalize w.alloc (.cells #[.int .i64 code, .int .i64 tenant, .int .u64 val, .int .i64 charge, .int .i64 cost] 26) = W at *
  generalize hbx : w.heap.size = B at *
  have hS := hR.cells
  dsimp only at hS
  have HR := Lib.hid hR
  have E0 := Lib.hid (show IntKind.u64.wrap code = (Rs.nums ⟨code, tenant, val, charge, cost⟩ 0 : Nat) from u64_wrap code)
  have E1 := Lib.hid (show IntKind.u64.wrap tenant = (Rs.nums ⟨code, tenant, val, charge, cost⟩ 1 : Nat) from u64_wrap tenant)
  have E2 := Lib.hid (show (val : Int) = (Rs.nums ⟨code, tenant, val, charge, cost⟩ 2 : Nat) from rfl)
  have E3 := Lib.hid (show IntKind.u64.wrap charge = (Rs.nums ⟨code, tenant, val, charge, cost⟩ 3 : Nat) from u64_wrap charge)
  have E4 := Lib.hid (show IntKind.u64.wrap cost = (Rs.nums ⟨code, tenant, val, charge, cost⟩ 4 : Nat) from u64_wrap cost)
  have E5 := Lib.hid (show (0 : Int) = (Rs.nums ⟨code, tenant, val, charge, cost⟩ 5 : Nat) from rfl)
  have E6 := Lib.hid (show (0 : Int) = (Rs.nums ⟨code, tenant, val, charge, cost⟩ 6 : Nat) from rfl)
  generalize hN : Rs.nums ⟨code, tenant, val, charge, cost⟩ = N at *
  replace hN := Lib.hid hN
  clear hR
  go_region_held3 (fun w' => w'.cell? ⟨B, 0, none⟩ = some (.int .i64 code) ∧ w'.cell? ⟨B, 1, none⟩ = some (.int .i64 tenant) ∧ w'.cell? ⟨B, 2, none⟩ = some (.int .u64 val) ∧ w'.cell? ⟨B, 3, none⟩ = some (.int .i64 charge) ∧ w'.cell? ⟨B, 4, none⟩ = some (.int .i64 cost)) (first | assumption)
    (first
      | (go_at_call 24; refine (wireAnswer _).mono ?_; rintro e w1 ⟨v, rfl, hv, hb1⟩; have HR1 : HoldsS w1 B ⟨code, tenant, val, charge, cost⟩ := (hb1.block B HR.out.lt).trans HR.out; have hS1 := HR1.cells; dsimp only at hS1; replace HR1 := Lib.hid HR1)
      | (go_at_call 18; refine (wirePut' answerP _ N _ _ _ _ _ _ _ _ hv answerP_form (by decide) E0.out E1.out E2.out E3.out E4.out E5.out E6.out).mono ?_; rintro e w2 ⟨v2, x2, rfl, hp⟩; have HR2 : HoldsS w2 B ⟨code, tenant, val, charge, cost⟩ := (hp.below.block B HR1.out.lt).trans HR1.out; have hS2 := HR2.cells; dsimp only at hS2; replace hp := Lib.hid hp))
  go_wp2
  go_ret2
  subst hbx
  exact ⟨_, _, rfl, by rw [hN.out]; exact hp.out.later (hB.drew.trans (hb1.mono hB.size))⟩

end Go.Proofs.Ytnnkkedflfmaoaa

/-
  Walks of package wire: Get, GetResp.
-/
namespace Go.Proofs.Ytnnkkedflfmaoaa
open Go Go.RowKit

/-- No request; no answer. -/
def Rq.zero : Rq := ⟨0, 0, 0, 0, 0, 0, 0⟩
def Rs.zero : Rs := ⟨0, 0, 0, 0, 0⟩

theorem ret_rq {fn : Func} {p q : Tmp} {tmps : Array Value} {w : World} {b : Nat} {r : Rq} {u : Value} (h : fn.results = #[.cell p 24, .tmp q]) (hp : tmps.getD p undef = .pointer (some ⟨b, 0, none⟩)) (hq : tmps.getD q undef = u)
    (hh : HoldsR w b r) : (results fn tmps).run Try.prog w = .ok (.tuple #[rqV r, u]) w := by
  rw [results_cell_tmp h, hp, hq]
  simp only [asAddr, Sem.run_pure, Result.andThen_ok]
  rw [run_loadVar_row w b _ _ _ _ _ hh Try.underlying24 rfl (by kernel_rfl)]
  rfl
theorem ret_rs {fn : Func} {p q : Tmp} {tmps : Array Value} {w : World} {b : Nat} {r : Rs} {u : Value} (h : fn.results = #[.cell p 26, .tmp q]) (hp : tmps.getD p undef = .pointer (some ⟨b, 0, none⟩)) (hq : tmps.getD q undef = u)
    (hh : HoldsS w b r) : (results fn tmps).run Try.prog w = .ok (.tuple #[rsV r, u]) w := by
  rw [results_cell_tmp h, hp, hq]
  simp only [asAddr, Sem.run_pure, Result.andThen_ok]
  rw [run_loadVar_row w b _ _ _ _ _ hh Try.underlying26 rfl (by kernel_rfl)]
  rfl
theorem HoldsR.set7 {w : World} {b : Nat} {q : Rq} (h : HoldsR w b q) (r : Rq) :
    HoldsR (((((((w.setCell ⟨b, 0, none⟩ (.int .i64 r.op)).setCell ⟨b, 1, none⟩ (.int .i64 r.tenant)).setCell ⟨b, 2, none⟩ (.int .u64 r.a)).setCell ⟨b, 3, none⟩ (.int .u64 r.b)).setCell ⟨b, 4, none⟩ (.int .u64 r.c)).setCell ⟨b, 5, none⟩ (.int .i64 r.n)).setCell ⟨b, 6, none⟩ (.int .i64 r.bit)) b r := by
  unfold HoldsR at h ⊢
  have h0 : (w.setCell ⟨b, 0, none⟩ (.int .i64 r.op)).heap[b]? = some (.cells #[.int .i64 r.op, .int .i64 q.tenant, .int .u64 q.a, .int .u64 q.b, .int .u64 q.c, .int .i64 q.n, .int .i64 q.bit] 24 (0, 0)) := heap_setCell_same _ b _ _ _ _ h
  have h1 : ((w.setCell ⟨b, 0, none⟩ (.int .i64 r.op)).setCell ⟨b, 1, none⟩ (.int .i64 r.tenant)).heap[b]? = some (.cells #[.int .i64 r.op, .int .i64 r.tenant, .int .u64 q.a, .int .u64 q.b, .int .u64 q.c, .int .i64 q.n, .int .i64 q.bit] 24 (0, 0)) := heap_setCell_same _ b _ _ _ _ h0
  have h2 : (((w.setCell ⟨b, 0, none⟩ (.int .i64 r.op)).setCell ⟨b, 1, none⟩ (.int .i64 r.tenant)).setCell ⟨b, 2, none⟩ (.int .u64 r.a)).heap[b]? = some (.cells #[.int .i64 r.op, .int .i64 r.tenant, .int .u64 r.a, .int .u64 q.b, .int .u64 q.c, .int .i64 q.n, .int .i64 q.bit] 24 (0, 0)) := heap_setCell_same _ b _ _ _ _ h1
  have h3 : ((((w.setCell ⟨b, 0, none⟩ (.int .i64 r.op)).setCell ⟨b, 1, none⟩ (.int .i64 r.tenant)).setCell ⟨b, 2, none⟩ (.int .u64 r.a)).setCell ⟨b, 3, none⟩ (.int .u64 r.b)).heap[b]? = some (.cells #[.int .i64 r.op, .int .i64 r.tenant, .int .u64 r.a, .int .u64 r.b, .int .u64 q.c, .int .i64 q.n, .int .i64 q.bit] 24 (0, 0)) := heap_setCell_same _ b _ _ _ _ h2
  have h4 : (((((w.setCell ⟨b, 0, none⟩ (.int .i64 r.op)).setCell ⟨b, 1, none⟩ (.int .i64 r.tenant)).setCell ⟨b, 2, none⟩ (.int .u64 r.a)).setCell ⟨b, 3, none⟩ (.int .u64 r.b)).setCell ⟨b, 4, none⟩ (.int .u64 r.c)).heap[b]? = some (.cells #[.int .i64 r.op, .int .i64 r.tenant, .int .u64 r.a, .int .u64 r.b, .int .u64 r.c, .int .i64 q.n, .int .i64 q.bit] 24 (0, 0)) := heap_setCell_same _ b _ _ _ _ h3
  have h5 : ((((((w.setCell ⟨b, 0, none⟩ (.int .i64 r.op)).setCell ⟨b, 1, none⟩ (.int .i64 r.tenant)).setCell ⟨b, 2, none⟩ (.int .u64 r.a)).setCell ⟨b, 3, none⟩ (.int .u64 r.b)).setCell ⟨b, 4, none⟩ (.int .u64 r.c)).setCell ⟨b, 5, none⟩ (.int .i64 r.n)).heap[b]? = some (.cells #[.int .i64 r.op, .int .i64 r.tenant, .int .u64 r.a, .int .u64 r.b, .int .u64 r.c, .int .i64 r.n, .int .i64 q.bit] 24 (0, 0)) := heap_setCell_same _ b _ _ _ _ h4
  have h6 : (((((((w.setCell ⟨b, 0, none⟩ (.int .i64 r.op)).setCell ⟨b, 1, none⟩ (.int .i64 r.tenant)).setCell ⟨b, 2, none⟩ (.int .u64 r.a)).setCell ⟨b, 3, none⟩ (.int .u64 r.b)).setCell ⟨b, 4, none⟩ (.int .u64 r.c)).setCell ⟨b, 5, none⟩ (.int .i64 r.n)).setCell ⟨b, 6, none⟩ (.int .i64 r.bit)).heap[b]? = some (.cells #[.int .i64 r.op, .int .i64 r.tenant, .int .u64 r.a, .int .u64 r.b, .int .u64 r.c, .int .i64 r.n, .int .i64 r.bit] 24 (0, 0)) := heap_setCell_same _ b _ _ _ _ h5
  exact h6
theorem HoldsS.set5 {w : World} {b : Nat} {q : Rs} (h : HoldsS w b q) (r : Rs) :
    HoldsS (((((w.setCell ⟨b, 0, none⟩ (.int .i64 r.code)).setCell ⟨b, 1, none⟩ (.int .i64 r.tenant)).setCell ⟨b, 2, none⟩ (.int .u64 r.val)).setCell ⟨b, 3, none⟩ (.int .i64 r.charge)).setCell ⟨b, 4, none⟩ (.int .i64 r.cost)) b r := by
  unfold HoldsS at h ⊢
  have h0 : (w.setCell ⟨b, 0, none⟩ (.int .i64 r.code)).heap[b]? = some (.cells #[.int .i64 r.code, .int .i64 q.tenant, .int .u64 q.val, .int .i64 q.charge, .int .i64 q.cost] 26 (0, 0)) := heap_setCell_same _ b _ _ _ _ h
  have h1 : ((w.setCell ⟨b, 0, none⟩ (.int .i64 r.code)).setCell ⟨b, 1, none⟩ (.int .i64 r.tenant)).heap[b]? = some (.cells #[.int .i64 r.code, .int .i64 r.tenant, .int .u64 q.val, .int .i64 q.charge, .int .i64 q.cost] 26 (0, 0)) := heap_setCell_same _ b _ _ _ _ h0
  have h2 : (((w.setCell ⟨b, 0, none⟩ (.int .i64 r.code)).setCell ⟨b, 1, none⟩ (.int .i64 r.tenant)).setCell ⟨b, 2, none⟩ (.int .u64 r.val)).heap[b]? = some (.cells #[.int .i64 r.code, .int .i64 r.tenant, .int .u64 r.val, .int .i64 q.charge, .int .i64 q.cost] 26 (0, 0)) := heap_setCell_same _ b _ _ _ _ h1
  have h3 : ((((w.setCell ⟨b, 0, none⟩ (.int .i64 r.code)).setCell ⟨b, 1, none⟩ (.int .i64 r.tenant)).setCell ⟨b, 2, none⟩ (.int .u64 r.val)).setCell ⟨b, 3, none⟩ (.int .i64 r.charge)).heap[b]? = some (.cells #[.int .i64 r.code, .int .i64 r.tenant, .int .u64 r.val, .int .i64 r.charge, .int .i64 q.cost] 26 (0, 0)) := heap_setCell_same _ b _ _ _ _ h2
  have h4 : (((((w.setCell ⟨b, 0, none⟩ (.int .i64 r.code)).setCell ⟨b, 1, none⟩ (.int .i64 r.tenant)).setCell ⟨b, 2, none⟩ (.int .u64 r.val)).setCell ⟨b, 3, none⟩ (.int .i64 r.charge)).setCell ⟨b, 4, none⟩ (.int .i64 r.cost)).heap[b]? = some (.cells #[.int .i64 r.code, .int .i64 r.tenant, .int .u64 r.val, .int .i64 r.charge, .int .i64 r.cost] 26 (0, 0)) := heap_setCell_same _ b _ _ _ _ h3
  exact h4
theorem below_set5 {B b : Nat} {a w : World} {x0 x1 x2 x3 x4 : Value} (h : Below B a w) (hb : B ≤ b) :
    Below B a (((((w.setCell ⟨b, 0, none⟩ x0).setCell ⟨b, 1, none⟩ x1).setCell ⟨b, 2, none⟩ x2).setCell ⟨b, 3, none⟩ x3).setCell ⟨b, 4, none⟩ x4) :=
  ((((h.setCell hb _).setCell hb _).setCell hb _).setCell hb _).setCell hb _

def GetRPost (o : Option Rq) (w : World) (v x : Value) (w' : World) : Prop :=
  (match o with
  | some r => v = rqV r ∧ x = .nilIface
  | none => v = rqV Rq.zero ∧ x = .iface 59 (.int .i64 7)) ∧ Below w.heap.size w w'
def GetSPost (o : Option Rs) (w : World) (v x : Value) (w' : World) : Prop :=
  (match o with
  | some r => v = rsV r ∧ x = .nilIface
  | none => v = rsV Rs.zero ∧ x = .iface 59 (.int .i64 7)) ∧ Below w.heap.size w w'

set_option maxRecDepth 100000 in
set_option maxHeartbeats 16000000 in
theorem wireGetR (y : Value) (bs : List Nat) (w : World) (hy : RC encY w y bs) (hyl : bs.length ≤ 1000000) (hyb : ∀ x ∈ bs, x < 256) :
    Calls Try.prog 14 #[y] w fun e w' => ∃ v x, e = .returned (.tuple #[v, x]) ∧ GetRPost (codeGet bs) w v x w' := by
  have hR : HoldsR (w.alloc (.cells #[.int .i64 0, .int .i64 0, .int .u64 0, .int .u64 0, .int .u64 0, .int .i64 0, .int .i64 0] 24)) w.heap.size Rq.zero := heap_alloc_new _ _
  have hB : Below w.heap.size w (w.alloc (.cells #[.int .i64 0, .int .i64 0, .int .u64 0, .int .u64 0, .int .u64 0, .int .i64 0, .int .i64 0] 24)) := by go_grown
  have hY := hy.keep hB
  obtain ⟨ay, cy, rfl, hcy⟩ := hy.form
  clear hy
  cases bs with
  | nil =>
    have HR := Lib.hid hR
    obtain ⟨z0, z1, z2, z3, z4, z5, z6⟩ := hR.cells
    have zf := hR.free
    simp only [Rq.zero] at z0 z1 z2 z3 z4 z5 z6
    clear hR hY
    go_enter Try.func14, Try.ntmps14
    go_upto_region 1 with (fail)
    generalize w.alloc (.cells #[.int .i64 0, .int .i64 0, .int .u64 0, .int .u64 0, .int .u64 0, .int .i64 0, .int .i64 0] 24) = W at *
    go_wp2
    exact bodyPost_ret (ret_rq Try.results14 rfl rfl (HR.out.set7 Rq.zero)) rfl ⟨_, _, rfl, ⟨rfl, rfl⟩, below_set7 hB (Nat.le_refl _)⟩
  | cons x t =>
    obtain ⟨ad, rfl, b0⟩ := hY.reads.byteAt 0 (by simp)
    have hx := hyb x (by simp)
    have hx' : (x : Int) < 256 := by omega
    rw [List.getElem_cons_zero, show ad.add 0 = ad by cases ad; simp [Addr.add]] at b0
    have hHR := Lib.hid hR
    have HY := Lib.hid hY
    have HYB := Lib.hid hyb
    have HYL := Lib.hid hyl
    clear hR hY hyb hyl
    go_enter Try.func14, Try.ntmps14
    go_upto_region 3 with (fail)
    generalize w.alloc (.cells #[.int .i64 0, .int .i64 0, .int .u64 0, .int .u64 0, .int .u64 0, .int .i64 0, .int .i64 0] 24) = W at *
    go_wp2_with fail
    refine (wireRequest x _).mono ?_
    rintro e w1 ⟨v, rfl, hv, hb1⟩
    rw [Int.toNat_natCast] at hv
    go_wp2_with fail
    refine (wireGet (request x) v _ (x :: t) w1 hv (request_form x) (request_few x) (HY.out.keep hb1) HYL.out HYB.out).mono ?_
    rintro e w2 ⟨r, xx, rfl, hp, hb2⟩
    have hb12 := hB.trans ((hb1.trans (hb2.mono hb1.size)).mono hB.size)
    have hR2 : HoldsR w2 w.heap.size Rq.zero := (hHR.out.below hb1).below hb2
    clear hv hb1 hb2 hHR b0 HY hB
    have hz := fun n => Lib.hid (HoldsN7.made w2 n)
    cases hg : getN (request x) (x :: t) with
    | none =>
      rw [hg] at hp
      obtain ⟨rfl, rfl⟩ := hp
      have hO : codeGet (x :: t) = none := by show (getN (request x) (x :: t)).map Rq.of = none; rw [hg]; rfl
      have HO := Lib.hid hO
      clear hg hO
      have hR3 := hR2.below (w' := w2.alloc (.cells #[.int .u64 0, .int .u64 0, .int .u64 0, .int .u64 0, .int .u64 0, .int .u64 0, .int .u64 0] 54)) (by go_grown)
      have hb3 := hb12.alloc hb12.size (.cells #[.int .u64 0, .int .u64 0, .int .u64 0, .int .u64 0, .int .u64 0, .int .u64 0, .int .u64 0] 54)
      unfold n7
      simp only [NF.zero]
      go_upto_region 4 with (fail)
      generalize w2.alloc (.cells #[.int .u64 0, .int .u64 0, .int .u64 0, .int .u64 0, .int .u64 0, .int .u64 0, .int .u64 0] 54) = V at *
      obtain ⟨z0, z1, z2, z3, z4, z5, z6⟩ := hR3.cells
      have zf := hR3.free
      simp only [Rq.zero] at z0 z1 z2 z3 z4 z5 z6
      have HR3 := Lib.hid hR3
      clear hR3 hR2 hz
      go_wp2
      exact bodyPost_ret (ret_rq Try.results14 rfl rfl (HR3.out.set7 Rq.zero)) rfl ⟨_, _, rfl, by rw [HO.out]; exact ⟨⟨rfl, rfl⟩, below_set7 hb3 (Nat.le_refl _)⟩⟩
    | some n =>
      rw [hg] at hp
      obtain ⟨rfl, rfl⟩ := hp
      have hO : codeGet (x :: t) = some (Rq.of n) := by show (getN (request x) (x :: t)).map Rq.of = _; rw [hg]; rfl
      have HO := Lib.hid hO
      obtain ⟨hok, _⟩ := (getN_some (request_form x) HYB.out n).1 hg
      obtain ⟨_, k0, _, k1⟩ := okF_head hok
      have k5 := okF_small hok 5 (.inl rfl)
      have k6 := okF_small hok 6 (.inr rfl)
      clear hg hO hok
      have hb3' : Below w2.heap.size w2 (w2.alloc (.cells #[.int .u64 (n 0), .int .u64 (n 1), .int .u64 (n 2), .int .u64 (n 3), .int .u64 (n 4), .int .u64 (n 5), .int .u64 (n 6)] 54)) := by go_grown
      have hR3 := hR2.below hb3'
      have hb3 := hb12.trans (hb3'.mono hb12.size)
      have hn := (hz n).out
      unfold n7
      go_upto_region 4 with (fail)
      generalize w2.alloc (.cells #[.int .u64 (n 0), .int .u64 (n 1), .int .u64 (n 2), .int .u64 (n 3), .int .u64 (n 4), .int .u64 (n 5), .int .u64 (n 6)] 54) = V at *
      generalize w2.heap.size = B2 at *
      obtain ⟨z0, z1, z2, z3, z4, z5, z6⟩ := hR3.cells
      have zf := hR3.free
      simp only [Rq.zero] at z0 z1 z2 z3 z4 z5 z6
      have n0 := hn.cell 0 (by decide)
      have n1 := hn.cell 1 (by decide)
      have n2 := hn.cell 2 (by decide)
      have n3 := hn.cell 3 (by decide)
      have n4 := hn.cell 4 (by decide)
      have n5 := hn.cell 5 (by decide)
      have n6 := hn.cell 6 (by decide)
      have HR3 := Lib.hid hR3
      have j0 : (n 0 : Int) ≤ 21 := by omega
      have j1 : (n 1 : Int) ≤ 8 := by omega
      have j5 : (n 5 : Int) ≤ 65535 := by omega
      have j6 : (n 6 : Int) ≤ 65535 := by omega
      clear hR3 hR2 hz hn hb3'
      go_wp2
      exact bodyPost_ret (ret_rq Try.results14 rfl rfl (HR3.out.set7 (Rq.of n))) rfl ⟨_, _, rfl, by rw [HO.out]; exact ⟨⟨rfl, rfl⟩, below_set7 hb3 (Nat.le_refl _)⟩⟩

set_option maxRecDepth 100000 in
set_option maxHeartbeats 16000000 in
theorem wireGetS (y : Value) (bs : List Nat) (w : World) (hy : RC encY w y bs) (hyl : bs.length ≤ 1000000) (hyb : ∀ x ∈ bs, x < 256) :
    Calls Try.prog 16 #[y] w fun e w' => ∃ v x, e = .returned (.tuple #[v, x]) ∧ GetSPost (codeGetS bs) w v x w' := by
  have hR : HoldsS (w.alloc (.cells #[.int .i64 0, .int .i64 0, .int .u64 0, .int .i64 0, .int .i64 0] 26)) w.heap.size Rs.zero := heap_alloc_new _ _
  have hB : Below w.heap.size w (w.alloc (.cells #[.int .i64 0, .int .i64 0, .int .u64 0, .int .i64 0, .int .i64 0] 26)) := by go_grown
  have HY := Lib.hid (hy.keep hB)
  have HHR := Lib.hid hR
  clear hy hR
  go_enter Try.func16, Try.ntmps16
  go_upto_region 1 with (fail)
  generalize w.alloc (.cells #[.int .i64 0, .int .i64 0, .int .u64 0, .int .i64 0, .int .i64 0] 26) = W at *
  go_wp2_with fail
  refine (wireAnswer _).mono ?_
  rintro e w1 ⟨v, rfl, hv, hb1⟩
  go_wp2_with fail
  refine (wireGet answerP v _ bs w1 hv answerP_form (by decide) (HY.out.keep hb1) hyl hyb).mono ?_
  rintro e w2 ⟨r, xx, rfl, hp, hb2⟩
  have hb12 := hB.trans ((hb1.trans (hb2.mono hb1.size)).mono hB.size)
  have hR2 : HoldsS w2 w.heap.size Rs.zero := (HHR.out.below hb1).below hb2
  clear hv hb1 hb2 HHR HY hB
  have hz := fun n => Lib.hid (HoldsN7.made w2 n)
  cases hg : getN answerP bs with
  | none =>
    rw [hg] at hp
    obtain ⟨rfl, rfl⟩ := hp
    have hO : codeGetS bs = none := by unfold codeGetS; rw [hg]; rfl
    have HO := Lib.hid hO
    clear hg hO
    have hR3 := hR2.below (w' := w2.alloc (.cells #[.int .u64 0, .int .u64 0, .int .u64 0, .int .u64 0, .int .u64 0, .int .u64 0, .int .u64 0] 54)) (by go_grown)
    have hb3 := hb12.alloc hb12.size (.cells #[.int .u64 0, .int .u64 0, .int .u64 0, .int .u64 0, .int .u64 0, .int .u64 0, .int .u64 0] 54)
    unfold n7
    simp only [NF.zero]
    go_upto_region 2 with (fail)
    generalize w2.alloc (.cells #[.int .u64 0, .int .u64 0, .int .u64 0, .int .u64 0, .int .u64 0, .int .u64 0, .int .u64 0] 54) = V at *
    obtain ⟨z0, z1, z2, z3, z4⟩ := hR3.cells
    have zf := hR3.free
    simp only [Rs.zero] at z0 z1 z2 z3 z4
    have HR3 := Lib.hid hR3
    clear hR3 hR2 hz
    go_wp2
    exact bodyPost_ret (ret_rs Try.results16 rfl rfl (HR3.out.set5 Rs.zero)) rfl ⟨_, _, rfl, by rw [HO.out]; exact ⟨⟨rfl, rfl⟩, below_set5 hb3 (Nat.le_refl _)⟩⟩
  | some n =>
    rw [hg] at hp
    obtain ⟨rfl, rfl⟩ := hp
    have hO : codeGetS bs = some (Rs.of n) := by unfold codeGetS; rw [hg]; rfl
    have HO := Lib.hid hO
    obtain ⟨hok, _⟩ := (getN_some answerP_form hyb n).1 hg
    obtain ⟨k0, k1, k2, k3, k4, k5⟩ := (answer_ok n).1 hok
    clear hg hO hok k2 k5
    have hb3' : Below w2.heap.size w2 (w2.alloc (.cells #[.int .u64 (n 0), .int .u64 (n 1), .int .u64 (n 2), .int .u64 (n 3), .int .u64 (n 4), .int .u64 (n 5), .int .u64 (n 6)] 54)) := by go_grown
    have hR3 := hR2.below hb3'
    have hb3 := hb12.trans (hb3'.mono hb12.size)
    have hn := (hz n).out
    unfold n7
    go_upto_region 2 with (fail)
    generalize w2.alloc (.cells #[.int .u64 (n 0), .int .u64 (n 1), .int .u64 (n 2), .int .u64 (n 3), .int .u64 (n 4), .int .u64 (n 5), .int .u64 (n 6)] 54) = V at *
    generalize w2.heap.size = B2 at *
    obtain ⟨z0, z1, z2, z3, z4⟩ := hR3.cells
    have zf := hR3.free
    simp only [Rs.zero] at z0 z1 z2 z3 z4
    have n0 := hn.cell 0 (by decide)
    have n1 := hn.cell 1 (by decide)
    have n2 := hn.cell 2 (by decide)
    have n3 := hn.cell 3 (by decide)
    have n4 := hn.cell 4 (by decide)
    have HR3 := Lib.hid hR3
    have j0 : (n 0 : Int) ≤ 7 := by omega
    have j1 : (n 1 : Int) ≤ 8 := by omega
    have j3 : (n 3 : Int) ≤ 65535 := by omega
    have j4 : (n 4 : Int) ≤ 9223372036854775807 := by omega
    clear hR3 hR2 hz hn hb3'
    go_wp2
    exact bodyPost_ret (ret_rs Try.results16 rfl rfl (HR3.out.set5 (Rs.of n))) rfl ⟨_, _, rfl, by rw [HO.out]; exact ⟨⟨rfl, rfl⟩, below_set5 hb3 (Nat.le_refl _)⟩⟩

end Go.Proofs.Ytnnkkedflfmaoaa
