/-
  Texts of this proof, one behind the other: Gets18, Back18.
-/
import Derived.Test.YtnnkkedflfmaoaaG10
import Derived.Test.YtnnkkedflfmaoaaG13
import Derived.Deep.CutRange
/-
  WireGets: the walk.
-/
namespace Go.Proofs.Ytnnkkedflfmaoaa
open Go Go.RowKit

theorem HoldsR.new (w : World) (r : Rq) (b : Nat) (hb : b = w.heap.size) : HoldsR (w.alloc (.cells #[.int .i64 r.op, .int .i64 r.tenant, .int .u64 r.a, .int .u64 r.b, .int .u64 r.c, .int .i64 r.n, .int .i64 r.bit] 24)) b r := by
  subst hb
  exact heap_alloc_new _ _
theorem HoldsS.new (w : World) (r : Rs) (b : Nat) (hb : b = w.heap.size) : HoldsS (w.alloc (.cells #[.int .i64 r.code, .int .i64 r.tenant, .int .u64 r.val, .int .i64 r.charge, .int .i64 r.cost] 26)) b r := by
  subst hb
  exact heap_alloc_new _ _

/-- An answer's error, and whether there is one. -/
def errO {α : Type} (c : Int) (o : Option α) : Value := match o with
  | some _ => .nilIface
  | none => .iface 59 (.int .i64 c)
def boolO {α : Type} (o : Option α) : Bool := match o with
  | some _ => true
  | none => false
theorem GetRPost.get {o : Option Rq} {w w' : World} {v x : Value} (h : GetRPost o w v x w') : v = rqV (o.getD Rq.zero) ∧ x = errO 7 o ∧ Below w.heap.size w w' := by
  cases o with
  | none => exact ⟨h.1.1, h.1.2, h.2⟩
  | some r => exact ⟨h.1.1, h.1.2, h.2⟩
theorem GetSPost.get {o : Option Rs} {w w' : World} {v x : Value} (h : GetSPost o w v x w') : v = rsV (o.getD Rs.zero) ∧ x = errO 7 o ∧ Below w.heap.size w w' := by
  cases o with
  | none => exact ⟨h.1.1, h.1.2, h.2⟩
  | some r => exact ⟨h.1.1, h.1.2, h.2⟩
theorem RefRPost.get {o : Option Rq} {w w' : World} {v x : Value} (h : RefRPost o w v x w') : v = rqV (o.getD Rq.zero) ∧ x = .bool (boolO o) ∧ Below w.heap.size w w' := by
  cases o with
  | none => exact ⟨h.1.1, h.1.2, h.2⟩
  | some r => exact ⟨h.1.1, h.1.2, h.2⟩
theorem RefSPost.get {o : Option Rs} {w w' : World} {v x : Value} (h : RefSPost o w v x w') : v = rsV (o.getD Rs.zero) ∧ x = .bool (boolO o) ∧ Below w.heap.size w w' := by
  cases o with
  | none => exact ⟨h.1.1, h.1.2, h.2⟩
  | some r => exact ⟨h.1.1, h.1.2, h.2⟩

set_option maxRecDepth 100000 in
set_option maxHeartbeats 16000000 in
theorem wireGets (bs : List Nat) (y : Value) (w : World) (hy : RC encY w y bs) (_hyl : bs.length ≤ maxLen) (hyb : ∀ x ∈ bs, x < 256) :
    Calls Try.prog 4 #[y] w fun e w' => e = .returned (.bool true) ∧ Below w.heap.size w w' := by
  obtain ⟨ay, cy, rfl, hcy⟩ := hy.form
  have HY := Lib.hid hy
  have HYB := Lib.hid hyb
  have hsame := get_same hyb
  have hsameS := getS_same hyb
  clear hy hyb
  go_enter Try.func4, Try.ntmps4
  go_wp2_with fail
  refine (up18 _).mono ?_
  rintro e w1 ⟨rfl, hb1⟩
  by_cases hl : bs.length ≤ 1000
  · have hl1 : ¬ 1000 < (bs.length : Int) := by omega
    have hl2 : bs.length ≤ 1000000 := by omega
    go_wp2_with fail
    refine (wireGetR _ bs _ (HY.out.keep hb1) hl2 HYB.out).mono ?_
    rintro e w2 ⟨v2, x2, rfl, hp2⟩
    rw [hsame] at hp2
    obtain ⟨rfl, rfl, hb2⟩ := hp2.get
    clear hp2 hsame
    have hyR := fun W hy' => refGetRv (.slice ay bs.length cy) bs W hy' hl2 HYB.out
    have hyS := fun W hy' => refGetSv (.slice ay bs.length cy) bs W hy' hl2 HYB.out
    have hcS := fun W hy' => wireGetS (.slice ay bs.length cy) bs W hy' hl2 HYB.out
    rw [hsameS] at hcS
    have hx : ∀ O : Option Rq, (errO 7 O = .nilIface ∧ boolO O = true) ∨ (errO 7 O = .iface 59 (.int .i64 7) ∧ boolO O = false) := fun O => by cases O; exact .inr ⟨rfl, rfl⟩; exact .inl ⟨rfl, rfl⟩
    have hxS : ∀ O : Option Rs, (errO 7 O = .nilIface ∧ boolO O = true) ∨ (errO 7 O = .iface 59 (.int .i64 7) ∧ boolO O = false) := fun O => by cases O; exact .inr ⟨rfl, rfl⟩; exact .inl ⟨rfl, rfl⟩
    have hyR2 := fun W hy' => (hyR W hy').mono fun e w' h => show ∃ v x, e = .returned (.tuple #[v, x]) ∧ v = rqV ((refGet bs).getD Rq.zero) ∧ x = .bool (boolO (refGet bs)) ∧ Below W.heap.size W w' from by obtain ⟨v, x, he, hp⟩ := h; exact ⟨v, x, he, hp.get⟩
    have hyS2 := fun W hy' => (hyS W hy').mono fun e w' h => show ∃ v x, e = .returned (.tuple #[v, x]) ∧ v = rsV ((refGetS bs).getD Rs.zero) ∧ x = .bool (boolO (refGetS bs)) ∧ Below W.heap.size W w' from by obtain ⟨v, x, he, hp⟩ := h; exact ⟨v, x, he, hp.get⟩
    have hcS2 := fun W hy' => (hcS W hy').mono fun e w' h => show ∃ v x, e = .returned (.tuple #[v, x]) ∧ v = rsV ((refGetS bs).getD Rs.zero) ∧ x = errO 7 (refGetS bs) ∧ Below W.heap.size W w' from by obtain ⟨v, x, he, hp⟩ := h; exact ⟨v, x, he, hp.get⟩
    clear hyR hyS hcS hsameS
    have hx1 := hx (refGet bs)
    have hx2 := hxS (refGetS bs)
    clear hx hxS
    generalize (refGet bs).getD Rq.zero = R at *
    generalize (refGetS bs).getD Rs.zero = S at *
    generalize errO 7 (refGet bs) = xe at *
    generalize errO 7 (refGetS bs) = xs at *
    generalize boolO (refGet bs) = qb at *
    generalize boolO (refGetS bs) = sb at *
    obtain ⟨r0, r1, r2, r3, r4, r5, r6⟩ := R
    obtain ⟨s0, s1, s2, s3, s4⟩ := S
    unfold rqV at hyR2 ⊢
    unfold rsV at hyS2 hcS2
    dsimp only at hyR2 hyS2 hcS2 ⊢
    have hb12 := hb1.trans (hb2.mono hb1.size)
    have k2 := HoldsR.new w2 ⟨r0, r1, r2, r3, r4, r5, r6⟩ _ rfl
    have g2 : Below w2.heap.size w2 (w2.alloc (.cells #[.int .i64 r0, .int .i64 r1, .int .u64 r2, .int .u64 r3, .int .u64 r4, .int .i64 r5, .int .i64 r6] 24)) := by go_grown
    have hb13 := hb12.trans (g2.mono hb12.size)
    dsimp only at k2
    clear hb1 hb2 hb12 g2
    go_upto_region 5 with (fail)
    generalize w2.alloc (.cells #[.int .i64 r0, .int .i64 r1, .int .u64 r2, .int .u64 r3, .int .u64 r4, .int .i64 r5, .int .i64 r6] 24) = W2 at *
    generalize w2.heap.size = B2 at *
    go_wp2_with fail
    refine (hyR2 _ (HY.out.keep hb13)).mono ?_
    rintro e w3 ⟨v3, x3, rfl, rfl, rfl, hb3⟩
    have k2 := k2.below hb3
    have hb14 := hb13.trans (hb3.mono hb13.size)
    have k3 := HoldsR.new w3 ⟨r0, r1, r2, r3, r4, r5, r6⟩ _ rfl
    have g3 : Below w3.heap.size w3 (w3.alloc (.cells #[.int .i64 r0, .int .i64 r1, .int .u64 r2, .int .u64 r3, .int .u64 r4, .int .i64 r5, .int .i64 r6] 24)) := by go_grown
    have hb15 := hb14.trans (g3.mono hb14.size)
    have k2 := k2.below g3
    dsimp only at k2 k3
    clear hb3 hb13 hb14 g3
    go_upto_region 6 with (fail)
    generalize w3.alloc (.cells #[.int .i64 r0, .int .i64 r1, .int .u64 r2, .int .u64 r3, .int .u64 r4, .int .i64 r5, .int .i64 r6] 24) = W3 at *
    generalize w3.heap.size = B3 at *
    go_wp2_with fail
    refine (hcS2 _ (HY.out.keep hb15)).mono ?_
    rintro e w4 ⟨v4, x4, rfl, rfl, rfl, hb4⟩
    have k4 := HoldsS.new w4 ⟨s0, s1, s2, s3, s4⟩ _ rfl
    have g4 : Below w4.heap.size w4 (w4.alloc (.cells #[.int .i64 s0, .int .i64 s1, .int .u64 s2, .int .i64 s3, .int .i64 s4] 26)) := by go_grown
    have hb46 := hb4.trans (g4.mono hb4.size)
    have k2 := k2.below hb46
    have k3 := k3.below hb46
    have hb17 := hb15.trans (hb46.mono hb15.size)
    dsimp only at k2 k3 k4
    clear hb4 g4 hb46 hb15
    go_upto_region 7 with (fail)
    generalize w4.alloc (.cells #[.int .i64 s0, .int .i64 s1, .int .u64 s2, .int .i64 s3, .int .i64 s4] 26) = W4 at *
    generalize w4.heap.size = B4 at *
    go_wp2_with fail
    refine (hyS2 _ (HY.out.keep hb17)).mono ?_
    rintro e w5 ⟨v5, x5, rfl, rfl, rfl, hb5⟩
    have k5 := HoldsS.new w5 ⟨s0, s1, s2, s3, s4⟩ _ rfl
    have g5 : Below w5.heap.size w5 (w5.alloc (.cells #[.int .i64 s0, .int .i64 s1, .int .u64 s2, .int .i64 s3, .int .i64 s4] 26)) := by go_grown
    have hb56 := hb5.trans (g5.mono hb5.size)
    have k2 := k2.below hb56
    have k3 := k3.below hb56
    have k4 := k4.below hb56
    have hb18 := hb17.trans (hb56.mono hb17.size)
    dsimp only at k2 k3 k4 k5
    clear hb5 g5 hb56 hb17 hyR2 hyS2 hcS2
    go_upto_region 8 with (fail)
    generalize w5.alloc (.cells #[.int .i64 s0, .int .i64 s1, .int .u64 s2, .int .i64 s3, .int .i64 s4] 26) = W5 at *
    generalize w5.heap.size = B5 at *
    obtain ⟨a0, a1, a2, a3, a4, a5, a6⟩ := k2.cells
    obtain ⟨b0, b1, b2, b3, b4, b5, b6⟩ := k3.cells
    obtain ⟨c0, c1, c2, c3, c4⟩ := k4.cells
    obtain ⟨d0, d1, d2, d3, d4⟩ := k5.cells
    dsimp only at a0 a1 a2 a3 a4 a5 a6 b0 b1 b2 b3 b4 b5 b6 c0 c1 c2 c3 c4 d0 d1 d2 d3 d4
    clear k2 k3 k4 k5 HY HYB
    have hcode := fun W => lawCode 7 W (by decide) (by decide)
    rcases hx1 with ⟨rfl, rfl⟩ | ⟨rfl, rfl⟩ <;> rcases hx2 with ⟨rfl, rfl⟩ | ⟨rfl, rfl⟩
    · go_wp2
      go_ret
      exact ⟨rfl, hb18⟩
    · go_wp2_with fail
      refine (hcode _).mono ?_
      rintro e w6 ⟨rfl, rfl⟩
      go_wp2
      go_ret
      exact ⟨rfl, hb18⟩
    · go_wp2_with fail
      refine (hcode _).mono ?_
      rintro e w6 ⟨rfl, rfl⟩
      go_wp2
      go_ret
      exact ⟨rfl, hb18⟩
    · go_wp2_with fail
      refine (hcode _).mono ?_
      rintro e w6 ⟨rfl, rfl⟩
      go_wp2_with fail
      refine (hcode _).mono ?_
      rintro e w6 ⟨rfl, rfl⟩
      go_wp2
      go_ret
      exact ⟨rfl, hb18⟩
  · have hl1 : 1000 < (bs.length : Int) := by omega
    clear hl hsame hsameS
    go_wp2
    go_ret
    exact ⟨rfl, hb1⟩

end Go.Proofs.Ytnnkkedflfmaoaa

/-
  WireBack: the walk.
-/
namespace Go.Proofs.Ytnnkkedflfmaoaa
open Go Go.RowKit

theorem PutPost.of_some {o : Option (List Nat)} {b : List Nat} {w w' : World} {r x : Value} (h : PutPost o w r x w') (e : o = some b) : x = .nilIface ∧ NRel encY w b r w' := by
  subst e
  exact h
theorem PutPost.of_none {o : Option (List Nat)} {w w' : World} {r x : Value} (h : PutPost o w r x w') (e : o = none) : r = .slice none 0 0 ∧ x = .iface 59 (.int .i64 1) ∧ Below w.heap.size w w' := by
  subst e
  exact h
theorem GetRPost.of {o p : Option Rq} {w w' : World} {v x : Value} (h : GetRPost o w v x w') (e : o = p) : v = rqV (p.getD Rq.zero) ∧ x = errO 7 p ∧ Below w.heap.size w w' := by
  subst e
  exact h.get
theorem GetSPost.of {o p : Option Rs} {w w' : World} {v x : Value} (h : GetSPost o w v x w') (e : o = p) : v = rsV (p.getD Rs.zero) ∧ x = errO 7 p ∧ Below w.heap.size w w' := by
  subst e
  exact h.get

theorem eql_err (q : Bool) (x : Value) (c : Int) (h : (q = true ∧ x = .nilIface) ∨ (q = false ∧ x = .iface 59 (.int .i64 c))) :
    (∀ W, (binOp .eql 30 x .nilIface).run Try.prog W = .ok (.bool q) W) ∧ (∀ W, (binOp .neq 30 x .nilIface).run Try.prog W = .ok (.bool !q) W) ∧ (∀ op A W, (eqGuard op 30 A (.const .nilIface) x .nilIface).run Try.prog W = .ok () W) := by
  rcases h with ⟨rfl, rfl⟩ | ⟨rfl, rfl⟩
  · refine ⟨fun W => by simp [go_sem], fun W => by simp [go_sem], fun op A W => ?_⟩
    cases op <;> simp [go_sem, eqGuard]
  · refine ⟨fun W => by simp [go_sem], fun W => by simp [go_sem], fun op A W => ?_⟩
    cases op <;> simp [go_sem, eqGuard]

/-- What is got of what was put, and of that with a byte more, or one less. -/
theorem get_put {r : Rq} (h : r.may) : codeGet (bytesR r) = some r := (codeGet_some (bytesR_lt r) r).2 ⟨h, rfl⟩
theorem get_more {r : Rq} (h : r.may) (x : Nat) (hx : x < 256) : codeGet (bytesR r ++ [x]) = none := by
  obtain ⟨t, ht⟩ := bytesR_head r
  refine get_off h (fun y hy => ?_) (fun y u e => ?_) (by simp)
  · rcases List.mem_append.1 hy with hy | hy
    · exact bytesR_lt r y hy
    · rw [List.mem_singleton.1 hy]; exact hx
  · rw [ht] at e
    exact (List.cons.inj e).1.symm
theorem get_less {r : Rq} (h : r.may) {n : Nat} (hn : (bytesR r).length = n + 1) : codeGet ((bytesR r).take n) = none := by
  obtain ⟨t, ht⟩ := bytesR_head r
  have hl := (lenF_bounds r.op.toNat).1
  rw [← bytesR_length] at hl
  refine get_off h (fun y hy => bytesR_lt r y (List.mem_of_mem_take hy)) (fun y u e => ?_) (by rw [List.length_take]; omega)
  obtain ⟨m, rfl⟩ : ∃ m, n = m + 1 := ⟨n - 1, by omega⟩
  rw [ht, List.take_succ_cons] at e
  exact (List.cons.inj e).1.symm
theorem getS_put {r : Rs} (h : r.may) : codeGetS (bytesS r) = some r := (codeGetS_some (bytesS_lt r) r).2 ⟨h, rfl⟩

set_option maxRecDepth 100000 in
set_option maxHeartbeats 16000000 in
theorem wireBack (r : Rq) (a : Rs) (b : List Nat) (more : Nat) (y : Value) (w : World) (hy : RC encY w y b) (_hyl : b.length ≤ maxLen) (hyb : ∀ x ∈ b, x < 256) (hr : r.good) (ha : a.good) (hm : more < 256) :
    Calls Try.prog 5 #[rqV r, rsV a, y, .int .u8 more] w fun e w' => e = .returned (.bool true) ∧ Below w.heap.size w w' := by
  obtain ⟨ay, cy, rfl, hcy⟩ := hy.form
  have hput := fun W => wirePutR r W
  have hputS := fun W => wirePutS a W
  have hmayn : ¬ r.may → codePut r = none := codePut_none hr
  have hmays : r.may → codePut r = some (bytesR r) := fun h => (codePut_some hr _).2 ⟨h, rfl⟩
  have hsn : ¬ a.may → codePutS a = none := codePutS_none ha
  have hss : a.may → codePutS a = some (bytesS a) := fun h => (codePutS_some ha _).2 ⟨h, rfl⟩
  have HMN := Lib.hid hmayn
  have HMS := Lib.hid hmays
  have HSN := Lib.hid hsn
  have HSS := Lib.hid hss
  have HYB := Lib.hid hyb
  clear hmayn hmays hsn hss hr ha hyb
  have g1 : Below w.heap.size w (w.alloc (.cells #[.int .i64 r.op, .int .i64 r.tenant, .int .u64 r.a, .int .u64 r.b, .int .u64 r.c, .int .i64 r.n, .int .i64 r.bit] 24)) := by go_grown
  have g2 : Below (w.alloc (.cells #[.int .i64 r.op, .int .i64 r.tenant, .int .u64 r.a, .int .u64 r.b, .int .u64 r.c, .int .i64 r.n, .int .i64 r.bit] 24)).heap.size (w.alloc (.cells #[.int .i64 r.op, .int .i64 r.tenant, .int .u64 r.a, .int .u64 r.b, .int .u64 r.c, .int .i64 r.n, .int .i64 r.bit] 24)) ((w.alloc (.cells #[.int .i64 r.op, .int .i64 r.tenant, .int .u64 r.a, .int .u64 r.b, .int .u64 r.c, .int .i64 r.n, .int .i64 r.bit] 24)).alloc (.cells #[.int .i64 a.code, .int .i64 a.tenant, .int .u64 a.val, .int .i64 a.charge, .int .i64 a.cost] 26)) := (Below.refl _ _).alloc (Nat.le_refl _) _
  have k1 := (HoldsR.new w r _ rfl).below g2
  have k2 := HoldsS.new (w.alloc (.cells #[.int .i64 r.op, .int .i64 r.tenant, .int .u64 r.a, .int .u64 r.b, .int .u64 r.c, .int .i64 r.n, .int .i64 r.bit] 24)) a (w.heap.size + 1) (by simp)
  have hb := g1.trans (g2.mono g1.size)
  have hy := hy.keep hb
  clear g1 g2
  unfold rqV at hput ⊢
  unfold rsV at hputS ⊢
  go_enter Try.func5, Try.ntmps5
  go_upto_region 1 with (fail)
  generalize (w.alloc (.cells #[.int .i64 r.op, .int .i64 r.tenant, .int .u64 r.a, .int .u64 r.b, .int .u64 r.c, .int .i64 r.n, .int .i64 r.bit] 24)).alloc (.cells #[.int .i64 a.code, .int .i64 a.tenant, .int .u64 a.val, .int .i64 a.charge, .int .i64 a.cost] 26) = W at *
  go_wp2_with fail
  refine (up18 _).mono ?_
  rintro e w1 ⟨rfl, hb1⟩
  have k1 := k1.below hb1
  have k2 := k2.below hb1
  have hy := hy.keep hb1
  have hb2 := hb.trans (hb1.mono hb.size)
  clear hb hb1
  by_cases hl : b.length ≤ 1000
  · have hl1 : ¬ 1000 < (b.length : Int) := by omega
    have hl2 : b.length ≤ 1000000 := by omega
    obtain ⟨y0, y1, y2, y3, y4, y5, y6⟩ := k1.cells
    go_wp2_with fail
    refine (hput _).mono ?_
    rintro e w2 ⟨v, x, rfl, hp⟩
    have k1 := k1.below hp.below
    have k2 := k2.below hp.below
    have hy := hy.keep hp.below
    have hb3 := hb2.trans (hp.below.mono hb2.size)
    clear y0 y1 y2 y3 y4 y5 y6 hb2 hput
    have hx : (decide r.may = true ∧ x = .nilIface) ∨ (decide r.may = false ∧ x = .iface 59 (.int .i64 1)) := by
      by_cases h : r.may
      · exact .inl ⟨decide_eq_true h, (hp.of_some (HMS.out h)).1⟩
      · exact .inr ⟨decide_eq_false h, (hp.of_none (HMN.out h)).2.1⟩
    have hP : decide r.may = true → NRel encY w1 (bytesR r) v w2 ∧ r.may := fun h => ⟨(hp.of_some (HMS.out (of_decide_eq_true h))).2, of_decide_eq_true h⟩
    generalize decide r.may = q at *
    obtain ⟨q1, q2, q3⟩ := eql_err q x 1 hx
    clear hp HMN HMS hx
    go_upto_if 41 with (fail)
    go_cut [10] from 12 to 83 (fun _ wc => HoldsS wc (w.heap.size + 1) a ∧ RC encY wc (.slice ay b.length cy) b ∧ Below w.heap.size w wc)
    case first =>
      cases q with
      | false =>
        go_wp2
        go_meet
        case rel => exact ⟨k2, hy, hb3⟩
      | true =>
        obtain ⟨R, hmay⟩ := hP rfl
        have hlR := bytesR_lt r
        have hlen0 := (lenF_bounds r.op.toNat)
        rw [← bytesR_length] at hlen0
        obtain ⟨n, hn⟩ : ∃ n, (bytesR r).length = n + 1 := ⟨(bytesR r).length - 1, by omega⟩
        have G1 := get_put hmay
        have G2 := get_more hmay more hm
        have G3 := get_less hmay hn
        have hlt : ∀ x ∈ bytesR r ++ [more], x < 256 := fun u hu => by
          rcases List.mem_append.1 hu with h | h
          · exact hlR u h
          · rw [List.mem_singleton.1 h]; exact hm
        clear hmay hP
        generalize bytesR r = bs at *
        have hbs : 0 < bs.length := by omega
        obtain ⟨gc, cc, rfl, hcc⟩ := R.own.some hbs
        have hlow := R.new gc rfl
        have R := Lib.hid R
        have HY := Lib.hid hy
        have K1 := Lib.hid k1
        have K2 := Lib.hid k2
        have HB3 := Lib.hid hb3
        clear hy k1 k2 hb3
        rw [hn] at hcc ⊢
        have RCv : RC encY w2 (.slice (some ⟨gc, 0, none⟩) (n + 1) cc) bs := by have := R.out.own.rc; rwa [hn] at this
        go_wp2_with fail
        refine (wireGetR _ bs _ RCv (by omega) hlR).mono ?_
        rintro e w3 ⟨v3, x3, rfl, hp3⟩
        obtain ⟨rfl, rfl, hb34⟩ := hp3.of G1
        clear hp3 G1
        dsimp only [errO, Option.getD, rqV]
        have g3 : Below w3.heap.size w3 (w3.alloc (.cells #[.int .i64 r.op, .int .i64 r.tenant, .int .u64 r.a, .int .u64 r.b, .int .u64 r.c, .int .i64 r.n, .int .i64 r.bit] 24)) := by go_grown
        have K12 := HoldsR.new w3 r _ rfl
        have hb36 := hb34.trans (g3.mono hb34.size)
        have K1 := K1.out.below hb36
        have K2 := K2.out.below hb36
        have HY := HY.out.keep hb36
        have RCv := RCv.keep hb36
        have HB := HB3.out.trans (hb36.mono HB3.out.size)
        clear hb34 g3 hb36 HB3 R
        go_upto_region 7 with (fail)
        generalize w3.alloc (.cells #[.int .i64 r.op, .int .i64 r.tenant, .int .u64 r.a, .int .u64 r.b, .int .u64 r.c, .int .i64 r.n, .int .i64 r.bit] 24) = W3 at *
        generalize w3.heap.size = B12 at *
        have hb0 : Below W3.heap.size W3 (W3.alloc (.cells #[] 5)) := by go_grown
        have R0 : NRel encY W3 [] (.slice (some ⟨W3.heap.size, 0, none⟩) 0 0) (W3.alloc (.cells #[] 5)) := ⟨Owns.made encY W3 [] #[] rfl 0 rfl (by decide), (fun g hg => by cases hg; exact Nat.le_refl _), hb0⟩
        have hsrc0 := (RCv.keep hb0).reads
        have hlen0' : ([] : List Nat).length + bs.length ≤ 1000000 := by rw [List.length_nil]; omega
        have hE0 := R0.own
        have R0 := Lib.hid R0
        have K1 := Lib.hid K1
        have K2 := Lib.hid K2
        have K12 := Lib.hid K12
        have HY := Lib.hid HY
        have HB := Lib.hid HB
        have RCv := Lib.hid RCv
        go_wp2_with (at_builtin; first | (refine appendY rfl (.tmp 48) (.tmp 49) rfl _ _ [] bs rfl hE0 rfl hsrc0 hlen0' ?_; intro v4 w4 hown4 hgr4 hat4; have R4 := R0.out.grow hown4 hgr4 hat4; rw [List.nil_append] at R4; obtain ⟨g4, c4, rfl, _⟩ := R4.own.some hbs; rw [hn] at R4; rw [hn]; have h4b : Below w4.heap.size w4 (w4.alloc (.cells #[.int .u8 (more : Int)] 5)) := (by go_grown); have R5 := R4.later h4b; have hown5 := R5.own; have R5 := Lib.hid R5; have hsrc5 : Reads encY (w4.alloc (.cells #[.int .u8 (more : Int)] 5)) (.slice (some ⟨w4.heap.size, 0, none⟩) 1 1) [more] := Reads.one encY w4 more _ rfl _ rfl; have hlen5 : bs.length + [more].length ≤ 1000000 := (by rw [List.length_singleton]; omega); clear hown4 hgr4 hat4 R4 h4b hE0 hsrc0 R0) | (refine appendY rfl (.tmp 50) (.tmp 52) rfl _ _ bs [more] rfl hown5 rfl hsrc5 hlen5 ?_; intro v6 w6 hown6 hgr6 hat6))
        have R6 := R5.out.grow hown6 hgr6 hat6
        clear hown6 hgr6 hat6 R5 hown5 hsrc5
        refine (wireGetR _ (bs ++ [more]) _ R6.own.rc (by simp; omega) hlt).mono ?_
        rintro e w7 ⟨v7, x7, rfl, hp7⟩
        obtain ⟨rfl, rfl, hb7⟩ := hp7.of G2
        clear hp7 G2
        dsimp only [errO, Option.getD, rqV, Rq.zero]
        have hb37 := R6.below.trans (hb7.mono R6.below.size)
        have g7 : Below w7.heap.size w7 (w7.alloc (.cells #[.int .i64 0, .int .i64 0, .int .u64 0, .int .u64 0, .int .u64 0, .int .i64 0, .int .i64 0] 24)) := by go_grown
        have hb38 := hb37.trans (g7.mono hb37.size)
        have K1 := K1.out.below hb38
        have K2 := K2.out.below hb38
        have K12 := K12.out.below hb38
        have HY := HY.out.keep hb38
        have RCv := RCv.out.keep hb38
        have HB := HB.out.trans (hb38.mono HB.out.size)
        clear hb37 hb7 g7 hb38 R6 hb0
        go_upto_region 8 with (fail)
        generalize w7.alloc (.cells #[.int .i64 0, .int .i64 0, .int .u64 0, .int .u64 0, .int .u64 0, .int .i64 0, .int .i64 0] 24) = W7 at *
        have RCt : RC encY W7 (.slice (some ⟨gc, 0, none⟩) n cc) (bs.take n) := by
          have h1 := RCv.reads
          rw [← hn] at h1
          rcases h1.cut (k := n) (c := cc) (by omega) with h | ⟨h, _⟩
          · exact ⟨h, fun a n' c e => by injection e; omega⟩
          · cases h
        obtain ⟨y0, y1, y2, y3, y4, y5, y6⟩ := K1.cells
        obtain ⟨z0, z1, z2, z3, z4, z5, z6⟩ := K12.cells
        have h2n : ¬ (n : Int) + 1 < 2 := by omega
        have hncc : (n : Int) ≤ (cc : Int) := by omega
        have hlt2 : ∀ x ∈ bs.take n, x < 256 := fun u hu => hlR u (List.mem_of_mem_take hu)
        have K2 := Lib.hid K2
        have HY := Lib.hid HY
        have HB := Lib.hid HB
        have RCt := Lib.hid RCt
        clear K1 K12 RCv
        go_wp2_with fail
        refine (wireGetR _ (bs.take n) _ RCt.out (by rw [List.length_take]; omega) hlt2).mono ?_
        rintro e w8 ⟨v8, x8, rfl, hp8⟩
        obtain ⟨rfl, rfl, hb8⟩ := hp8.of G3
        clear hp8 G3
        dsimp only [errO, Option.getD, rqV, Rq.zero]
        have g8 : Below w8.heap.size w8 (w8.alloc (.cells #[.int .i64 0, .int .i64 0, .int .u64 0, .int .u64 0, .int .u64 0, .int .i64 0, .int .i64 0] 24)) := by go_grown
        have hb9 := hb8.trans (g8.mono hb8.size)
        have K2 := Lib.hid (K2.out.below hb9)
        have HY := Lib.hid (HY.out.keep hb9)
        have HB := Lib.hid (HB.out.trans (hb9.mono HB.out.size))
        clear RCt hb8 g8 hb9 y0 y1 y2 y3 y4 y5 y6 z0 z1 z2 z3 z4 z5 z6
        go_wp2
        go_meet
        case rel => exact ⟨K2.out, HY.out, HB.out⟩
    case rest =>
      obtain ⟨k2, hy, hb3⟩ := hcut
      obtain ⟨y0, y1, y2, y3, y4⟩ := k2.cells
      go_wp2_with fail
      refine (hputS _).mono ?_
      rintro e w2 ⟨v, x, rfl, hp⟩
      have k2 := k2.below hp.below
      have hy := hy.keep hp.below
      have hb4 := hb3.trans (hp.below.mono hb3.size)
      clear y0 y1 y2 y3 y4 hb3 hputS
      have hx : (decide a.may = true ∧ x = .nilIface) ∨ (decide a.may = false ∧ x = .iface 59 (.int .i64 1)) := by
        by_cases h : a.may
        · exact .inl ⟨decide_eq_true h, (hp.of_some (HSS.out h)).1⟩
        · exact .inr ⟨decide_eq_false h, (hp.of_none (HSN.out h)).2.1⟩
      have hP : decide a.may = true → NRel encY wc (bytesS a) v w2 ∧ a.may := fun h => ⟨(hp.of_some (HSS.out (of_decide_eq_true h))).2, of_decide_eq_true h⟩
      generalize decide a.may = q at *
      obtain ⟨q1, q2, q3⟩ := eql_err q x 1 hx
      clear hp HSN HSS hx
      go_upto_if 90 with (fail)
      go_cut [18] from 20 to 107 (fun _ wd => RC encY wd (.slice ay b.length cy) b ∧ Below w.heap.size w wd)
      case first =>
        cases q with
        | false =>
          go_wp2
          go_meet
          case rel => exact ⟨hy, hb4⟩
        | true =>
          obtain ⟨R, hmay⟩ := hP rfl
          have hlS := bytesS_lt a
          have hl20 := bytesS_length a
          have G1 := getS_put hmay
          clear hmay hP
          generalize bytesS a = cs at *
          have RCv : RC encY w2 v cs := R.own.rc
          obtain ⟨gc, cc, rfl, hcc⟩ := RCv.form
          rw [hl20] at RCv hcc ⊢
          have HY := Lib.hid hy
          have K2 := Lib.hid k2
          have HB := Lib.hid hb4
          clear hy k2 hb4 R
          go_wp2_with fail
          refine (wireGetS _ cs _ RCv (by omega) hlS).mono ?_
          rintro e w3 ⟨v3, x3, rfl, hp3⟩
          obtain ⟨rfl, rfl, hb34⟩ := hp3.of G1
          clear hp3 G1
          dsimp only [errO, Option.getD, rsV]
          have g3 : Below w3.heap.size w3 (w3.alloc (.cells #[.int .i64 a.code, .int .i64 a.tenant, .int .u64 a.val, .int .i64 a.charge, .int .i64 a.cost] 26)) := by go_grown
          have K20 := HoldsS.new w3 a _ rfl
          have hb36 := hb34.trans (g3.mono hb34.size)
          have K2 := K2.out.below hb36
          have HY := Lib.hid (HY.out.keep hb36)
          have HB := Lib.hid (HB.out.trans (hb36.mono HB.out.size))
          clear hb34 g3 hb36 RCv
          go_upto_region 16 with (fail)
          generalize w3.alloc (.cells #[.int .i64 a.code, .int .i64 a.tenant, .int .u64 a.val, .int .i64 a.charge, .int .i64 a.cost] 26) = W3 at *
          generalize w3.heap.size = B20 at *
          obtain ⟨y0, y1, y2, y3, y4⟩ := K2.cells
          obtain ⟨z0, z1, z2, z3, z4⟩ := K20.cells
          clear K2 K20
          go_wp2
          go_meet
          case rel => exact ⟨HY.out, HB.out⟩
      case rest =>
        obtain ⟨hy, hb4⟩ := hcut
        go_wp2_with fail
        refine (wireGetR _ b _ hy hl2 HYB.out).mono ?_
        rintro e w2 ⟨v, x, rfl, hp⟩
        obtain ⟨rfl, rfl, hb5⟩ := hp.get
        clear hp
        have hx : (boolO (codeGet b) = true ∧ errO 7 (codeGet b) = .nilIface) ∨ (boolO (codeGet b) = false ∧ errO 7 (codeGet b) = .iface 59 (.int .i64 7)) := by cases codeGet b; exact .inr ⟨rfl, rfl⟩; exact .inl ⟨rfl, rfl⟩
        have hP : boolO (codeGet b) = true → codePut ((codeGet b).getD Rq.zero) = some b := fun h => by
          cases hc : codeGet b with
          | none => rw [hc] at h; cases h
          | some z =>
            obtain ⟨m1, m2⟩ := (codeGet_some HYB.out z).1 hc
            exact (codePut_some m1.good b).2 ⟨m1, m2⟩
        generalize (codeGet b).getD Rq.zero = Z at *
        generalize errO 7 (codeGet b) = x at *
        generalize boolO (codeGet b) = q at *
        obtain ⟨q1, q2, q3⟩ := eql_err q x 7 hx
        have hputZ := fun W => wirePutR Z W
        dsimp only [rqV] at hputZ ⊢
        have g2 : Below w2.heap.size w2 (w2.alloc (.cells #[.int .i64 Z.op, .int .i64 Z.tenant, .int .u64 Z.a, .int .u64 Z.b, .int .u64 Z.c, .int .i64 Z.n, .int .i64 Z.bit] 24)) := by go_grown
        have KZ := HoldsR.new w2 Z _ rfl
        have hb25 := hb5.trans (g2.mono hb5.size)
        have hy := hy.keep hb25
        have hb6 := hb4.trans (hb25.mono hb4.size)
        clear hb4 hb5 g2 hb25 hx
        go_upto_region 19 with (fail)
        generalize w2.alloc (.cells #[.int .i64 Z.op, .int .i64 Z.tenant, .int .u64 Z.a, .int .u64 Z.b, .int .u64 Z.c, .int .i64 Z.n, .int .i64 Z.bit] 24) = W2 at *
        generalize w2.heap.size = B22 at *
        go_upto_if 114 with (fail)
        go_cut [] from 24 to 128 (fun we => RC encY we (.slice ay b.length cy) b ∧ Below w.heap.size w we)
        case first =>
          cases q with
          | false =>
            go_wp2
            go_meet
            case rel => exact ⟨hy, hb6⟩
          | true =>
            have hcp := hP rfl
            obtain ⟨y0, y1, y2, y3, y4, y5, y6⟩ := KZ.cells
            have HY := Lib.hid hy
            have HB := Lib.hid hb6
            clear hP KZ hy hb6
            go_wp2_with fail
            refine (hputZ _).mono ?_
            rintro e w4 ⟨v4, x4, rfl, hp4⟩
            obtain ⟨rfl, R⟩ := hp4.of_some hcp
            have hy := HY.out.keep R.below
            have hb7 := HB.out.trans (R.below.mono HB.out.size)
            have c1 := conv_bytes R.own.reads HYB.out
            have c2 := conv_bytes hy.reads HYB.out
            have HY := Lib.hid hy
            have HB := Lib.hid hb7
            clear hp4 hcp R hy hb7 y0 y1 y2 y3 y4 y5 y6 hputZ
            go_wp2
            go_meet
            case rel => exact ⟨HY.out, HB.out⟩
        case rest =>
          obtain ⟨hy, hb6⟩ := hcut
          clear hP KZ hputZ q1 q2 q3
          go_wp2_with fail
          refine (wireGetS _ b _ hy hl2 HYB.out).mono ?_
          rintro e w3 ⟨v, x, rfl, hp⟩
          obtain ⟨rfl, rfl, hb5⟩ := hp.get
          clear hp
          have hx : (boolO (codeGetS b) = true ∧ errO 7 (codeGetS b) = .nilIface) ∨ (boolO (codeGetS b) = false ∧ errO 7 (codeGetS b) = .iface 59 (.int .i64 7)) := by cases codeGetS b; exact .inr ⟨rfl, rfl⟩; exact .inl ⟨rfl, rfl⟩
          have hP : boolO (codeGetS b) = true → codePutS ((codeGetS b).getD Rs.zero) = some b := fun h => by
            cases hc : codeGetS b with
            | none => rw [hc] at h; cases h
            | some z =>
              obtain ⟨m1, m2⟩ := (codeGetS_some HYB.out z).1 hc
              exact (codePutS_some m1.good b).2 ⟨m1, m2⟩
          generalize (codeGetS b).getD Rs.zero = Z at *
          generalize errO 7 (codeGetS b) = x at *
          generalize boolO (codeGetS b) = q at *
          have hputZ := fun W => wirePutS Z W
          dsimp only [rsV] at hputZ ⊢
          have g2 : Below w3.heap.size w3 (w3.alloc (.cells #[.int .i64 Z.code, .int .i64 Z.tenant, .int .u64 Z.val, .int .i64 Z.charge, .int .i64 Z.cost] 26)) := by go_grown
          have KZ := HoldsS.new w3 Z _ rfl
          have hb25 := hb5.trans (g2.mono hb5.size)
          have hy := hy.keep hb25
          have hb7 := hb6.trans (hb25.mono hb6.size)
          clear hb6 hb5 g2 hb25
          go_upto_region 24 with (fail)
          generalize w3.alloc (.cells #[.int .i64 Z.code, .int .i64 Z.tenant, .int .u64 Z.val, .int .i64 Z.charge, .int .i64 Z.cost] 26) = W3 at *
          generalize w3.heap.size = B26 at *
          rcases hx with ⟨rfl, rfl⟩ | ⟨rfl, rfl⟩
          · have hcp := hP rfl
            obtain ⟨y0, y1, y2, y3, y4⟩ := KZ.cells
            have HY := Lib.hid hy
            have HB := Lib.hid hb7
            clear hP KZ hy hb7
            go_wp2_with fail
            refine (hputZ _).mono ?_
            rintro e w4 ⟨v4, x4, rfl, hp4⟩
            obtain ⟨rfl, R⟩ := hp4.of_some hcp
            have hy := HY.out.keep R.below
            have hb8 := HB.out.trans (R.below.mono HB.out.size)
            have c1 := conv_bytes R.own.reads HYB.out
            have c2 := conv_bytes hy.reads HYB.out
            have HB := Lib.hid hb8
            clear hp4 hcp R hy hb8 y0 y1 y2 y3 y4 hputZ HY
            go_wp2
            go_ret
            exact ⟨rfl, HB.out⟩
          · clear hP KZ hputZ hy
            go_wp2
            go_ret
            exact ⟨rfl, hb7⟩
  · have hl1 : 1000 < (b.length : Int) := by omega
    clear hl
    go_wp2
    go_ret
    exact ⟨rfl, hb2⟩

end Go.Proofs.Ytnnkkedflfmaoaa
