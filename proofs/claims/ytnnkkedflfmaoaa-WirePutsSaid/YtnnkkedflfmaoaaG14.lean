/-
  Texts of this proof, one behind the other: Gets18, Puts18.
-/
import Derived.Test.YtnnkkedflfmaoaaG10
import Derived.Test.YtnnkkedflfmaoaaG13
import Derived.Deep.CutRange
import Derived.Test.YtnnkkedflfmaoaaG12
import Derived.Test.YtnnkkedflfmaoaaG11
/-
  WireGets: the walk.
-/
namespace Go.Proofs.Ytnnkkedflfmaoaa
open Go Go.RowKit

theorem HoldsR.new (w : World) (r : Rq) (b : Nat) (hb : b = w.heap.size) : HoldsR (w.alloc (.cells #[.int .i64 r.op, .int .i64 r.tenant, .int .u64 r.a, .int .u64 r.b, .int .u64 r.c, .int .i64 r.n, .int .i64 r.bit] 24)) b r := by
  subst hb
  exact heap_alloc_new _ _
theorem HoldsS.new (w : World) (r : Rs) (b : Nat) (hb : b = w.heap.size) : HoldsS (w.alloc (.cells #[.int .i64 r.code, .int .i64 r.tenant, .int .u64 r.val, .int .i64 r.charge, .int .i64 r.cost] 26)) b r := by
  subst hb
  exact heap_alloc_new _ _

/-- An answer's error, and whether there is one. -/
def errO {α : Type} (c : Int) (o : Option α) : Value := match o with
  | some _ => .nilIface
  | none => .iface 59 (.int .i64 c)
def boolO {α : Type} (o : Option α) : Bool := match o with
  | some _ => true
  | none => false
theorem GetRPost.get {o : Option Rq} {w w' : World} {v x : Value} (h : GetRPost o w v x w') : v = rqV (o.getD Rq.zero) ∧ x = errO 7 o ∧ Below w.heap.size w w' := by
  cases o with
  | none => exact ⟨h.1.1, h.1.2, h.2⟩
  | some r => exact ⟨h.1.1, h.1.2, h.2⟩
theorem GetSPost.get {o : Option Rs} {w w' : World} {v x : Value} (h : GetSPost o w v x w') : v = rsV (o.getD Rs.zero) ∧ x = errO 7 o ∧ Below w.heap.size w w' := by
  cases o with
  | none => exact ⟨h.1.1, h.1.2, h.2⟩
  | some r => exact ⟨h.1.1, h.1.2, h.2⟩
theorem RefRPost.get {o : Option Rq} {w w' : World} {v x : Value} (h : RefRPost o w v x w') : v = rqV (o.getD Rq.zero) ∧ x = .bool (boolO o) ∧ Below w.heap.size w w' := by
  cases o with
  | none => exact ⟨h.1.1, h.1.2, h.2⟩
  | some r => exact ⟨h.1.1, h.1.2, h.2⟩
theorem RefSPost.get {o : Option Rs} {w w' : World} {v x : Value} (h : RefSPost o w v x w') : v = rsV (o.getD Rs.zero) ∧ x = .bool (boolO o) ∧ Below w.heap.size w w' := by
  cases o with
  | none => exact ⟨h.1.1, h.1.2, h.2⟩
  | some r => exact ⟨h.1.1, h.1.2, h.2⟩

set_option maxRecDepth 100000 in
set_option maxHeartbeats 16000000 in
theorem wireGets (bs : List Nat) (y : Value) (w : World) (hy : RC encY w y bs) (_hyl : bs.length ≤ maxLen) (hyb : ∀ x ∈ bs, x < 256) :
    Calls Try.prog 4 #[y] w fun e w' => e = .returned (.bool true) ∧ Below w.heap.size w w' := by
  obtain ⟨ay, cy, rfl, hcy⟩ := hy.form
  have HY := Lib.hid hy
  have HYB := Lib.hid hyb
  have hsame := get_same hyb
  have hsameS := getS_same hyb
  clear hy hyb
  go_enter Try.func4, Try.ntmps4
  go_wp2_with fail
  refine (up18 _).mono ?_
  rintro e w1 ⟨rfl, hb1⟩
  by_cases hl : bs.length ≤ 1000
  · have hl1 : ¬ 1000 < (bs.length : Int) := by omega
    have hl2 : bs.length ≤ 1000000 := by omega
    go_wp2_with fail
    refine (wireGetR _ bs _ (HY.out.keep hb1) hl2 HYB.out).mono ?_
    rintro e w2 ⟨v2, x2, rfl, hp2⟩
    rw [hsame] at hp2
    obtain ⟨rfl, rfl, hb2⟩ := hp2.get
    clear hp2 hsame
    have hyR := fun W hy' => refGetRv (.slice ay bs.length cy) bs W hy' hl2 HYB.out
    have hyS := fun W hy' => refGetSv (.slice ay bs.length cy) bs W hy' hl2 HYB.out
    have hcS := fun W hy' => wireGetS (.slice ay bs.length cy) bs W hy' hl2 HYB.out
    rw [hsameS] at hcS
    have hx : ∀ O : Option Rq, (errO 7 O = .nilIface ∧ boolO O = true) ∨ (errO 7 O = .iface 59 (.int .i64 7) ∧ boolO O = false) := fun O => by cases O; exact .inr ⟨rfl, rfl⟩; exact .inl ⟨rfl, rfl⟩
    have hxS : ∀ O : Option Rs, (errO 7 O = .nilIface ∧ boolO O = true) ∨ (errO 7 O = .iface 59 (.int .i64 7) ∧ boolO O = false) := fun O => by cases O; exact .inr ⟨rfl, rfl⟩; exact .inl ⟨rfl, rfl⟩
    have hyR2 := fun W hy' => (hyR W hy').mono fun e w' h => show ∃ v x, e = .returned (.tuple #[v, x]) ∧ v = rqV ((refGet bs).getD Rq.zero) ∧ x = .bool (boolO (refGet bs)) ∧ Below W.heap.size W w' from by obtain ⟨v, x, he, hp⟩ := h; exact ⟨v, x, he, hp.get⟩
    have hyS2 := fun W hy' => (hyS W hy').mono fun e w' h => show ∃ v x, e = .returned (.tuple #[v, x]) ∧ v = rsV ((refGetS bs).getD Rs.zero) ∧ x = .bool (boolO (refGetS bs)) ∧ Below W.heap.size W w' from by obtain ⟨v, x, he, hp⟩ := h; exact ⟨v, x, he, hp.get⟩
    have hcS2 := fun W hy' => (hcS W hy').mono fun e w' h => show ∃ v x, e = .returned (.tuple #[v, x]) ∧ v = rsV ((refGetS bs).getD Rs.zero) ∧ x = errO 7 (refGetS bs) ∧ Below W.heap.size W w' from by obtain ⟨v, x, he, hp⟩ := h; exact ⟨v, x, he, hp.get⟩
    clear hyR hyS hcS hsameS
    have hx1 := hx (refGet bs)
    have hx2 := hxS (refGetS bs)
    clear hx hxS
    generalize (refGet bs).getD Rq.zero = R at *
    generalize (refGetS bs).getD Rs.zero = S at *
    generalize errO 7 (refGet bs) = xe at *
    generalize errO 7 (refGetS bs) = xs at *
    generalize boolO (refGet bs) = qb at *
    generalize boolO (refGetS bs) = sb at *
    obtain ⟨r0, r1, r2, r3, r4, r5, r6⟩ := R
    obtain ⟨s0, s1, s2, s3, s4⟩ := S
    unfold rqV at hyR2 ⊢
    unfold rsV at hyS2 hcS2
    dsimp only at hyR2 hyS2 hcS2 ⊢
    have hb12 := hb1.trans (hb2.mono hb1.size)
    have k2 := HoldsR.new w2 ⟨r0, r1, r2, r3, r4, r5, r6⟩ _ rfl
    have g2 : Below w2.heap.size w2 (w2.alloc (.cells #[.int .i64 r0, .int .i64 r1, .int .u64 r2, .int .u64 r3, .int .u64 r4, .int .i64 r5, .int .i64 r6] 24)) := by go_grown
    have hb13 := hb12.trans (g2.mono hb12.size)
    dsimp only at k2
    clear hb1 hb2 hb12 g2
    go_upto_region 5 with (fail)
    generalize w2.alloc (.cells #[.int .i64 r0, .int .i64 r1, .int .u64 r2, .int .u64 r3, .int .u64 r4, .int .i64 r5, .int .i64 r6] 24) = W2 at *
    generalize w2.heap.size = B2 at *
    go_wp2_with fail
    refine (hyR2 _ (HY.out.keep hb13)).mono ?_
    rintro e w3 ⟨v3, x3, rfl, rfl, rfl, hb3⟩
    have k2 := k2.below hb3
    have hb14 := hb13.trans (hb3.mono hb13.size)
    have k3 := HoldsR.new w3 ⟨r0, r1, r2, r3, r4, r5, r6⟩ _ rfl
    have g3 : Below w3.heap.size w3 (w3.alloc (.cells #[.int .i64 r0, .int .i64 r1, .int .u64 r2, .int .u64 r3, .int .u64 r4, .int .i64 r5, .int .i64 r6] 24)) := by go_grown
    have hb15 := hb14.trans (g3.mono hb14.size)
    have k2 := k2.below g3
    dsimp only at k2 k3
    clear hb3 hb13 hb14 g3
    go_upto_region 6 with (fail)
    generalize w3.alloc (.cells #[.int .i64 r0, .int .i64 r1, .int .u64 r2, .int .u64 r3, .int .u64 r4, .int .i64 r5, .int .i64 r6] 24) = W3 at *
    generalize w3.heap.size = B3 at *
    go_wp2_with fail
    refine (hcS2 _ (HY.out.keep hb15)).mono ?_
    rintro e w4 ⟨v4, x4, rfl, rfl, rfl, hb4⟩
    have k4 := HoldsS.new w4 ⟨s0, s1, s2, s3, s4⟩ _ rfl
    have g4 : Below w4.heap.size w4 (w4.alloc (.cells #[.int .i64 s0, .int .i64 s1, .int .u64 s2, .int .i64 s3, .int .i64 s4] 26)) := by go_grown
    have hb46 := hb4.trans (g4.mono hb4.size)
    have k2 := k2.below hb46
    have k3 := k3.below hb46
    have hb17 := hb15.trans (hb46.mono hb15.size)
    dsimp only at k2 k3 k4
    clear hb4 g4 hb46 hb15
    go_upto_region 7 with (fail)
    generalize w4.alloc (.cells #[.int .i64 s0, .int .i64 s1, .int .u64 s2, .int .i64 s3, .int .i64 s4] 26) = W4 at *
    generalize w4.heap.size = B4 at *
    go_wp2_with fail
    refine (hyS2 _ (HY.out.keep hb17)).mono ?_
    rintro e w5 ⟨v5, x5, rfl, rfl, rfl, hb5⟩
    have k5 := HoldsS.new w5 ⟨s0, s1, s2, s3, s4⟩ _ rfl
    have g5 : Below w5.heap.size w5 (w5.alloc (.cells #[.int .i64 s0, .int .i64 s1, .int .u64 s2, .int .i64 s3, .int .i64 s4] 26)) := by go_grown
    have hb56 := hb5.trans (g5.mono hb5.size)
    have k2 := k2.below hb56
    have k3 := k3.below hb56
    have k4 := k4.below hb56
    have hb18 := hb17.trans (hb56.mono hb17.size)
    dsimp only at k2 k3 k4 k5
    clear hb5 g5 hb56 hb17 hyR2 hyS2 hcS2
    go_upto_region 8 with (fail)
    generalize w5.alloc (.cells #[.int .i64 s0, .int .i64 s1, .int .u64 s2, .int .i64 s3, .int .i64 s4] 26) = W5 at *
    generalize w5.heap.size = B5 at *
    obtain ⟨a0, a1, a2, a3, a4, a5, a6⟩ := k2.cells
    obtain ⟨b0, b1, b2, b3, b4, b5, b6⟩ := k3.cells
    obtain ⟨c0, c1, c2, c3, c4⟩ := k4.cells
    obtain ⟨d0, d1, d2, d3, d4⟩ := k5.cells
    dsimp only at a0 a1 a2 a3 a4 a5 a6 b0 b1 b2 b3 b4 b5 b6 c0 c1 c2 c3 c4 d0 d1 d2 d3 d4
    clear k2 k3 k4 k5 HY HYB
    have hcode := fun W => lawCode 7 W (by decide) (by decide)
    rcases hx1 with ⟨rfl, rfl⟩ | ⟨rfl, rfl⟩ <;> rcases hx2 with ⟨rfl, rfl⟩ | ⟨rfl, rfl⟩
    · go_wp2
      go_ret
      exact ⟨rfl, hb18⟩
    · go_wp2_with fail
      refine (hcode _).mono ?_
      rintro e w6 ⟨rfl, rfl⟩
      go_wp2
      go_ret
      exact ⟨rfl, hb18⟩
    · go_wp2_with fail
      refine (hcode _).mono ?_
      rintro e w6 ⟨rfl, rfl⟩
      go_wp2
      go_ret
      exact ⟨rfl, hb18⟩
    · go_wp2_with fail
      refine (hcode _).mono ?_
      rintro e w6 ⟨rfl, rfl⟩
      go_wp2_with fail
      refine (hcode _).mono ?_
      rintro e w6 ⟨rfl, rfl⟩
      go_wp2
      go_ret
      exact ⟨rfl, hb18⟩
  · have hl1 : 1000 < (bs.length : Int) := by omega
    clear hl hsame hsameS
    go_wp2
    go_ret
    exact ⟨rfl, hb1⟩

end Go.Proofs.Ytnnkkedflfmaoaa

/-
  WirePuts: the walk.
-/
namespace Go.Proofs.Ytnnkkedflfmaoaa
open Go Go.RowKit

theorem Below.drew1 (w : World) : Below w.heap.size w w.drew := (Below.refl _ _).drew

set_option maxRecDepth 100000 in
set_option maxHeartbeats 16000000 in
theorem wirePuts (r : Rq) (a : Rs) (w : World) (hr : r.good) (ha : a.good) :
    Calls Try.prog 3 #[rqV r, rsV a] w fun e w' => e = .returned (.bool true) ∧ Below w.heap.size w w' := by
  have hput : ∀ W, Calls Try.prog 7 #[rqV r] W fun e w' => ∃ v x, e = .returned (.tuple #[v, x]) ∧ PutPost (if decide r.may = true then some (bytesR r) else none) W v x w' := fun W => by
    have h := wirePutR r W
    have e : codePut r = if decide r.may = true then some (bytesR r) else none := by
      by_cases hm : r.may
      · rw [if_pos (decide_eq_true hm)]; exact (codePut_some hr _).2 ⟨hm, rfl⟩
      · rw [if_neg (by rw [decide_eq_false hm]; decide)]; exact codePut_none hr hm
    rw [e] at h
    exact h
  have hputS : ∀ W, Calls Try.prog 11 #[rsV a] W fun e w' => ∃ v x, e = .returned (.tuple #[v, x]) ∧ PutPost (if decide a.may = true then some (bytesS a) else none) W v x w' := fun W => by
    have h := wirePutS a W
    have e : codePutS a = if decide a.may = true then some (bytesS a) else none := by
      by_cases hm : a.may
      · rw [if_pos (decide_eq_true hm)]; exact (codePutS_some ha _).2 ⟨hm, rfl⟩
      · rw [if_neg (by rw [decide_eq_false hm]; decide)]; exact codePutS_none ha hm
    rw [e] at h
    exact h
  have hmay := fun W => refMayR r W hr
  have hmayS := fun W => refMayS a W ha
  have hrefP := fun (hm : decide r.may = true) W => refPutR r W (of_decide_eq_true hm)
  have hrefS := fun (hm : decide a.may = true) W => refPutS a W (of_decide_eq_true hm)
  have hlR := bytesR_lt r
  have hlS := bytesS_lt a
  clear hr ha
  generalize decide r.may = dm at *
  generalize decide a.may = ds at *
  generalize bytesR r = bs at *
  generalize bytesS a = cs at *
  obtain ⟨r0, r1, r2, r3, r4, r5, r6⟩ := r
  obtain ⟨s0, s1, s2, s3, s4⟩ := a
  unfold rqV at hput hmay hrefP ⊢
  unfold rsV at hputS hmayS hrefS ⊢
  dsimp only at hput hmay hrefP hputS hmayS hrefS ⊢
  have g1 : Below w.heap.size w (w.alloc (.cells #[.int .i64 r0, .int .i64 r1, .int .u64 r2, .int .u64 r3, .int .u64 r4, .int .i64 r5, .int .i64 r6] 24)) := by go_grown
  have g2 : Below (w.alloc (.cells #[.int .i64 r0, .int .i64 r1, .int .u64 r2, .int .u64 r3, .int .u64 r4, .int .i64 r5, .int .i64 r6] 24)).heap.size (w.alloc (.cells #[.int .i64 r0, .int .i64 r1, .int .u64 r2, .int .u64 r3, .int .u64 r4, .int .i64 r5, .int .i64 r6] 24)) ((w.alloc (.cells #[.int .i64 r0, .int .i64 r1, .int .u64 r2, .int .u64 r3, .int .u64 r4, .int .i64 r5, .int .i64 r6] 24)).alloc (.cells #[.int .i64 s0, .int .i64 s1, .int .u64 s2, .int .i64 s3, .int .i64 s4] 26)) := (Below.refl _ _).alloc (Nat.le_refl _) _
  have k1 := (HoldsR.new w ⟨r0, r1, r2, r3, r4, r5, r6⟩ _ rfl).below g2
  have k2 := HoldsS.new (w.alloc (.cells #[.int .i64 r0, .int .i64 r1, .int .u64 r2, .int .u64 r3, .int .u64 r4, .int .i64 r5, .int .i64 r6] 24)) ⟨s0, s1, s2, s3, s4⟩ (w.heap.size + 1) (by simp)
  have hb := g1.trans (g2.mono g1.size)
  dsimp only at k1 k2
  clear g1 g2
  go_enter Try.func3, Try.ntmps3
  go_upto_region 1 with (fail)
  generalize (w.alloc (.cells #[.int .i64 r0, .int .i64 r1, .int .u64 r2, .int .u64 r3, .int .u64 r4, .int .i64 r5, .int .i64 r6] 24)).alloc (.cells #[.int .i64 s0, .int .i64 s1, .int .u64 s2, .int .i64 s3, .int .i64 s4] 26) = W at *
  go_wp2_with fail
  refine (up18 _).mono ?_
  rintro e w1 ⟨rfl, hb1⟩
  have k1 := k1.below hb1
  have k2 := k2.below hb1
  have hb2 := hb.trans (hb1.mono hb.size)
  obtain ⟨y0, y1, y2, y3, y4, y5, y6⟩ := k1.cells
  dsimp only at y0 y1 y2 y3 y4 y5 y6
  clear hb hb1
  go_wp2_with fail
  refine (hput _).mono ?_
  rintro e w2 ⟨v, x, rfl, hp⟩
  have k1 := k1.below hp.below
  have k2 := k2.below hp.below
  have hb3 := hb2.trans (hp.below.mono hb2.size)
  clear y0 y1 y2 y3 y4 y5 y6 hb2 hput
  obtain ⟨y0, y1, y2, y3, y4, y5, y6⟩ := k1.cells
  dsimp only at y0 y1 y2 y3 y4 y5 y6
  go_wp2_with fail
  refine (hmay _).mono ?_
  rintro e w3 ⟨rfl, hb3'⟩
  have k1 := k1.below hb3'
  have k2 := k2.below hb3'
  have hb4 := hb3.trans (hb3'.mono hb3.size)
  clear y0 y1 y2 y3 y4 y5 y6 hb3 hmay
  go_upto_region 4 with (fail)
  go_cut [46] from 20 to 46 (fun s46 wc => s46 = .bool false ∧ HoldsS wc (w.heap.size + 1) ⟨s0, s1, s2, s3, s4⟩ ∧ Below w.heap.size w wc)
  case first =>
    cases dm with
    | true =>
      rw [if_pos rfl] at hp
      obtain ⟨rfl, R⟩ := hp
      have hrd := (R.later hb3').own.reads
      have hS0 : (w3.cell? ⟨w.heap.size, 0, none⟩ = some (.int .i64 r0) ∧ w3.cell? ⟨w.heap.size, 1, none⟩ = some (.int .i64 r1) ∧ w3.cell? ⟨w.heap.size, 2, none⟩ = some (.int .u64 r2) ∧ w3.cell? ⟨w.heap.size, 3, none⟩ = some (.int .u64 r3) ∧ w3.cell? ⟨w.heap.size, 4, none⟩ = some (.int .u64 r4) ∧ w3.cell? ⟨w.heap.size, 5, none⟩ = some (.int .i64 r5) ∧ w3.cell? ⟨w.heap.size, 6, none⟩ = some (.int .i64 r6)) ∧ (convert 28 9 v).run Try.prog w3 = .ok (.string (strB bs)) w3 := ⟨k1.cells, conv_bytes hrd hlR⟩
      have hSd : (w3.drew.cell? ⟨w.heap.size, 0, none⟩ = some (.int .i64 r0) ∧ w3.drew.cell? ⟨w.heap.size, 1, none⟩ = some (.int .i64 r1) ∧ w3.drew.cell? ⟨w.heap.size, 2, none⟩ = some (.int .u64 r2) ∧ w3.drew.cell? ⟨w.heap.size, 3, none⟩ = some (.int .u64 r3) ∧ w3.drew.cell? ⟨w.heap.size, 4, none⟩ = some (.int .u64 r4) ∧ w3.drew.cell? ⟨w.heap.size, 5, none⟩ = some (.int .i64 r5) ∧ w3.drew.cell? ⟨w.heap.size, 6, none⟩ = some (.int .i64 r6)) ∧ (convert 28 9 v).run Try.prog w3.drew = .ok (.string (strB bs)) w3.drew := ⟨k1.cells, conv_bytes (hrd.keep ((Below.refl _ _).drew)) hlR⟩
      have hPR := hrefP rfl
      clear hrefP
      have hs1 : ((strB bs).toList == (strB bs).toList) = true := beq_self_eq_true _
      have hs2 : (!((strB bs).toList == (strB bs).toList)) = false := by rw [hs1]; rfl
      have HRD := Lib.hid hrd
      have K1 := Lib.hid k1
      have K2 := Lib.hid k2
      have HB4 := Lib.hid hb4
      clear R hrd k1 k2 hb4 hb3' hputS hmayS hrefS
      go_wp2
      refine wp_region_held_drew (S := (fun w' => (w'.cell? ⟨w.heap.size, 0, none⟩ = some (.int .i64 r0) ∧ w'.cell? ⟨w.heap.size, 1, none⟩ = some (.int .i64 r1) ∧ w'.cell? ⟨w.heap.size, 2, none⟩ = some (.int .u64 r2) ∧ w'.cell? ⟨w.heap.size, 3, none⟩ = some (.int .u64 r3) ∧ w'.cell? ⟨w.heap.size, 4, none⟩ = some (.int .u64 r4) ∧ w'.cell? ⟨w.heap.size, 5, none⟩ = some (.int .i64 r5) ∧ w'.cell? ⟨w.heap.size, 6, none⟩ = some (.int .i64 r6)) ∧ (convert 28 9 v).run Try.prog w' = .ok (.string (strB bs)) w')) (by kernel_rfl) hSd (fun hHeld => ?_)
      refine wpAnyH_ready (rs := [0]) (by kernel_rfl) (by simp) ?_
      refine AllReadyH.cons rfl (fun K hK => ?_) AllReadyH.nil
      go_simp
      refine hK.out _ _ hHeld (fun hHeld => ?_)
      clear hK K
      try simp only [Act.put, List.setIfInBounds_toArray, List.set_cons_zero, List.set_cons_succ]
      refine wpAnyH_ready (rs := [1]) (by kernel_rfl) (by simp) ?_
      refine AllReadyH.cons rfl (fun K hK => ?_) AllReadyH.nil
      go_simp
      refine hK.out _ _ hHeld (fun hHeld => ?_)
      clear hK K
      try simp only [Act.put, List.setIfInBounds_toArray, List.set_cons_zero, List.set_cons_succ]
      refine wpAnyH_ready (rs := [2]) (by kernel_rfl) (by simp) ?_
      refine AllReadyH.cons rfl (fun K hK => ?_) AllReadyH.nil
      go_simp
      refine hK.out _ _ hHeld (fun hHeld => ?_)
      clear hK K
      try simp only [Act.put, List.setIfInBounds_toArray, List.set_cons_zero, List.set_cons_succ]
      refine wpAnyH_ready (rs := [3]) (by kernel_rfl) (by simp) ?_
      refine AllReadyH.cons rfl (fun K hK => ?_) AllReadyH.nil
      go_simp
      refine hK.out _ _ hHeld (fun hHeld => ?_)
      clear hK K
      try simp only [Act.put, List.setIfInBounds_toArray, List.set_cons_zero, List.set_cons_succ]
      refine wpAnyH_ready (rs := [4]) (by kernel_rfl) (by simp) ?_
      refine AllReadyH.cons rfl (fun K hK => ?_) AllReadyH.nil
      go_simp
      refine hK.out _ _ hHeld (fun hHeld => ?_)
      clear hK K
      try simp only [Act.put, List.setIfInBounds_toArray, List.set_cons_zero, List.set_cons_succ]
      refine wpAnyH_take (i := 5) (v := v) rfl (by kernel_rfl) (by kernel_rfl) (by kernel_rfl) (fun _ _ _ h => h) (Or.inl ⟨by rfl, ?_⟩) hHeld ?_
      · intro w hSw
        try dsimp only at hSw
        go_simp
      try simp only [Act.put, List.setIfInBounds_toArray]
      refine wpAnyH_take (i := 6) (v := .string (strB bs)) rfl (by kernel_rfl) (by kernel_rfl) (by kernel_rfl) (fun _ _ _ h => h) (Or.inl ⟨by rfl, ?_⟩) hHeld ?_
      · intro w hSw
        try dsimp only at hSw
        go_simp
      try simp only [Act.put]
      refine wpAnyH_take (i := 7) (v := .agg #[.int .i64 r0, .int .i64 r1, .int .u64 r2, .int .u64 r3, .int .u64 r4, .int .i64 r5, .int .i64 r6]) rfl (by kernel_rfl) (by kernel_rfl) (by kernel_rfl) (fun _ _ _ h => h) (Or.inl ⟨by rfl, ?_⟩) hHeld ?_
      · intro w hSw
        try dsimp only at hSw
        go_simp
      try simp only [Act.put]
      refine wpAnyH_ready (rs := [8]) (by kernel_rfl) (by simp) ?_
      refine AllReadyH.cons rfl (fun K hK => ?_) AllReadyH.nil
      go_simp
      refine (hPR _).mono ?_
      rintro e w5 ⟨rv, rfl, RV⟩
      have hcv5 := conv_bytes RV.own.reads hlR
      have hS5 : (w5.cell? ⟨w.heap.size, 0, none⟩ = some (.int .i64 r0) ∧ w5.cell? ⟨w.heap.size, 1, none⟩ = some (.int .i64 r1) ∧ w5.cell? ⟨w.heap.size, 2, none⟩ = some (.int .u64 r2) ∧ w5.cell? ⟨w.heap.size, 3, none⟩ = some (.int .u64 r3) ∧ w5.cell? ⟨w.heap.size, 4, none⟩ = some (.int .u64 r4) ∧ w5.cell? ⟨w.heap.size, 5, none⟩ = some (.int .i64 r5) ∧ w5.cell? ⟨w.heap.size, 6, none⟩ = some (.int .i64 r6)) ∧ (convert 28 9 v).run Try.prog w5 = .ok (.string (strB bs)) w5 := ⟨(((K1.out.below (Below.drew1 w3)).below RV.below)).cells, conv_bytes ((HRD.out.keep (Below.drew1 w3)).keep RV.below) hlR⟩
      have KR := Lib.hid RV.below
      go_wp2_with fail
      refine hK.out _ _ hS5 (fun hHeld => ?_)
      clear hK K
      try simp only [Act.put, List.setIfInBounds_toArray, List.set_cons_zero, List.set_cons_succ]
      refine wpAnyH_ready (rs := [9]) (by kernel_rfl) (by simp) ?_
      refine AllReadyH.cons rfl (fun K hK => ?_) AllReadyH.nil
      go_simp
      refine hK.out _ _ hHeld (fun hHeld => ?_)
      clear hK K
      try simp only [Act.put, List.setIfInBounds_toArray, List.set_cons_zero, List.set_cons_succ]
      refine wpAnyH_ready (rs := [10]) (by kernel_rfl) (by simp) ?_
      refine AllReadyH.cons rfl (fun K hK => ?_) AllReadyH.nil
      go_simp
      refine hK.out _ _ hHeld (fun hHeld => ?_)
      clear hK K
      try simp only [Act.put, List.setIfInBounds_toArray, List.set_cons_zero, List.set_cons_succ]
      refine wpAnyH_ready (rs := [11]) (by kernel_rfl) (by simp) ?_
      refine AllReadyH.cons rfl (fun K hK => ?_) AllReadyH.nil
      go_simp
      refine hK.out _ _ hHeld (fun hHeld => ?_)
      clear hK K
      try simp only [Act.put, List.setIfInBounds_toArray, List.set_cons_zero, List.set_cons_succ]
      refine wpAnyH_ready (rs := [12]) (by kernel_rfl) (by simp) ?_
      refine AllReadyH.cons rfl (fun K hK => ?_) AllReadyH.nil
      go_simp
      refine hK.out _ _ hHeld (fun hHeld => ?_)
      clear hK K
      try simp only [Act.put, List.setIfInBounds_toArray, List.set_cons_zero, List.set_cons_succ]
      refine wpAnyH_ready (rs := [13]) (by kernel_rfl) (by simp) ?_
      refine AllReadyH.cons rfl (fun K hK => ?_) AllReadyH.nil
      go_simp
      refine hK.out _ _ hHeld (fun hHeld => ?_)
      clear hK K
      try simp only [Act.put, List.setIfInBounds_toArray, List.set_cons_zero, List.set_cons_succ]
      refine wpAnyH_ready (rs := [14]) (by kernel_rfl) (by simp) ?_
      refine AllReadyH.cons rfl (fun K hK => ?_) AllReadyH.nil
      go_simp
      refine hK.out _ _ hHeld (fun hHeld => ?_)
      clear hK K
      try simp only [Act.put, List.setIfInBounds_toArray, List.set_cons_zero, List.set_cons_succ]
      refine wpAnyH_ready (rs := [15]) (by kernel_rfl) (by simp) ?_
      refine AllReadyH.cons rfl (fun K hK => ?_) AllReadyH.nil
      go_simp
      refine hK.out _ _ hHeld (fun hHeld => ?_)
      clear hK K
      try simp only [Act.put, List.setIfInBounds_toArray, List.set_cons_zero, List.set_cons_succ]
      refine wpAnyH_ready (rs := [16]) (by kernel_rfl) (by simp) ?_
      refine AllReadyH.cons rfl (fun K hK => ?_) AllReadyH.nil
      go_simp
      refine hK.out _ _ hHeld (fun hHeld => ?_)
      clear hK K
      try simp only [Act.put, List.setIfInBounds_toArray, List.set_cons_zero, List.set_cons_succ]
      refine wpAnyH_ready (rs := [17]) (by kernel_rfl) (by simp) ?_
      refine AllReadyH.cons rfl (fun K hK => ?_) AllReadyH.nil
      refine Eq.mpr (if_neg ?_) ?_
      · exact fun h => Bool.noConfusion (show false = true from h)
      refine hK.out _ _ hHeld (fun hHeld => ?_)
      clear hK K
      try simp only [Act.put, List.setIfInBounds_toArray]
      refine wpAnyH_ready (rs := [18]) (by kernel_rfl) (by simp) ?_
      refine AllReadyH.cons rfl (fun K hK => ?_) AllReadyH.nil
      refine Eq.mpr (if_neg ?_) ?_
      · exact fun h => Bool.noConfusion (show false = true from h)
      refine hK.out _ _ hHeld (fun hHeld => ?_)
      clear hK K
      try simp only [Act.put]
      refine wpAnyH_ready (rs := [19]) (by kernel_rfl) (by simp) ?_
      refine AllReadyH.cons rfl (fun K hK => ?_) AllReadyH.nil
      refine Eq.mpr (if_neg ?_) ?_
      · exact fun h => Bool.noConfusion (show false = true from h)
      refine hK.out _ _ hHeld (fun hHeld => ?_)
      clear hK K
      try simp only [Act.put]
      refine wpAnyH_ready (rs := [20]) (by kernel_rfl) (by simp) ?_
      refine AllReadyH.cons rfl (fun K hK => ?_) AllReadyH.nil
      refine Eq.mpr (if_neg ?_) ?_
      · exact fun h => Bool.noConfusion (show false = true from h)
      refine hK.out _ _ hHeld (fun hHeld => ?_)
      clear hK K
      try simp only [Act.put]
      refine wpAnyH_ready (rs := [21]) (by kernel_rfl) (by simp) ?_
      refine AllReadyH.cons rfl (fun K hK => ?_) AllReadyH.nil
      refine Eq.mpr (if_neg ?_) ?_
      · exact fun h => Bool.noConfusion (show false = true from h)
      refine hK.out _ _ hHeld (fun hHeld => ?_)
      clear hK K
      try simp only [Act.put]
      refine wpAnyH_ready (rs := [22]) (by kernel_rfl) (by simp) ?_
      refine AllReadyH.cons rfl (fun K hK => ?_) AllReadyH.nil
      refine Eq.mpr (if_neg ?_) ?_
      · exact fun h => Bool.noConfusion (show false = true from h)
      refine hK.out _ _ hHeld (fun hHeld => ?_)
      clear hK K
      try simp only [Act.put]
      refine wpAnyH_ready (rs := [23]) (by kernel_rfl) (by simp) ?_
      refine AllReadyH.cons rfl (fun K hK => ?_) AllReadyH.nil
      refine Eq.mpr (if_neg ?_) ?_
      · exact fun h => Bool.noConfusion (show false = true from h)
      refine hK.out _ _ hHeld (fun hHeld => ?_)
      clear hK K
      try simp only [Act.put]
      refine wpAnyH_ready (rs := [24]) (by kernel_rfl) (by simp) ?_
      refine AllReadyH.cons rfl (fun K hK => ?_) AllReadyH.nil
      refine Eq.mpr (if_neg ?_) ?_
      · exact fun h => Bool.noConfusion (show false = true from h)
      refine hK.out _ _ hHeld (fun hHeld => ?_)
      clear hK K
      try simp only [Act.put]
      refine wpAnyH_ready (rs := [25]) (by kernel_rfl) (by simp) ?_
      refine AllReadyH.cons rfl (fun K hK => ?_) AllReadyH.nil
      go_simp
      refine hK.out _ _ hHeld (fun hHeld => ?_)
      clear hK K
      try simp only [Act.put, List.setIfInBounds_toArray, List.set_cons_zero, List.set_cons_succ]
      refine wpAnyH_ready (rs := [26]) (by kernel_rfl) (by simp) ?_
      refine AllReadyH.cons rfl (fun K hK => ?_) AllReadyH.nil
      go_simp
      refine hK.out _ _ hHeld (fun hHeld => ?_)
      clear hK K
      try simp only [Act.put, List.setIfInBounds_toArray, List.set_cons_zero, List.set_cons_succ]
      refine wpAnyH_done (by kernel_rfl) ?_ _
      go_wp2
      go_meet
      case rel => exact ⟨rfl, (K2.out.below (Below.drew1 w3)).below KR.out, HB4.out.trans (((Below.drew1 w3).trans (KR.out.mono (Nat.le_refl _))).mono HB4.out.size)⟩
    | false =>
      rw [if_neg (by decide)] at hp
      obtain ⟨rfl, rfl, _⟩ := hp
      have hcode := fun u : Sub w3 => subSame (u := u) (lawCode 1 u.1 (by decide) (by decide))
      have K2 := Lib.hid k2
      have HB4 := Lib.hid hb4
      clear k1 k2 hb4 hb3' hputS hmayS hrefS hrefP
      go_wp2
      refine wp_region_quiet_all (C := fun w' => ∃ u : Sub w3, w' = u.1) (by kernel_rfl) (by kernel_rfl) (InSub.drew w3) ?_
      iterate 27 (first | go_big_quiet_skip | go_big_quiet_step (exact hcode _))
      refine wpQuiet_nil ?_
      intro w' hw'
      obtain ⟨u, rfl⟩ := hw'
      go_wp2
      go_meet
      case rel => exact ⟨rfl, K2.out.below u.2, HB4.out.trans (u.2.mono HB4.out.size)⟩
  case rest =>
    obtain ⟨rfl, k2, hb5⟩ := hcut
    clear hrefP hlR
    obtain ⟨y0, y1, y2, y3, y4⟩ := k2.cells
    dsimp only at y0 y1 y2 y3 y4
    go_wp2_with fail
    refine (hputS _).mono ?_
    rintro e w6 ⟨v6, x6, rfl, hp6⟩
    have k2 := k2.below hp6.below
    have hb6 := hb5.trans (hp6.below.mono hb5.size)
    clear y0 y1 y2 y3 y4 hb5 hputS
    obtain ⟨y0, y1, y2, y3, y4⟩ := k2.cells
    dsimp only at y0 y1 y2 y3 y4
    go_wp2_with fail
    refine (hmayS _).mono ?_
    rintro e w7 ⟨rfl, hb6'⟩
    have k2 := k2.below hb6'
    have hb7 := hb6.trans (hb6'.mono hb6.size)
    clear y0 y1 y2 y3 y4 hb6 hmayS
    cases ds with
    | true =>
      rw [if_pos rfl] at hp6
      obtain ⟨rfl, R⟩ := hp6
      have hrd := (R.later hb6').own.reads
      have hSd : (w7.drew.cell? ⟨w.heap.size + 1, 0, none⟩ = some (.int .i64 s0) ∧ w7.drew.cell? ⟨w.heap.size + 1, 1, none⟩ = some (.int .i64 s1) ∧ w7.drew.cell? ⟨w.heap.size + 1, 2, none⟩ = some (.int .u64 s2) ∧ w7.drew.cell? ⟨w.heap.size + 1, 3, none⟩ = some (.int .i64 s3) ∧ w7.drew.cell? ⟨w.heap.size + 1, 4, none⟩ = some (.int .i64 s4)) ∧ (convert 28 9 v6).run Try.prog w7.drew = .ok (.string (strB cs)) w7.drew := ⟨k2.cells, conv_bytes (hrd.keep ((Below.refl _ _).drew)) hlS⟩
      have hPR := hrefS rfl
      clear hrefS
      have hs1 : ((strB cs).toList == (strB cs).toList) = true := beq_self_eq_true _
      have HRD := Lib.hid hrd
      have K2 := Lib.hid k2
      have HB7 := Lib.hid hb7
      clear R hrd k2 hb7 hb6'
      go_wp2
      refine wp_region_held_drew (S := (fun w' => (w'.cell? ⟨w.heap.size + 1, 0, none⟩ = some (.int .i64 s0) ∧ w'.cell? ⟨w.heap.size + 1, 1, none⟩ = some (.int .i64 s1) ∧ w'.cell? ⟨w.heap.size + 1, 2, none⟩ = some (.int .u64 s2) ∧ w'.cell? ⟨w.heap.size + 1, 3, none⟩ = some (.int .i64 s3) ∧ w'.cell? ⟨w.heap.size + 1, 4, none⟩ = some (.int .i64 s4)) ∧ (convert 28 9 v6).run Try.prog w' = .ok (.string (strB cs)) w')) (by kernel_rfl) hSd (fun hHeld => ?_)
      refine wpAnyH_ready (rs := [0]) (by kernel_rfl) (by simp) ?_
      refine AllReadyH.cons rfl (fun K hK => ?_) AllReadyH.nil
      go_simp
      refine hK.out _ _ hHeld (fun hHeld => ?_)
      clear hK K
      try simp only [Act.put, List.setIfInBounds_toArray, List.set_cons_zero, List.set_cons_succ]
      refine wpAnyH_ready (rs := [1]) (by kernel_rfl) (by simp) ?_
      refine AllReadyH.cons rfl (fun K hK => ?_) AllReadyH.nil
      go_simp
      refine hK.out _ _ hHeld (fun hHeld => ?_)
      clear hK K
      try simp only [Act.put, List.setIfInBounds_toArray, List.set_cons_zero, List.set_cons_succ]
      refine wpAnyH_ready (rs := [2]) (by kernel_rfl) (by simp) ?_
      refine AllReadyH.cons rfl (fun K hK => ?_) AllReadyH.nil
      go_simp
      refine hK.out _ _ hHeld (fun hHeld => ?_)
      clear hK K
      try simp only [Act.put, List.setIfInBounds_toArray, List.set_cons_zero, List.set_cons_succ]
      refine wpAnyH_ready (rs := [3]) (by kernel_rfl) (by simp) ?_
      refine AllReadyH.cons rfl (fun K hK => ?_) AllReadyH.nil
      go_simp
      refine hK.out _ _ hHeld (fun hHeld => ?_)
      clear hK K
      try simp only [Act.put, List.setIfInBounds_toArray, List.set_cons_zero, List.set_cons_succ]
      refine wpAnyH_ready (rs := [4]) (by kernel_rfl) (by simp) ?_
      refine AllReadyH.cons rfl (fun K hK => ?_) AllReadyH.nil
      go_simp
      refine hK.out _ _ hHeld (fun hHeld => ?_)
      clear hK K
      try simp only [Act.put, List.setIfInBounds_toArray, List.set_cons_zero, List.set_cons_succ]
      refine wpAnyH_ready (rs := [5]) (by kernel_rfl) (by simp) ?_
      refine AllReadyH.cons rfl (fun K hK => ?_) AllReadyH.nil
      go_simp
      refine hK.out _ _ hHeld (fun hHeld => ?_)
      clear hK K
      try simp only [Act.put, List.setIfInBounds_toArray, List.set_cons_zero, List.set_cons_succ]
      refine wpAnyH_take (i := 6) (v := v6) rfl (by kernel_rfl) (by kernel_rfl) (by kernel_rfl) (fun _ _ _ h => h) (Or.inl ⟨by rfl, ?_⟩) hHeld ?_
      · intro w hSw
        try dsimp only at hSw
        go_simp
      try simp only [Act.put, List.setIfInBounds_toArray]
      refine wpAnyH_take (i := 7) (v := .string (strB cs)) rfl (by kernel_rfl) (by kernel_rfl) (by kernel_rfl) (fun _ _ _ h => h) (Or.inl ⟨by rfl, ?_⟩) hHeld ?_
      · intro w hSw
        try dsimp only at hSw
        go_simp
      try simp only [Act.put]
      refine wpAnyH_take (i := 8) (v := .agg #[.int .i64 s0, .int .i64 s1, .int .u64 s2, .int .i64 s3, .int .i64 s4]) rfl (by kernel_rfl) (by kernel_rfl) (by kernel_rfl) (fun _ _ _ h => h) (Or.inl ⟨by rfl, ?_⟩) hHeld ?_
      · intro w hSw
        try dsimp only at hSw
        go_simp
      try simp only [Act.put]
      refine wpAnyH_ready (rs := [9]) (by kernel_rfl) (by simp) ?_
      refine AllReadyH.cons rfl (fun K hK => ?_) AllReadyH.nil
      go_simp
      refine (hPR _).mono ?_
      rintro e w5 ⟨rv, rfl, RV⟩
      have hcv5 := conv_bytes RV.own.reads hlS
      have hS5 : (w5.cell? ⟨w.heap.size + 1, 0, none⟩ = some (.int .i64 s0) ∧ w5.cell? ⟨w.heap.size + 1, 1, none⟩ = some (.int .i64 s1) ∧ w5.cell? ⟨w.heap.size + 1, 2, none⟩ = some (.int .u64 s2) ∧ w5.cell? ⟨w.heap.size + 1, 3, none⟩ = some (.int .i64 s3) ∧ w5.cell? ⟨w.heap.size + 1, 4, none⟩ = some (.int .i64 s4)) ∧ (convert 28 9 v6).run Try.prog w5 = .ok (.string (strB cs)) w5 := ⟨((K2.out.below (Below.drew1 w7)).below RV.below).cells, conv_bytes ((HRD.out.keep (Below.drew1 w7)).keep RV.below) hlS⟩
      have KR := Lib.hid RV.below
      go_wp2_with fail
      refine hK.out _ _ hS5 (fun hHeld => ?_)
      clear hK K
      try simp only [Act.put, List.setIfInBounds_toArray, List.set_cons_zero, List.set_cons_succ]
      refine wpAnyH_ready (rs := [10]) (by kernel_rfl) (by simp) ?_
      refine AllReadyH.cons rfl (fun K hK => ?_) AllReadyH.nil
      go_simp
      refine hK.out _ _ hHeld (fun hHeld => ?_)
      clear hK K
      try simp only [Act.put, List.setIfInBounds_toArray, List.set_cons_zero, List.set_cons_succ]
      refine wpAnyH_ready (rs := [11]) (by kernel_rfl) (by simp) ?_
      refine AllReadyH.cons rfl (fun K hK => ?_) AllReadyH.nil
      go_simp
      refine hK.out _ _ hHeld (fun hHeld => ?_)
      clear hK K
      try simp only [Act.put, List.setIfInBounds_toArray, List.set_cons_zero, List.set_cons_succ]
      refine wpAnyH_ready (rs := [12]) (by kernel_rfl) (by simp) ?_
      refine AllReadyH.cons rfl (fun K hK => ?_) AllReadyH.nil
      go_simp
      refine hK.out _ _ hHeld (fun hHeld => ?_)
      clear hK K
      try simp only [Act.put, List.setIfInBounds_toArray, List.set_cons_zero, List.set_cons_succ]
      refine wpAnyH_ready (rs := [13]) (by kernel_rfl) (by simp) ?_
      refine AllReadyH.cons rfl (fun K hK => ?_) AllReadyH.nil
      go_simp
      refine hK.out _ _ hHeld (fun hHeld => ?_)
      clear hK K
      try simp only [Act.put, List.setIfInBounds_toArray, List.set_cons_zero, List.set_cons_succ]
      refine wpAnyH_done (by kernel_rfl) ?_ _
      go_wp2
      go_ret
      exact ⟨rfl, HB7.out.trans (((Below.drew1 w7).trans (KR.out.mono (Nat.le_refl _))).mono HB7.out.size)⟩
    | false =>
      rw [if_neg (by decide)] at hp6
      obtain ⟨rfl, rfl, _⟩ := hp6
      clear hrefS hb6' k2
      go_wp2_with fail
      refine (lawCode 1 _ (by decide) (by decide)).mono ?_
      rintro e w8 ⟨rfl, rfl⟩
      go_wp2
      go_ret
      exact ⟨rfl, hb7⟩

end Go.Proofs.Ytnnkkedflfmaoaa
