/-
  Texts of this proof, one behind the other: Gets18, OpenR, OpenG.
-/
import Derived.Test.YtnnkkedflfmaoaaG11
import Derived.Test.YtnnkkedflfmaoaaG14
import Derived.Deep.CutRange
import Derived.Test.YtnnkkedflfmaoaaRows
import Derived.Test.YtnnkkedflfmaoaaG3
import Derived.ProofKit
import Derived.OpenShut
import Derived.Deep.Slices
import Derived.Carry
import Derived.SizedLaws
import Derived.Test.YtnnkkedflfmaoaaG5
/-
  WireGets: the walk.
-/
namespace Go.Proofs.Ytnnkkedflfmaoaa
open Go Go.RowKit

theorem HoldsR.new (w : World) (r : Rq) (b : Nat) (hb : b = w.heap.size) : HoldsR (w.alloc (.cells #[.int .i64 r.op, .int .i64 r.tenant, .int .u64 r.a, .int .u64 r.b, .int .u64 r.c, .int .i64 r.n, .int .i64 r.bit] 24)) b r := by
  subst hb
  exact heap_alloc_new _ _
theorem HoldsS.new (w : World) (r : Rs) (b : Nat) (hb : b = w.heap.size) : HoldsS (w.alloc (.cells #[.int .i64 r.code, .int .i64 r.tenant, .int .u64 r.val, .int .i64 r.charge, .int .i64 r.cost] 26)) b r := by
  subst hb
  exact heap_alloc_new _ _

/-- An answer's error, and whether there is one. -/
def errO {α : Type} (c : Int) (o : Option α) : Value := match o with
  | some _ => .nilIface
  | none => .iface 59 (.int .i64 c)
def boolO {α : Type} (o : Option α) : Bool := match o with
  | some _ => true
  | none => false
theorem GetRPost.get {o : Option Rq} {w w' : World} {v x : Value} (h : GetRPost o w v x w') : v = rqV (o.getD Rq.zero) ∧ x = errO 7 o ∧ Below w.heap.size w w' := by
  cases o with
  | none => exact ⟨h.1.1, h.1.2, h.2⟩
  | some r => exact ⟨h.1.1, h.1.2, h.2⟩
theorem GetSPost.get {o : Option Rs} {w w' : World} {v x : Value} (h : GetSPost o w v x w') : v = rsV (o.getD Rs.zero) ∧ x = errO 7 o ∧ Below w.heap.size w w' := by
  cases o with
  | none => exact ⟨h.1.1, h.1.2, h.2⟩
  | some r => exact ⟨h.1.1, h.1.2, h.2⟩
theorem RefRPost.get {o : Option Rq} {w w' : World} {v x : Value} (h : RefRPost o w v x w') : v = rqV (o.getD Rq.zero) ∧ x = .bool (boolO o) ∧ Below w.heap.size w w' := by
  cases o with
  | none => exact ⟨h.1.1, h.1.2, h.2⟩
  | some r => exact ⟨h.1.1, h.1.2, h.2⟩
theorem RefSPost.get {o : Option Rs} {w w' : World} {v x : Value} (h : RefSPost o w v x w') : v = rsV (o.getD Rs.zero) ∧ x = .bool (boolO o) ∧ Below w.heap.size w w' := by
  cases o with
  | none => exact ⟨h.1.1, h.1.2, h.2⟩
  | some r => exact ⟨h.1.1, h.1.2, h.2⟩

set_option maxRecDepth 100000 in
set_option maxHeartbeats 16000000 in
theorem wireGets (bs : List Nat) (y : Value) (w : World) (hy : RC encY w y bs) (_hyl : bs.length ≤ maxLen) (hyb : ∀ x ∈ bs, x < 256) :
    Calls Try.prog 4 #[y] w fun e w' => e = .returned (.bool true) ∧ Below w.heap.size w w' := by
  obtain ⟨ay, cy, rfl, hcy⟩ := hy.form
  have HY := Lib.hid hy
  have HYB := Lib.hid hyb
  have hsame := get_same hyb
  have hsameS := getS_same hyb
  clear hy hyb
  go_enter Try.func4, Try.ntmps4
  go_wp2_with fail
  refine (up18 _).mono ?_
  rintro e w1 ⟨rfl, hb1⟩
  by_cases hl : bs.length ≤ 1000
  · have hl1 : ¬ 1000 < (bs.length : Int) := by omega
    have hl2 : bs.length ≤ 1000000 := by omega
    go_wp2_with fail
    refine (wireGetR _ bs _ (HY.out.keep hb1) hl2 HYB.out).mono ?_
    rintro e w2 ⟨v2, x2, rfl, hp2⟩
    rw [hsame] at hp2
    obtain ⟨rfl, rfl, hb2⟩ := hp2.get
    clear hp2 hsame
    have hyR := fun W hy' => refGetRv (.slice ay bs.length cy) bs W hy' hl2 HYB.out
    have hyS := fun W hy' => refGetSv (.slice ay bs.length cy) bs W hy' hl2 HYB.out
    have hcS := fun W hy' => wireGetS (.slice ay bs.length cy) bs W hy' hl2 HYB.out
    rw [hsameS] at hcS
    have hx : ∀ O : Option Rq, (errO 7 O = .nilIface ∧ boolO O = true) ∨ (errO 7 O = .iface 59 (.int .i64 7) ∧ boolO O = false) := fun O => by cases O; exact .inr ⟨rfl, rfl⟩; exact .inl ⟨rfl, rfl⟩
    have hxS : ∀ O : Option Rs, (errO 7 O = .nilIface ∧ boolO O = true) ∨ (errO 7 O = .iface 59 (.int .i64 7) ∧ boolO O = false) := fun O => by cases O; exact .inr ⟨rfl, rfl⟩; exact .inl ⟨rfl, rfl⟩
    have hyR2 := fun W hy' => (hyR W hy').mono fun e w' h => show ∃ v x, e = .returned (.tuple #[v, x]) ∧ v = rqV ((refGet bs).getD Rq.zero) ∧ x = .bool (boolO (refGet bs)) ∧ Below W.heap.size W w' from by obtain ⟨v, x, he, hp⟩ := h; exact ⟨v, x, he, hp.get⟩
    have hyS2 := fun W hy' => (hyS W hy').mono fun e w' h => show ∃ v x, e = .returned (.tuple #[v, x]) ∧ v = rsV ((refGetS bs).getD Rs.zero) ∧ x = .bool (boolO (refGetS bs)) ∧ Below W.heap.size W w' from by obtain ⟨v, x, he, hp⟩ := h; exact ⟨v, x, he, hp.get⟩
    have hcS2 := fun W hy' => (hcS W hy').mono fun e w' h => show ∃ v x, e = .returned (.tuple #[v, x]) ∧ v = rsV ((refGetS bs).getD Rs.zero) ∧ x = errO 7 (refGetS bs) ∧ Below W.heap.size W w' from by obtain ⟨v, x, he, hp⟩ := h; exact ⟨v, x, he, hp.get⟩
    clear hyR hyS hcS hsameS
    have hx1 := hx (refGet bs)
    have hx2 := hxS (refGetS bs)
    clear hx hxS
    generalize (refGet bs).getD Rq.zero = R at *
    generalize (refGetS bs).getD Rs.zero = S at *
    generalize errO 7 (refGet bs) = xe at *
    generalize errO 7 (refGetS bs) = xs at *
    generalize boolO (refGet bs) = qb at *
    generalize boolO (refGetS bs) = sb at *
    obtain ⟨r0, r1, r2, r3, r4, r5, r6⟩ := R
    obtain ⟨s0, s1, s2, s3, s4⟩ := S
    unfold rqV at hyR2 ⊢
    unfold rsV at hyS2 hcS2
    dsimp only at hyR2 hyS2 hcS2 ⊢
    have hb12 := hb1.trans (hb2.mono hb1.size)
    have k2 := HoldsR.new w2 ⟨r0, r1, r2, r3, r4, r5, r6⟩ _ rfl
    have g2 : Below w2.heap.size w2 (w2.alloc (.cells #[.int .i64 r0, .int .i64 r1, .int .u64 r2, .int .u64 r3, .int .u64 r4, .int .i64 r5, .int .i64 r6] 24)) := by go_grown
    have hb13 := hb12.trans (g2.mono hb12.size)
    dsimp only at k2
    clear hb1 hb2 hb12 g2
    go_upto_region 5 with (fail)
    generalize w2.alloc (.cells #[.int .i64 r0, .int .i64 r1, .int .u64 r2, .int .u64 r3, .int .u64 r4, .int .i64 r5, .int .i64 r6] 24) = W2 at *
    generalize w2.heap.size = B2 at *
    go_wp2_with fail
    refine (hyR2 _ (HY.out.keep hb13)).mono ?_
    rintro e w3 ⟨v3, x3, rfl, rfl, rfl, hb3⟩
    have k2 := k2.below hb3
    have hb14 := hb13.trans (hb3.mono hb13.size)
    have k3 := HoldsR.new w3 ⟨r0, r1, r2, r3, r4, r5, r6⟩ _ rfl
    have g3 : Below w3.heap.size w3 (w3.alloc (.cells #[.int .i64 r0, .int .i64 r1, .int .u64 r2, .int .u64 r3, .int .u64 r4, .int .i64 r5, .int .i64 r6] 24)) := by go_grown
    have hb15 := hb14.trans (g3.mono hb14.size)
    have k2 := k2.below g3
    dsimp only at k2 k3
    clear hb3 hb13 hb14 g3
    go_upto_region 6 with (fail)
    generalize w3.alloc (.cells #[.int .i64 r0, .int .i64 r1, .int .u64 r2, .int .u64 r3, .int .u64 r4, .int .i64 r5, .int .i64 r6] 24) = W3 at *
    generalize w3.heap.size = B3 at *
    go_wp2_with fail
    refine (hcS2 _ (HY.out.keep hb15)).mono ?_
    rintro e w4 ⟨v4, x4, rfl, rfl, rfl, hb4⟩
    have k4 := HoldsS.new w4 ⟨s0, s1, s2, s3, s4⟩ _ rfl
    have g4 : Below w4.heap.size w4 (w4.alloc (.cells #[.int .i64 s0, .int .i64 s1, .int .u64 s2, .int .i64 s3, .int .i64 s4] 26)) := by go_grown
    have hb46 := hb4.trans (g4.mono hb4.size)
    have k2 := k2.below hb46
    have k3 := k3.below hb46
    have hb17 := hb15.trans (hb46.mono hb15.size)
    dsimp only at k2 k3 k4
    clear hb4 g4 hb46 hb15
    go_upto_region 7 with (fail)
    generalize w4.alloc (.cells #[.int .i64 s0, .int .i64 s1, .int .u64 s2, .int .i64 s3, .int .i64 s4] 26) = W4 at *
    generalize w4.heap.size = B4 at *
    go_wp2_with fail
    refine (hyS2 _ (HY.out.keep hb17)).mono ?_
    rintro e w5 ⟨v5, x5, rfl, rfl, rfl, hb5⟩
    have k5 := HoldsS.new w5 ⟨s0, s1, s2, s3, s4⟩ _ rfl
    have g5 : Below w5.heap.size w5 (w5.alloc (.cells #[.int .i64 s0, .int .i64 s1, .int .u64 s2, .int .i64 s3, .int .i64 s4] 26)) := by go_grown
    have hb56 := hb5.trans (g5.mono hb5.size)
    have k2 := k2.below hb56
    have k3 := k3.below hb56
    have k4 := k4.below hb56
    have hb18 := hb17.trans (hb56.mono hb17.size)
    dsimp only at k2 k3 k4 k5
    clear hb5 g5 hb56 hb17 hyR2 hyS2 hcS2
    go_upto_region 8 with (fail)
    generalize w5.alloc (.cells #[.int .i64 s0, .int .i64 s1, .int .u64 s2, .int .i64 s3, .int .i64 s4] 26) = W5 at *
    generalize w5.heap.size = B5 at *
    obtain ⟨a0, a1, a2, a3, a4, a5, a6⟩ := k2.cells
    obtain ⟨b0, b1, b2, b3, b4, b5, b6⟩ := k3.cells
    obtain ⟨c0, c1, c2, c3, c4⟩ := k4.cells
    obtain ⟨d0, d1, d2, d3, d4⟩ := k5.cells
    dsimp only at a0 a1 a2 a3 a4 a5 a6 b0 b1 b2 b3 b4 b5 b6 c0 c1 c2 c3 c4 d0 d1 d2 d3 d4
    clear k2 k3 k4 k5 HY HYB
    have hcode := fun W => lawCode 7 W (by decide) (by decide)
    rcases hx1 with ⟨rfl, rfl⟩ | ⟨rfl, rfl⟩ <;> rcases hx2 with ⟨rfl, rfl⟩ | ⟨rfl, rfl⟩
    · go_wp2
      go_ret
      exact ⟨rfl, hb18⟩
    · go_wp2_with fail
      refine (hcode _).mono ?_
      rintro e w6 ⟨rfl, rfl⟩
      go_wp2
      go_ret
      exact ⟨rfl, hb18⟩
    · go_wp2_with fail
      refine (hcode _).mono ?_
      rintro e w6 ⟨rfl, rfl⟩
      go_wp2
      go_ret
      exact ⟨rfl, hb18⟩
    · go_wp2_with fail
      refine (hcode _).mono ?_
      rintro e w6 ⟨rfl, rfl⟩
      go_wp2_with fail
      refine (hcode _).mono ?_
      rintro e w6 ⟨rfl, rfl⟩
      go_wp2
      go_ret
      exact ⟨rfl, hb18⟩
  · have hl1 : 1000 < (bs.length : Int) := by omega
    clear hl hsame hsameS
    go_wp2
    go_ret
    exact ⟨rfl, hb1⟩

end Go.Proofs.Ytnnkkedflfmaoaa

/-
  How arguments come in, the head: what reads behind a call as it did. No card: nothing is laid.
-/
namespace Go.Proofs.Ytnnkkedflfmaoaa
open Go Go.ChangeShapes Go.WideShapes Go.ChangeAt Go.RowKit

theorem Try.ownG : ownKnob Try.prog.godebug = none := by kernel_rfl
theorem Try.laidOutG : laidOutB Try.prog = true := by kernel_rfl

section
variable {H : Type} {enc : TypeId × Value → H}

theorem argsStay {P : Program} (hl : laidOutB P = true) {W W' : World} (hb : Below W.heap.size W W') : ∀ {ts : List TypeId} {vs : List Value} {ds : List (DataW H)} {ps : List MemPlace}, (∀ t ∈ ts, P.readableRec t = true ∧ t < P.types.size) →
    DataW.TrodAll enc P W 0 (fun _ => true) true ts vs ds ps → (∀ x ∈ ps, x.block < W.heap.size) → DataW.TrodAll enc P W' 0 (fun b => decide (b < W.heap.size)) true ts vs ds ps
  | [], [], [], _, _, h, _ => h
  | _ :: _, _ :: _, _ :: _, _, hT, ⟨p, q, h1, h2, e⟩, hs =>
    ⟨p, q, Below.trod hl (hT _ (List.mem_cons.2 (Or.inl rfl))).1 (hT _ (List.mem_cons.2 (Or.inl rfl))).2 h1 hb (fun x hx => hs x (by rw [e]; exact List.mem_append_left _ hx)),
      argsStay hl hb (fun t ht => hT t (List.mem_cons.2 (Or.inr ht))) h2 (fun x hx => hs x (by rw [e]; exact List.mem_append_right _ hx)), e⟩
end

theorem nat_u64 {n : Int} (h : (Lit.int .u64 n).wf = true) : ∃ m : Nat, n = (m : Int) ∧ m < 18446744073709551616 := by
  simp [Lit.wf, IntKind.min, IntKind.max, IntKind.signed, IntKind.bits] at h
  exact ⟨n.toNat, by omega, by omega⟩

end Go.Proofs.Ytnnkkedflfmaoaa

/-
  How arguments come in: slices of whatever elements; arguments that read behind a call as they did. No card: nothing is laid.
-/
namespace Go.Proofs.Ytnnkkedflfmaoaa
open Go Go.ChangeShapes Go.WideShapes Go.ChangeAt Go.RowKit

theorem Try.cellsOfInt : Try.prog.cellsOf 3 = 1 := by kernel_rfl

section
variable {H : Type} {enc : TypeId × Value → H} {w : World} {base : Nat} {spare : Nat → Bool} {held : Bool}

theorem Enc.all_at {P : Program} {α : Type} (E : Enc P α) (l : List α) (j : Nat) (u : Value) (h : (E.all l)[j]? = some u) : ∃ (i r : Nat) (hi : i < l.length), r < E.size ∧ j = i * E.size + r ∧ (E.cells l[i])[r]? = some u := by
  have hj : j < (E.all l).length := by
    rcases Nat.lt_or_ge j (E.all l).length with h' | h'
    · exact h'
    · rw [List.getElem?_eq_none h'] at h; cases h
  rw [E.all_length] at hj
  have hp := E.pos
  have hi : j / E.size < l.length := (Nat.div_lt_iff_lt_mul hp).2 hj
  have hr : j % E.size < E.size := Nat.mod_lt _ hp
  have e : j = j / E.size * E.size + j % E.size := by rw [Nat.mul_comm]; exact (Nat.div_add_mod j E.size).symm
  have h2 := E.all_get l (j / E.size) hi (j % E.size) hr
  rw [← e] at h2
  exact ⟨j / E.size, j % E.size, hi, hr, e, h2.symm.trans h⟩

set_option maxRecDepth 100000 in
/-- A slice that came in. -/
theorem open_list {α : Type} [Inhabited α] (E : Enc Try.prog α) (good : α → Prop) (hsz : Try.prog.cellsOf E.elem = E.size)
    (hel : ∀ fuel cs x, cs.length = E.size → DataW.trod enc Try.prog w base spare held fuel E.elem cs = some x → ∃ a, cs = E.cells a ∧ good a)
    {r : Go.Reach} {b0 : Nat} {v : Value} {d : DataW H} {ps : List MemPlace} (hval : Value.okWide Try.prog w r b0 E.slice v) (hd : DataW.Trod enc Try.prog w base spare held E.slice v d ps) :
    ∃ l : List α, Reads E w v l ∧ l.length ≤ maxLen ∧ ∀ a ∈ l, good a := by
  obtain ⟨a, len, cap, rfl⟩ := okWide_slice E.und hval
  obtain ⟨fuel, hf⟩ := hd
  rcases Deep.open_slice E.und hf with ⟨hcs, hx⟩ | ⟨ad, len', cap', m, n, D, Pl, hcs, _, hl, hm, hmm, hx, hall⟩
  · have hcs' : Value.slice a len cap = .slice none 0 0 := by simpa [Value.cells] using hcs
    rw [hcs']
    exact ⟨[], .inl ⟨rfl, rfl⟩, Nat.zero_le _, fun _ h => by cases h⟩
  · have hcs' : Value.slice a len cap = .slice (some ad) len' cap' := by simpa [Value.cells] using hcs
    rw [hcs']
    have hle : len' ≤ m := by rw [hmm]; split <;> omega
    have hall2 : ∀ i, i < len' → ∃ f : α, (∀ j, j < E.size → w.cell? (ad.add (i * E.size + j)) = (E.cells f)[j]?) ∧ good f := fun i hi => by
      obtain ⟨cs', h1, h2⟩ := hall i (by omega)
      rw [hsz] at h1
      obtain ⟨_, hlen, hc⟩ := World.cells?_some h1
      obtain ⟨f, rfl, hg⟩ := hel _ _ _ hlen h2
      refine ⟨f, fun j hj => ?_, hg⟩
      have h3 := hc j hj
      rwa [Addr.add_add] at h3
    obtain ⟨F, hF⟩ := Deep.choose_lt (α := α) hall2
    refine ⟨(List.range len').map F, .inr ⟨ad, cap', by simp, fun j u hj => ?_⟩, by simp; omega, fun x hx => ?_⟩
    · obtain ⟨i, q, hi, hq, rfl, hu⟩ := E.all_at _ j u hj
      have hi' : i < len' := by simpa using hi
      rw [(hF i hi').1 q hq]
      simpa using hu
    · obtain ⟨i, hi, rfl⟩ := List.mem_map.1 hx
      exact (hF i (List.mem_range.1 hi)).2

end

end Go.Proofs.Ytnnkkedflfmaoaa
