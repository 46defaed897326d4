/-
  Texts of this proof, one behind the other: OpenR, OpenG, Open18.
-/
import Derived.Test.YtnnkkedflfmaoaaRows
import Derived.Test.YtnnkkedflfmaoaaG3
import Derived.ProofKit
import Derived.OpenShut
import Derived.Deep.Slices
import Derived.Carry
import Derived.SizedLaws
import Derived.Test.YtnnkkedflfmaoaaG4
import Derived.Test.YtnnkkedflfmaoaaG8
/-
  How arguments come in, the head: what reads behind a call as it did. No card: nothing is laid.
-/
namespace Go.Proofs.Ytnnkkedflfmaoaa
open Go Go.ChangeShapes Go.WideShapes Go.ChangeAt Go.RowKit

theorem Try.ownG : ownKnob Try.prog.godebug = none := by kernel_rfl
theorem Try.laidOutG : laidOutB Try.prog = true := by kernel_rfl

section
variable {H : Type} {enc : TypeId × Value → H}

theorem argsStay {P : Program} (hl : laidOutB P = true) {W W' : World} (hb : Below W.heap.size W W') : ∀ {ts : List TypeId} {vs : List Value} {ds : List (DataW H)} {ps : List MemPlace}, (∀ t ∈ ts, P.readableRec t = true ∧ t < P.types.size) →
    DataW.TrodAll enc P W 0 (fun _ => true) true ts vs ds ps → (∀ x ∈ ps, x.block < W.heap.size) → DataW.TrodAll enc P W' 0 (fun b => decide (b < W.heap.size)) true ts vs ds ps
  | [], [], [], _, _, h, _ => h
  | _ :: _, _ :: _, _ :: _, _, hT, ⟨p, q, h1, h2, e⟩, hs =>
    ⟨p, q, Below.trod hl (hT _ (List.mem_cons.2 (Or.inl rfl))).1 (hT _ (List.mem_cons.2 (Or.inl rfl))).2 h1 hb (fun x hx => hs x (by rw [e]; exact List.mem_append_left _ hx)),
      argsStay hl hb (fun t ht => hT t (List.mem_cons.2 (Or.inr ht))) h2 (fun x hx => hs x (by rw [e]; exact List.mem_append_right _ hx)), e⟩
end

theorem nat_u64 {n : Int} (h : (Lit.int .u64 n).wf = true) : ∃ m : Nat, n = (m : Int) ∧ m < 18446744073709551616 := by
  simp [Lit.wf, IntKind.min, IntKind.max, IntKind.signed, IntKind.bits] at h
  exact ⟨n.toNat, by omega, by omega⟩

end Go.Proofs.Ytnnkkedflfmaoaa

/-
  How arguments come in: slices of whatever elements; arguments that read behind a call as they did. No card: nothing is laid.
-/
namespace Go.Proofs.Ytnnkkedflfmaoaa
open Go Go.ChangeShapes Go.WideShapes Go.ChangeAt Go.RowKit

theorem Try.cellsOfInt : Try.prog.cellsOf 3 = 1 := by kernel_rfl

section
variable {H : Type} {enc : TypeId × Value → H} {w : World} {base : Nat} {spare : Nat → Bool} {held : Bool}

theorem Enc.all_at {P : Program} {α : Type} (E : Enc P α) (l : List α) (j : Nat) (u : Value) (h : (E.all l)[j]? = some u) : ∃ (i r : Nat) (hi : i < l.length), r < E.size ∧ j = i * E.size + r ∧ (E.cells l[i])[r]? = some u := by
  have hj : j < (E.all l).length := by
    rcases Nat.lt_or_ge j (E.all l).length with h' | h'
    · exact h'
    · rw [List.getElem?_eq_none h'] at h; cases h
  rw [E.all_length] at hj
  have hp := E.pos
  have hi : j / E.size < l.length := (Nat.div_lt_iff_lt_mul hp).2 hj
  have hr : j % E.size < E.size := Nat.mod_lt _ hp
  have e : j = j / E.size * E.size + j % E.size := by rw [Nat.mul_comm]; exact (Nat.div_add_mod j E.size).symm
  have h2 := E.all_get l (j / E.size) hi (j % E.size) hr
  rw [← e] at h2
  exact ⟨j / E.size, j % E.size, hi, hr, e, h2.symm.trans h⟩

set_option maxRecDepth 100000 in
/-- A slice that came in. -/
theorem open_list {α : Type} [Inhabited α] (E : Enc Try.prog α) (good : α → Prop) (hsz : Try.prog.cellsOf E.elem = E.size)
    (hel : ∀ fuel cs x, cs.length = E.size → DataW.trod enc Try.prog w base spare held fuel E.elem cs = some x → ∃ a, cs = E.cells a ∧ good a)
    {r : Go.Reach} {b0 : Nat} {v : Value} {d : DataW H} {ps : List MemPlace} (hval : Value.okWide Try.prog w r b0 E.slice v) (hd : DataW.Trod enc Try.prog w base spare held E.slice v d ps) :
    ∃ l : List α, Reads E w v l ∧ l.length ≤ maxLen ∧ ∀ a ∈ l, good a := by
  obtain ⟨a, len, cap, rfl⟩ := okWide_slice E.und hval
  obtain ⟨fuel, hf⟩ := hd
  rcases Deep.open_slice E.und hf with ⟨hcs, hx⟩ | ⟨ad, len', cap', m, n, D, Pl, hcs, _, hl, hm, hmm, hx, hall⟩
  · have hcs' : Value.slice a len cap = .slice none 0 0 := by simpa [Value.cells] using hcs
    rw [hcs']
    exact ⟨[], .inl ⟨rfl, rfl⟩, Nat.zero_le _, fun _ h => by cases h⟩
  · have hcs' : Value.slice a len cap = .slice (some ad) len' cap' := by simpa [Value.cells] using hcs
    rw [hcs']
    have hle : len' ≤ m := by rw [hmm]; split <;> omega
    have hall2 : ∀ i, i < len' → ∃ f : α, (∀ j, j < E.size → w.cell? (ad.add (i * E.size + j)) = (E.cells f)[j]?) ∧ good f := fun i hi => by
      obtain ⟨cs', h1, h2⟩ := hall i (by omega)
      rw [hsz] at h1
      obtain ⟨_, hlen, hc⟩ := World.cells?_some h1
      obtain ⟨f, rfl, hg⟩ := hel _ _ _ hlen h2
      refine ⟨f, fun j hj => ?_, hg⟩
      have h3 := hc j hj
      rwa [Addr.add_add] at h3
    obtain ⟨F, hF⟩ := Deep.choose_lt (α := α) hall2
    refine ⟨(List.range len').map F, .inr ⟨ad, cap', by simp, fun j u hj => ?_⟩, by simp; omega, fun x hx => ?_⟩
    · obtain ⟨i, q, hi, hq, rfl, hu⟩ := E.all_at _ j u hj
      have hi' : i < len' := by simpa using hi
      rw [(hF i hi').1 q hq]
      simpa using hu
    · obtain ⟨i, hi, rfl⟩ := List.mem_map.1 hx
      exact (hF i (List.mem_range.1 hi)).2

end

end Go.Proofs.Ytnnkkedflfmaoaa

/-
  How requests, answers, bytes and a byte come in.
-/
namespace Go.Proofs.Ytnnkkedflfmaoaa
open Go Go.ChangeShapes Go.WideShapes Go.ChangeAt Go.RowKit

theorem five_of' {α : Type} {l : List α} (h : l.length = 5) : ∃ a b c d e, l = [a, b, c, d, e] := by
  match l, h with
  | [a, b, c, d, e], _ => exact ⟨a, b, c, d, e, rfl⟩
theorem seven_of {α : Type} {l : List α} (h : l.length = 7) : ∃ a b c d e f g, l = [a, b, c, d, e, f, g] := by
  match l, h with
  | [a, b, c, d, e, f, g], _ => exact ⟨a, b, c, d, e, f, g, rfl⟩
theorem Try.cellsOfU64 : Try.prog.cellsOf 22 = 1 := by kernel_rfl
theorem Try.cellsOfU8 : Try.prog.cellsOf 5 = 1 := by kernel_rfl

theorem i64_wf {n : Int} (h : (Lit.int .i64 n).wf = true) : In64' n := by
  simp [Lit.wf, IntKind.min, IntKind.max, IntKind.signed, IntKind.bits] at h
  unfold In64'
  omega
theorem u64_wf {n : Int} (h : (Lit.int .u64 n).wf = true) : ∃ m : Nat, n = (m : Int) ∧ m < 18446744073709551616 := by
  simp [Lit.wf, IntKind.min, IntKind.max, IntKind.signed, IntKind.bits] at h
  exact ⟨n.toNat, by omega, by omega⟩
theorem u8_wf {n : Int} (h : (Lit.int .u8 n).wf = true) : ∃ m : Nat, n = (m : Int) ∧ m < 256 := by
  simp [Lit.wf, IntKind.min, IntKind.max, IntKind.signed, IntKind.bits] at h
  exact ⟨n.toNat, by omega, by omega⟩

section
variable {H : Type} {enc : TypeId × Value → H} {w : World} {base : Nat} {spare : Nat → Bool} {held : Bool}

set_option maxRecDepth 100000 in
theorem open_bytes {r : Go.Reach} {b0 : Nat} {v : Value} {d : DataW H} {ps : List MemPlace} (hval : Value.okWide Try.prog w r b0 28 v) (hd : DataW.Trod enc Try.prog w base spare held 28 v d ps) :
    ∃ l : List Nat, RC encY w v l ∧ l.length ≤ maxLen ∧ ∀ a ∈ l, a < 256 := by
  obtain ⟨l, hr, hm, hg⟩ := open_list encY (fun a => a < 256) Try.cellsOfU8 (fun fuel cs x _ h => by
    obtain ⟨n, e, _, hw⟩ := DataW.trod_int Try.underlying5 h
    obtain ⟨m, rfl, hm⟩ := u8_wf hw
    exact ⟨m, e, hm⟩) hval hd
  refine ⟨l, ⟨hr, fun a n c e => ?_⟩, hm, hg⟩
  subst e
  obtain ⟨fuel, hf⟩ := hd
  rcases Deep.open_slice encY.und hf with ⟨hcs, _⟩ | ⟨ad, len', cap', _, _, _, _, hcs, _, hl, _⟩
  · simp [Value.cells] at hcs
    omega
  · simp [Value.cells] at hcs
    omega

set_option maxRecDepth 100000 in
theorem open_req {r : Go.Reach} {b0 : Nat} {v : Value} {d : DataW H} {ps : List MemPlace} (hval : Value.okWide Try.prog w r b0 24 v) (hd : DataW.Trod enc Try.prog w base spare held 24 v d ps) :
    ∃ q : Rq, v = rqV q ∧ q.good := by
  obtain ⟨cs, rfl, hsz⟩ := okWide_struct Try.underlying24 hval
  rw [show Try.prog.cellsOf 24 = 7 by kernel_rfl] at hsz
  obtain ⟨l⟩ := cs
  obtain ⟨c0, c1, c2, c3, c4, c5, c6, rfl⟩ := seven_of (by simpa using hsz)
  obtain ⟨fuel, hf⟩ := hd
  obtain ⟨xs, n, _, _, _, hlen, hf⟩ := DataW.trod_struct Try.underlying24 hf
  obtain ⟨y0, y1, y2, y3, y4, y5, y6, rfl⟩ := seven_of (l := xs) hlen
  have h0 := hf 0 _ rfl
  have h1 := hf 1 _ rfl
  have h2 := hf 2 _ rfl
  have h3 := hf 3 _ rfl
  have h4 := hf 4 _ rfl
  have h5 := hf 5 _ rfl
  have h6 := hf 6 _ rfl
  simp only [Value.cells, List.getElem?_cons_zero, List.getElem?_cons_succ] at h0 h1 h2 h3 h4 h5 h6
  obtain ⟨n0, e0, _, w0⟩ := DataW.trod_int Try.underlying3 h0
  obtain ⟨n1, e1, _, w1⟩ := DataW.trod_int Try.underlying3 h1
  obtain ⟨n2, e2, _, w2⟩ := DataW.trod_int Try.underlying22 h2
  obtain ⟨n3, e3, _, w3⟩ := DataW.trod_int Try.underlying22 h3
  obtain ⟨n4, e4, _, w4⟩ := DataW.trod_int Try.underlying22 h4
  obtain ⟨n5, e5, _, w5⟩ := DataW.trod_int Try.underlying3 h5
  obtain ⟨n6, e6, _, w6⟩ := DataW.trod_int Try.underlying3 h6
  simp [Try.cellsOfInt, Try.cellsOfU64] at e0 e1 e2 e3 e4 e5 e6
  subst e0 e1 e2 e3 e4 e5 e6
  obtain ⟨m2, rfl, q2⟩ := u64_wf w2
  obtain ⟨m3, rfl, q3⟩ := u64_wf w3
  obtain ⟨m4, rfl, q4⟩ := u64_wf w4
  exact ⟨⟨n0, n1, m2, m3, m4, n5, n6⟩, rfl, i64_wf w0, i64_wf w1, q2, q3, q4, i64_wf w5, i64_wf w6⟩

set_option maxRecDepth 100000 in
theorem open_resp {r : Go.Reach} {b0 : Nat} {v : Value} {d : DataW H} {ps : List MemPlace} (hval : Value.okWide Try.prog w r b0 26 v) (hd : DataW.Trod enc Try.prog w base spare held 26 v d ps) :
    ∃ q : Rs, v = rsV q ∧ q.good := by
  obtain ⟨cs, rfl, hsz⟩ := okWide_struct Try.underlying26 hval
  rw [show Try.prog.cellsOf 26 = 5 by kernel_rfl] at hsz
  obtain ⟨l⟩ := cs
  obtain ⟨c0, c1, c2, c3, c4, rfl⟩ := five_of' (by simpa using hsz)
  obtain ⟨fuel, hf⟩ := hd
  obtain ⟨xs, n, _, _, _, hlen, hf⟩ := DataW.trod_struct Try.underlying26 hf
  obtain ⟨y0, y1, y2, y3, y4, rfl⟩ := five_of' (l := xs) hlen
  have h0 := hf 0 _ rfl
  have h1 := hf 1 _ rfl
  have h2 := hf 2 _ rfl
  have h3 := hf 3 _ rfl
  have h4 := hf 4 _ rfl
  simp only [Value.cells, List.getElem?_cons_zero, List.getElem?_cons_succ] at h0 h1 h2 h3 h4
  obtain ⟨n0, e0, _, w0⟩ := DataW.trod_int Try.underlying3 h0
  obtain ⟨n1, e1, _, w1⟩ := DataW.trod_int Try.underlying3 h1
  obtain ⟨n2, e2, _, w2⟩ := DataW.trod_int Try.underlying22 h2
  obtain ⟨n3, e3, _, w3⟩ := DataW.trod_int Try.underlying3 h3
  obtain ⟨n4, e4, _, w4⟩ := DataW.trod_int Try.underlying3 h4
  simp [Try.cellsOfInt, Try.cellsOfU64] at e0 e1 e2 e3 e4
  subst e0 e1 e2 e3 e4
  obtain ⟨m2, rfl, q2⟩ := u64_wf w2
  exact ⟨⟨n0, n1, m2, n3, n4⟩, rfl, i64_wf w0, i64_wf w1, q2, i64_wf w3, i64_wf w4⟩

end

end Go.Proofs.Ytnnkkedflfmaoaa
