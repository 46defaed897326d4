/-
  Texts of this proof, one behind the other: OpenR, OpenG.
-/
import Derived.Test.YtpdkcdehbpbheaaRows
import Derived.Test.YtpdkcdehbpbheaaG1
import Derived.ProofKit
import Derived.OpenShut
import Derived.Deep.Slices
import Derived.Carry
import Derived.SizedLaws
import Derived.Test.YtpdkcdehbpbheaaG3
/-
  How arguments come in, the head: what reads behind a call as it did. No card: nothing is laid.
-/
namespace Go.Proofs.Ytpdkcdehbpbheaa
open Go Go.ChangeShapes Go.WideShapes Go.ChangeAt Go.RowKit

theorem Try.ownG : ownKnob Try.prog.godebug = none := by kernel_rfl
theorem Try.laidOutG : laidOutB Try.prog = true := by kernel_rfl

section
variable {H : Type} {enc : TypeId × Value → H}

theorem argsStay {P : Program} (hl : laidOutB P = true) {W W' : World} (hb : Below W.heap.size W W') : ∀ {ts : List TypeId} {vs : List Value} {ds : List (DataW H)} {ps : List MemPlace}, (∀ t ∈ ts, P.readableRec t = true ∧ t < P.types.size) →
    DataW.TrodAll enc P W 0 (fun _ => true) true ts vs ds ps → (∀ x ∈ ps, x.block < W.heap.size) → DataW.TrodAll enc P W' 0 (fun b => decide (b < W.heap.size)) true ts vs ds ps
  | [], [], [], _, _, h, _ => h
  | _ :: _, _ :: _, _ :: _, _, hT, ⟨p, q, h1, h2, e⟩, hs =>
    ⟨p, q, Below.trod hl (hT _ (List.mem_cons.2 (Or.inl rfl))).1 (hT _ (List.mem_cons.2 (Or.inl rfl))).2 h1 hb (fun x hx => hs x (by rw [e]; exact List.mem_append_left _ hx)),
      argsStay hl hb (fun t ht => hT t (List.mem_cons.2 (Or.inr ht))) h2 (fun x hx => hs x (by rw [e]; exact List.mem_append_right _ hx)), e⟩
end

theorem u64_nat {n : Int} (h : (Lit.int .u64 n).wf = true) : ∃ m : Nat, n = (m : Int) ∧ m < 18446744073709551616 := by
  simp [Lit.wf, IntKind.min, IntKind.max, IntKind.signed, IntKind.bits] at h
  exact ⟨n.toNat, by omega, by omega⟩

end Go.Proofs.Ytpdkcdehbpbheaa

/-
  How arguments come in: slices of whatever elements; arguments that read behind a call as they did. No card: nothing is laid.
-/
namespace Go.Proofs.Ytpdkcdehbpbheaa
open Go Go.ChangeShapes Go.WideShapes Go.ChangeAt Go.RowKit

theorem Try.cellsOfInt : Try.prog.cellsOf 3 = 1 := by kernel_rfl

section
variable {H : Type} {enc : TypeId × Value → H} {w : World} {base : Nat} {spare : Nat → Bool} {held : Bool}

theorem Enc.all_at {P : Program} {α : Type} (E : Enc P α) (l : List α) (j : Nat) (u : Value) (h : (E.all l)[j]? = some u) : ∃ (i r : Nat) (hi : i < l.length), r < E.size ∧ j = i * E.size + r ∧ (E.cells l[i])[r]? = some u := by
  have hj : j < (E.all l).length := by
    rcases Nat.lt_or_ge j (E.all l).length with h' | h'
    · exact h'
    · rw [List.getElem?_eq_none h'] at h; cases h
  rw [E.all_length] at hj
  have hp := E.pos
  have hi : j / E.size < l.length := (Nat.div_lt_iff_lt_mul hp).2 hj
  have hr : j % E.size < E.size := Nat.mod_lt _ hp
  have e : j = j / E.size * E.size + j % E.size := by rw [Nat.mul_comm]; exact (Nat.div_add_mod j E.size).symm
  have h2 := E.all_get l (j / E.size) hi (j % E.size) hr
  rw [← e] at h2
  exact ⟨j / E.size, j % E.size, hi, hr, e, h2.symm.trans h⟩

set_option maxRecDepth 100000 in
/-- A slice that came in. -/
theorem open_list {α : Type} [Inhabited α] (E : Enc Try.prog α) (good : α → Prop) (hsz : Try.prog.cellsOf E.elem = E.size)
    (hel : ∀ fuel cs x, cs.length = E.size → DataW.trod enc Try.prog w base spare held fuel E.elem cs = some x → ∃ a, cs = E.cells a ∧ good a)
    {r : Go.Reach} {b0 : Nat} {v : Value} {d : DataW H} {ps : List MemPlace} (hval : Value.okWide Try.prog w r b0 E.slice v) (hd : DataW.Trod enc Try.prog w base spare held E.slice v d ps) :
    ∃ l : List α, Reads E w v l ∧ l.length ≤ maxLen ∧ ∀ a ∈ l, good a := by
  obtain ⟨a, len, cap, rfl⟩ := okWide_slice E.und hval
  obtain ⟨fuel, hf⟩ := hd
  rcases Deep.open_slice E.und hf with ⟨hcs, hx⟩ | ⟨ad, len', cap', m, n, D, Pl, hcs, _, hl, hm, hmm, hx, hall⟩
  · have hcs' : Value.slice a len cap = .slice none 0 0 := by simpa [Value.cells] using hcs
    rw [hcs']
    exact ⟨[], .inl ⟨rfl, rfl⟩, Nat.zero_le _, fun _ h => by cases h⟩
  · have hcs' : Value.slice a len cap = .slice (some ad) len' cap' := by simpa [Value.cells] using hcs
    rw [hcs']
    have hle : len' ≤ m := by rw [hmm]; split <;> omega
    have hall2 : ∀ i, i < len' → ∃ f : α, (∀ j, j < E.size → w.cell? (ad.add (i * E.size + j)) = (E.cells f)[j]?) ∧ good f := fun i hi => by
      obtain ⟨cs', h1, h2⟩ := hall i (by omega)
      rw [hsz] at h1
      obtain ⟨_, hlen, hc⟩ := World.cells?_some h1
      obtain ⟨f, rfl, hg⟩ := hel _ _ _ hlen h2
      refine ⟨f, fun j hj => ?_, hg⟩
      have h3 := hc j hj
      rwa [Addr.add_add] at h3
    obtain ⟨F, hF⟩ := Deep.choose_lt (α := α) hall2
    refine ⟨(List.range len').map F, .inr ⟨ad, cap', by simp, fun j u hj => ?_⟩, by simp; omega, fun x hx => ?_⟩
    · obtain ⟨i, q, hi, hq, rfl, hu⟩ := E.all_at _ j u hj
      have hi' : i < len' := by simpa using hi
      rw [(hF i hi').1 q hq]
      simpa using hu
    · obtain ⟨i, hi, rfl⟩ := List.mem_map.1 hx
      exact (hF i (List.mem_range.1 hi)).2

set_option maxRecDepth 100000 in
theorem open_ints_list {r : Go.Reach} {b0 : Nat} {v : Value} {d : DataW H} {ps : List MemPlace} (hval : Value.okWide Try.prog w r b0 41 v) (hd : DataW.Trod enc Try.prog w base spare held 41 v d ps) :
    ∃ l : List Int, Reads encI w v l ∧ l.length ≤ maxLen ∧ ∀ a ∈ l, (Lit.int .i64 a).wf = true :=
  open_list encI (fun a => (Lit.int .i64 a).wf = true) Try.cellsOfInt (fun fuel cs x _ h => by
    obtain ⟨n, e, _, hw⟩ := DataW.trod_int Try.underlying3 h
    exact ⟨n, e, hw⟩) hval hd
end

end Go.Proofs.Ytpdkcdehbpbheaa
