/-
  Texts of this proof, one behind the other: OperC, SameM, OperW, QuantC, RestrM, QuantW, OneC.
-/
import Derived.Test.YtoopeaahpmfleaaGreatDoorG17
import Derived.Test.YtoopeaahpmfleaaGreatDoorG11
import Derived.Test.YtoopeaahpmfleaaGreatDoorG8
import Derived.Test.YtoopeaahpmfleaaGreatDoorG5
/-
  What is asked of the code's package oper.
-/
namespace Go.Proofs.YtoopeaahpmfleaaGreatDoor
open Go Go.RowKit

/-- Each call of package oper. -/
structure OperC (StAt CAt : World → Nat → (Nat → Prop) → MS → Prop) : Prop where ofAll ::
  and : ∀ {w b c F G s}, StAt w b F s → CAt w c G s → s.Ok → (∀ k, F k → ¬ G k) → ∀ f g : Int, I64 f → I64 g → Calls Tryz.prog 30 #[.pointer (some ⟨b, 0, none⟩), .pointer (some ⟨c, 0, none⟩), .int .i64 f, .int .i64 g] w (CallPost StAt CAt w b c F G (s.ite f g 0))
  or : ∀ {w b c F G s}, StAt w b F s → CAt w c G s → s.Ok → (∀ k, F k → ¬ G k) → ∀ f g : Int, I64 f → I64 g → Calls Tryz.prog 42 #[.pointer (some ⟨b, 0, none⟩), .pointer (some ⟨c, 0, none⟩), .int .i64 f, .int .i64 g] w (CallPost StAt CAt w b c F G (s.ite f 1 g))

end Go.Proofs.YtoopeaahpmfleaaGreatDoor

/-
  Mathematics of the own laws of layers 9 to 11: where there is room enough, each call makes its number. Nothing of the program is read here.
-/
namespace Go.Proofs.YtoopeaahpmfleaaGreatDoor

/-- All nodes are those of the functions L by order; for each of these there is room for 77. -/
structure MS.Fits (s : MS) (L : List Fn) (o : Nat → Int) (most : Nat) : Prop where
  ok : s.Ok
  may : mayO o = true
  ord : s.o = o
  cap : s.ar.most = most
  nodes : ∀ n, s.has n = true → IsNode L o (s.tab n)

section
variable {s : MS} {L : List Fn} {o : Nat → Int} {most : Nat}

theorem size_77s (o : Nat → Int) (ho : mayO o = true) : ∀ L : List Fn, sizeF L o ≤ 77 * L.length
  | [] => by
    obtain ⟨a, _, hma, hla⟩ := sizeF_is [] o
    rw [← hla]
    have : a = [] := by
      cases a with
      | nil => rfl
      | cons x t =>
        have h := ((hma x).1 (by simp)).1
        exact absurd h (fun h => by
          have key : ∀ g, Reach [] o g → False := fun g hg => by induction hg <;> simp_all
          exact key _ h)
    rw [this]; simp
  | f :: L => by
    have h := size_add [f] L o
    have h1 := size_77 f o (full_of ho)
    have h2 := size_77s o ho L
    have e : ([f] ++ L : List Fn) = f :: L := rfl
    rw [e] at h
    simp only [List.length_cons]
    omega

theorem MS.Fits.none (most : Nat) (h : most ≤ 20000) : (MS.none most).Fits [] plainO most :=
  ⟨MS.none_ok most h, plainO_may, rfl, rfl, fun n h => by simp [MS.has, MS.none] at h⟩

theorem MS.Fits.empty {most : Nat} (h : most ≤ 20000) {o : Nat → Int} (ho : mayO o = true) : (MS.empty most o).Fits [] o most := ⟨MS.empty_ok most h ho, ho, rfl, rfl, fun n h => by rw [MS.empty_has] at h; cases h⟩

/-- One more. -/
theorem MS.Fits.bld (h : s.Fits L o most) (f : Fn) (hs : 77 * (L.length + 1) ≤ most) : ∃ n t, MS.bld 8 s f = (n, 0, t) ∧ t.Fits (f :: L) o most ∧ MS.Ext s t ∧ t.there n = true ∧ t.tab n = f := by
  have mono : ∀ k, IsNode L o k → IsNode (f :: L) o k := fun k hk => ⟨hk.1.mono (fun x hx => by simp [hx]), hk.2⟩
  have mono2 : ∀ k, IsNode [f] o k → IsNode (f :: L) o k := fun k hk => ⟨hk.1.mono (fun x hx => by simp only [List.mem_singleton] at hx; simp [hx]), hk.2⟩
  obtain ⟨h1, h2, h3, h4, h5⟩ := MS.bld_spec 8 s f h.ok (supN_8 f)
  have h0 := MS.bld_room 8 s f (f :: L) h.ok (supN_8 f) (fun n hn => by rw [h.ord]; exact mono _ (h.nodes n hn)) (Reach.base (by simp)) (by
    rw [h.ord, h.cap]; exact Nat.le_trans (size_77s o h.may _) (by simpa using hs))
  obtain ⟨t, e⟩ := h4 h0
  refine ⟨(MS.bld 8 s f).1, (MS.bld 8 s f).2.2, ?_, ⟨h1, h.may, h2.o.trans h.ord, h2.most.trans h.cap, fun n hn => ?_⟩, h2, t, e⟩
  · rw [← h0]
  · rcases h5 n hn with hm | hm
    · rw [h2.tab h.ok h1 (by simp [MS.there, hm])]; exact mono _ (h.nodes n hm)
    · rw [h.ord] at hm; exact mono2 _ hm
/-- If, then, else of numbers that are there. -/
theorem MS.Fits.ite (h : s.Fits L o most) {f g k : Int} (hf : s.there f = true) (hg : s.there g = true) (hk : s.there k = true) (hs : 77 * (L.length + 1) ≤ most) :
    ∃ n t, s.ite f g k = (n, 0, t) ∧ t.Fits (iteF (s.tab f) (s.tab g) (s.tab k) :: L) o most ∧ MS.Ext s t ∧ t.there n = true ∧ t.tab n = iteF (s.tab f) (s.tab g) (s.tab k) := by
  obtain ⟨n, t, e, q⟩ := h.bld (iteF (s.tab f) (s.tab g) (s.tab k)) hs
  exact ⟨n, t, by unfold MS.ite; rw [if_pos ⟨hf, hg, hk⟩]; exact e, q⟩
/-- A number is asked for that is there. -/
theorem MS.Ok.ite_same (h : s.Ok) {f g k n : Int} (hf : s.there f = true) (hg : s.there g = true) (hk : s.there k = true) (hn : s.there n = true) (e : s.tab n = iteF (s.tab f) (s.tab g) (s.tab k)) : s.ite f g k = (n, 0, s) := by
  unfold MS.ite
  rw [if_pos ⟨hf, hg, hk⟩]
  exact MS.bld_same 8 s _ n h (supN_8 _) hn e
theorem MS.tab_zero (s : MS) : s.there 0 = true ∧ s.tab 0 = 0 := by
  have h := const_tab (f := 0) (by decide +kernel) s
  rw [show constN 0 = 0 by decide +kernel] at h
  exact ⟨h.2.1, h.1⟩
theorem MS.tab_one (s : MS) : s.there 1 = true ∧ s.tab 1 = BitVec.allOnes 256 := by
  have h := const_tab (f := BitVec.allOnes 256) (by decide +kernel) s
  rw [show constN (BitVec.allOnes 256) = 1 by decide +kernel] at h
  exact ⟨h.2.1, h.1⟩
theorem iteF_10 (f : Fn) : iteF f (BitVec.allOnes 256) 0 = f := by
  unfold iteF
  show f &&& BitVec.allOnes 256 ||| ~~~f &&& 0#256 = f
  rw [BitVec.and_allOnes, BitVec.and_zero, BitVec.or_zero]
theorem iteF_same (f g : Fn) : iteF f g g = g := by
  unfold iteF
  apply BitVec.eq_of_getElem_eq
  intro i hi
  simp only [BitVec.getElem_or, BitVec.getElem_and, BitVec.getElem_not]
  cases f[i] <;> simp
/-- A number is there, and is this function. -/
def MS.At (s : MS) (n : Int) (f : Fn) : Prop := s.there n = true ∧ s.tab n = f
theorem MS.At.ext {t : MS} {n : Int} {f : Fn} (h : s.At n f) (e : MS.Ext s t) (ok : s.Ok) (ok' : t.Ok) : t.At n f := ⟨e.there h.1, (e.tab ok ok' h.1).trans h.2⟩
theorem MS.At.i64 {n : Int} {f : Fn} (h : s.At n f) (ok : s.Ok) : n ≤ 9223372036854775807 ∧ -9223372036854775808 ≤ n := ok.toBase.there_i64 h.1
theorem MS.at0 (s : MS) : s.At 0 0#256 := s.tab_zero
theorem MS.at1 (s : MS) : s.At 1 (BitVec.allOnes 256) := s.tab_one
theorem MS.Fits.bldAt (h : s.Fits L o most) (f : Fn) (hs : 77 * (L.length + 1) ≤ most) : ∃ n t, MS.bld 8 s f = (n, 0, t) ∧ t.Fits (f :: L) o most ∧ MS.Ext s t ∧ t.At n f := by
  obtain ⟨n, t, e, q1, q2, q3⟩ := h.bld f hs
  exact ⟨n, t, e, q1, q2, q3⟩
theorem MS.Fits.iteAt (h : s.Fits L o most) {f g k : Int} {x y z : Fn} (hf : s.At f x) (hg : s.At g y) (hk : s.At k z) (hs : 77 * (L.length + 1) ≤ most) (v : Fn) (hv : iteF x y z = v) :
    ∃ n t, s.ite f g k = (n, 0, t) ∧ t.Fits (v :: L) o most ∧ MS.Ext s t ∧ t.At n v := by
  obtain ⟨n, t, e, q1, q2, q3, q4⟩ := h.ite hf.1 hg.1 hk.1 hs
  rw [hf.2, hg.2, hk.2, hv] at q1 q4
  exact ⟨n, t, e, q1, q2, q3, q4⟩
theorem MS.At.same {f g k n : Int} {x y z v : Fn} (hn : s.At n v) (ok : s.Ok) (hf : s.At f x) (hg : s.At g y) (hk : s.At k z) (hv : iteF x y z = v) : s.ite f g k = (n, 0, s) :=
  ok.ite_same hf.1 hg.1 hk.1 hn.1 (by rw [hn.2, hf.2, hg.2, hk.2, hv])
theorem MS.At.xor {t : MS} {f g m n : Int} {x y : Fn} (hf : s.At f x) (hg : s.At g y) (ok : s.Ok) (hm : s.At m (~~~y)) (hv : iteF y 0#256 (BitVec.allOnes 256) = ~~~y) (hn : s.ite f m g = (n, 0, t)) : s.xor f g = (n, 0, t) := by
  unfold MS.xor
  rw [if_pos ⟨hf.1, hg.1⟩, hm.same ok hg s.at0 s.at1 hv]
  exact hn

theorem iteF_not (f : Fn) : iteF f 0#256 (BitVec.allOnes 256) = ~~~f := by
  apply BitVec.eq_of_getElem_eq
  intro i hi
  simp only [iteF, BitVec.getElem_or, BitVec.getElem_and, BitVec.getElem_not, BitVec.getElem_zero, BitVec.getElem_allOnes]
  cases f[i] <;> rfl
theorem iteF_not2 (f : Fn) : iteF (~~~f) 0#256 (BitVec.allOnes 256) = f := by
  apply BitVec.eq_of_getElem_eq
  intro i hi
  simp only [iteF, BitVec.getElem_or, BitVec.getElem_and, BitVec.getElem_not, BitVec.getElem_zero, BitVec.getElem_allOnes]
  cases f[i] <;> rfl
theorem iteF_and (f g : Fn) : iteF f g 0#256 = f &&& g := by
  apply BitVec.eq_of_getElem_eq
  intro i hi
  simp only [iteF, BitVec.getElem_or, BitVec.getElem_and, BitVec.getElem_not, BitVec.getElem_zero]
  cases f[i] <;> cases g[i] <;> rfl
theorem iteF_or (f g : Fn) : iteF f (BitVec.allOnes 256) g = f ||| g := by
  apply BitVec.eq_of_getElem_eq
  intro i hi
  simp only [iteF, BitVec.getElem_or, BitVec.getElem_and, BitVec.getElem_not, BitVec.getElem_allOnes]
  cases f[i] <;> cases g[i] <;> rfl
theorem iteF_xor (f g : Fn) : iteF f (~~~g) g = f ^^^ g := by
  apply BitVec.eq_of_getElem_eq
  intro i hi
  simp only [iteF, BitVec.getElem_or, BitVec.getElem_and, BitVec.getElem_not, BitVec.getElem_xor]
  cases f[i] <;> cases g[i] <;> rfl
theorem iteF_and2 (f g : Fn) : iteF g f 0#256 = f &&& g := by rw [iteF_and, BitVec.and_comm]
theorem iteF_or2 (f g : Fn) : iteF g (BitVec.allOnes 256) f = f ||| g := by rw [iteF_or, BitVec.or_comm]
theorem iteF_xor2 (f g : Fn) : iteF g (~~~f) f = f ^^^ g := by rw [iteF_xor, BitVec.xor_comm]
theorem iteF_nand (f g : Fn) : iteF (~~~f) (BitVec.allOnes 256) (~~~g) = ~~~(f &&& g) := by
  apply BitVec.eq_of_getElem_eq
  intro i hi
  simp only [iteF, BitVec.getElem_or, BitVec.getElem_and, BitVec.getElem_not, BitVec.getElem_allOnes]
  cases f[i] <;> cases g[i] <;> rfl
theorem iteF_self (f : Fn) : iteF f (~~~f) f = 0#256 := by
  apply BitVec.eq_of_getElem_eq
  intro i hi
  simp only [iteF, BitVec.getElem_or, BitVec.getElem_and, BitVec.getElem_not, BitVec.getElem_zero]
  cases f[i] <;> rfl
theorem iteF_in (f g : Fn) : iteF f (f ||| g) 0#256 = f := by
  apply BitVec.eq_of_getElem_eq
  intro i hi
  simp only [iteF, BitVec.getElem_or, BitVec.getElem_and, BitVec.getElem_not, BitVec.getElem_zero]
  cases f[i] <;> cases g[i] <;> rfl
end

/-- A store's exchange of a level that is one: no error, or no room. -/
theorem MS.swap_in (s : MS) {l : Int} (h0 : 0 ≤ l) (h6 : l ≤ 6) : (s.swap l).1 = 0 ∨ (s.swap l).1 = 2 := by
  unfold MS.swap
  split
  · omega
  · dsimp only
    split <;> simp

end Go.Proofs.YtoopeaahpmfleaaGreatDoor

/-
  The code's package oper walked, over contracts of its package ite.
-/
namespace Go.Proofs.YtoopeaahpmfleaaGreatDoor
open Go Go.RowKit

theorem iteF_one (g h : Fn) : iteF (BitVec.allOnes 256) g h = g := by
  unfold iteF
  apply BitVec.eq_of_getElem_eq
  intro i hi
  simp only [BitVec.getElem_or, BitVec.getElem_and, BitVec.getElem_not, BitVec.getElem_allOnes]
  simp
/-- True then f, else g: f, where both are there. -/
theorem MS.Ok.ite_one {s : MS} (ok : s.Ok) (f g : Int) : s.ite 1 f g = if s.there f = true ∧ s.there g = true then (f, 0, s) else (0, 1, s) := by
  by_cases h : s.there f = true ∧ s.there g = true
  · rw [if_pos h]
    exact ok.ite_same s.tab_one.1 h.1 h.2 h.1 (by rw [s.tab_one.2, iteF_one])
  · rw [if_neg h]; unfold MS.ite; rw [if_neg (fun q => h q.2)]

section
variable {StAt CAt : World → Nat → (Nat → Prop) → MS → Prop} {w w1 w2 : World} {b c : Nat} {F G F1 G1 : Nat → Prop} {s : MS}
theorem CallPost.after (hK : Keeps (fun k => F k ∨ G k) w w1) (hF : Within w (fun k => F k ∨ G k) F1) (hG : Within w (fun k => F k ∨ G k) G1) {r : Int × Int × MS} {e : Ending} (h : CallPost StAt CAt w1 b c F1 G1 r e w2) : CallPost StAt CAt w b c F G r e w2 := by
  obtain ⟨he, F2, G2, h1, h2, h3, h4, h5, h6⟩ := h
  have hU : Within w (fun k => F k ∨ G k) (fun k => F1 k ∨ G1 k) := fun k hk => hk.elim (hF k) (hG k)
  exact ⟨he, F2, G2, h1, h2, h3, hK.trans h4 hU, hU.trans h5 hK.size, hU.trans h6 hK.size⟩

set_option maxRecDepth 100000 in
theorem operAnd (I : IteC StAt CAt) (hA : StAt w b F s) (hC : CAt w c G s) (ok : s.Ok) (ap : ∀ k, F k → ¬ G k) (f g : Int) (hf : I64 f) (hg : I64 g) :
    Calls Tryz.prog 30 #[.pointer (some ⟨b, 0, none⟩), .pointer (some ⟨c, 0, none⟩), .int .i64 f, .int .i64 g] w (CallPost StAt CAt w b c F G (s.ite f g 0)) := by
  have M := I.ite hA hC ok ap f g 0 hf hg (by unfold I64; decide)
  generalize s.ite f g 0 = r at *
  obtain ⟨r0, r1, t⟩ := r
  clear hA hC
  go_enter Tryz.func30, Tryz.ntmps30
  go_wp2_with fail
  refine M.mono ?_
  rintro e w1 ⟨rfl, hp⟩
  go_wp2
  go_ret2
  exact ⟨rfl, hp⟩
set_option maxRecDepth 100000 in
theorem operOr (I : IteC StAt CAt) (hA : StAt w b F s) (hC : CAt w c G s) (ok : s.Ok) (ap : ∀ k, F k → ¬ G k) (f g : Int) (hf : I64 f) (hg : I64 g) :
    Calls Tryz.prog 42 #[.pointer (some ⟨b, 0, none⟩), .pointer (some ⟨c, 0, none⟩), .int .i64 f, .int .i64 g] w (CallPost StAt CAt w b c F G (s.ite f 1 g)) := by
  have M := I.ite hA hC ok ap f 1 g hf (by unfold I64; decide) hg
  generalize s.ite f 1 g = r at *
  obtain ⟨r0, r1, t⟩ := r
  clear hA hC
  go_enter Tryz.func42, Tryz.ntmps42
  go_wp2_with fail
  refine M.mono ?_
  rintro e w1 ⟨rfl, hp⟩
  go_wp2
  go_ret2
  exact ⟨rfl, hp⟩
theorem operC (I : IteC StAt CAt) : OperC StAt CAt := by
  constructor
  · exact fun hA hC ok ap f g hf hg => operAnd I hA hC ok ap f g hf hg
  · exact fun hA hC ok ap f g hf hg => operOr I hA hC ok ap f g hf hg
end

end Go.Proofs.YtoopeaahpmfleaaGreatDoor

/-
  What is asked of the code's package quant.
-/
namespace Go.Proofs.YtoopeaahpmfleaaGreatDoor
open Go Go.RowKit

/-- Each call of package quant. -/
structure QuantC (StAt CAt : World → Nat → (Nat → Prop) → MS → Prop) : Prop where ofAll ::
  restrict : ∀ {w b F s}, StAt w b F s → s.Ok → ∀ (f v : Int) (z : Bool), I64 f → I64 v → Calls Tryz.prog 10 #[.pointer (some ⟨b, 0, none⟩), .int .i64 f, .int .i64 v, .bool z] w fun e w' => e = .returned (.tuple #[.int .i64 (s.restr f v z).1, errV (s.restr f v z).2.1]) ∧ ∃ F', StAt w' b F' (s.restr f v z).2.2 ∧ Keeps F w w' ∧ Within w F F'
  compose : ∀ {w b c F G s}, StAt w b F s → CAt w c G s → s.Ok → (∀ k, F k → ¬ G k) → ∀ f v g : Int, I64 f → I64 v → I64 g → Calls Tryz.prog 12 #[.pointer (some ⟨b, 0, none⟩), .pointer (some ⟨c, 0, none⟩), .int .i64 f, .int .i64 v, .int .i64 g] w (CallPost StAt CAt w b c F G (s.three 0 f v g))
  ex : ∀ {w b c F G s}, StAt w b F s → CAt w c G s → s.Ok → (∀ k, F k → ¬ G k) → ∀ f v : Int, I64 f → I64 v → Calls Tryz.prog 14 #[.pointer (some ⟨b, 0, none⟩), .pointer (some ⟨c, 0, none⟩), .int .i64 f, .int .i64 v] w (CallPost StAt CAt w b c F G (s.three 1 f v 0))
  fa : ∀ {w b c F G s}, StAt w b F s → CAt w c G s → s.Ok → (∀ k, F k → ¬ G k) → ∀ f v : Int, I64 f → I64 v → Calls Tryz.prog 15 #[.pointer (some ⟨b, 0, none⟩), .pointer (some ⟨c, 0, none⟩), .int .i64 f, .int .i64 v] w (CallPost StAt CAt w b c F G (s.three 2 f v 0))

end Go.Proofs.YtoopeaahpmfleaaGreatDoor

/-
  Mathematics of layer 11, as the code goes: a node with a variable set, by its two sides. Nothing of the program is read here.
-/
namespace Go.Proofs.YtoopeaahpmfleaaGreatDoor

section
variable {s t : MS}
/-- What is built of a node with v set. -/
def MS.setB (s : MS) (n v : Int) (b : Bool) : Int × Int × MS := MS.bld 8 s (cofAny (s.tab n) v b)
theorem MS.Ok.setB_spec (ok : s.Ok) (n v : Int) (b : Bool) : (s.setB n v b).2.2.Ok ∧ MS.Ext s (s.setB n v b).2.2 ∧ (0 ≤ (s.setB n v b).2.1 ∧ (s.setB n v b).2.1 ≤ 8) ∧
    ((s.setB n v b).2.1 = 0 → (s.setB n v b).2.2.there (s.setB n v b).1 = true ∧ (s.setB n v b).2.2.tab (s.setB n v b).1 = cofAny (s.tab n) v b) := by
  unfold MS.setB
  have := MS.bld_spec 8 s (cofAny (s.tab n) v b) ok (supN_8 _)
  exact ⟨this.1, this.2.1, ok.bld_err _, this.2.2.2.1⟩
theorem MS.setB_err0 (s : MS) (n v : Int) (b : Bool) (h : (s.setB n v b).2.1 ≠ 0) : (s.setB n v b).1 = 0 := MS.bld_err0 8 s _ h
theorem MS.Ok.setB_const (ok : s.Ok) {n : Int} (hn : s.there n = true) (hh : s.has n = false) (v : Int) (b : Bool) : s.setB n v b = (n, 0, s) :=
  MS.bld_same 8 s _ n ok (supN_8 _) hn (ok.cof_ahead (fun h => by rw [hh] at h; cases h) b).symm
theorem MS.Ok.setB_self (ok : s.Ok) {n : Int} (hh : s.has n = true) (b : Bool) : s.setB n (s.nd n).var b = (if b then (s.nd n).hi else (s.nd n).lo, 0, s) := by
  refine MS.bld_same 8 s _ _ ok (supN_8 _) ?_ (ok.cof_node hh b).symm
  cases b
  · exact MS.behind_there (ok.lo n hh)
  · exact MS.behind_there (ok.hi n hh)
theorem MS.Ok.setB_two (ok : s.Ok) {n : Int} (hh : s.has n = true) {v : Int} (hv : (s.nd n).var ≠ v) (b : Bool) :
    s.setB n v b = MS.twoB (s.nd n).var (s.setB (s.nd n).lo v b) ((s.setB (s.nd n).lo v b).2.2.setB (s.nd n).hi v b) := by
  obtain ⟨l0, l7⟩ := ok.lev hh
  obtain ⟨l, hl⟩ := Int.eq_ofNat_of_zero_le l0
  have hp := lev_place (o := s.o) hl
  have hl8 : l < 8 := by omega
  obtain ⟨okA, extA, _, _⟩ := ok.setB_spec (s.nd n).lo v b
  have q1 := extA.tab ok okA (MS.behind_there (ok.hi n hh))
  have c0 := ok.cof_node hh false
  have c1 := ok.cof_node hh true
  simp only [Bool.false_eq_true, if_false, if_true] at c0 c1
  have key := ok.bld_at (cofAny (s.tab n) v b) hl8 fun j hj => dep_cofAny _ v _ b (ok.from_dep (l := l) (by omega) (fun _ => by omega) hj)
  rw [hp, cof_cof _ _ _ _ _ (Ne.symm hv), c0] at key
  show MS.bld 8 s (cofAny (s.tab n) v b) = _
  rw [key]
  unfold MS.two
  rw [cof_cof _ _ _ _ _ (Ne.symm hv), c1]
  unfold MS.setB at q1 ⊢
  rw [q1]
end

end Go.Proofs.YtoopeaahpmfleaaGreatDoor

/-
  The code's package quant walked, over contracts of its packages store, ite, oper.
-/
namespace Go.Proofs.YtoopeaahpmfleaaGreatDoor
open Go Go.RowKit

/-- What a call that makes nodes comes to: the number, the error, the store. -/
def SetPost (StAt : World → Nat → (Nat → Prop) → MS → Prop) (w : World) (b : Nat) (F : Nat → Prop) (r : Int × Int × MS) (e : Ending) (w' : World) : Prop :=
  e = .returned (.tuple #[.int .i64 r.1, errV r.2.1]) ∧ ∃ F', StAt w' b F' r.2.2 ∧ Keeps F w w' ∧ Within w F F'

section
variable {StAt : World → Nat → (Nat → Prop) → MS → Prop} {w : World} {b : Nat} {F : Nat → Prop} {s : MS}
theorem SetPost.after {w1 w2 : World} {F1 : Nat → Prop} (hK : Keeps F w w1) (hF : Within w F F1) {r : Int × Int × MS} {e : Ending} (h : SetPost StAt w1 b F1 r e w2) : SetPost StAt w b F r e w2 := by
  obtain ⟨he, F2, h1, h2, h3⟩ := h
  exact ⟨he, F2, h1, hK.trans h2 hF, hF.trans h3 hK.size⟩
theorem SetPost.low {w1 w2 : World} (hb : Below w.heap.size w w1) {r : Int × Int × MS} {e : Ending} (hp : SetPost StAt w1 b F r e w2) : SetPost StAt w b F r e w2 :=
  hp.after (Keeps.of_below hb _) (Within.refl _ _)

set_option maxRecDepth 100000 in
set_option maxHeartbeats 2000000 in
theorem quantIsThere (H : StoreC StAt) (h : StAt w b F s) (ok : s.Ok) (n : Int) (hn : I64 n) :
    Calls Tryz.prog 35 #[.pointer (some ⟨b, 0, none⟩), .int .i64 n] w fun e w' => e = .returned (.bool (s.there n)) ∧ Below w.heap.size w w' := by
  have HN := H.node h ok n hn
  simp only [nodeV, nv] at HN
  clear h
  cases hh : s.has n
  · simp only [hh, Bool.false_eq_true, if_false] at HN
    by_cases h0 : n = 0
    · subst h0
      rw [show s.there 0 = true from rfl]
      go_enter Tryz.func35, Tryz.ntmps35
      go_wp2_with fail
      refine HN.mono ?_
      rintro e w1 ⟨rfl, hb1⟩
      replace hb1 := hb1.alloc hb1.size (.cells #[.int .i64 0, .int .i64 0, .int .i64 0] 57)
      clear HN
      go_wp2
      go_ret
      exact ⟨rfl, hb1⟩
    · by_cases h1 : n = 1
      · subst h1
        rw [show s.there 1 = true from rfl]
        go_enter Tryz.func35, Tryz.ntmps35
        go_wp2_with fail
        refine HN.mono ?_
        rintro e w1 ⟨rfl, hb1⟩
        replace hb1 := hb1.alloc hb1.size (.cells #[.int .i64 0, .int .i64 0, .int .i64 0] 57)
        clear HN
        go_wp2
        go_ret
        exact ⟨rfl, hb1⟩
      · have e0 : (n == 0) = false := by rw [beq_eq_false_iff_ne]; exact h0
        have e1 : (n == 1) = false := by rw [beq_eq_false_iff_ne]; exact h1
        rw [show s.there n = false by simp [MS.there, e0, e1, hh]]
        go_enter Tryz.func35, Tryz.ntmps35
        go_wp2_with fail
        refine HN.mono ?_
        rintro e w1 ⟨rfl, hb1⟩
        replace hb1 := hb1.alloc hb1.size (.cells #[.int .i64 0, .int .i64 0, .int .i64 0] 57)
        clear HN
        go_wp2
        go_ret
        exact ⟨rfl, hb1⟩
  · simp only [hh, if_true] at HN
    rw [show s.there n = true by simp [MS.there, hh]]
    generalize s.nd n = x at *
    obtain ⟨x0, x1, x2⟩ := x
    dsimp only at *
    go_enter Tryz.func35, Tryz.ntmps35
    go_wp2_with fail
    refine HN.mono ?_
    rintro e w1 ⟨rfl, hb1⟩
    replace hb1 := hb1.alloc hb1.size (.cells #[.int .i64 x0, .int .i64 x1, .int .i64 x2] 57)
    clear HN
    go_wp2
    go_ret
    exact ⟨rfl, hb1⟩

theorem MS.twoB_a {v A0 A1 : Int} {sA : MS} {B : Int × Int × MS} (h : A1 ≠ 0) : MS.twoB v (A0, A1, sA) B = (0, A1, sA) := if_pos h
theorem MS.twoB_b {v A0 B0 B1 : Int} {sA sB : MS} (h : B1 ≠ 0) : MS.twoB v (A0, 0, sA) (B0, B1, sB) = (0, B1, sB) := by
  unfold MS.twoB
  rw [if_neg (by simp), if_pos h]
theorem MS.twoB_c {v A0 B0 : Int} {sA sB : MS} : MS.twoB v (A0, 0, sA) (B0, 0, sB) = sB.mk v A0 B0 [] := rfl

set_option maxRecDepth 100000 in
set_option maxHeartbeats 4000000 in
theorem quantBelow (H : StoreC StAt) (h : StAt w b F s) (x : Nd) (v : Int) (z : Bool) (A B : Int × Int × MS)
    (HA : ∀ W F, StAt W b F s → Calls Tryz.prog 36 #[.pointer (some ⟨b, 0, none⟩), .int .i64 x.lo, .int .i64 v, .bool z] W (SetPost StAt W b F A))
    (HB : ∀ W F, StAt W b F A.2.2 → Calls Tryz.prog 36 #[.pointer (some ⟨b, 0, none⟩), .int .i64 x.hi, .int .i64 v, .bool z] W (SetPost StAt W b F B))
    (okB : B.2.2.Ok) (iA : A.2.1 = 0 → I64 A.1) (iB : B.2.1 = 0 → I64 B.1) :
    Calls Tryz.prog 85 #[.pointer (some ⟨b, 0, none⟩), nv x, .int .i64 v, .bool z] w (SetPost StAt w b F (MS.twoB x.var A B)) := by
  obtain ⟨x0, x1, x2⟩ := x
  obtain ⟨A0, A1, sA⟩ := A
  obtain ⟨B0, B1, sB⟩ := B
  dsimp only at *
  have hX := HoldsN.new w ⟨x0, x1, x2⟩
  dsimp only at hX
  have hlt := H.lt h
  have hb := (Below.refl w.heap.size w).alloc (Nat.le_refl _) (.cells #[.int .i64 x0, .int .i64 x1, .int .i64 x2] 57)
  have hA0 := H.below h hb
  have hK0 := Keeps.of_below hb F
  have hN : ¬ F w.heap.size := fun e => Nat.lt_irrefl _ (hlt _ e)
  simp only [nv]
  generalize hP : MS.twoB x0 (A0, A1, sA) (B0, B1, sB) = R
  replace hP := Lib.hid hP
  clear h hb hlt
  go_enter Tryz.func85, Tryz.ntmps85
  obtain ⟨c0, c1, c2⟩ := hX.cells
  dsimp only at c0 c1 c2
  go_wp2_with fail
  generalize w.alloc (.cells #[.int .i64 x0, .int .i64 x1, .int .i64 x2] 57) = w0 at *
  refine (HA _ _ hA0).mono ?_
  rintro e w1 ⟨rfl, F1, a1, a2, a3⟩
  have hN1 : ¬ F1 w.heap.size := fun e => (a3 _ e).elim hN (fun q => by have := hX.lt; omega)
  replace hX := hX.keep a2 hN
  replace a3 : Within w F F1 := (Within.refl _ _).trans a3 hK0.size
  replace a2 := hK0.trans a2 (Within.refl _ _)
  clear HA hA0 hK0 c0 c1 c2 hN
  dsimp only at a1
  by_cases hA1 : A1 = 0
  · subst hA1
    rw [errV0]
    obtain ⟨c0, c1, c2⟩ := hX.cells
    dsimp only at c0 c1 c2
    go_wp2_with fail
    refine (HB _ _ a1).mono ?_
    rintro e w2 ⟨rfl, F2, b1, b2, b3⟩
    replace hX := hX.keep b2 hN1
    replace b3 := a3.trans b3 a2.size
    replace b2 := a2.trans b2 a3
    clear HB a1 a2 a3 c0 c1 c2 hN1
    dsimp only at b1
    by_cases hB1 : B1 = 0
    · subst hB1
      rw [errV0]
      have HM := H.make b1 okB x0 A0 B0 (iA (by trivial)) (iB (by trivial))
      replace hP := Lib.hid (MS.twoB_c.symm.trans hP.out)
      obtain ⟨c0, c1, c2⟩ := hX.cells
      dsimp only at c0 c1 c2
      clear iA iB b1
      generalize sB.mk x0 A0 B0 [] = M at *
      go_wp2_with fail
      refine HM.mono ?_
      rintro e w3 ⟨rfl, F3, d1, d2, d3⟩
      clear HM
      go_wp2
      go_ret2
      rw [← hP.out]
      exact ⟨rfl, F3, d1, b2.trans d2 b3, b3.trans d3 b2.size⟩
    · have e2 : errV B1 = .iface 75 (.int .i64 B1) := if_neg hB1
      rw [e2]
      replace hP := Lib.hid ((MS.twoB_b hB1).symm.trans hP.out)
      clear iA iB okB
      go_wp2
      go_ret2
      rw [← hP.out]
      exact ⟨by rw [e2]; rfl, F2, b1, b2, b3⟩
  · have e2 : errV A1 = .iface 75 (.int .i64 A1) := if_neg hA1
    rw [e2]
    replace hP := Lib.hid ((MS.twoB_a hA1).symm.trans hP.out)
    clear iA iB okB HB
    go_wp2
    go_ret2
    rw [← hP.out]
    exact ⟨by rw [e2]; rfl, F1, a1, a2, a3⟩

set_option maxRecDepth 100000 in
set_option maxHeartbeats 4000000 in
theorem quantSet_const (H : StoreC StAt) (h : StAt w b F s) (ok : s.Ok) {n : Int} (hn : s.there n = true) (hh : s.has n = false) (v : Int) (z : Bool) :
    Calls Tryz.prog 36 #[.pointer (some ⟨b, 0, none⟩), .int .i64 n, .int .i64 v, .bool z] w (SetPost StAt w b F (s.setB n v z)) := by
  rw [ok.setB_const hn hh]
  have HN := H.node h ok n (ok.toBase.there_i64 hn)
  simp only [nodeV, nv, hh, Bool.false_eq_true, if_false] at HN
  have hend : ∀ w', Below w.heap.size w w' → ∃ F', StAt w' b F' s ∧ Keeps F w w' ∧ Within w F F' := fun w' hb => ⟨F, H.below h hb, Keeps.of_below hb _, Within.refl _ _⟩
  clear h
  go_enter Tryz.func36, Tryz.ntmps36
  go_wp2_with fail
  refine HN.mono ?_
  rintro e w1 ⟨rfl, hb1⟩
  replace hb1 := hb1.alloc hb1.size (.cells #[.int .i64 0, .int .i64 0, .int .i64 0] 57)
  clear HN
  go_wp2
  go_ret2
  exact ⟨rfl, hend _ hb1⟩

set_option maxRecDepth 100000 in
set_option maxHeartbeats 4000000 in
theorem quantSet_self (H : StoreC StAt) (h : StAt w b F s) (ok : s.Ok) {n : Int} (hh : s.has n = true) {v : Int} (hv : (s.nd n).var = v) (z : Bool) :
    Calls Tryz.prog 36 #[.pointer (some ⟨b, 0, none⟩), .int .i64 n, .int .i64 v, .bool z] w (SetPost StAt w b F (s.setB n v z)) := by
  have HN := H.node h ok n (ok.toBase.there_i64 (by simp [MS.there, hh]))
  have hP : s.setB n v z = (if z then (s.nd n).hi else (s.nd n).lo, 0, s) := by rw [← hv, ok.setB_self hh]
  rw [hP]
  simp only [nodeV, nv, hh, if_true] at HN
  have hend : ∀ w', Below w.heap.size w w' → ∃ F', StAt w' b F' s ∧ Keeps F w w' ∧ Within w F F' := fun w' hb => ⟨F, H.below h hb, Keeps.of_below hb _, Within.refl _ _⟩
  generalize s.nd n = x at *
  obtain ⟨x0, x1, x2⟩ := x
  dsimp only at *
  clear h hP
  subst hv
  cases z
  all_goals
    go_enter Tryz.func36, Tryz.ntmps36
    go_wp2_with fail
    refine HN.mono ?_
    rintro e w1 ⟨rfl, hb1⟩
    replace hb1 := hb1.alloc hb1.size (.cells #[.int .i64 x0, .int .i64 x1, .int .i64 x2] 57)
    clear HN
    go_wp2
    go_ret2
    exact ⟨rfl, hend _ hb1⟩

set_option maxRecDepth 100000 in
set_option maxHeartbeats 4000000 in
theorem quantSet (H : StoreC StAt) (b : Nat) (v : Int) (z : Bool) : ∀ (d l : Nat) (s : MS) (n : Int) (w : World) (F : Nat → Prop), 8 ≤ l + d → s.Ok → s.there n = true → s.from (l : Int) n → StAt w b F s →
    Calls Tryz.prog 36 #[.pointer (some ⟨b, 0, none⟩), .int .i64 n, .int .i64 v, .bool z] w (SetPost StAt w b F (s.setB n v z)) := by
  intro d
  induction d with
  | zero =>
    intro l s n w F hd ok hn hf h
    refine quantSet_const H h ok hn ?_ v z
    cases hh : s.has n
    · rfl
    · have := hf hh
      have := ok.lev hh
      omega
  | succ d ih =>
    intro l s n w F hd ok hn hf h
    cases hh : s.has n
    · exact quantSet_const H h ok hn hh v z
    · by_cases hv : (s.nd n).var = v
      · exact quantSet_self H h ok hh hv z
      · have hf' := hf hh
        have f0 := MS.from_behind (ok.lo n hh)
        have f1 := MS.from_behind (ok.hi n hh)
        have t0 := MS.behind_there (ok.lo n hh)
        have t1 := MS.behind_there (ok.hi n hh)
        obtain ⟨okA, extA, errA, resA⟩ := ok.setB_spec (s.nd n).lo v z
        obtain ⟨okB, extB, errB, resB⟩ := okA.setB_spec (s.nd n).hi v z
        have q0 : s.from ((l + 1 : Nat) : Int) (s.nd n).lo := fun q => by have := f0 q; omega
        have q1 : s.from ((l + 1 : Nat) : Int) (s.nd n).hi := fun q => by have := f1 q; omega
        have HB := fun W F' hA => quantBelow H (w := W) (F := F') hA (s.nd n) v z (s.setB (s.nd n).lo v z) ((s.setB (s.nd n).lo v z).2.2.setB (s.nd n).hi v z)
          (fun W F hA => ih (l + 1) s _ W F (by omega) ok t0 q0 hA) (fun W F hA => ih (l + 1) _ _ W F (by omega) okA (extA.there t1) (extA.from t1 q1) hA) okB
          (fun e => okA.toBase.there_i64 (resA e).1) (fun e => okB.toBase.there_i64 (resB e).1)
        rw [ok.setB_two hh hv]
        have HN := H.node h ok n (ok.toBase.there_i64 hn)
        simp only [nodeV, nv, hh, if_true] at HN HB
        have e1 : ((s.nd n).var != v) = true := by simpa using hv
        replace HB := fun w1 (hb : Below w.heap.size w w1) => (HB w1 F (H.below h hb)).mono fun e w2 hp => hp.low hb
        clear ih q0 q1 t0 t1 f0 f1 hf hf' okA extA errA resA okB extB errB resB h hn hh ok
        generalize MS.twoB _ _ _ = R at *
        generalize s.nd n = x at *
        obtain ⟨x0, x1, x2⟩ := x
        dsimp only at *
        go_enter Tryz.func36, Tryz.ntmps36
        go_wp2_with fail
        refine HN.mono ?_
        rintro e w1 ⟨rfl, hb1⟩
        replace hb1 := hb1.alloc hb1.size (.cells #[.int .i64 x0, .int .i64 x1, .int .i64 x2] 57)
        have hX := HoldsN.new w1 ⟨x0, x1, x2⟩
        obtain ⟨c0, c1, c2⟩ := hX.cells
        dsimp only at c0 c1 c2
        clear HN
        go_wp2_with fail
        refine (HB _ hb1).mono ?_
        rintro e w2 ⟨rfl, hp⟩
        clear HB
        go_wp2
        go_ret2
        exact ⟨rfl, hp⟩

set_option maxRecDepth 100000 in
set_option maxHeartbeats 4000000 in
theorem quantRestrict (H : StoreC StAt) (h : StAt w b F s) (ok : s.Ok) (f v : Int) (z : Bool) (hf : I64 f) (_hv : I64 v) :
    Calls Tryz.prog 10 #[.pointer (some ⟨b, 0, none⟩), .int .i64 f, .int .i64 v, .bool z] w (SetPost StAt w b F (s.restr f v z)) := by
  have HT := quantIsThere H h ok f hf
  have hend : ∀ w', Below w.heap.size w w' → ∃ F', StAt w' b F' s ∧ Keeps F w w' ∧ Within w F F' := fun w' hb => ⟨F, H.below h hb, Keeps.of_below hb _, Within.refl _ _⟩
  by_cases hc : s.there f = true ∧ 0 ≤ v ∧ v ≤ 7
  · obtain ⟨ht, v0, v7⟩ := hc
    have hR : s.restr f v z = s.setB f v z := by unfold MS.restr; rw [if_pos ⟨ht, v0, v7⟩]; rfl
    rw [hR]
    have HS := fun w1 (hb : Below w.heap.size w w1) => (quantSet H b v z 8 0 s f w1 F (by omega) ok ht (fun q => (ok.lev q).1) (H.below h hb)).mono fun e w2 hp => hp.low hb
    rw [ht] at HT
    generalize s.setB f v z = R at *
    clear h hR hend
    go_enter Tryz.func10, Tryz.ntmps10
    go_wp2_with fail
    refine HT.mono ?_
    rintro e w1 ⟨rfl, hb1⟩
    clear HT
    go_wp2_with fail
    refine (HS _ hb1).mono ?_
    rintro e w2 ⟨rfl, hp⟩
    go_wp2
    go_ret2
    exact ⟨rfl, hp⟩
  · have hR : s.restr f v z = (0, 1, s) := if_neg hc
    rw [hR]
    have e2 : errV 1 = .iface 75 (.int .i64 1) := if_neg (by decide)
    generalize hT : s.there f = t at *
    clear h hR
    cases t
    · go_enter Tryz.func10, Tryz.ntmps10
      go_wp2_with fail
      refine HT.mono ?_
      rintro e w1 ⟨rfl, hb1⟩
      clear HT
      go_wp2
      go_ret2
      exact ⟨by rw [e2]; rfl, hend _ hb1⟩
    · by_cases v0 : v < 0
      · go_enter Tryz.func10, Tryz.ntmps10
        go_wp2_with fail
        refine HT.mono ?_
        rintro e w1 ⟨rfl, hb1⟩
        clear HT
        go_wp2
        go_ret2
        exact ⟨by rw [e2]; rfl, hend _ hb1⟩
      · have v8 : 8 ≤ v := by
          have : ¬ (0 ≤ v ∧ v ≤ 7) := fun q => hc ⟨rfl, q⟩
          omega
        clear hc
        go_enter Tryz.func10, Tryz.ntmps10
        go_wp2_with fail
        refine HT.mono ?_
        rintro e w1 ⟨rfl, hb1⟩
        clear HT
        go_wp2
        go_ret2
        exact ⟨by rw [e2]; rfl, hend _ hb1⟩

/-- Both parts, by 0 and by 1. -/
def MS.both (s : MS) (f v : Int) : Int × Int × Int × MS :=
  let a := s.restr f v false
  if a.2.1 ≠ 0 then (0, 0, a.2.1, a.2.2)
  else
    let c := a.2.2.restr f v true
    if c.2.1 ≠ 0 then (0, 0, c.2.1, c.2.2) else (a.1, c.1, 0, c.2.2)
set_option maxRecDepth 100000 in
set_option maxHeartbeats 4000000 in
theorem quantBoth (H : StoreC StAt) (h : StAt w b F s) (ok : s.Ok) (f v : Int) (hf : I64 f) (hv : I64 v) :
    Calls Tryz.prog 39 #[.pointer (some ⟨b, 0, none⟩), .int .i64 f, .int .i64 v] w fun e w' =>
      e = .returned (.tuple #[.int .i64 (s.both f v).1, .int .i64 (s.both f v).2.1, errV (s.both f v).2.2.1]) ∧ ∃ F', StAt w' b F' (s.both f v).2.2.2 ∧ Keeps F w w' ∧ Within w F F' := by
  have HA := quantRestrict H h ok f v false hf hv
  obtain ⟨okA, _, _, _⟩ := ok.restr_spec f v false
  have HB := fun W F' (q : StAt W b F' (s.restr f v false).2.2) => quantRestrict H q okA f v true hf hv
  generalize hR : s.both f v = R
  have hR' : Hid _ := hR
  unfold MS.both at hR
  dsimp only at hR
  generalize s.restr f v false = A at *
  obtain ⟨A0, A1, sA⟩ := A
  dsimp only at *
  generalize sA.restr f v true = B at *
  obtain ⟨B0, B1, sB⟩ := B
  dsimp only at *
  clear h hR'
  replace hR := Lib.hid hR
  by_cases hA1 : A1 = 0
  · subst hA1
    by_cases hB1 : B1 = 0
    · subst hB1
      obtain rfl : (A0, B0, 0, sB) = R := by simpa using hR.out
      clear hR
      go_enter Tryz.func39, Tryz.ntmps39
      go_wp2_with fail
      refine HA.mono ?_
      rintro e w1 ⟨rfl, F1, a1, a2, a3⟩
      clear HA
      dsimp only at a1
      rw [errV0]
      go_wp2_with fail
      refine (HB _ _ a1).mono ?_
      rintro e w2 ⟨rfl, F2, b1, b2, b3⟩
      clear HB
      dsimp only at b1
      rw [errV0]
      go_wp2
      go_ret3
      exact ⟨rfl, F2, b1, a2.trans b2 a3, a3.trans b3 a2.size⟩
    · obtain rfl : (0, 0, B1, sB) = R := by simpa [hB1] using hR.out
      clear hR
      have e2 : errV B1 = .iface 75 (.int .i64 B1) := if_neg hB1
      go_enter Tryz.func39, Tryz.ntmps39
      go_wp2_with fail
      refine HA.mono ?_
      rintro e w1 ⟨rfl, F1, a1, a2, a3⟩
      clear HA
      dsimp only at a1
      rw [errV0]
      go_wp2_with fail
      refine (HB _ _ a1).mono ?_
      rintro e w2 ⟨rfl, F2, b1, b2, b3⟩
      clear HB
      dsimp only at b1 ⊢
      rw [e2]
      go_wp2
      go_ret3
      exact ⟨by rw [e2]; rfl, F2, b1, a2.trans b2 a3, a3.trans b3 a2.size⟩
  · obtain rfl : (0, 0, A1, sA) = R := by simpa [hA1] using hR.out
    clear hR HB
    have e2 : errV A1 = .iface 75 (.int .i64 A1) := if_neg hA1
    go_enter Tryz.func39, Tryz.ntmps39
    go_wp2_with fail
    refine HA.mono ?_
    rintro e w1 ⟨rfl, F1, a1, a2, a3⟩
    clear HA
    dsimp only at a1 ⊢
    rw [e2]
    go_wp2
    go_ret3
    exact ⟨by rw [e2]; rfl, F1, a1, a2, a3⟩

/-- The three, by both parts. -/
theorem MS.both_three (s : MS) (what f v g : Int) (hg : what = 0 → s.there g = true) :
    s.three what f v g = if (s.both f v).2.2.1 ≠ 0 then (0, (s.both f v).2.2.1, (s.both f v).2.2.2) else
      if what = 0 then (s.both f v).2.2.2.ite g (s.both f v).2.1 (s.both f v).1 else if what = 1 then (s.both f v).2.2.2.ite (s.both f v).1 1 (s.both f v).2.1 else (s.both f v).2.2.2.ite (s.both f v).1 (s.both f v).2.1 0 := by
  unfold MS.three MS.both
  rw [if_neg (fun q => by rw [hg q.1] at q; exact absurd q.2 (by simp))]
  dsimp only
  by_cases h1 : (s.restr f v false).2.1 = 0
  · by_cases h2 : ((s.restr f v false).2.2.restr f v true).2.1 = 0
    · simp only [h1, h2, ne_eq, not_true_eq_false, if_false]
    · simp only [h1, h2, ne_eq, not_true_eq_false, not_false_eq_true, if_false, if_true]
  · simp only [h1, ne_eq, not_false_eq_true, if_true]
theorem MS.Ok.both_spec (ok : s.Ok) (f v : Int) : (s.both f v).2.2.2.Ok ∧ MS.Grows s (s.both f v).2.2.2 ∧ ((s.both f v).2.2.1 = 0 → I64 (s.both f v).1 ∧ I64 (s.both f v).2.1) := by
  obtain ⟨okA, extA, _, resA⟩ := ok.restr_spec f v false
  obtain ⟨okB, extB, _, resB⟩ := okA.restr_spec f v true
  unfold MS.both
  dsimp only
  split
  · exact ⟨okA, MS.Grows.of_ext extA ok okA, fun e => absurd e (by assumption)⟩
  · rename_i h1
    split
    · exact ⟨okB, MS.Grows.of_ext (extA.trans extB) ok okB, fun e => absurd e (by assumption)⟩
    · rename_i h2
      exact ⟨okB, MS.Grows.of_ext (extA.trans extB) ok okB, fun _ => ⟨okA.toBase.there_i64 (resA (by simpa using h1)).1, okB.toBase.there_i64 (resB (by simpa using h2)).1⟩⟩

section
variable {CAt : World → Nat → (Nat → Prop) → MS → Prop} {c : Nat} {G : Nat → Prop}
/-- A cache beside a store that has grown. -/
theorem IteC.aside (I : IteC StAt CAt) {t : MS} {w1 : World} {F1 : Nat → Prop} (hC : CAt w c G s) (ok : s.Ok) (ok' : t.Ok) (gr : MS.Grows s t) (ap : ∀ k, F k → ¬ G k) (K : Keeps F w w1) (hW : Within w F F1) :
    CAt w1 c G t ∧ (∀ k, F1 k → ¬ G k) ∧ Keeps (fun k => F k ∨ G k) w w1 ∧ Within w (fun k => F k ∨ G k) F1 ∧ Within w (fun k => F k ∨ G k) G :=
  ⟨I.grows (I.keep hC K fun k h1 h2 => ap k h2 h1) ok ok' gr, fun k h1 h2 => (hW k h1).elim (fun h3 => ap k h3 h2) (fun h3 => by have := I.lt hC k h2; omega), K.mono fun _ h => .inl h, fun k h1 => (hW k h1).imp .inl id, fun k h1 => .inl (.inr h1)⟩

set_option maxRecDepth 100000 in
set_option maxHeartbeats 4000000 in
theorem quantCompose (H : StoreC StAt) (I : IteC StAt CAt) (h : StAt w b F s) (hC : CAt w c G s) (ok : s.Ok) (ap : ∀ k, F k → ¬ G k) (f v g : Int) (hf : I64 f) (hv : I64 v) (hg : I64 g) :
    Calls Tryz.prog 12 #[.pointer (some ⟨b, 0, none⟩), .pointer (some ⟨c, 0, none⟩), .int .i64 f, .int .i64 v, .int .i64 g] w (CallPost StAt CAt w b c F G (s.three 0 f v g)) := by
  have HT := quantIsThere H h ok g hg
  cases ht : s.there g
  · have hR : s.three 0 f v g = (0, 1, s) := if_pos ⟨rfl, ht⟩
    rw [hR]
    rw [ht] at HT
    have e2 : errV 1 = .iface 75 (.int .i64 1) := if_neg (by decide)
    have hend : ∀ w', Below w.heap.size w w' → CallPost StAt CAt w b c F G (0, 1, s) (.returned (.tuple #[.int .i64 0, errV 1])) w' := fun w' hb =>
      ⟨rfl, F, G, H.below h hb, I.keep hC (Keeps.of_below hb noBlock) (fun _ _ h => h), ap, Keeps.of_below hb _, fun k q => .inl (.inl q), fun k q => .inl (.inr q)⟩
    rw [e2] at hend
    clear h hC hR
    go_enter Tryz.func12, Tryz.ntmps12
    go_wp2_with fail
    refine HT.mono ?_
    rintro e w1 ⟨rfl, hb1⟩
    clear HT
    go_wp2
    go_ret2
    exact hend _ hb1
  · rw [ht] at HT
    rw [s.both_three 0 f v g (fun _ => ht), if_pos rfl]
    obtain ⟨okB, gr, res⟩ := ok.both_spec f v
    have HB := fun W (hb : Below w.heap.size w W) => quantBoth H (H.below h hb) ok f v hf hv
    have hK0 := fun W (hb : Below w.heap.size w W) => I.keep hC (Keeps.of_below hb noBlock) (fun _ _ h => h)
    generalize s.both f v = R at *
    obtain ⟨R0, R1, R2, t⟩ := R
    dsimp only at *
    have HI := fun W F1 G1 (h1 : StAt W b F1 t) (h2 : CAt W c G1 t) (h3 : ∀ k, F1 k → ¬ G1 k) (q : R2 = 0) => I.ite h1 h2 okB h3 g R1 R0 hg (res q).2 (res q).1
    generalize t.ite g R1 R0 = T at *
    obtain ⟨T0, T1, u⟩ := T
    clear h hC ht
    by_cases hR2 : R2 = 0
    · subst hR2
      rw [if_neg (by simp)]
      go_enter Tryz.func12, Tryz.ntmps12
      go_wp2_with fail
      refine HT.mono ?_
      rintro e w1 ⟨rfl, hb1⟩
      clear HT
      replace hK0 := hK0 _ hb1
      go_wp2_with fail
      refine (HB _ hb1).mono ?_
      rintro e w2 ⟨rfl, F2, a1, a2, a3⟩
      clear HB
      obtain ⟨c1, c2, c3, c4, c5⟩ := I.aside hK0 ok okB gr ap a2 a3
      replace c3 := (Keeps.of_below hb1 (fun k => F k ∨ G k)).trans c3 (Within.refl _ _)
      replace c4 : Within w (fun k => F k ∨ G k) F2 := (Within.refl _ _).trans c4 hb1.size
      replace c5 : Within w (fun k => F k ∨ G k) G := fun k q => .inl (.inr q)
      rw [errV0]
      go_wp2_with fail
      refine (HI _ _ _ a1 c1 c2 (by trivial)).mono ?_
      intro e w3 hp
      obtain ⟨rfl, hq⟩ := hp.after c3 c4 c5
      clear HI hp a1 a2 a3 c1 c2 c3 c4 c5
      go_wp2
      go_ret2
      exact ⟨rfl, hq⟩
    · rw [if_pos hR2]
      have e2 : errV R2 = .iface 75 (.int .i64 R2) := if_neg hR2
      clear HI res
      go_enter Tryz.func12, Tryz.ntmps12
      go_wp2_with fail
      refine HT.mono ?_
      rintro e w1 ⟨rfl, hb1⟩
      clear HT
      replace hK0 := hK0 _ hb1
      go_wp2_with fail
      refine (HB _ hb1).mono ?_
      rintro e w2 ⟨rfl, F2, a1, a2, a3⟩
      clear HB
      obtain ⟨c1, c2, c3, c4, c5⟩ := I.aside hK0 ok okB gr ap a2 a3
      replace c3 := (Keeps.of_below hb1 (fun k => F k ∨ G k)).trans c3 (Within.refl _ _)
      replace c4 : Within w (fun k => F k ∨ G k) F2 := (Within.refl _ _).trans c4 hb1.size
      replace c5 : Within w (fun k => F k ∨ G k) G := fun k q => .inl (.inr q)
      rw [e2]
      go_wp2
      go_ret2
      exact ⟨by rw [e2]; rfl, F2, G, a1, c1, c2, c3, c4, c5⟩
set_option maxRecDepth 100000 in
set_option maxHeartbeats 4000000 in
theorem quantExists (H : StoreC StAt) (I : IteC StAt CAt) (O : OperC StAt CAt) (h : StAt w b F s) (hC : CAt w c G s) (ok : s.Ok) (ap : ∀ k, F k → ¬ G k) (f v : Int) (hf : I64 f) (hv : I64 v) :
    Calls Tryz.prog 14 #[.pointer (some ⟨b, 0, none⟩), .pointer (some ⟨c, 0, none⟩), .int .i64 f, .int .i64 v] w (CallPost StAt CAt w b c F G (s.three 1 f v 0)) := by
  rw [s.both_three 1 f v 0 (fun q => absurd q (by decide))]
  rw [show (if (1 : Int) = 0 then (s.both f v).2.2.2.ite 0 (s.both f v).2.1 (s.both f v).1 else if (1 : Int) = 1 then (s.both f v).2.2.2.ite (s.both f v).1 1 (s.both f v).2.1 else (s.both f v).2.2.2.ite (s.both f v).1 (s.both f v).2.1 0) = (s.both f v).2.2.2.ite (s.both f v).1 1 (s.both f v).2.1 from rfl]
  obtain ⟨okB, gr, res⟩ := ok.both_spec f v
  have HB := quantBoth H h ok f v hf hv
  generalize s.both f v = R at *
  obtain ⟨R0, R1, R2, t⟩ := R
  dsimp only at *
  have HI := fun W F1 G1 (h1 : StAt W b F1 t) (h2 : CAt W c G1 t) (h3 : ∀ k, F1 k → ¬ G1 k) (q : R2 = 0) => O.or h1 h2 okB h3 R0 R1 (res q).1 (res q).2
  generalize t.ite R0 1 R1 = T at *
  obtain ⟨T0, T1, u⟩ := T
  have HA := fun w2 F2 (a2 : Keeps F w w2) (a3 : Within w F F2) => I.aside hC ok okB gr ap a2 a3
  clear h hC
  by_cases hR2 : R2 = 0
  · subst hR2
    rw [if_neg (by simp)]
    go_enter Tryz.func14, Tryz.ntmps14
    go_wp2_with fail
    refine HB.mono ?_
    rintro e w2 ⟨rfl, F2, a1, a2, a3⟩
    clear HB
    obtain ⟨c1, c2, c3, c4, c5⟩ := HA _ _ a2 a3
    rw [errV0]
    go_wp2_with fail
    refine (HI _ _ _ a1 c1 c2 (by trivial)).mono ?_
    intro e w3 hp
    obtain ⟨rfl, hq⟩ := hp.after c3 c4 c5
    clear HI HA hp a1 a2 a3 c1 c2 c3 c4 c5
    go_wp2
    go_ret2
    exact ⟨rfl, hq⟩
  · rw [if_pos hR2]
    have e2 : errV R2 = .iface 75 (.int .i64 R2) := if_neg hR2
    clear HI res
    go_enter Tryz.func14, Tryz.ntmps14
    go_wp2_with fail
    refine HB.mono ?_
    rintro e w2 ⟨rfl, F2, a1, a2, a3⟩
    clear HB
    obtain ⟨c1, c2, c3, c4, c5⟩ := HA _ _ a2 a3
    clear HA
    rw [e2]
    go_wp2
    go_ret2
    exact ⟨by rw [e2]; rfl, F2, G, a1, c1, c2, c3, c4, c5⟩
set_option maxRecDepth 100000 in
set_option maxHeartbeats 4000000 in
theorem quantForall (H : StoreC StAt) (I : IteC StAt CAt) (O : OperC StAt CAt) (h : StAt w b F s) (hC : CAt w c G s) (ok : s.Ok) (ap : ∀ k, F k → ¬ G k) (f v : Int) (hf : I64 f) (hv : I64 v) :
    Calls Tryz.prog 15 #[.pointer (some ⟨b, 0, none⟩), .pointer (some ⟨c, 0, none⟩), .int .i64 f, .int .i64 v] w (CallPost StAt CAt w b c F G (s.three 2 f v 0)) := by
  rw [s.both_three 2 f v 0 (fun q => absurd q (by decide))]
  rw [show (if (2 : Int) = 0 then (s.both f v).2.2.2.ite 0 (s.both f v).2.1 (s.both f v).1 else if (2 : Int) = 1 then (s.both f v).2.2.2.ite (s.both f v).1 1 (s.both f v).2.1 else (s.both f v).2.2.2.ite (s.both f v).1 (s.both f v).2.1 0) = (s.both f v).2.2.2.ite (s.both f v).1 (s.both f v).2.1 0 from rfl]
  obtain ⟨okB, gr, res⟩ := ok.both_spec f v
  have HB := quantBoth H h ok f v hf hv
  generalize s.both f v = R at *
  obtain ⟨R0, R1, R2, t⟩ := R
  dsimp only at *
  have HI := fun W F1 G1 (h1 : StAt W b F1 t) (h2 : CAt W c G1 t) (h3 : ∀ k, F1 k → ¬ G1 k) (q : R2 = 0) => O.and h1 h2 okB h3 R0 R1 (res q).1 (res q).2
  generalize t.ite R0 R1 0 = T at *
  obtain ⟨T0, T1, u⟩ := T
  have HA := fun w2 F2 (a2 : Keeps F w w2) (a3 : Within w F F2) => I.aside hC ok okB gr ap a2 a3
  clear h hC
  by_cases hR2 : R2 = 0
  · subst hR2
    rw [if_neg (by simp)]
    go_enter Tryz.func15, Tryz.ntmps15
    go_wp2_with fail
    refine HB.mono ?_
    rintro e w2 ⟨rfl, F2, a1, a2, a3⟩
    clear HB
    obtain ⟨c1, c2, c3, c4, c5⟩ := HA _ _ a2 a3
    rw [errV0]
    go_wp2_with fail
    refine (HI _ _ _ a1 c1 c2 (by trivial)).mono ?_
    intro e w3 hp
    obtain ⟨rfl, hq⟩ := hp.after c3 c4 c5
    clear HI HA hp a1 a2 a3 c1 c2 c3 c4 c5
    go_wp2
    go_ret2
    exact ⟨rfl, hq⟩
  · rw [if_pos hR2]
    have e2 : errV R2 = .iface 75 (.int .i64 R2) := if_neg hR2
    clear HI res
    go_enter Tryz.func15, Tryz.ntmps15
    go_wp2_with fail
    refine HB.mono ?_
    rintro e w2 ⟨rfl, F2, a1, a2, a3⟩
    clear HB
    obtain ⟨c1, c2, c3, c4, c5⟩ := HA _ _ a2 a3
    clear HA
    rw [e2]
    go_wp2
    go_ret2
    exact ⟨by rw [e2]; rfl, F2, G, a1, c1, c2, c3, c4, c5⟩

theorem quantC (H : StoreC StAt) (I : IteC StAt CAt) (O : OperC StAt CAt) : QuantC StAt CAt := by
  constructor
  · exact fun h ok f v z hf hv => quantRestrict H h ok f v z hf hv
  · exact fun h hC ok ap f v g hf hv hg => quantCompose H I h hC ok ap f v g hf hv hg
  · exact fun h hC ok ap f v hf hv => quantExists H I O h hC ok ap f v hf hv
  · exact fun h hC ok ap f v hf hv => quantForall H I O h hC ok ap f v hf hv
end
end

end Go.Proofs.YtoopeaahpmfleaaGreatDoor

/-
  The code's store and a cache, without a model.
-/
namespace Go.Proofs.YtoopeaahpmfleaaGreatDoor
open Go Go.RowKit

/-- A store and a cache, apart from each other and from all that stood in w0. -/
structure P1 (StAt CAt : World → Nat → (Nat → Prop) → MS → Prop) (w0 : World) (b c : Nat) (F G : Nat → Prop) (s : MS) (W : World) : Prop where
  a : StAt W b F s
  k : CAt W c G s
  ap : ∀ q, F q → ¬ G q
  lowF : ∀ q, F q → w0.heap.size ≤ q
  lowG : ∀ q, G q → w0.heap.size ≤ q
  below : Below w0.heap.size w0 W

section
variable {StAt CAt : World → Nat → (Nat → Prop) → MS → Prop} {w0 W W' : World} {b c : Nat} {F G F' G' : Nat → Prop} {s t : MS}

theorem P1.keep (H : StoreC StAt) (I : IteC StAt CAt) (h : P1 StAt CAt w0 b c F G s W) (hb : Below W.heap.size W W') : P1 StAt CAt w0 b c F G s W' :=
  ⟨H.below h.a hb, I.keep h.k (Keeps.of_below hb noBlock) (fun _ _ h => h), h.ap, h.lowF, h.lowG, h.below.trans (hb.mono h.below.size)⟩
/-- The store alone has gone on. -/
theorem P1.store (I : IteC StAt CAt) (h : P1 StAt CAt w0 b c F G s W) (ok : s.Ok) (ok' : t.Ok) (hg : MS.Grows s t) (hA : StAt W' b F' t) (hK : Keeps F W W') (hW : Within W F F') : P1 StAt CAt w0 b c F' G t W' :=
  ⟨hA, I.grows (I.keep h.k hK fun q h1 h2 => h.ap q h2 h1) ok ok' hg, fun q h1 h2 => (hW q h1).elim (fun h3 => h.ap q h3 h2) (fun h3 => by have := I.lt h.k q h2; omega),
    fun q h1 => (hW q h1).elim (h.lowF q) (fun h3 => Nat.le_trans h.below.size h3), h.lowG, h.below.trans (hK.below h.below.size h.lowF)⟩
/-- Both have. -/
theorem P1.call (h : P1 StAt CAt w0 b c F G s W) (hA : StAt W' b F' t) (hC : CAt W' c G' t) (hap : ∀ q, F' q → ¬ G' q) (hK : Keeps (fun q => F q ∨ G q) W W') (hA' : Within W (fun q => F q ∨ G q) F') (hC' : Within W (fun q => F q ∨ G q) G') : P1 StAt CAt w0 b c F' G' t W' := by
  have hlow : ∀ q, (F q ∨ G q) → w0.heap.size ≤ q := fun q hq => hq.elim (h.lowF q) (h.lowG q)
  exact ⟨hA, hC, hap, fun q h1 => (hA' q h1).elim (hlow q) (fun h3 => Nat.le_trans h.below.size h3), fun q h1 => (hC' q h1).elim (hlow q) (fun h3 => Nat.le_trans h.below.size h3), h.below.trans (hK.below h.below.size hlow)⟩
/-- The cache alone has turned. -/
theorem P1.flushed (H : StoreC StAt) (h : P1 StAt CAt w0 b c F G s W) (hC : CAt W' c G' s) (hK : Keeps G W W') (hW : Within W G G') : P1 StAt CAt w0 b c F G' s W' :=
  ⟨H.keep h.a hK (fun q h1 h2 => h.ap q h1 h2), hC, fun q h1 h2 => (hW q h2).elim (h.ap q h1) (fun h3 => by have := H.lt h.a q h1; omega), h.lowF, fun q h1 => (hW q h1).elim (h.lowG q) (fun h3 => Nat.le_trans h.below.size h3), h.below.trans (hK.below h.below.size h.lowG)⟩
/-- Both are there. -/
theorem P1.start (H : StoreC StAt) {W1 : World} (hA : StAt W1 b F s) (hF : ∀ q, F q → w0.heap.size ≤ q) (hb : Below w0.heap.size w0 W1) (hC : CAt W c G s) (hG : ∀ q, G q → W1.heap.size ≤ q) (hb2 : Below W1.heap.size W1 W) : P1 StAt CAt w0 b c F G s W :=
  ⟨H.below hA hb2, hC, fun q h1 h2 => by have := H.lt hA q h1; have := hG q h2; omega, hF, fun q h1 => Nat.le_trans hb.size (hG q h1), hb.trans (hb2.mono hb.size)⟩
theorem P1.callPost {r : Int × Int × MS} {e : Ending} (h : P1 StAt CAt w0 b c F G s W) (hp : CallPost StAt CAt W b c F G r e W') : e = .returned (.tuple #[.int .i64 r.1, errV r.2.1]) ∧ ∃ F' G', P1 StAt CAt w0 b c F' G' r.2.2 W' := by
  obtain ⟨he, F', G', hA, hC, hap, hK, hWA, hWC⟩ := hp
  exact ⟨he, F', G', h.call hA hC hap hK hWA hWC⟩
end

end Go.Proofs.YtoopeaahpmfleaaGreatDoor
