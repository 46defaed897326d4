/-
  Texts of this proof, one behind the other: OperC, SameM, OperW, QuantC, OneC, Up9, OperS.
-/
import Derived.Test.YtclkckinpjkglaaDoorG18
import Derived.Test.YtclkckinpjkglaaDoorG17
import Derived.Test.YtclkckinpjkglaaDoorG19
import Derived.Test.YtclkckinpjkglaaDoorG15
/-
  What is asked of the code's package oper.
-/
namespace Go.Proofs.YtclkckinpjkglaaDoor
open Go Go.RowKit

/-- Each call of package oper. -/
structure OperC (StAt CAt : World → Nat → (Nat → Prop) → MS → Prop) : Prop where ofAll ::
  not : ∀ {w b c F G s}, StAt w b F s → CAt w c G s → s.Ok → (∀ k, F k → ¬ G k) → ∀ f : Int, I64 f → Calls Tryd.prog 8 #[.pointer (some ⟨b, 0, none⟩), .pointer (some ⟨c, 0, none⟩), .int .i64 f] w (CallPost StAt CAt w b c F G (s.ite f 0 1))
  and : ∀ {w b c F G s}, StAt w b F s → CAt w c G s → s.Ok → (∀ k, F k → ¬ G k) → ∀ f g : Int, I64 f → I64 g → Calls Tryd.prog 9 #[.pointer (some ⟨b, 0, none⟩), .pointer (some ⟨c, 0, none⟩), .int .i64 f, .int .i64 g] w (CallPost StAt CAt w b c F G (s.ite f g 0))
  or : ∀ {w b c F G s}, StAt w b F s → CAt w c G s → s.Ok → (∀ k, F k → ¬ G k) → ∀ f g : Int, I64 f → I64 g → Calls Tryd.prog 10 #[.pointer (some ⟨b, 0, none⟩), .pointer (some ⟨c, 0, none⟩), .int .i64 f, .int .i64 g] w (CallPost StAt CAt w b c F G (s.ite f 1 g))
  xor : ∀ {w b c F G s}, StAt w b F s → CAt w c G s → s.Ok → (∀ k, F k → ¬ G k) → ∀ f g : Int, I64 f → I64 g → Calls Tryd.prog 11 #[.pointer (some ⟨b, 0, none⟩), .pointer (some ⟨c, 0, none⟩), .int .i64 f, .int .i64 g] w (CallPost StAt CAt w b c F G (s.xor f g))

end Go.Proofs.YtclkckinpjkglaaDoor

/-
  Mathematics of the own laws of layers 9 to 11: where there is room enough, each call makes its number. Nothing of the program is read here.
-/
namespace Go.Proofs.YtclkckinpjkglaaDoor

/-- All nodes are those of the functions L by order; for each of these there is room for 77. -/
structure MS.Fits (s : MS) (L : List Fn) (o : Nat → Int) (most : Nat) : Prop where
  ok : s.Ok
  may : mayO o = true
  ord : s.o = o
  cap : s.ar.most = most
  nodes : ∀ n, s.has n = true → IsNode L o (s.tab n)

section
variable {s : MS} {L : List Fn} {o : Nat → Int} {most : Nat}

theorem size_77s (o : Nat → Int) (ho : mayO o = true) : ∀ L : List Fn, sizeF L o ≤ 77 * L.length
  | [] => by
    obtain ⟨a, _, hma, hla⟩ := sizeF_is [] o
    rw [← hla]
    have : a = [] := by
      cases a with
      | nil => rfl
      | cons x t =>
        have h := ((hma x).1 (by simp)).1
        exact absurd h (fun h => by
          have key : ∀ g, Reach [] o g → False := fun g hg => by induction hg <;> simp_all
          exact key _ h)
    rw [this]; simp
  | f :: L => by
    have h := size_add [f] L o
    have h1 := size_77 f o (full_of ho)
    have h2 := size_77s o ho L
    have e : ([f] ++ L : List Fn) = f :: L := rfl
    rw [e] at h
    simp only [List.length_cons]
    omega

theorem MS.Fits.none (most : Nat) (h : most ≤ 20000) : (MS.none most).Fits [] plainO most :=
  ⟨MS.none_ok most h, plainO_may, rfl, rfl, fun n h => by simp [MS.has, MS.none] at h⟩

theorem MS.Fits.empty {most : Nat} (h : most ≤ 20000) {o : Nat → Int} (ho : mayO o = true) : (MS.empty most o).Fits [] o most := ⟨MS.empty_ok most h ho, ho, rfl, rfl, fun n h => by rw [MS.empty_has] at h; cases h⟩

/-- One more. -/
theorem MS.Fits.bld (h : s.Fits L o most) (f : Fn) (hs : 77 * (L.length + 1) ≤ most) : ∃ n t, MS.bld 8 s f = (n, 0, t) ∧ t.Fits (f :: L) o most ∧ MS.Ext s t ∧ t.there n = true ∧ t.tab n = f := by
  have mono : ∀ k, IsNode L o k → IsNode (f :: L) o k := fun k hk => ⟨hk.1.mono (fun x hx => by simp [hx]), hk.2⟩
  have mono2 : ∀ k, IsNode [f] o k → IsNode (f :: L) o k := fun k hk => ⟨hk.1.mono (fun x hx => by simp only [List.mem_singleton] at hx; simp [hx]), hk.2⟩
  obtain ⟨h1, h2, h3, h4, h5⟩ := MS.bld_spec 8 s f h.ok (supN_8 f)
  have h0 := MS.bld_room 8 s f (f :: L) h.ok (supN_8 f) (fun n hn => by rw [h.ord]; exact mono _ (h.nodes n hn)) (Reach.base (by simp)) (by
    rw [h.ord, h.cap]; exact Nat.le_trans (size_77s o h.may _) (by simpa using hs))
  obtain ⟨t, e⟩ := h4 h0
  refine ⟨(MS.bld 8 s f).1, (MS.bld 8 s f).2.2, ?_, ⟨h1, h.may, h2.o.trans h.ord, h2.most.trans h.cap, fun n hn => ?_⟩, h2, t, e⟩
  · rw [← h0]
  · rcases h5 n hn with hm | hm
    · rw [h2.tab h.ok h1 (by simp [MS.there, hm])]; exact mono _ (h.nodes n hm)
    · rw [h.ord] at hm; exact mono2 _ hm
/-- If, then, else of numbers that are there. -/
theorem MS.Fits.ite (h : s.Fits L o most) {f g k : Int} (hf : s.there f = true) (hg : s.there g = true) (hk : s.there k = true) (hs : 77 * (L.length + 1) ≤ most) :
    ∃ n t, s.ite f g k = (n, 0, t) ∧ t.Fits (iteF (s.tab f) (s.tab g) (s.tab k) :: L) o most ∧ MS.Ext s t ∧ t.there n = true ∧ t.tab n = iteF (s.tab f) (s.tab g) (s.tab k) := by
  obtain ⟨n, t, e, q⟩ := h.bld (iteF (s.tab f) (s.tab g) (s.tab k)) hs
  exact ⟨n, t, by unfold MS.ite; rw [if_pos ⟨hf, hg, hk⟩]; exact e, q⟩
/-- A number is asked for that is there. -/
theorem MS.Ok.ite_same (h : s.Ok) {f g k n : Int} (hf : s.there f = true) (hg : s.there g = true) (hk : s.there k = true) (hn : s.there n = true) (e : s.tab n = iteF (s.tab f) (s.tab g) (s.tab k)) : s.ite f g k = (n, 0, s) := by
  unfold MS.ite
  rw [if_pos ⟨hf, hg, hk⟩]
  exact MS.bld_same 8 s _ n h (supN_8 _) hn e
theorem MS.tab_zero (s : MS) : s.there 0 = true ∧ s.tab 0 = 0 := by
  have h := const_tab (f := 0) (by decide +kernel) s
  rw [show constN 0 = 0 by decide +kernel] at h
  exact ⟨h.2.1, h.1⟩
theorem MS.tab_one (s : MS) : s.there 1 = true ∧ s.tab 1 = BitVec.allOnes 256 := by
  have h := const_tab (f := BitVec.allOnes 256) (by decide +kernel) s
  rw [show constN (BitVec.allOnes 256) = 1 by decide +kernel] at h
  exact ⟨h.2.1, h.1⟩
theorem iteF_10 (f : Fn) : iteF f (BitVec.allOnes 256) 0 = f := by
  unfold iteF
  show f &&& BitVec.allOnes 256 ||| ~~~f &&& 0#256 = f
  rw [BitVec.and_allOnes, BitVec.and_zero, BitVec.or_zero]
theorem iteF_same (f g : Fn) : iteF f g g = g := by
  unfold iteF
  apply BitVec.eq_of_getElem_eq
  intro i hi
  simp only [BitVec.getElem_or, BitVec.getElem_and, BitVec.getElem_not]
  cases f[i] <;> simp
/-- A number is there, and is this function. -/
def MS.At (s : MS) (n : Int) (f : Fn) : Prop := s.there n = true ∧ s.tab n = f
theorem MS.At.ext {t : MS} {n : Int} {f : Fn} (h : s.At n f) (e : MS.Ext s t) (ok : s.Ok) (ok' : t.Ok) : t.At n f := ⟨e.there h.1, (e.tab ok ok' h.1).trans h.2⟩
theorem MS.At.i64 {n : Int} {f : Fn} (h : s.At n f) (ok : s.Ok) : n ≤ 9223372036854775807 ∧ -9223372036854775808 ≤ n := ok.toBase.there_i64 h.1
theorem MS.at0 (s : MS) : s.At 0 0#256 := s.tab_zero
theorem MS.at1 (s : MS) : s.At 1 (BitVec.allOnes 256) := s.tab_one
theorem MS.Fits.bldAt (h : s.Fits L o most) (f : Fn) (hs : 77 * (L.length + 1) ≤ most) : ∃ n t, MS.bld 8 s f = (n, 0, t) ∧ t.Fits (f :: L) o most ∧ MS.Ext s t ∧ t.At n f := by
  obtain ⟨n, t, e, q1, q2, q3⟩ := h.bld f hs
  exact ⟨n, t, e, q1, q2, q3⟩
theorem MS.Fits.iteAt (h : s.Fits L o most) {f g k : Int} {x y z : Fn} (hf : s.At f x) (hg : s.At g y) (hk : s.At k z) (hs : 77 * (L.length + 1) ≤ most) (v : Fn) (hv : iteF x y z = v) :
    ∃ n t, s.ite f g k = (n, 0, t) ∧ t.Fits (v :: L) o most ∧ MS.Ext s t ∧ t.At n v := by
  obtain ⟨n, t, e, q1, q2, q3, q4⟩ := h.ite hf.1 hg.1 hk.1 hs
  rw [hf.2, hg.2, hk.2, hv] at q1 q4
  exact ⟨n, t, e, q1, q2, q3, q4⟩
theorem MS.At.same {f g k n : Int} {x y z v : Fn} (hn : s.At n v) (ok : s.Ok) (hf : s.At f x) (hg : s.At g y) (hk : s.At k z) (hv : iteF x y z = v) : s.ite f g k = (n, 0, s) :=
  ok.ite_same hf.1 hg.1 hk.1 hn.1 (by rw [hn.2, hf.2, hg.2, hk.2, hv])
theorem MS.At.xor {t : MS} {f g m n : Int} {x y : Fn} (hf : s.At f x) (hg : s.At g y) (ok : s.Ok) (hm : s.At m (~~~y)) (hv : iteF y 0#256 (BitVec.allOnes 256) = ~~~y) (hn : s.ite f m g = (n, 0, t)) : s.xor f g = (n, 0, t) := by
  unfold MS.xor
  rw [if_pos ⟨hf.1, hg.1⟩, hm.same ok hg s.at0 s.at1 hv]
  exact hn

theorem iteF_not (f : Fn) : iteF f 0#256 (BitVec.allOnes 256) = ~~~f := by
  apply BitVec.eq_of_getElem_eq
  intro i hi
  simp only [iteF, BitVec.getElem_or, BitVec.getElem_and, BitVec.getElem_not, BitVec.getElem_zero, BitVec.getElem_allOnes]
  cases f[i] <;> rfl
theorem iteF_not2 (f : Fn) : iteF (~~~f) 0#256 (BitVec.allOnes 256) = f := by
  apply BitVec.eq_of_getElem_eq
  intro i hi
  simp only [iteF, BitVec.getElem_or, BitVec.getElem_and, BitVec.getElem_not, BitVec.getElem_zero, BitVec.getElem_allOnes]
  cases f[i] <;> rfl
theorem iteF_and (f g : Fn) : iteF f g 0#256 = f &&& g := by
  apply BitVec.eq_of_getElem_eq
  intro i hi
  simp only [iteF, BitVec.getElem_or, BitVec.getElem_and, BitVec.getElem_not, BitVec.getElem_zero]
  cases f[i] <;> cases g[i] <;> rfl
theorem iteF_or (f g : Fn) : iteF f (BitVec.allOnes 256) g = f ||| g := by
  apply BitVec.eq_of_getElem_eq
  intro i hi
  simp only [iteF, BitVec.getElem_or, BitVec.getElem_and, BitVec.getElem_not, BitVec.getElem_allOnes]
  cases f[i] <;> cases g[i] <;> rfl
theorem iteF_xor (f g : Fn) : iteF f (~~~g) g = f ^^^ g := by
  apply BitVec.eq_of_getElem_eq
  intro i hi
  simp only [iteF, BitVec.getElem_or, BitVec.getElem_and, BitVec.getElem_not, BitVec.getElem_xor]
  cases f[i] <;> cases g[i] <;> rfl
theorem iteF_and2 (f g : Fn) : iteF g f 0#256 = f &&& g := by rw [iteF_and, BitVec.and_comm]
theorem iteF_or2 (f g : Fn) : iteF g (BitVec.allOnes 256) f = f ||| g := by rw [iteF_or, BitVec.or_comm]
theorem iteF_xor2 (f g : Fn) : iteF g (~~~f) f = f ^^^ g := by rw [iteF_xor, BitVec.xor_comm]
theorem iteF_nand (f g : Fn) : iteF (~~~f) (BitVec.allOnes 256) (~~~g) = ~~~(f &&& g) := by
  apply BitVec.eq_of_getElem_eq
  intro i hi
  simp only [iteF, BitVec.getElem_or, BitVec.getElem_and, BitVec.getElem_not, BitVec.getElem_allOnes]
  cases f[i] <;> cases g[i] <;> rfl
theorem iteF_self (f : Fn) : iteF f (~~~f) f = 0#256 := by
  apply BitVec.eq_of_getElem_eq
  intro i hi
  simp only [iteF, BitVec.getElem_or, BitVec.getElem_and, BitVec.getElem_not, BitVec.getElem_zero]
  cases f[i] <;> rfl
theorem iteF_in (f g : Fn) : iteF f (f ||| g) 0#256 = f := by
  apply BitVec.eq_of_getElem_eq
  intro i hi
  simp only [iteF, BitVec.getElem_or, BitVec.getElem_and, BitVec.getElem_not, BitVec.getElem_zero]
  cases f[i] <;> cases g[i] <;> rfl
end

/-- A store's exchange of a level that is one: no error, or no room. -/
theorem MS.swap_in (s : MS) {l : Int} (h0 : 0 ≤ l) (h6 : l ≤ 6) : (s.swap l).1 = 0 ∨ (s.swap l).1 = 2 := by
  unfold MS.swap
  split
  · omega
  · dsimp only
    split <;> simp

end Go.Proofs.YtclkckinpjkglaaDoor

/-
  The code's package oper walked, over contracts of its package ite.
-/
namespace Go.Proofs.YtclkckinpjkglaaDoor
open Go Go.RowKit

theorem iteF_one (g h : Fn) : iteF (BitVec.allOnes 256) g h = g := by
  unfold iteF
  apply BitVec.eq_of_getElem_eq
  intro i hi
  simp only [BitVec.getElem_or, BitVec.getElem_and, BitVec.getElem_not, BitVec.getElem_allOnes]
  simp
/-- True then f, else g: f, where both are there. -/
theorem MS.Ok.ite_one {s : MS} (ok : s.Ok) (f g : Int) : s.ite 1 f g = if s.there f = true ∧ s.there g = true then (f, 0, s) else (0, 1, s) := by
  by_cases h : s.there f = true ∧ s.there g = true
  · rw [if_pos h]
    exact ok.ite_same s.tab_one.1 h.1 h.2 h.1 (by rw [s.tab_one.2, iteF_one])
  · rw [if_neg h]; unfold MS.ite; rw [if_neg (fun q => h q.2)]

section
variable {StAt CAt : World → Nat → (Nat → Prop) → MS → Prop} {w w1 w2 : World} {b c : Nat} {F G F1 G1 : Nat → Prop} {s : MS}
theorem CallPost.after (hK : Keeps (fun k => F k ∨ G k) w w1) (hF : Within w (fun k => F k ∨ G k) F1) (hG : Within w (fun k => F k ∨ G k) G1) {r : Int × Int × MS} {e : Ending} (h : CallPost StAt CAt w1 b c F1 G1 r e w2) : CallPost StAt CAt w b c F G r e w2 := by
  obtain ⟨he, F2, G2, h1, h2, h3, h4, h5, h6⟩ := h
  have hU : Within w (fun k => F k ∨ G k) (fun k => F1 k ∨ G1 k) := fun k hk => hk.elim (hF k) (hG k)
  exact ⟨he, F2, G2, h1, h2, h3, hK.trans h4 hU, hU.trans h5 hK.size, hU.trans h6 hK.size⟩

set_option maxRecDepth 100000 in
theorem operNot (I : IteC StAt CAt) (hA : StAt w b F s) (hC : CAt w c G s) (ok : s.Ok) (ap : ∀ k, F k → ¬ G k) (f : Int) (hf : I64 f) :
    Calls Tryd.prog 8 #[.pointer (some ⟨b, 0, none⟩), .pointer (some ⟨c, 0, none⟩), .int .i64 f] w (CallPost StAt CAt w b c F G (s.ite f 0 1)) := by
  have M := I.ite hA hC ok ap f 0 1 hf (by unfold I64; decide) (by unfold I64; decide)
  generalize s.ite f 0 1 = r at *
  obtain ⟨r0, r1, t⟩ := r
  clear hA hC
  go_enter Tryd.func8, Tryd.ntmps8
  go_wp2_with fail
  refine M.mono ?_
  rintro e w1 ⟨rfl, hp⟩
  go_wp2
  go_ret2
  exact ⟨rfl, hp⟩
set_option maxRecDepth 100000 in
theorem operAnd (I : IteC StAt CAt) (hA : StAt w b F s) (hC : CAt w c G s) (ok : s.Ok) (ap : ∀ k, F k → ¬ G k) (f g : Int) (hf : I64 f) (hg : I64 g) :
    Calls Tryd.prog 9 #[.pointer (some ⟨b, 0, none⟩), .pointer (some ⟨c, 0, none⟩), .int .i64 f, .int .i64 g] w (CallPost StAt CAt w b c F G (s.ite f g 0)) := by
  have M := I.ite hA hC ok ap f g 0 hf hg (by unfold I64; decide)
  generalize s.ite f g 0 = r at *
  obtain ⟨r0, r1, t⟩ := r
  clear hA hC
  go_enter Tryd.func9, Tryd.ntmps9
  go_wp2_with fail
  refine M.mono ?_
  rintro e w1 ⟨rfl, hp⟩
  go_wp2
  go_ret2
  exact ⟨rfl, hp⟩
set_option maxRecDepth 100000 in
theorem operOr (I : IteC StAt CAt) (hA : StAt w b F s) (hC : CAt w c G s) (ok : s.Ok) (ap : ∀ k, F k → ¬ G k) (f g : Int) (hf : I64 f) (hg : I64 g) :
    Calls Tryd.prog 10 #[.pointer (some ⟨b, 0, none⟩), .pointer (some ⟨c, 0, none⟩), .int .i64 f, .int .i64 g] w (CallPost StAt CAt w b c F G (s.ite f 1 g)) := by
  have M := I.ite hA hC ok ap f 1 g hf (by unfold I64; decide) hg
  generalize s.ite f 1 g = r at *
  obtain ⟨r0, r1, t⟩ := r
  clear hA hC
  go_enter Tryd.func10, Tryd.ntmps10
  go_wp2_with fail
  refine M.mono ?_
  rintro e w1 ⟨rfl, hp⟩
  go_wp2
  go_ret2
  exact ⟨rfl, hp⟩
set_option maxRecDepth 100000 in
theorem operThere (I : IteC StAt CAt) (hA : StAt w b F s) (hC : CAt w c G s) (ok : s.Ok) (ap : ∀ k, F k → ¬ G k) (f g : Int) (hf : I64 f) (hg : I64 g) :
    Calls Tryd.prog 25 #[.pointer (some ⟨b, 0, none⟩), .pointer (some ⟨c, 0, none⟩), .int .i64 f, .int .i64 g] w fun e w' => e = .returned (errV (if s.there f = true ∧ s.there g = true then 0 else 1)) ∧ ∃ F' G', StAt w' b F' s ∧ CAt w' c G' s ∧ (∀ k, F' k → ¬ G' k) ∧ Keeps (fun k => F k ∨ G k) w w' ∧ Within w (fun k => F k ∨ G k) F' ∧ Within w (fun k => F k ∨ G k) G' := by
  have M := I.ite hA hC ok ap 1 f g (by unfold I64; decide) hf hg
  have e1 : ∃ n, s.ite 1 f g = (n, if s.there f = true ∧ s.there g = true then 0 else 1, s) := by
    rw [ok.ite_one]
    by_cases h : s.there f = true ∧ s.there g = true
    · exact ⟨f, by rw [if_pos h, if_pos h]⟩
    · exact ⟨0, by rw [if_neg h, if_neg h]⟩
  obtain ⟨n, e1⟩ := e1
  rw [e1] at M
  generalize (if s.there f = true ∧ s.there g = true then (0 : Int) else 1) = x at *
  clear hA hC e1
  go_enter Tryd.func25, Tryd.ntmps25
  go_wp2_with fail
  refine M.mono ?_
  rintro e w1 ⟨rfl, hp⟩
  go_wp2
  go_ret
  exact ⟨rfl, hp⟩
set_option maxRecDepth 100000 in
theorem operXor (I : IteC StAt CAt) (hA : StAt w b F s) (hC : CAt w c G s) (ok : s.Ok) (ap : ∀ k, F k → ¬ G k) (f g : Int) (hf : I64 f) (hg : I64 g) :
    Calls Tryd.prog 11 #[.pointer (some ⟨b, 0, none⟩), .pointer (some ⟨c, 0, none⟩), .int .i64 f, .int .i64 g] w (CallPost StAt CAt w b c F G (s.xor f g)) := by
  have M := operThere I hA hC ok ap f g hf hg
  by_cases ht : s.there f = true ∧ s.there g = true
  · have e1 : s.xor f g = if (s.ite g 0 1).2.1 ≠ 0 then (0, (s.ite g 0 1).2.1, (s.ite g 0 1).2.2) else (s.ite g 0 1).2.2.ite f (s.ite g 0 1).1 g := by unfold MS.xor; rw [if_pos ht]
    rw [if_pos ht, errV0] at M
    have N := fun W F1 G1 (h1 : StAt W b F1 s) (h2 : CAt W c G1 s) (h3 : ∀ k, F1 k → ¬ G1 k) => operNot I h1 h2 ok h3 g hg
    have spec := ok.ite_spec g 0 1
    generalize s.ite g 0 1 = n at *
    obtain ⟨n0, n1, t⟩ := n
    obtain ⟨ok1, ext, _, res⟩ := spec
    dsimp only at e1 ok1 ext res
    rw [e1]
    clear e1 hA hC
    by_cases hn : n1 = 0
    · subst hn
      rw [if_neg (by simp)]
      have T := fun W F1 G1 (h1 : StAt W b F1 t) (h2 : CAt W c G1 t) (h3 : ∀ k, F1 k → ¬ G1 k) => I.ite h1 h2 ok1 h3 f n0 g hf (ok1.toBase.there_i64 (res rfl).1) hg
      generalize t.ite f n0 g = r at *
      obtain ⟨r0, r1, u⟩ := r
      clear res ext
      go_enter Tryd.func11, Tryd.ntmps11
      go_wp2_with fail
      refine M.mono ?_
      rintro e w1 ⟨rfl, F1, G1, a1, a2, a3, a4, a5, a6⟩
      clear M
      go_wp2_with fail
      refine (N _ _ _ a1 a2 a3).mono ?_
      intro e w2 hp
      obtain ⟨rfl, F2, G2, b1, b2, b3, b4, b5, b6⟩ := hp.after a4 a5 a6
      clear N hp a1 a2 a3 a4 a5 a6
      dsimp only at b1 b2 b3
      rw [errV0]
      go_wp2_with fail
      refine (T _ _ _ b1 b2 b3).mono ?_
      intro e w3 hp
      obtain ⟨rfl, hq⟩ := hp.after b4 b5 b6
      clear T b1 b2 b3 b4 b5 b6 hp
      go_wp2
      go_ret2
      exact ⟨rfl, hq⟩
    · rw [if_pos hn]
      clear res ext
      go_enter Tryd.func11, Tryd.ntmps11
      go_wp2_with fail
      refine M.mono ?_
      rintro e w1 ⟨rfl, F1, G1, a1, a2, a3, a4, a5, a6⟩
      clear M
      go_wp2_with fail
      refine (N _ _ _ a1 a2 a3).mono ?_
      intro e w2 hp
      obtain ⟨rfl, hq⟩ := hp.after a4 a5 a6
      clear N a1 a2 a3 a4 a5 a6 hp
      dsimp only at hq
      have e2 : errV n1 = .iface 69 (.int .i64 n1) := if_neg hn
      dsimp only
      rw [e2]
      go_wp2
      go_ret2
      exact ⟨by rw [e2]; rfl, hq⟩
  · have e1 : s.xor f g = (0, 1, s) := by unfold MS.xor; rw [if_neg ht]
    rw [if_neg ht] at M
    rw [e1]
    have e2 : errV 1 = .iface 69 (.int .i64 1) := if_neg (by decide)
    rw [e2] at M
    clear hA hC
    go_enter Tryd.func11, Tryd.ntmps11
    go_wp2_with fail
    refine M.mono ?_
    rintro e w1 ⟨rfl, hp⟩
    clear M
    go_wp2
    go_ret2
    exact ⟨by rw [e2]; rfl, hp⟩
theorem operC (I : IteC StAt CAt) : OperC StAt CAt := by
  constructor
  · exact fun hA hC ok ap f hf => operNot I hA hC ok ap f hf
  · exact fun hA hC ok ap f g hf hg => operAnd I hA hC ok ap f g hf hg
  · exact fun hA hC ok ap f g hf hg => operOr I hA hC ok ap f g hf hg
  · exact fun hA hC ok ap f g hf hg => operXor I hA hC ok ap f g hf hg
end

end Go.Proofs.YtclkckinpjkglaaDoor

/-
  What is asked of the code's package quant.
-/
namespace Go.Proofs.YtclkckinpjkglaaDoor
open Go Go.RowKit

/-- Each call of package quant. -/
structure QuantC (StAt CAt : World → Nat → (Nat → Prop) → MS → Prop) : Prop where ofAll ::

end Go.Proofs.YtclkckinpjkglaaDoor

/-
  The code's store and a cache, without a model.
-/
namespace Go.Proofs.YtclkckinpjkglaaDoor
open Go Go.RowKit

/-- A store and a cache, apart from each other and from all that stood in w0. -/
structure P1 (StAt CAt : World → Nat → (Nat → Prop) → MS → Prop) (w0 : World) (b c : Nat) (F G : Nat → Prop) (s : MS) (W : World) : Prop where
  a : StAt W b F s
  k : CAt W c G s
  ap : ∀ q, F q → ¬ G q
  lowF : ∀ q, F q → w0.heap.size ≤ q
  lowG : ∀ q, G q → w0.heap.size ≤ q
  below : Below w0.heap.size w0 W

section
variable {StAt CAt : World → Nat → (Nat → Prop) → MS → Prop} {w0 W W' : World} {b c : Nat} {F G F' G' : Nat → Prop} {s t : MS}

theorem P1.keep (H : StoreC StAt) (I : IteC StAt CAt) (h : P1 StAt CAt w0 b c F G s W) (hb : Below W.heap.size W W') : P1 StAt CAt w0 b c F G s W' :=
  ⟨H.below h.a hb, I.keep h.k (Keeps.of_below hb noBlock) (fun _ _ h => h), h.ap, h.lowF, h.lowG, h.below.trans (hb.mono h.below.size)⟩
/-- The store alone has gone on. -/
theorem P1.store (I : IteC StAt CAt) (h : P1 StAt CAt w0 b c F G s W) (ok : s.Ok) (ok' : t.Ok) (hg : MS.Grows s t) (hA : StAt W' b F' t) (hK : Keeps F W W') (hW : Within W F F') : P1 StAt CAt w0 b c F' G t W' :=
  ⟨hA, I.grows (I.keep h.k hK fun q h1 h2 => h.ap q h2 h1) ok ok' hg, fun q h1 h2 => (hW q h1).elim (fun h3 => h.ap q h3 h2) (fun h3 => by have := I.lt h.k q h2; omega),
    fun q h1 => (hW q h1).elim (h.lowF q) (fun h3 => Nat.le_trans h.below.size h3), h.lowG, h.below.trans (hK.below h.below.size h.lowF)⟩
/-- Both have. -/
theorem P1.call (h : P1 StAt CAt w0 b c F G s W) (hA : StAt W' b F' t) (hC : CAt W' c G' t) (hap : ∀ q, F' q → ¬ G' q) (hK : Keeps (fun q => F q ∨ G q) W W') (hA' : Within W (fun q => F q ∨ G q) F') (hC' : Within W (fun q => F q ∨ G q) G') : P1 StAt CAt w0 b c F' G' t W' := by
  have hlow : ∀ q, (F q ∨ G q) → w0.heap.size ≤ q := fun q hq => hq.elim (h.lowF q) (h.lowG q)
  exact ⟨hA, hC, hap, fun q h1 => (hA' q h1).elim (hlow q) (fun h3 => Nat.le_trans h.below.size h3), fun q h1 => (hC' q h1).elim (hlow q) (fun h3 => Nat.le_trans h.below.size h3), h.below.trans (hK.below h.below.size hlow)⟩
/-- The cache alone has turned. -/
theorem P1.flushed (H : StoreC StAt) (h : P1 StAt CAt w0 b c F G s W) (hC : CAt W' c G' s) (hK : Keeps G W W') (hW : Within W G G') : P1 StAt CAt w0 b c F G' s W' :=
  ⟨H.keep h.a hK (fun q h1 h2 => h.ap q h1 h2), hC, fun q h1 h2 => (hW q h2).elim (h.ap q h1) (fun h3 => by have := H.lt h.a q h1; omega), h.lowF, fun q h1 => (hW q h1).elim (h.lowG q) (fun h3 => Nat.le_trans h.below.size h3), h.below.trans (hK.below h.below.size h.lowG)⟩
/-- Both are there. -/
theorem P1.start (H : StoreC StAt) {W1 : World} (hA : StAt W1 b F s) (hF : ∀ q, F q → w0.heap.size ≤ q) (hb : Below w0.heap.size w0 W1) (hC : CAt W c G s) (hG : ∀ q, G q → W1.heap.size ≤ q) (hb2 : Below W1.heap.size W1 W) : P1 StAt CAt w0 b c F G s W :=
  ⟨H.below hA hb2, hC, fun q h1 h2 => by have := H.lt hA q h1; have := hG q h2; omega, hF, fun q h1 => Nat.le_trans hb.size (hG q h1), hb.trans (hb2.mono hb.size)⟩
theorem P1.callPost {r : Int × Int × MS} {e : Ending} (h : P1 StAt CAt w0 b c F G s W) (hp : CallPost StAt CAt W b c F G r e W') : e = .returned (.tuple #[.int .i64 r.1, errV r.2.1]) ∧ ∃ F' G', P1 StAt CAt w0 b c F' G' r.2.2 W' := by
  obtain ⟨he, F', G', hA, hC, hap, hK, hWA, hWC⟩ := hp
  exact ⟨he, F', G', h.call hA hC hap hK hWA hWC⟩
end

end Go.Proofs.YtclkckinpjkglaaDoor

/-
  The documents' examples of layers 9 to 11, over contracts.
-/
namespace Go.Proofs.YtclkckinpjkglaaDoor
open Go Go.RowKit
attribute [local go_sem] run_eql_fv run_neq_fv run_guard_fv


set_option maxRecDepth 100000 in
set_option maxHeartbeats 8000000 in
theorem up10 {StAt CAt : World → Nat → (Nat → Prop) → MS → Prop} (H : StoreC StAt) (I : IteC StAt CAt) (O : OperC StAt CAt) (w : World) : Calls Tryd.prog 4 #[] w fun e w' => e = .returned (.bool true) ∧ Below w.heap.size w w' := by
  go_enter Tryd.func4, Tryd.ntmps4
  go_wp2_with fail
  refine (H.new 5 w (by decide) (by decide)).mono ?_
  rintro e w1 ⟨b, rfl, ⟨F, hA, hF⟩, hb⟩
  rw [show (5 : Int).toNat = 5 from rfl] at hA
  go_wp2_with fail
  refine (I.new _).mono ?_
  rintro e w2 ⟨c, rfl, ⟨G, hC, hG⟩, hb2⟩
  have P := P1.start H hA hF hb (hC _ (MS.none_ok 5 (by decide))) hG hb2
  clear hA hF hb hC hG hb2
  have M := H.make P.a (MS.none_ok 5 (by decide)) 0 0 1 (by decide) (by decide)
  rw [up9_mk] at M
  dsimp only at M
  rw [errV0] at M
  go_wp2_with fail
  refine M.mono ?_
  rintro e w3 ⟨rfl, FF, hA2, hK, hW⟩
  have P2 := P.store I (MS.none_ok 5 (by decide)) s9a_ok (by have := ((MS.none_ok 5 (by decide))).mk_grows 0 0 1; rwa [up9_mk] at this) hA2 hK hW
  clear M P hA2 hK hW
  have M := O.not P2.a P2.k s9a_ok P2.ap 2 (by unfold I64; decide)
  rw [up9_not] at M
  go_wp2_with fail
  refine M.mono ?_
  rintro e w4 hp
  obtain ⟨rfl, F4, G4, P3⟩ := P2.callPost hp
  clear M hp P2
  dsimp only at P3
  rw [errV0]
  dsimp only
  have M := O.and P3.a P3.k s9b_ok P3.ap 2 3 (by unfold I64; decide) (by unfold I64; decide)
  rw [up10_and] at M
  go_wp2_with fail
  refine M.mono ?_
  rintro e w5 hp
  obtain ⟨rfl, F5, G5, P4⟩ := P3.callPost hp
  clear M hp P3
  dsimp only at P4
  rw [errV0]
  dsimp only
  have M := O.or P4.a P4.k s9b_ok P4.ap 2 3 (by unfold I64; decide) (by unfold I64; decide)
  rw [up10_or] at M
  go_wp2_with fail
  refine M.mono ?_
  rintro e w6 hp
  obtain ⟨rfl, F6, G6, P5⟩ := P4.callPost hp
  clear M hp P4
  dsimp only at P5
  rw [errV0]
  dsimp only
  have hbE := P5.below
  clear P5
  go_wp2
  go_ret
  exact ⟨by simp, hbE⟩


end Go.Proofs.YtclkckinpjkglaaDoor

/-
  OperSwaps over the contracts.
-/
namespace Go.Proofs.YtclkckinpjkglaaDoor
open Go Go.RowKit
attribute [local go_sem] run_eql_fv run_eql_fv1 run_neq_fv run_guard_fv run_guard_fv1 run_eql_fv2 run_guard_fv2 run_equal_fv2

set_option maxRecDepth 100000 in
set_option maxHeartbeats 8000000 in
theorem operSwaps' {StAt CAt : World → Nat → (Nat → Prop) → MS → Prop} (H : StoreC StAt) (R : ReadC StAt) (I : IteC StAt CAt) (O : OperC StAt CAt) (hUp : ∀ W, LowW W → Calls Tryd.prog 4 #[] W fun e w' => e = .returned (.bool true) ∧ Below W.heap.size W w')
    (f g : Fn) (w : World) (hL : LowW w) : Calls Tryd.prog 3 #[fv f, fv g] w fun e w' => e = .returned (.bool true) ∧ Below w.heap.size w w' := by
  simp only [fv]
  go_enter Tryd.func3, Tryd.ntmps3
  go_wp2_with fail
  have h0 : Holds ((w.alloc (.cells #[.int .u64 (wd f 0), .int .u64 (wd f 1), .int .u64 (wd f 2), .int .u64 (wd f 3)] 24)).alloc (.cells #[.int .u64 (wd g 0), .int .u64 (wd g 1), .int .u64 (wd g 2), .int .u64 (wd g 3)] 24)) w.heap.size f := (Holds.new _ _ _).alloc _
  have h1 : Holds ((w.alloc (.cells #[.int .u64 (wd f 0), .int .u64 (wd f 1), .int .u64 (wd f 2), .int .u64 (wd f 3)] 24)).alloc (.cells #[.int .u64 (wd g 0), .int .u64 (wd g 1), .int .u64 (wd g 2), .int .u64 (wd g 3)] 24)) (w.heap.size + 1) g := Holds.new _ _ _
  have hb : Below w.heap.size w ((w.alloc (.cells #[.int .u64 (wd f 0), .int .u64 (wd f 1), .int .u64 (wd f 2), .int .u64 (wd f 3)] 24)).alloc (.cells #[.int .u64 (wd g 0), .int .u64 (wd g 1), .int .u64 (wd g 2), .int .u64 (wd g 3)] 24)) := by go_grown
  generalize ((w.alloc (.cells #[.int .u64 (wd f 0), .int .u64 (wd f 1), .int .u64 (wd f 2), .int .u64 (wd f 3)] 24)).alloc (.cells #[.int .u64 (wd g 0), .int .u64 (wd g 1), .int .u64 (wd g 2), .int .u64 (wd g 3)] 24)) = W0 at *
  refine (hUp _ (hL.keep hb)).mono ?_
  rintro e W ⟨rfl, hb1⟩
  replace h0 := h0.keep hb1 h0.lt
  replace h1 := h1.keep hb1 h1.lt
  replace hb := hb.trans (hb1.mono hb.size)
  replace hL := hL.keep hb
  clear hb1 hUp
  go_wp2_with fail
  refine (H.new 1500 W (by decide) (by decide)).mono ?_
  rintro e W1 ⟨bA, rfl, ⟨F, hA, hF⟩, hb1⟩
  rw [show (1500 : Int).toNat = 1500 from rfl] at hA
  go_wp2_with fail
  refine (I.new _).mono ?_
  rintro e W2 ⟨c, rfl, ⟨G, hC, hG⟩, hb2⟩
  have X := MS.Fits.none 1500 (by decide)
  have P := P1.start H hA hF hb1 (hC _ X.ok) hG hb2
  clear hA hF hb1 hC hG hb2
  generalize MS.none 1500 = s at *
  obtain ⟨na, s1, hr, X2, E, Aa⟩ := X.bldAt f (by simp)
  have BA := R.build (hL.keep P.below) (fun k hk => Nat.lt_of_lt_of_le hL.pos (P.lowF k hk)) P.a X.ok f
  rw [hr] at BA
  dsimp only at BA
  simp only [fv, errV0] at BA
  obtain ⟨c0, c1, c2, c3⟩ := (h0.keep P.below h0.lt).cells
  go_wp2_with fail
  refine BA.mono ?_
  rintro e v1 ⟨rfl, F2, hA2, hK, hW⟩
  have P2 := P.store I X.ok X2.ok (MS.Grows.of_ext E X.ok X2.ok) hA2 hK hW
  clear BA P hA2 hK hW c0 c1 c2 c3 hr
  have P := P2
  clear P2
  clear X E
  have X := X2
  clear X2
  obtain ⟨nb, s2, hr, X2, E, Ab⟩ := X.bldAt g (by simp)
  have BA := R.build (hL.keep P.below) (fun k hk => Nat.lt_of_lt_of_le hL.pos (P.lowF k hk)) P.a X.ok g
  rw [hr] at BA
  dsimp only at BA
  simp only [fv, errV0] at BA
  obtain ⟨c0, c1, c2, c3⟩ := (h1.keep P.below h1.lt).cells
  go_wp2_with fail
  refine BA.mono ?_
  rintro e v2 ⟨rfl, F2, hA2, hK, hW⟩
  have P2 := P.store I X.ok X2.ok (MS.Grows.of_ext E X.ok X2.ok) hA2 hK hW
  clear BA P hA2 hK hW c0 c1 c2 c3 hr
  have P := P2
  clear P2
  replace Aa := Aa.ext E X.ok X2.ok
  clear X E
  have X := X2
  clear X2
  obtain ⟨ma, t3, hr, X2, E, Ama⟩ := X.iteAt Aa (MS.at0 _) (MS.at1 _) (by simp) _ (iteF_not f)
  have M := O.not P.a P.k X.ok P.ap na (Aa.i64 X.ok)
  rw [hr] at M
  go_wp2_with fail
  refine M.mono ?_
  rintro e v3 hp
  obtain ⟨rfl, F2, G2, P2⟩ := P.callPost hp
  clear M hp P hr
  have P := P2
  clear P2
  dsimp only at P
  simp only [errV0]
  replace Aa := Aa.ext E X.ok X2.ok
  replace Ab := Ab.ext E X.ok X2.ok
  clear X E
  have X := X2
  clear X2
  obtain ⟨mb, t4, hr, X2, E, Amb⟩ := X.iteAt Ab (MS.at0 _) (MS.at1 _) (by simp) _ (iteF_not g)
  have M := O.not P.a P.k X.ok P.ap nb (Ab.i64 X.ok)
  rw [hr] at M
  go_wp2_with fail
  refine M.mono ?_
  rintro e v4 hp
  obtain ⟨rfl, F2, G2, P2⟩ := P.callPost hp
  clear M hp P hr
  have P := P2
  clear P2
  dsimp only at P
  simp only [errV0]
  replace Aa := Aa.ext E X.ok X2.ok
  replace Ab := Ab.ext E X.ok X2.ok
  replace Ama := Ama.ext E X.ok X2.ok
  clear X E
  have X := X2
  clear X2
  have hr := Aa.same X.ok Ama (MS.at0 _) (MS.at1 _) (iteF_not2 f)
  have M := O.not P.a P.k X.ok P.ap ma (Ama.i64 X.ok)
  rw [hr] at M
  go_wp2_with fail
  refine M.mono ?_
  rintro e v5 hp
  obtain ⟨rfl, F2, G2, P2⟩ := P.callPost hp
  clear M hp P hr
  have P := P2
  clear P2
  dsimp only at P
  simp only [errV0]
  obtain ⟨nn, t6, hr, X2, E, Ann⟩ := X.iteAt Aa Ab (MS.at0 _) (by simp) _ (iteF_and f g)
  have M := O.and P.a P.k X.ok P.ap na nb (Aa.i64 X.ok) (Ab.i64 X.ok)
  rw [hr] at M
  go_wp2_with fail
  refine M.mono ?_
  rintro e v6 hp
  obtain ⟨rfl, F2, G2, P2⟩ := P.callPost hp
  clear M hp P hr
  have P := P2
  clear P2
  dsimp only at P
  simp only [errV0]
  replace Aa := Aa.ext E X.ok X2.ok
  replace Ab := Ab.ext E X.ok X2.ok
  replace Ama := Ama.ext E X.ok X2.ok
  replace Amb := Amb.ext E X.ok X2.ok
  clear X E
  have X := X2
  clear X2
  obtain ⟨no, t7, hr, X2, E, Ano⟩ := X.iteAt Aa (MS.at1 _) Ab (by simp) _ (iteF_or f g)
  have M := O.or P.a P.k X.ok P.ap na nb (Aa.i64 X.ok) (Ab.i64 X.ok)
  rw [hr] at M
  go_wp2_with fail
  refine M.mono ?_
  rintro e v7 hp
  obtain ⟨rfl, F2, G2, P2⟩ := P.callPost hp
  clear M hp P hr
  have P := P2
  clear P2
  dsimp only at P
  simp only [errV0]
  replace Aa := Aa.ext E X.ok X2.ok
  replace Ab := Ab.ext E X.ok X2.ok
  replace Ama := Ama.ext E X.ok X2.ok
  replace Amb := Amb.ext E X.ok X2.ok
  replace Ann := Ann.ext E X.ok X2.ok
  clear X E
  have X := X2
  clear X2
  obtain ⟨nx, tx, hr0, X2, E, Anx⟩ := X.iteAt Aa Amb Ab (by simp) _ (iteF_xor f g)
  have hr := Aa.xor Ab X.ok Amb (iteF_not g) hr0
  clear hr0
  have M := O.xor P.a P.k X.ok P.ap na nb (Aa.i64 X.ok) (Ab.i64 X.ok)
  rw [hr] at M
  go_wp2_with fail
  refine M.mono ?_
  rintro e v8 hp
  obtain ⟨rfl, F2, G2, P2⟩ := P.callPost hp
  clear M hp P hr
  have P := P2
  clear P2
  dsimp only at P
  simp only [errV0]
  replace Aa := Aa.ext E X.ok X2.ok
  replace Ab := Ab.ext E X.ok X2.ok
  replace Ama := Ama.ext E X.ok X2.ok
  replace Amb := Amb.ext E X.ok X2.ok
  replace Ann := Ann.ext E X.ok X2.ok
  replace Ano := Ano.ext E X.ok X2.ok
  clear X E
  have X := X2
  clear X2
  have hr := Ann.same X.ok Ab Aa (MS.at0 _) (iteF_and2 f g)
  have M := O.and P.a P.k X.ok P.ap nb na (Ab.i64 X.ok) (Aa.i64 X.ok)
  rw [hr] at M
  go_wp2_with fail
  refine M.mono ?_
  rintro e v9 hp
  obtain ⟨rfl, F2, G2, P2⟩ := P.callPost hp
  clear M hp P hr
  have P := P2
  clear P2
  dsimp only at P
  simp only [errV0]
  have hr := Ano.same X.ok Ab (MS.at1 _) Aa (iteF_or2 f g)
  have M := O.or P.a P.k X.ok P.ap nb na (Ab.i64 X.ok) (Aa.i64 X.ok)
  rw [hr] at M
  go_wp2_with fail
  refine M.mono ?_
  rintro e v10 hp
  obtain ⟨rfl, F2, G2, P2⟩ := P.callPost hp
  clear M hp P hr
  have P := P2
  clear P2
  dsimp only at P
  simp only [errV0]
  have hr := Ab.xor Aa X.ok Ama (iteF_not f) (Anx.same X.ok Ab Ama Aa (iteF_xor2 f g))
  have M := O.xor P.a P.k X.ok P.ap nb na (Ab.i64 X.ok) (Aa.i64 X.ok)
  rw [hr] at M
  go_wp2_with fail
  refine M.mono ?_
  rintro e v11 hp
  obtain ⟨rfl, F2, G2, P2⟩ := P.callPost hp
  clear M hp P hr
  have P := P2
  clear P2
  dsimp only at P
  simp only [errV0]
  obtain ⟨nt, t12, hr, X2, E, Ant⟩ := X.iteAt Ama (MS.at1 _) Amb (by simp) _ (iteF_nand f g)
  have M := O.or P.a P.k X.ok P.ap ma mb (Ama.i64 X.ok) (Amb.i64 X.ok)
  rw [hr] at M
  go_wp2_with fail
  refine M.mono ?_
  rintro e v12 hp
  obtain ⟨rfl, F2, G2, P2⟩ := P.callPost hp
  clear M hp P hr
  have P := P2
  clear P2
  dsimp only at P
  simp only [errV0]
  replace Aa := Aa.ext E X.ok X2.ok
  replace Ab := Ab.ext E X.ok X2.ok
  replace Ama := Ama.ext E X.ok X2.ok
  replace Amb := Amb.ext E X.ok X2.ok
  replace Ann := Ann.ext E X.ok X2.ok
  replace Ano := Ano.ext E X.ok X2.ok
  replace Anx := Anx.ext E X.ok X2.ok
  clear X E
  have X := X2
  clear X2
  have hr := Ant.same X.ok Ann (MS.at0 _) (MS.at1 _) (iteF_not (f &&& g))
  have M := O.not P.a P.k X.ok P.ap nn (Ann.i64 X.ok)
  rw [hr] at M
  go_wp2_with fail
  refine M.mono ?_
  rintro e v13 hp
  obtain ⟨rfl, F2, G2, P2⟩ := P.callPost hp
  clear M hp P hr
  have P := P2
  clear P2
  dsimp only at P
  simp only [errV0]
  have hr := Aa.xor Aa X.ok Ama (iteF_not f) ((MS.at0 _).same X.ok Aa Ama Aa (iteF_self f))
  have M := O.xor P.a P.k X.ok P.ap na na (Aa.i64 X.ok) (Aa.i64 X.ok)
  rw [hr] at M
  go_wp2_with fail
  refine M.mono ?_
  rintro e v14 hp
  obtain ⟨rfl, F2, G2, P2⟩ := P.callPost hp
  clear M hp P hr
  have P := P2
  clear P2
  dsimp only at P
  simp only [errV0]
  have hr := Aa.same X.ok Aa Ano (MS.at0 _) (iteF_in f g)
  have M := O.and P.a P.k X.ok P.ap na no (Aa.i64 X.ok) (Ano.i64 X.ok)
  rw [hr] at M
  go_wp2_with fail
  refine M.mono ?_
  rintro e v15 hp
  obtain ⟨rfl, F2, G2, P2⟩ := P.callPost hp
  clear M hp P hr
  have P := P2
  clear P2
  dsimp only at P
  simp only [errV0]
  have q1 := beq_self_eq_true na
  have q2 := beq_self_eq_true nn
  have q3 := beq_self_eq_true no
  have q4 := beq_self_eq_true nx
  have q5 := beq_self_eq_true nt
  have hbX := hb.trans (P.below.mono hb.size)
  replace P := Lib.hid P
  go_wp2_with fail
  have D1 := fun u : Sub v15 => R.table (hL.keep (P.out.below.trans (u.2.mono P.out.below.size))) (H.sub P.out.a u) X.ok nn (Ann.i64 X.ok)
  have D2 := fun u : Sub v15 => R.table (hL.keep (P.out.below.trans (u.2.mono P.out.below.size))) (H.sub P.out.a u) X.ok no (Ano.i64 X.ok)
  have D3 := fun u : Sub v15 => R.table (hL.keep (P.out.below.trans (u.2.mono P.out.below.size))) (H.sub P.out.a u) X.ok nx (Anx.i64 X.ok)
  have D4 := fun u : Sub v15 => R.table (hL.keep (P.out.below.trans (u.2.mono P.out.below.size))) (H.sub P.out.a u) X.ok ma (Ama.i64 X.ok)
  rw [Ann.2] at D1
  rw [Ano.2] at D2
  rw [Anx.2] at D3
  rw [Ama.2] at D4
  have E1 := fun u : Sub v15 => refAnd f g u.1
  have E2 := fun u : Sub v15 => refOr f g u.1
  have E3 := fun u : Sub v15 => refXor f g u.1
  have E4 := fun u : Sub v15 => refNot f u.1
  have q6 := beq_self_eq_true (f &&& g)
  have q7 := beq_self_eq_true (f ||| g)
  have q8 := beq_self_eq_true (f ^^^ g)
  have q9 := beq_self_eq_true (~~~f)
  generalize (f &&& g) = x1 at *
  generalize (f ||| g) = x2 at *
  generalize (f ^^^ g) = x3 at *
  generalize hx4 : (~~~f) = x4 at D4 E4 q9
  simp only [fv] at E1 E2 E3 E4
  have y0 := fun u : Sub v15 => ((h0.keep P.out.below h0.lt).sub u).cells.1
  have y1 := fun u : Sub v15 => ((h0.keep P.out.below h0.lt).sub u).cells.2.1
  have y2 := fun u : Sub v15 => ((h0.keep P.out.below h0.lt).sub u).cells.2.2.1
  have y3 := fun u : Sub v15 => ((h0.keep P.out.below h0.lt).sub u).cells.2.2.2
  have z0 := fun u : Sub v15 => ((h1.keep P.out.below h1.lt).sub u).cells.1
  have z1 := fun u : Sub v15 => ((h1.keep P.out.below h1.lt).sub u).cells.2.1
  have z2 := fun u : Sub v15 => ((h1.keep P.out.below h1.lt).sub u).cells.2.2.1
  have z3 := fun u : Sub v15 => ((h1.keep P.out.below h1.lt).sub u).cells.2.2.2
  clear P X Aa Ab Ama Amb Ann Ano Anx Ant h0 h1 hb hx4
  refine wp_region_quiet_all (C := fun w' => ∃ u : Sub v15, w' = u.1) (by kernel_rfl) (by kernel_rfl) (InSub.drew v15) ?_
  iterate 4 (go_big_quiet_step (fail))
  go_big_quiet_step (exact sub_below (D1 _))
  iterate 2 (go_big_quiet_step (fail))
  go_big_quiet_step (exact sub_below (E1 _))
  iterate 5 (go_big_quiet_step (fail))
  go_big_quiet_step (exact sub_below (D2 _))
  iterate 2 (go_big_quiet_step (fail))
  go_big_quiet_step (exact sub_below (E2 _))
  iterate 5 (go_big_quiet_step (fail))
  go_big_quiet_step (exact sub_below (D3 _))
  iterate 2 (go_big_quiet_step (fail))
  go_big_quiet_step (exact sub_below (E3 _))
  iterate 5 (go_big_quiet_step (fail))
  go_big_quiet_step (exact sub_below (D4 _))
  go_big_quiet_step (fail)
  go_big_quiet_step (exact sub_below (E4 _))
  iterate 3 (go_big_quiet_step (fail))
  refine wpQuiet_nil ?_
  clear D1 D2 D3 D4 E1 E2 E3 E4 y0 y1 y2 y3 z0 z1 z2 z3
  intro w' hw'
  obtain ⟨u, rfl⟩ := hw'
  replace hbX := hbX.trans (u.2.mono hbX.size)
  generalize u.1 = X4 at *
  go_wp2
  go_ret
  exact ⟨by simp, hbX⟩

end Go.Proofs.YtclkckinpjkglaaDoor
