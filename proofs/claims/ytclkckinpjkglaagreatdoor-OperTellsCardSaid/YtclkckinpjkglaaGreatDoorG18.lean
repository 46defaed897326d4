/-
  Texts of this proof, one behind the other: IteC, AskK, IteW, Up9M, IteX.
-/
import Derived.Test.YtclkckinpjkglaaGreatDoorG16
import Derived.Test.YtclkckinpjkglaaGreatDoorG8
import Derived.Test.YtclkckinpjkglaaGreatDoorG17
import Derived.DeepKeys4
import Derived.Maps.OwnSet
import Derived.Test.YtclkckinpjkglaaGreatDoorG6
import Derived.Test.YtclkckinpjkglaaGreatDoorG1
import Derived.KernelRfl
import Derived.Test.YtclkckinpjkglaaGreatDoorG5
/-
  What is asked of the code's packages ite, oper, quant, whatever they are; both stores and a cache side by side.
-/
namespace Go.Proofs.YtclkckinpjkglaaGreatDoor
open Go Go.RowKit

/-- What a call that makes nodes by a cache comes to: the number, the error, the store; store and cache stay apart. -/
def CallPost (StAt CAt : World → Nat → (Nat → Prop) → MS → Prop) (w : World) (b c : Nat) (F G : Nat → Prop) (r : Int × Int × MS) (e : Ending) (w' : World) : Prop :=
  e = .returned (.tuple #[.int .i64 r.1, errV r.2.1]) ∧ ∃ F' G', StAt w' b F' r.2.2 ∧ CAt w' c G' r.2.2 ∧ (∀ k, F' k → ¬ G' k) ∧ Keeps (fun k => F k ∨ G k) w w' ∧ Within w (fun k => F k ∨ G k) F' ∧ Within w (fun k => F k ∨ G k) G'

/-- A number of the language. -/
def I64 (n : Int) : Prop := n ≤ 9223372036854775807 ∧ -9223372036854775808 ≤ n

/-- Each call of package ite. -/
structure IteC (StAt CAt : World → Nat → (Nat → Prop) → MS → Prop) : Prop where ofAll ::
  lt : ∀ {w c F s}, CAt w c F s → ∀ k, F k → k < w.heap.size
  keep : ∀ {w w' c F s} {G : Nat → Prop}, CAt w c F s → Keeps G w w' → (∀ k, F k → ¬ G k) → CAt w' c F s
  grows : ∀ {w c F s t}, CAt w c F s → s.Ok → t.Ok → MS.Grows s t → CAt w c F t
  new : ∀ (w : World), Calls Tryz.prog 6 #[] w fun e w' => ∃ c, e = .returned (.pointer (some ⟨c, 0, none⟩)) ∧ (∃ F, (∀ s : MS, s.Ok → CAt w' c F s) ∧ ∀ k, F k → w.heap.size ≤ k) ∧ Below w.heap.size w w'
  ite : ∀ {w b c F G s}, StAt w b F s → CAt w c G s → s.Ok → (∀ k, F k → ¬ G k) → ∀ f g h : Int, I64 f → I64 g → I64 h → Calls Tryz.prog 25 #[.pointer (some ⟨c, 0, none⟩), .pointer (some ⟨b, 0, none⟩), .int .i64 f, .int .i64 g, .int .i64 h] w (CallPost StAt CAt w b c F G (s.ite f g h))

/-- Both stores, and the code's cache, apart from each other and from all that stood in w0. -/
structure P3 (StAt CAt : World → Nat → (Nat → Prop) → MS → Prop) (w0 : World) (bA bM bC : Nat) (FA FM FC : Nat → Prop) (s : MS) (W : World) : Prop where
  p : P2 StAt w0 bA bM FA FM s s W
  c : CAt W bC FC s
  apA : ∀ k, FA k → ¬ FC k
  apM : ∀ k, FM k → ¬ FC k
  lowC : ∀ k, FC k → w0.heap.size ≤ k

section
variable {StAt CAt : World → Nat → (Nat → Prop) → MS → Prop} {w0 W W' : World} {bA bM bC : Nat} {FA FM FC FA' FM' FC' : Nat → Prop} {s t : MS}

theorem P3.keep (H : StoreC StAt) (I : IteC StAt CAt) (h : P3 StAt CAt w0 bA bM bC FA FM FC s W) (hb : Below W.heap.size W W') : P3 StAt CAt w0 bA bM bC FA FM FC s W' :=
  ⟨h.p.keep H hb, I.keep h.c (Keeps.of_below hb noBlock) (fun _ _ h => h), h.apA, h.apM, h.lowC⟩
/-- Both stores have gone on, the code's first. -/
theorem P3.stores (H : StoreC StAt) (I : IteC StAt CAt) (h : P3 StAt CAt w0 bA bM bC FA FM FC s W) (ok : s.Ok) (ok' : t.Ok) (hg : MS.Grows s t) {W1 : World} (hA : StAt W1 bA FA' t) (hK : Keeps FA W W1) (hW : Within W FA FA') :
    P2 StAt w0 bA bM FA' FM t s W1 ∧ CAt W1 bC FC t ∧ (∀ k, FA' k → ¬ FC k) := by
  refine ⟨h.p.code H hA hK hW, I.grows (I.keep h.c hK fun k h1 h2 => h.apA k h2 h1) ok ok' hg, fun k h1 h2 => ?_⟩
  exact (hW k h1).elim (fun h3 => h.apA k h3 h2) (fun h3 => by have := I.lt h.c k h2; omega)
theorem P3.model (H : StoreC StAt) (I : IteC StAt CAt) {W1 : World} (p : P2 StAt w0 bA bM FA' FM t s W1) (c : CAt W1 bC FC' t) (apA : ∀ k, FA' k → ¬ FC' k) (apM : ∀ k, FM k → ¬ FC' k) (lowC : ∀ k, FC' k → w0.heap.size ≤ k) (hM : RefSAt W' bM FM' t) (hK : Keeps FM W1 W') (hW : Within W1 FM FM') :
    P3 StAt CAt w0 bA bM bC FA' FM' FC' t W' :=
  ⟨p.ref H hM hK hW, I.keep c hK fun k h1 h2 => apM k h2 h1, apA, fun k h1 h2 => (hW k h1).elim (fun h3 => apM k h3 h2) (fun h3 => by have := I.lt c k h2; omega), lowC⟩
/-- The code's store and cache have gone on. -/
theorem P3.call (_H : StoreC StAt) (_I : IteC StAt CAt) (h : P3 StAt CAt w0 bA bM bC FA FM FC s W) {W1 : World} (hA : StAt W1 bA FA' t) (hK : Keeps (fun k => FA k ∨ FC k) W W1) (hA' : Within W (fun k => FA k ∨ FC k) FA') (hC' : Within W (fun k => FA k ∨ FC k) FC') :
    P2 StAt w0 bA bM FA' FM t s W1 ∧ (∀ k, FM k → ¬ FC' k) ∧ (∀ k, FC' k → w0.heap.size ≤ k) := by
  have hlow : ∀ k, (FA k ∨ FC k) → w0.heap.size ≤ k := fun k hk => hk.elim (h.p.lowA k) (h.lowC k)
  refine ⟨⟨hA, h.p.m.keep hK fun k h1 h2 => h2.elim (fun h3 => h.p.apart k h3 h1) (fun h3 => h.apM k h1 h3), fun k h1 h2 => ?_, fun k h1 => ?_, h.p.lowM, h.p.below.trans (hK.below h.p.below.size hlow)⟩, fun k h1 h2 => ?_, fun k h1 => ?_⟩
  · rcases hA' k h1 with (h3 | h3) | h3
    · exact h.p.apart k h3 h2
    · exact h.apM k h2 h3
    · have := h.p.m.lt k h2; omega
  · exact (hA' k h1).elim (hlow k) (fun h3 => Nat.le_trans h.p.below.size h3)
  · rcases hC' k h2 with (h3 | h3) | h3
    · exact h.p.apart k h3 h1
    · exact h.apM k h1 h3
    · have := h.p.m.lt k h1; omega
  · exact (hC' k h1).elim (hlow k) (fun h3 => Nat.le_trans h.p.below.size h3)
/-- The cache alone has turned. -/
theorem P3.flushed (H : StoreC StAt) (_I : IteC StAt CAt) (h : P3 StAt CAt w0 bA bM bC FA FM FC s W) (hC : CAt W' bC FC' s) (hK : Keeps FC W W') (hW : Within W FC FC') : P3 StAt CAt w0 bA bM bC FA FM FC' s W' :=
  ⟨⟨H.keep h.p.a hK (fun k h1 h2 => h.apA k h1 h2), h.p.m.keep hK (fun k h1 h2 => h.apM k h1 h2), h.p.apart, h.p.lowA, h.p.lowM, h.p.below.trans (hK.below h.p.below.size h.lowC)⟩, hC,
    fun k h1 h2 => (hW k h2).elim (h.apA k h1) (fun h3 => by have := H.lt h.p.a k h1; omega), fun k h1 h2 => (hW k h2).elim (h.apM k h1) (fun h3 => by have := h.p.m.lt k h1; omega), fun k h1 => (hW k h1).elim (h.lowC k) (fun h3 => Nat.le_trans h.p.below.size h3)⟩
end

end Go.Proofs.YtclkckinpjkglaaGreatDoor

/-
  A cache's map: its keys are three numbers, its elements numbers; what it holds, as a function.
-/
namespace Go.Proofs.YtclkckinpjkglaaGreatDoor
open Go Go.RowKit Go.Maps Go.MapKept Go.ChangeMaps

theorem Tryz.laidK : laidOutB Tryz.prog = true := by kernel_rfl
theorem Tryz.rowK : 108 < Tryz.prog.types.size := of_decide_eq_true (by kernel_rfl)
theorem Tryz.keyK : Keyed Tryz.prog 108 :=
  Keyed.of_law (deep_law_laid Tryz.laidK (m := 4) (by decide) Tryz.rowK (by kernel_rfl) (by kernel_rfl))
theorem Tryz.keyTypeK : Tryz.prog.keyType 108 = true := by kernel_rfl
theorem Tryz.cellsOfK : Tryz.prog.cellsOf 108 = 3 := by kernel_rfl
theorem Tryz.cellsOfI : Tryz.prog.cellsOf 3 = 1 := by kernel_rfl

/-- Three numbers, as the program holds them. -/
def askV (f g h : Int) : Value := .agg #[.int .i64 f, .int .i64 g, .int .i64 h]
theorem I64.wf {n : Int} (h : I64 n) : (Lit.int .i64 n).wf = true := by
  obtain ⟨h1, h2⟩ := h
  simp [Lit.wf, IntKind.min, IntKind.max, IntKind.signed, IntKind.bits]
  omega
/-- Three numbers of the language. -/
abbrev Ask := { a : Int × Int × Int // I64 a.1 ∧ I64 a.2.1 ∧ I64 a.2.2 }
def Ask.of {f g h : Int} (hf : I64 f) (hg : I64 g) (hh : I64 h) : Ask := ⟨(f, g, h), hf, hg, hh⟩

theorem key_ask (a : Ask) : ∃ l, keyOf Tryz.prog 108 (askV a.1.1 a.1.2.1 a.1.2.2) = some l := by
  obtain ⟨d, hd⟩ : ∃ d, Tryz.prog.types.size + 1 = d + 1 + 1 := ⟨Tryz.prog.types.size - 1, by have := Tryz.rowK; omega⟩
  obtain ⟨⟨f, g, h⟩, hf, hg, hh⟩ := a
  unfold keyOf
  rw [Tryz.underlying108]
  have hfo : (askV f g h).formed Tryz.prog 108 = true := by
    unfold askV Value.formed
    simp only [Tryz.underlying108, Tryz.cellsOfK]
    rfl
  dsimp only at hf hg hh ⊢
  simp only [Tryz.keyTypeK, hfo, Bool.and_self, if_true]
  rw [hd]
  unfold askV
  simp [Program.keyLits, Value.cells, Tryz.underlying108, Tryz.underlying3, Tryz.cellsOfK, Tryz.cellsOfI, hf.wf, hg.wf, hh.wf]

/-- Three numbers as keys. -/
noncomputable def encA : KeyEnc Tryz.prog 108 Ask where
  val a := askV a.1.1 a.1.2.1 a.1.2.2
  lit a := (key_ask a).choose
  key a := (key_ask a).choose_spec
  inj a b h := by
    obtain ⟨⟨f, g, k⟩, _⟩ := a
    obtain ⟨⟨f', g', k'⟩, _⟩ := b
    unfold askV at h
    simp only [Value.agg.injEq, Array.mk.injEq, List.cons.injEq, Value.int.injEq, true_and, and_true] at h
    obtain ⟨rfl, rfl, rfl⟩ := h
    rfl
  law := Tryz.keyK

theorem zeroIK (w : World) : (zeroValue 3).run Tryz.prog w = .ok (.int .i64 0) w := by kernel_rfl

/-- Block b is a map of n entries that holds m. -/
def KMap (w : World) (b n : Nat) (m : Ask → Option Int) : Prop :=
  ∃ D : DataW Unit, w.ownsMap Tryz.prog 108 (plainElem Tryz.prog 3) b n D ∧ Maps.size D = n ∧ (∀ a, has D (encA.lit a) = (m a).isSome) ∧ ∀ a x, m a = some x → D.atKey (encA.lit a) (.lit (.int .i64 0)) = .lit (.int .i64 x)

theorem ownsMap_exact {H : Type} {P : Program} {k : TypeId} {R : Value → Option (DataW H × List MemPlace)} {w : World} {b n : Nat} {D : DataW H} (h : w.ownsMap P k R b n D) : w.ownsMap P k R b (Maps.size D) D := by
  obtain ⟨es, clock, hb, F, _, rfl⟩ := h
  exact ⟨es, clock, hb, F, by simp [Maps.size, length_sorted], rfl⟩

section
variable {w w' : World} {b n : Nat} {m : Ask → Option Int}
theorem KMap.made (w : World) : KMap (w.alloc (.map #[] 0)) w.heap.size 0 (fun _ => none) :=
  ⟨.map [], World.ownsMap_made _ _ _ _, rfl, fun _ => rfl, fun _ _ h => by cases h⟩
theorem KMap.block (h : KMap w b n m) (hb : w'.heap[b]? = w.heap[b]?) : KMap w' b n m := by
  obtain ⟨D, ⟨es, clock, h1, h2, h3, h4⟩, r⟩ := h
  exact ⟨D, ⟨es, clock, hb.trans h1, h2, h3, h4⟩, r⟩
theorem KMap.lt (h : KMap w b n m) : b < w.heap.size := by obtain ⟨D, ho, _⟩ := h; exact ho.lt
/-- len(m). -/
theorem KMap.len (h : KMap w b n m) (ty : TypeId) : (Builtin.len_ #[58] ty #[.map (some b)]).run Tryz.prog w = .ok (.int .i64 n) w := by
  obtain ⟨D, ho, hs, _⟩ := h
  rw [ho.len Tryz.underlying58 ty, hs]
/-- x, ok := m[a]. -/
theorem KMap.look (h : KMap w b n m) {f g k : Int} (hf : I64 f) (hg : I64 g) (hk : I64 k) :
    (Instr.lookup 58 (.map (some b)) (askV f g k) true).run Tryz.prog w = .ok (.tuple #[.int .i64 ((m (Ask.of hf hg hk)).getD 0), .bool (m (Ask.of hf hg hk)).isSome]) w := by
  obtain ⟨D, ⟨es, clock, hb, F, _, rfl⟩, _, hh, ha⟩ := h
  have hkey := encA.key (Ask.of hf hg hk)
  have h1 := hh (Ask.of hf hg hk)
  have h2 := ha (Ask.of hf hg hk)
  generalize m (Ask.of hf hg hk) = o at *
  rcases Maps.fit_look true Tryz.keyK Tryz.underlying58 (zeroIK w) hb F hkey with ⟨hrun, _, hat⟩ | ⟨e0, y, _, _, hrun, hR, hat, _⟩
  · rw [has_false_of_atKey hat] at h1
    cases o with
    | some x => cases h1
    | none => exact hrun
  · rw [has_true_of_atKey hat] at h1
    cases o with
    | none => cases h1
    | some x =>
      have h3 := h2 x rfl
      rw [hat] at h3
      obtain ⟨c, hc, hy, _⟩ := plainElem_int_inv Tryz.underlying3 hR
      rw [hy] at h3
      simp only [DataW.lit.injEq, Lit.int.injEq, true_and] at h3
      subst h3
      rw [hc] at hrun
      exact hrun
/-- m[a] = x. -/
theorem KMap.put {ops : Array Oper} {rest : List Oper} {o : Oper} {A : Act} {Q : Exit → Act → World → Prop}
    (h : KMap w b n m) (hn : n < maxLen) (hg0 : o.guard = none) (x y v : Operand) (hop : o.op = Op.mapUpdate 58 x y v)
    {f g k c : Int} (hf : I64 f) (hg : I64 g) (hk : I64 k) (hc : I64 c) (hx : A.eval x = .map (some b)) (hy : A.eval y = askV f g k) (hv : A.eval v = .int .i64 c)
    (hK : ∀ w' n', n' ≤ n + 1 → KMap w' b n' (fun z => if z = Ask.of hf hg hk then some c else m z) → w.grownBy w' (some b) → wpList Tryz.prog ops Q rest (A.put o.dst undef) w') : wpList Tryz.prog ops Q (o :: rest) A w := by
  obtain ⟨D, ho, hs, hh, ha⟩ := h
  have hm := ho.isMap
  have htd := ho.tidy Tryz.keyK
  refine wpList_mapUpdate_own w hg0 x y v _ hop _ _ Tryz.keyK Tryz.underlying58 _ b _ D hx ho hn _ _ _ hy hv (encA.key (Ask.of hf hg hk)) _ [] (plainElem_int Tryz.underlying3 hc.wf) ?_
  intro w' ho' hgr
  have hsz := size_put htd (k := encA.lit (Ask.of hf hg hk)) (.lit (.int .i64 c))
  refine hK w' (Maps.size (D.put (encA.lit (Ask.of hf hg hk)) (.lit (.int .i64 c)))) (by rw [hsz]; split <;> omega) ⟨_, ownsMap_exact ho', rfl, fun z => ?_, fun z x => ?_⟩ hgr
  · by_cases hz : z = Ask.of hf hg hk
    · subst hz
      rw [has_put_same hm (Tryz.keyK.key (encA.key _))]
      simp
    · rw [has_put_other (fun h => hz (encA.lit_inj h)), hh z]
      simp [hz]
  · by_cases hz : z = Ask.of hf hg hk
    · subst hz
      rw [atKey_put_same hm (Tryz.keyK.key (encA.key _))]
      simp
    · rw [atKey_put_other (fun h => hz (encA.lit_inj h))]
      simp only [hz, if_false]
      exact ha z x
/-- clear(m). -/
theorem KMap.clear (h : KMap w b n m) : ∃ w', (∀ ty, (Builtin.clear_ #[58] ty #[.map (some b)]).run Tryz.prog w = .ok (.tuple #[]) w') ∧ KMap w' b 0 (fun _ => none) ∧ w.grownBy w' (some b) := by
  obtain ⟨D, ⟨es, clock, hb, F, _, rfl⟩, _⟩ := h
  refine ⟨setBlock w b (.map #[] clock), fun ty => ?_, ⟨.map [], ⟨#[], clock, heap_setBlock_same hb _, ⟨by simp, stamped_empty clock, by simp⟩, Nat.le_refl _, rfl⟩, rfl, fun _ => rfl, fun _ _ h => by cases h⟩, ⟨rfl, rfl, rfl, by simp [setBlock], fun i _ hi => heap_setBlock_other hb _ (fun e => hi (by rw [e]))⟩⟩
  simp [Builtin.clear_, run_underlying Tryz.underlying58, MapKept.run_getObj_map hb, run_setObj_map _ hb, Result.andThen, setBlock]
end

end Go.Proofs.YtclkckinpjkglaaGreatDoor

/-
  Walks of package ite over the store's contracts: isThere, isOf, set, has, top, where, atOnce.
-/
namespace Go.Proofs.YtclkckinpjkglaaGreatDoor
open Go Go.RowKit

/-- Block b is a variable that holds three numbers. -/
def HoldsK (w : World) (b : Nat) (f g h : Int) : Prop := w.heap[b]? = some (.cells #[.int .i64 f, .int .i64 g, .int .i64 h] 108 (0, 0))
section
variable {w w' : World} {b : Nat} {f g h : Int}
theorem HoldsK.lt (H : HoldsK w b f g h) : b < w.heap.size := (Array.getElem?_eq_some_iff.1 H).1
theorem HoldsK.keep {F : Nat → Prop} (H : HoldsK w b f g h) (hb : Keeps F w w') (hF : ¬ F b) : HoldsK w' b f g h := (hb.block b H.lt hF).trans H
theorem HoldsK.below (H : HoldsK w b f g h) (hb : Below w.heap.size w w') : HoldsK w' b f g h := (hb.block b H.lt).trans H
theorem HoldsK.sub (H : HoldsK w b f g h) (u : Sub w) : HoldsK u.1 b f g h := H.below u.2
theorem HoldsK.cells (H : HoldsK w b f g h) : w.cell? ⟨b, 0, none⟩ = some (.int .i64 f) ∧ w.cell? ⟨b, 1, none⟩ = some (.int .i64 g) ∧ w.cell? ⟨b, 2, none⟩ = some (.int .i64 h) :=
  ⟨by rw [cell_of_row _ _ _ _ _ _ H]; rfl, by rw [cell_of_row _ _ _ _ _ _ H]; rfl, by rw [cell_of_row _ _ _ _ _ _ H]; rfl⟩
theorem HoldsK.free (H : HoldsK w b f g h) : w.frozen? ⟨b, 0, none⟩ = false ∧ w.frozen? ⟨b, 1, none⟩ = false ∧ w.frozen? ⟨b, 2, none⟩ = false :=
  ⟨frozen_of_row _ _ _ _ _ H, frozen_of_row _ _ _ _ _ H, frozen_of_row _ _ _ _ _ H⟩
theorem HoldsK.set3 (H : HoldsK w b f g h) (x y z : Int) : HoldsK (((w.setCell ⟨b, 0, none⟩ (.int .i64 x)).setCell ⟨b, 1, none⟩ (.int .i64 y)).setCell ⟨b, 2, none⟩ (.int .i64 z)) b x y z :=
  heap_setCell_same _ _ _ _ _ _ (heap_setCell_same _ _ _ _ _ _ (heap_setCell_same _ _ _ _ _ _ H))
theorem below_set3 {B c : Nat} {a w : World} {x0 x1 x2 : Value} (h : Below B a w) (hb : B ≤ c) : Below B a (((w.setCell ⟨c, 0, none⟩ x0).setCell ⟨c, 1, none⟩ x1).setCell ⟨c, 2, none⟩ x2) :=
  ((h.setCell hb _).setCell hb _).setCell hb _
theorem ret_holdsK {fn : Func} {p : Tmp} {tmps : Array Value} (h0 : fn.results = #[.cell p 108]) (hp : tmps.getD p undef = .pointer (some ⟨b, 0, none⟩)) (hh : HoldsK w b f g h) :
    (results fn tmps).run Tryz.prog w = .ok (askV f g h) w :=
  results_cell_row h0 tmps w b _ _ _ _ hp hh Tryz.underlying108 rfl (by kernel_rfl)
theorem HoldsK.new (w : World) (f g h : Int) : HoldsK (w.alloc (.cells #[.int .i64 f, .int .i64 g, .int .i64 h] 108)) w.heap.size f g h := heap_alloc_new _ _
end

section
variable {StAt : World → Nat → (Nat → Prop) → MS → Prop} {w : World} {b : Nat} {F : Nat → Prop} {s : MS}

set_option maxRecDepth 100000 in
set_option maxHeartbeats 2000000 in
theorem iteIsThere (H : StoreC StAt) (h : StAt w b F s) (ok : s.Ok) (n : Int) (hn : I64 n) :
    Calls Tryz.prog 61 #[.pointer (some ⟨b, 0, none⟩), .int .i64 n] w fun e w' => e = .returned (.bool (s.there n)) ∧ Below w.heap.size w w' := by
  have HN := H.node h ok n hn
  simp only [nodeV, nv] at HN
  clear h
  cases hh : s.has n
  · simp only [hh, Bool.false_eq_true, if_false] at HN
    by_cases h0 : n = 0
    · subst h0
      rw [show s.there 0 = true from rfl]
      go_enter Tryz.func61, Tryz.ntmps61
      go_wp2_with fail
      refine HN.mono ?_
      rintro e w1 ⟨rfl, hb1⟩
      replace hb1 := hb1.alloc hb1.size (.cells #[.int .i64 0, .int .i64 0, .int .i64 0] 77)
      clear HN
      go_wp2
      go_ret
      exact ⟨rfl, hb1⟩
    · by_cases h1 : n = 1
      · subst h1
        rw [show s.there 1 = true from rfl]
        go_enter Tryz.func61, Tryz.ntmps61
        go_wp2_with fail
        refine HN.mono ?_
        rintro e w1 ⟨rfl, hb1⟩
        replace hb1 := hb1.alloc hb1.size (.cells #[.int .i64 0, .int .i64 0, .int .i64 0] 77)
        clear HN
        go_wp2
        go_ret
        exact ⟨rfl, hb1⟩
      · have e0 : (n == 0) = false := by rw [beq_eq_false_iff_ne]; exact h0
        have e1 : (n == 1) = false := by rw [beq_eq_false_iff_ne]; exact h1
        rw [show s.there n = false by simp [MS.there, e0, e1, hh]]
        go_enter Tryz.func61, Tryz.ntmps61
        go_wp2_with fail
        refine HN.mono ?_
        rintro e w1 ⟨rfl, hb1⟩
        replace hb1 := hb1.alloc hb1.size (.cells #[.int .i64 0, .int .i64 0, .int .i64 0] 77)
        clear HN
        go_wp2
        go_ret
        exact ⟨rfl, hb1⟩
  · simp only [hh, if_true] at HN
    rw [show s.there n = true by simp [MS.there, hh]]
    generalize s.nd n = x at *
    obtain ⟨x0, x1, x2⟩ := x
    dsimp only at *
    go_enter Tryz.func61, Tryz.ntmps61
    go_wp2_with fail
    refine HN.mono ?_
    rintro e w1 ⟨rfl, hb1⟩
    replace hb1 := hb1.alloc hb1.size (.cells #[.int .i64 x0, .int .i64 x1, .int .i64 x2] 77)
    clear HN
    go_wp2
    go_ret
    exact ⟨rfl, hb1⟩

set_option maxRecDepth 100000 in
set_option maxHeartbeats 2000000 in
theorem iteIsOf (H : StoreC StAt) (h : StAt w b F s) (ok : s.Ok) (n v : Int) (hn : I64 n) :
    Calls Tryz.prog 112 #[.pointer (some ⟨b, 0, none⟩), .int .i64 n, .int .i64 v] w fun e w' => e = .returned (.bool (s.isOf n v)) ∧ Below w.heap.size w w' := by
  have HN := H.node h ok n hn
  simp only [nodeV, nv] at HN
  unfold MS.isOf MS.node
  clear h
  cases hh : s.has n
  · simp only [hh, Bool.false_eq_true, if_false] at HN ⊢
    go_enter Tryz.func112, Tryz.ntmps112
    go_wp2_with fail
    refine HN.mono ?_
    rintro e w1 ⟨rfl, hb1⟩
    replace hb1 := hb1.alloc hb1.size (.cells #[.int .i64 0, .int .i64 0, .int .i64 0] 77)
    clear HN
    go_wp2
    go_ret
    exact ⟨rfl, hb1⟩
  · simp only [hh, if_true] at HN ⊢
    generalize s.nd n = x at *
    obtain ⟨x0, x1, x2⟩ := x
    dsimp only at *
    go_enter Tryz.func112, Tryz.ntmps112
    go_wp2_with fail
    refine HN.mono ?_
    rintro e w1 ⟨rfl, hb1⟩
    have hX := (HoldsN.new w1 ⟨x0, x1, x2⟩).cells.1
    replace hb1 := hb1.alloc hb1.size (.cells #[.int .i64 x0, .int .i64 x1, .int .i64 x2] 77)
    dsimp only at hX
    clear HN
    go_wp2
    go_ret
    exact ⟨rfl, hb1⟩

set_option maxRecDepth 100000 in
set_option maxHeartbeats 2000000 in
theorem iteSet (H : StoreC StAt) (h : StAt w b F s) (ok : s.Ok) (n v : Int) (z : Bool) (hn : I64 n) :
    Calls Tryz.prog 108 #[.pointer (some ⟨b, 0, none⟩), .int .i64 n, .int .i64 v, .bool z] w fun e w' => e = .returned (.int .i64 (s.side n v z)) ∧ Below w.heap.size w w' := by
  have HN := H.node h ok n hn
  simp only [nodeV, nv] at HN
  unfold MS.side MS.isOf MS.node
  clear h
  cases hh : s.has n
  · simp only [hh, Bool.false_eq_true, if_false] at HN ⊢
    go_enter Tryz.func108, Tryz.ntmps108
    go_wp2_with fail
    refine HN.mono ?_
    rintro e w1 ⟨rfl, hb1⟩
    replace hb1 := hb1.alloc hb1.size (.cells #[.int .i64 0, .int .i64 0, .int .i64 0] 77)
    clear HN
    go_wp2
    go_ret
    exact ⟨rfl, hb1⟩
  · simp only [hh, if_true] at HN ⊢
    generalize s.nd n = x at *
    obtain ⟨x0, x1, x2⟩ := x
    dsimp only at *
    by_cases hv : x0 = v
    · subst hv
      have eb : (x0 != x0) = false := by simp
      rw [beq_self_eq_true, if_pos rfl]
      cases z
      · go_enter Tryz.func108, Tryz.ntmps108
        go_wp2_with fail
        refine HN.mono ?_
        rintro e w1 ⟨rfl, hb1⟩
        obtain ⟨y0, y1, y2⟩ := (HoldsN.new w1 ⟨x0, x1, x2⟩).cells
        replace hb1 := hb1.alloc hb1.size (.cells #[.int .i64 x0, .int .i64 x1, .int .i64 x2] 77)
        dsimp only at y0 y1 y2
        clear HN
        go_wp2
        go_ret
        exact ⟨rfl, hb1⟩
      · go_enter Tryz.func108, Tryz.ntmps108
        go_wp2_with fail
        refine HN.mono ?_
        rintro e w1 ⟨rfl, hb1⟩
        obtain ⟨y0, y1, y2⟩ := (HoldsN.new w1 ⟨x0, x1, x2⟩).cells
        replace hb1 := hb1.alloc hb1.size (.cells #[.int .i64 x0, .int .i64 x1, .int .i64 x2] 77)
        dsimp only at y0 y1 y2
        clear HN
        go_wp2
        go_ret
        exact ⟨rfl, hb1⟩
    · have eb : (x0 == v) = false := by rw [beq_eq_false_iff_ne]; exact hv
      rw [eb, if_neg (by simp)]
      go_enter Tryz.func108, Tryz.ntmps108
      go_wp2_with fail
      refine HN.mono ?_
      rintro e w1 ⟨rfl, hb1⟩
      obtain ⟨y0, y1, y2⟩ := (HoldsN.new w1 ⟨x0, x1, x2⟩).cells
      replace hb1 := hb1.alloc hb1.size (.cells #[.int .i64 x0, .int .i64 x1, .int .i64 x2] 77)
      dsimp only at y0 y1 y2
      clear HN
      go_wp2
      go_ret
      exact ⟨rfl, hb1⟩
set_option maxRecDepth 100000 in
set_option maxHeartbeats 2000000 in
theorem iteHas (H : StoreC StAt) (h : StAt w b F s) (ok : s.Ok) (f g k v : Int) (hf : I64 f) (hg : I64 g) (hk : I64 k) :
    Calls Tryz.prog 107 #[askV f g k, .pointer (some ⟨b, 0, none⟩), .int .i64 v] w fun e w' => e = .returned (.bool (s.isOf f v || s.isOf g v || s.isOf k v)) ∧ Below w.heap.size w w' := by
  have A1 := fun W (hb : Below w.heap.size w W) => iteIsOf H (H.below h hb) ok f v hf
  have A2 := fun W (hb : Below w.heap.size w W) => iteIsOf H (H.below h hb) ok g v hg
  have A3 := fun W (hb : Below w.heap.size w W) => iteIsOf H (H.below h hb) ok k v hk
  clear h
  unfold askV
  generalize s.isOf f v = r1 at *
  generalize s.isOf g v = r2 at *
  generalize s.isOf k v = r3 at *
  have hX := HoldsK.new w f g k
  have hb := (Below.refl w.heap.size w).alloc (Nat.le_refl _) (.cells #[.int .i64 f, .int .i64 g, .int .i64 k] 108)
  obtain ⟨y0, y1, y2⟩ := hX.cells
  cases r1
  · cases r2
    · go_enter Tryz.func107, Tryz.ntmps107
      go_wp2_with fail
      generalize w.alloc (.cells #[.int .i64 f, .int .i64 g, .int .i64 k] 108) = W at *
      refine (A1 _ hb).mono ?_
      rintro e w1 ⟨rfl, hb1⟩
      replace hX := hX.below hb1
      replace hb := hb.trans (hb1.mono hb.size)
      clear A1 y0 y1 y2 hb1
      obtain ⟨y0, y1, y2⟩ := hX.cells
      go_wp2_with fail
      refine (A2 _ hb).mono ?_
      rintro e w2 ⟨rfl, hb1⟩
      replace hX := hX.below hb1
      replace hb := hb.trans (hb1.mono hb.size)
      clear A2 y0 y1 y2 hb1
      obtain ⟨y0, y1, y2⟩ := hX.cells
      go_wp2_with fail
      refine (A3 _ hb).mono ?_
      rintro e w3 ⟨rfl, hb1⟩
      replace hb := hb.trans (hb1.mono hb.size)
      clear A3 y0 y1 y2 hb1
      go_wp2
      go_ret
      exact ⟨rfl, hb⟩
    · go_enter Tryz.func107, Tryz.ntmps107
      go_wp2_with fail
      generalize w.alloc (.cells #[.int .i64 f, .int .i64 g, .int .i64 k] 108) = W at *
      refine (A1 _ hb).mono ?_
      rintro e w1 ⟨rfl, hb1⟩
      replace hX := hX.below hb1
      replace hb := hb.trans (hb1.mono hb.size)
      clear A1 y0 y1 y2 hb1
      obtain ⟨y0, y1, y2⟩ := hX.cells
      go_wp2_with fail
      refine (A2 _ hb).mono ?_
      rintro e w2 ⟨rfl, hb1⟩
      replace hb := hb.trans (hb1.mono hb.size)
      clear A2 A3 y0 y1 y2 hb1
      go_wp2
      go_ret
      exact ⟨rfl, hb⟩
  · go_enter Tryz.func107, Tryz.ntmps107
    go_wp2_with fail
    generalize w.alloc (.cells #[.int .i64 f, .int .i64 g, .int .i64 k] 108) = W at *
    refine (A1 _ hb).mono ?_
    rintro e w1 ⟨rfl, hb1⟩
    replace hb := hb.trans (hb1.mono hb.size)
    clear A1 A2 A3 y0 y1 y2 hb1
    go_wp2
    go_ret
    exact ⟨rfl, hb⟩

set_option maxRecDepth 100000 in
set_option maxHeartbeats 4000000 in
theorem iteWhere (H : StoreC StAt) (h : StAt w b F s) (ok : s.Ok) (f g k v : Int) (z : Bool) (hf : I64 f) (hg : I64 g) (hk : I64 k) :
    Calls Tryz.prog 91 #[askV f g k, .pointer (some ⟨b, 0, none⟩), .int .i64 v, .bool z] w fun e w' => e = .returned (askV (s.side f v z) (s.side g v z) (s.side k v z)) ∧ Below w.heap.size w w' := by
  have A1 := fun W (hb : Below w.heap.size w W) => iteSet H (H.below h hb) ok f v z hf
  have A2 := fun W (hb : Below w.heap.size w W) => iteSet H (H.below h hb) ok g v z hg
  have A3 := fun W (hb : Below w.heap.size w W) => iteSet H (H.below h hb) ok k v z hk
  clear h
  unfold askV
  generalize s.side f v z = r1 at *
  generalize s.side g v z = r2 at *
  generalize s.side k v z = r3 at *
  go_enter Tryz.func91, Tryz.ntmps91
  go_wp2_with fail
  have hX0 := HoldsK.new w f g k
  have hb0 := (Below.refl w.heap.size w).alloc (Nat.le_refl _) (.cells #[.int .i64 f, .int .i64 g, .int .i64 k] 108)
  have eS : (w.alloc (.cells #[.int .i64 f, .int .i64 g, .int .i64 k] 108)).heap.size = w.heap.size + 1 := by simp only [World.alloc, Array.size_push]
  generalize w.alloc (.cells #[.int .i64 f, .int .i64 g, .int .i64 k] 108) = W0 at *
  have hR := HoldsK.new W0 0 0 0
  rw [eS] at hR
  have hX := hX0.below ((Below.refl W0.heap.size W0).alloc (Nat.le_refl _) (.cells #[.int .i64 0, .int .i64 0, .int .i64 0] 108))
  have hb := hb0.alloc hb0.size (.cells #[.int .i64 0, .int .i64 0, .int .i64 0] 108)
  generalize W0.alloc (.cells #[.int .i64 0, .int .i64 0, .int .i64 0] 108) = W at *
  have y0 := fun u : Sub W => (hX.sub u).cells.1
  have y1 := fun u : Sub W => (hX.sub u).cells.2.1
  have y2 := fun u : Sub W => (hX.sub u).cells.2.2
  have J1 := fun u : Sub W => A1 _ (hb.trans (u.2.mono hb.size))
  have J2 := fun u : Sub W => A2 _ (hb.trans (u.2.mono hb.size))
  have J3 := fun u : Sub W => A3 _ (hb.trans (u.2.mono hb.size))
  clear hX0 A1 A2 A3
  refine wp_region_quiet_tail (C := fun w' => ∃ u : Sub W, w' = u.1) 19 (by kernel_rfl) (by kernel_rfl) (InSub.drew W) ?_
  simp only [List.take_succ_cons, List.take_zero]
  iterate 5 (go_big_quiet_step (fail))
  go_big_quiet_step (exact subBelow (J1 _))
  iterate 5 (go_big_quiet_step (fail))
  go_big_quiet_step (exact subBelow (J2 _))
  iterate 5 (go_big_quiet_step (fail))
  go_big_quiet_step (exact subBelow (J3 _))
  go_big_quiet_step (fail)
  refine wpQuiet_nil ?_
  clear y0 y1 y2 J1 J2 J3
  intro w' hw'
  obtain ⟨u, rfl⟩ := hw'
  replace hR := hR.below u.2
  replace hb := hb.trans (u.2.mono hb.size)
  generalize u.1 = W3 at *
  obtain ⟨z0, z1, z2⟩ := hR.free
  obtain ⟨c0, c1, c2⟩ := hR.cells
  have hR3 := Lib.hid (hR.set3 r1 r2 r3)
  clear hR hX
  simp only [List.drop_succ_cons, List.drop_zero]
  go_wp2
  refine bodyPost_ret (v := askV r1 r2 r3) (ret_holdsK Tryz.results91 rfl hR3.out) rfl ?_
  exact ⟨rfl, below_set3 hb (Nat.le_succ _)⟩
/-- None of three is a node of v. -/
def MS.noneOf (s : MS) (f g k v : Int) : Bool := !(s.isOf f v || s.isOf g v || s.isOf k v)

set_option maxRecDepth 100000 in
set_option maxHeartbeats 4000000 in
theorem iteTop (H : StoreC StAt) (h : StAt w b F s) (ok : s.Ok) (f g k : Int) (hf : I64 f) (hg : I64 g) (hk : I64 k) :
    Calls Tryz.prog 90 #[askV f g k, .pointer (some ⟨b, 0, none⟩)] w fun e w' => (∃ l : Nat, l < 8 ∧ e = .returned (.int .i64 (s.o l)) ∧ (∀ j, j < l → s.noneOf f g k (s.o j) = true) ∧ (l = 7 ∨ s.noneOf f g k (s.o l) = false)) ∧ Below w.heap.size w w' := by
  have HO := fun W (hb : Below w.heap.size w W) => H.order (H.below h hb) ok
  have HH := fun (v : Int) W (hb : Below w.heap.size w W) => iteHas H (H.below h hb) ok f g k v hf hg hk
  replace HH := Lib.hid HH
  generalize ho : s.o = o at *
  replace ho := Lib.hid ho
  clear h
  unfold askV
  simp only [ov] at HO
  go_enter Tryz.func90, Tryz.ntmps90
  go_wp2_with fail
  have hX := HoldsK.new w f g k
  have hb := (Below.refl w.heap.size w).alloc (Nat.le_refl _) (.cells #[.int .i64 f, .int .i64 g, .int .i64 k] 108)
  generalize w.alloc (.cells #[.int .i64 f, .int .i64 g, .int .i64 k] 108) = W at *
  refine (HO _ hb).mono ?_
  rintro e w1 ⟨rfl, hb1⟩
  clear HO
  replace hX := (hX.below hb1).below ((Below.refl w1.heap.size w1).alloc (Nat.le_refl _) (.cells #[.int .i64 (o 0), .int .i64 (o 1), .int .i64 (o 2), .int .i64 (o 3), .int .i64 (o 4), .int .i64 (o 5), .int .i64 (o 6), .int .i64 (o 7)] 70))
  replace hb := (hb.trans (hb1.mono hb.size)).alloc (hb.trans (hb1.mono hb.size)).size (.cells #[.int .i64 (o 0), .int .i64 (o 1), .int .i64 (o 2), .int .i64 (o 3), .int .i64 (o 4), .int .i64 (o 5), .int .i64 (o 6), .int .i64 (o 7)] 70)
  have hO := HoldsO.new w1 o w1.heap.size rfl
  clear hb1
  go_wp2
  go_loopw [6] (fun i wr => ∃ n : Nat, n ≤ 7 ∧ i = .int .i64 n ∧ (∀ j, j < n → s.noneOf f g k (o j) = true) ∧ HoldsK wr w.heap.size f g k ∧ HoldsO wr w1.heap.size o ∧ Below w.heap.size w wr) (fun i _ => 7 - (intOf i).toNat)
  case atStart => exact ⟨0, Nat.zero_le _, rfl, fun j hj => absurd hj (Nat.not_lt_zero _), hX, hO, hb⟩
  case round =>
    clear hX hO hb
    obtain ⟨n, hn, rfl, hno, hX, hO, hb⟩ := hrel
    replace hno := Lib.hid hno
    by_cases hlt : n < 7
    · have hn0 : (0 : Int) ≤ (n : Int) := by omega
      have hn7 : (n : Int) < 7 := by omega
      have hn8 : (n : Int) < 8 := by omega
      have y0 := fun u : Sub wr => (hX.sub u).cells.1
      have y1 := fun u : Sub wr => (hX.sub u).cells.2.1
      have y2 := fun u : Sub wr => (hX.sub u).cells.2.2
      have q0 := fun u : Sub wr => (hO.sub u).cell n (by omega)
      have J := fun u : Sub wr => HH.out (o n) _ (hb.trans (u.2.mono hb.size))
      have e0 := hO.cell n (by omega)
      have hnx : s.noneOf f g k (o n) = !(s.isOf f (o n) || s.isOf g (o n) || s.isOf k (o n)) := rfl
      unfold askV at J
      generalize (s.isOf f (o n) || s.isOf g (o n) || s.isOf k (o n)) = r at *
      generalize hv : o n = v at *
      replace hv := Lib.hid hv
      go_wp2
      refine wp_region_quiet_all (C := fun w' => ∃ u : Sub wr, w' = u.1) (by kernel_rfl) (by kernel_rfl) (InSub.drew wr) ?_
      iterate 8 (go_big_quiet_step (fail))
      go_big_quiet_step (exact subBelow (J _))
      iterate 2 (go_big_quiet_step (fail))
      refine wpQuiet_nil ?_
      clear y0 y1 y2 q0 J
      intro w' hw'
      obtain ⟨u, rfl⟩ := hw'
      cases r
      · have hno' : Hid (∀ j, j < n + 1 → s.noneOf f g k (o j) = true) := fun j hj => by
          rcases Nat.lt_or_ge j n with h1 | h1
          · exact hno.out j h1
          · obtain rfl : j = n := by omega
            rw [hv.out]; exact hnx
        clear hno hnx
        go_wp2
        exact ⟨⟨n + 1, by omega, by go_num, hno'.out, hX.sub u, hO.sub u, hb.trans (u.2.mono hb.size)⟩, by simp [intOf]; omega⟩
      · replace hnx := Lib.hid hnx
        have e1 := (hO.sub u).cell n (by omega)
        rw [hv.out] at e1
        go_wp2
        go_ret
        exact ⟨⟨n, by omega, by rw [hv.out]; rfl, hno.out, .inr (by rw [hv.out]; exact hnx.out)⟩, hb.trans (u.2.mono hb.size)⟩
    · obtain rfl : n = 7 := by omega
      have e1 := fun u : Sub wr => (hO.sub u).cell 7 (by omega)
      generalize hv : o 7 = v at *
      replace hv := Lib.hid hv
      go_wp2
      refine wp_region_quiet_all (C := fun w' => ∃ u : Sub wr, w' = u.1) (by kernel_rfl) (by kernel_rfl) (InSub.drew wr) ?_
      iterate 3 (go_big_quiet_step (fail))
      iterate 7 go_big_quiet_skip
      go_big_quiet_step (fail)
      refine wpQuiet_nil ?_
      intro w' hw'
      obtain ⟨u, rfl⟩ := hw'
      replace e1 := e1 u
      go_wp2
      go_ret
      exact ⟨⟨7, by omega, by rw [hv.out]; rfl, hno.out, .inl rfl⟩, hb.trans (u.2.mono hb.size)⟩
/-- What is told at once. -/
def onceN (f g k : Int) : Int := if f = 1 ∨ g = k then g else if f = 0 then k else if g = 1 ∧ k = 0 then f else 0
def onceB (f g k : Int) : Bool := decide (f = 1 ∨ g = k ∨ f = 0 ∨ (g = 1 ∧ k = 0))
set_option maxRecDepth 100000 in
set_option maxHeartbeats 4000000 in
theorem iteOnce (f g k : Int) (w : World) : Calls Tryz.prog 89 #[askV f g k] w fun e w' => e = .returned (.tuple #[.int .i64 (onceN f g k), .bool (onceB f g k)]) ∧ Below w.heap.size w w' := by
  have hX := HoldsK.new w f g k
  have hb := (Below.refl w.heap.size w).alloc (Nat.le_refl _) (.cells #[.int .i64 f, .int .i64 g, .int .i64 k] 108)
  obtain ⟨y0, y1, y2⟩ := hX.cells
  clear hX
  unfold askV
  by_cases h1 : f = 1
  · subst h1
    rw [show onceN 1 g k = g by simp [onceN], show onceB 1 g k = true by simp [onceB]]
    go_enter Tryz.func89, Tryz.ntmps89
    go_wp2
    go_ret2
    exact ⟨rfl, hb⟩
  · have e1 : (f == 1) = false := by rw [beq_eq_false_iff_ne]; exact h1
    by_cases h2 : g = k
    · subst h2
      rw [show onceN f g g = g by simp [onceN], show onceB f g g = true by simp [onceB]]
      go_enter Tryz.func89, Tryz.ntmps89
      go_wp2
      go_ret2
      exact ⟨rfl, hb⟩
    · have e2 : (g == k) = false := by rw [beq_eq_false_iff_ne]; exact h2
      by_cases h3 : f = 0
      · subst h3
        rw [show onceN 0 g k = k by simp [onceN, h2], show onceB 0 g k = true by simp [onceB]]
        go_enter Tryz.func89, Tryz.ntmps89
        go_wp2
        go_ret2
        exact ⟨rfl, hb⟩
      · have e3 : (f == 0) = false := by rw [beq_eq_false_iff_ne]; exact h3
        by_cases h4 : g = 1
        · subst h4
          by_cases h5 : k = 0
          · subst h5
            rw [show onceN f 1 0 = f by simp [onceN, h1, h3], show onceB f 1 0 = true by simp [onceB]]
            go_enter Tryz.func89, Tryz.ntmps89
            go_wp2
            go_ret2
            exact ⟨rfl, hb⟩
          · have e5 : (k == 0) = false := by rw [beq_eq_false_iff_ne]; exact h5
            rw [show onceN f 1 k = 0 by simp [onceN, h1, h2, h3, h5], show onceB f 1 k = false by simp [onceB, h1, h2, h3, h5]]
            go_enter Tryz.func89, Tryz.ntmps89
            go_wp2
            go_ret2
            exact ⟨rfl, hb⟩
        · have e4 : (g == 1) = false := by rw [beq_eq_false_iff_ne]; exact h4
          rw [show onceN f g k = 0 by simp [onceN, h1, h2, h3, h4], show onceB f g k = false by simp [onceB, h1, h2, h3, h4]]
          go_enter Tryz.func89, Tryz.ntmps89
          go_wp2
          go_ret2
          exact ⟨rfl, hb⟩
end

end Go.Proofs.YtclkckinpjkglaaGreatDoor

/-
  The numbers of the documents' examples of layers 9 to 11. Nothing of the program is read here.
-/
namespace Go.Proofs.YtclkckinpjkglaaGreatDoor

/-- A store of so many, with these nodes. -/
def smallS (most : Nat) (N : List Nd) : MS := ⟨⟨most, N.length, (List.range N.length).map fun i : Nat => (i : Int), []⟩, N, plainO⟩
def s9a : MS := smallS 5 [⟨0, 0, 1⟩]
def s9b : MS := smallS 5 [⟨0, 0, 1⟩, ⟨0, 1, 0⟩]
theorem up9_mk : (MS.none 5).mk 0 0 1 [] = (2, 0, s9a) := by kernel_rfl
set_option maxRecDepth 100000 in
theorem up9_not : s9a.ite 2 0 1 = (3, 0, s9b) := by kernel_rfl
set_option maxRecDepth 100000 in
theorem up9_bad : s9b.ite 9 0 1 = (0, 1, s9b) := by kernel_rfl
set_option maxRecDepth 100000 in
theorem up9_tab : s9b.tab 3 = ~~~(varAny 0) := by decide +kernel
set_option maxRecDepth 100000 in
theorem up10_and : s9b.ite 2 3 0 = (0, 0, s9b) := by kernel_rfl
set_option maxRecDepth 100000 in
theorem up10_or : s9b.ite 2 1 3 = (1, 0, s9b) := by kernel_rfl
theorem s9a_ok : s9a.Ok := by
  have := (MS.none_ok 5 (by decide)).made 0 0 1
  rwa [up9_mk] at this
theorem s9b_ok : s9b.Ok := by
  have := (s9a_ok.ite_spec 2 0 1).1
  rwa [up9_not] at this
theorem s9_grows : MS.Grows s9a s9b := by
  have := MS.Grows.of_ext (s9a_ok.ite_spec 2 0 1).2.1 s9a_ok (s9a_ok.ite_spec 2 0 1).1
  rwa [up9_not] at this

def s11a : MS := smallS 9 [⟨0, 0, 1⟩]
def s11b : MS := smallS 9 [⟨0, 0, 1⟩, ⟨1, 0, 1⟩]
def s11c : MS := smallS 9 [⟨0, 0, 1⟩, ⟨1, 0, 1⟩, ⟨0, 0, 3⟩]
theorem up11_x : (MS.none 9).mk 0 0 1 [] = (2, 0, s11a) := by kernel_rfl
theorem up11_y : s11a.mk 1 0 1 [] = (3, 0, s11b) := by kernel_rfl
set_option maxRecDepth 100000 in
theorem up11_and : s11b.ite 2 3 0 = (4, 0, s11c) := by kernel_rfl
set_option maxRecDepth 100000 in
theorem up11_ex : s11c.three 1 4 0 0 = (3, 0, s11c) := by kernel_rfl
set_option maxRecDepth 100000 in
theorem up11_bad : s11c.restr 4 8 true = (0, 1, s11c) := by kernel_rfl
theorem s11a_ok : s11a.Ok := by
  have := (MS.none_ok 9 (by decide)).made 0 0 1
  rwa [up11_x] at this
theorem s11b_ok : s11b.Ok := by
  have := s11a_ok.made 1 0 1
  rwa [up11_y] at this
theorem s11c_ok : s11c.Ok := by
  have := (s11b_ok.ite_spec 2 3 0).1
  rwa [up11_and] at this

/-- What Mk makes grows. -/
theorem MS.Ok.mk_ext {s : MS} (h : s.Ok) (v lo hi : Int) : MS.Ext s (s.mk v lo hi []).2.2 := by
  rcases s.mk_cases v lo hi [] with ⟨r, e, h1⟩ | ⟨h1, _, _, _, _, _, _, h8⟩
  · rw [h1]; exact MS.Ext.refl s
  · rw [h8]
    refine ⟨rfl, ?_, fun n hn => (h.toBase.takeS_has h1 _ n).2 (.inl hn), fun n hn => h.toBase.takeS_old h1 _ hn⟩
    show s.ar.take.most = s.ar.most
    rcases last_or_nil s.ar.B with hb | ⟨k, n, hb⟩
    · rw [(AS.Ok.take_new h1 hb).2.2]
    · rw [(AS.Ok.take_again h1 hb).2.2]
theorem MS.Ok.mk_grows {s : MS} (h : s.Ok) (v lo hi : Int) : MS.Grows s (s.mk v lo hi []).2.2 := MS.Grows.of_ext (h.mk_ext v lo hi) h (h.made v lo hi)

end Go.Proofs.YtclkckinpjkglaaGreatDoor

/-
  Walks of package ite: a cache in memory; New, Flush, keep.
-/
namespace Go.Proofs.YtclkckinpjkglaaGreatDoor
open Go Go.RowKit

/-- What was kept is the node of if, then, else. -/
structure MS.Right (s : MS) (a : Ask) (x : Int) : Prop where
  tf : s.there a.1.1 = true
  tg : s.there a.1.2.1 = true
  tk : s.there a.1.2.2 = true
  tx : s.there x = true
  tab : s.tab x = iteF (s.tab a.1.1) (s.tab a.1.2.1) (s.tab a.1.2.2)
theorem MS.Right.grows {s t : MS} {a : Ask} {x : Int} (h : MS.Right s a x) (g : MS.Grows s t) : MS.Right t a x :=
  ⟨g.there _ h.tf, g.there _ h.tg, g.there _ h.tk, g.there _ h.tx, by rw [g.tab h.tx, g.tab h.tf, g.tab h.tg, g.tab h.tk]; exact h.tab⟩

/-- A cache in memory, by the store that it speaks of. -/
def CacheAt (w : World) (c : Nat) (F : Nat → Prop) (s : MS) : Prop := ∃ (m n : Nat) (kept : Ask → Option Int), (∀ k, F k ↔ k = c ∨ k = m) ∧ c ≠ m ∧ w.heap[c]? = some (.cells #[.map (some m)] 60 (0, 0)) ∧ KMap w m n kept ∧ n ≤ 65536 ∧ ∀ a x, kept a = some x → MS.Right s a x

section
variable {StAt : World → Nat → (Nat → Prop) → MS → Prop} {w w' : World} {c : Nat} {F G : Nat → Prop} {s t : MS}
theorem CacheAt.lt (h : CacheAt w c F s) (k : Nat) (hk : F k) : k < w.heap.size := by
  obtain ⟨m, n, kept, hF, _, hc, hm, _⟩ := h
  rcases (hF k).1 hk with rfl | rfl
  · exact row_lt hc
  · exact hm.lt
theorem CacheAt.keep (h : CacheAt w c F s) (hK : Keeps G w w') (hG : ∀ k, F k → ¬ G k) : CacheAt w' c F s := by
  have hlt := h.lt
  obtain ⟨m, n, kept, hF, hne, hc, hm, hn, hr⟩ := h
  have h1 := (hF c).2 (.inl rfl)
  have h2 := (hF m).2 (.inr rfl)
  exact ⟨m, n, kept, hF, hne, (hK.block c (hlt c h1) (hG c h1)).trans hc, hm.block (hK.block m (hlt m h2) (hG m h2)), hn, hr⟩
theorem CacheAt.below (h : CacheAt w c F s) (hb : Below w.heap.size w w') : CacheAt w' c F s := h.keep (Keeps.of_below hb noBlock) (fun _ _ h => h)
theorem CacheAt.grows (h : CacheAt w c F s) (g : MS.Grows s t) : CacheAt w c F t := by
  obtain ⟨m, n, kept, hF, hne, hc, hm, hn, hr⟩ := h
  exact ⟨m, n, kept, hF, hne, hc, hm, hn, fun a x e => (hr a x e).grows g⟩

set_option maxRecDepth 100000 in
set_option maxHeartbeats 2000000 in
theorem iteNew (w : World) : Calls Tryz.prog 6 #[] w fun e w' => ∃ c, e = .returned (.pointer (some ⟨c, 0, none⟩)) ∧ (∃ F, (∀ s : MS, s.Ok → CacheAt w' c F s) ∧ ∀ k, F k → w.heap.size ≤ k) ∧ Below w.heap.size w w' := by
  have hM := KMap.made w
  have hM2 := hM.block (w' := (w.alloc (.map #[] 0)).alloc (.cells #[.map (some w.heap.size)] 60)) (heap_alloc_old _ _ hM.lt)
  have hc := heap_alloc_new (w.alloc (.map #[] 0)) (.cells #[.map (some w.heap.size)] 60)
  have eS : (w.alloc (.map #[] 0)).heap.size = w.heap.size + 1 := by simp only [World.alloc, Array.size_push]
  rw [eS] at hc
  have hb : Below w.heap.size w ((w.alloc (.map #[] 0)).alloc (.cells #[.map (some w.heap.size)] 60)) := by go_grown
  clear hM eS
  have hmm := @run_makeMap Tryz.prog
  go_enter Tryz.func6, Tryz.ntmps6
  go_wp2
  go_ret
  exact ⟨w.heap.size + 1, rfl, ⟨fun k => k = w.heap.size + 1 ∨ k = w.heap.size, fun s _ => ⟨w.heap.size, 0, _, fun _ => Iff.rfl, by omega, hc, hM2, by omega, fun _ _ h => by cases h⟩, fun k hk => by omega⟩, hb⟩

set_option maxRecDepth 100000 in
set_option maxHeartbeats 4000000 in
theorem iteKeep (h : CacheAt w c F s) {f g k x : Int} (hf : I64 f) (hg : I64 g) (hk : I64 k) (hx : I64 x) (hr : MS.Right s (Ask.of hf hg hk) x) :
    Calls Tryz.prog 92 #[.pointer (some ⟨c, 0, none⟩), askV f g k, .int .i64 x] w fun e w' => e = .returned (.tuple #[]) ∧ CacheAt w' c F s ∧ Keeps F w w' := by
  obtain ⟨m, n, kept, hF, hne, hc, hm, hn, hrt⟩ := h
  have hcw := row_lt hc
  have hmw := hm.lt
  have c00 : w.cell? ⟨c, 0, none⟩ = some (.map (some m)) := by rw [cell_of_row _ _ _ _ _ _ hc]; rfl
  have hX := HoldsK.new w f g k
  have hcB := (heap_alloc_old w (.cells #[.int .i64 f, .int .i64 g, .int .i64 k] 108) hcw).trans hc
  replace hm := hm.block (heap_alloc_old w (.cells #[.int .i64 f, .int .i64 g, .int .i64 k] 108) hmw)
  have hb := (Below.refl w.heap.size w).alloc (Nat.le_refl _) (.cells #[.int .i64 f, .int .i64 g, .int .i64 k] 108)
  have K0 : Keeps F w _ := Keeps.of_below hb F
  have hFm : ∀ q, some m = some q → F q := fun q e => (hF q).2 (.inr (Option.some.inj e).symm)
  have hBm : ¬ w.heap.size = m := by omega
  clear hb hc
  -- the map written, in whatever world that the walk comes to
  have key : ∀ (W : World) (n : Nat) (kept : Ask → Option Int), KMap W m n kept → n < 65536 → (∀ a x, kept a = some x → MS.Right s a x) → W.heap[c]? = some (.cells #[.map (some m)] 60 (0, 0)) → Keeps F w W →
      ∀ w' n', n' ≤ n + 1 → KMap w' m n' (fun z => if z = Ask.of hf hg hk then some x else kept z) → W.grownBy w' (some m) → CacheAt w' c F s ∧ Keeps F w w' := by
    intro W n kept _ hn hrt hcW hKW w' n' hn' hm' hgr
    have hK1 : Keeps (fun q => q = m) W w' := Keeps.of_grown hgr fun q e => (Option.some.inj e).symm
    refine ⟨⟨m, n', _, hF, hne, (hK1.block c (row_lt hcW) hne).trans hcW, hm', by omega, fun a y e => ?_⟩, hKW.and (Keeps.of_grown hgr hFm)⟩
    by_cases ha : a = Ask.of hf hg hk
    · subst ha
      rw [if_pos rfl] at e
      cases e
      exact hr
    · rw [if_neg ha] at e
      exact hrt a y e
  clear hr
  unfold askV
  by_cases hn2 : n < 65536
  · have hlen := fun ty => hm.len ty
    have hn3 : ¬ 65536 ≤ (n : Int) := by omega
    go_enter Tryz.func92, Tryz.ntmps92
    go_wp2
    clear hlen
    generalize w.alloc (.cells #[.int .i64 f, .int .i64 g, .int .i64 k] 108) = W at *
    have cW := fun u : Sub W => (show u.1.cell? ⟨c, 0, none⟩ = some (.map (some m)) by rw [cell_of_row _ _ _ _ _ _ ((u.2.block c (row_lt hcB)).trans hcB)]; rfl)
    have x0 := fun u : Sub W => (hX.sub u).cells.1
    have x1 := fun u : Sub W => (hX.sub u).cells.2.1
    have x2 := fun u : Sub W => (hX.sub u).cells.2.2
    refine wp_region_quiet_tail (C := fun w' => ∃ u : Sub W, w' = u.1) 6 (by kernel_rfl) (by kernel_rfl) (InSub.drew W) ?_
    simp only [List.take_succ_cons, List.take_zero]
    iterate 6 (go_big_quiet_step (fail))
    refine wpQuiet_nil ?_
    clear cW x0 x1 x2 c00
    intro w' hw'
    obtain ⟨u, rfl⟩ := hw'
    have hcU := (u.2.block c (row_lt hcB)).trans hcB
    have hmU := hm.block (u.2.block m hm.lt)
    have hKU := K0.and (Keeps.of_below u.2 F)
    generalize u.1 = V at *
    replace key := key V _ _ hmU hn2 hrt hcU hKU
    simp only [List.drop_succ_cons, List.drop_zero]
    go_wp2_with (at_mapUpdate; refine KMap.put hmU (by unfold maxLen; omega) rfl (.tmp 19) (.tmp 20) (.tmp 21) rfl hf hg hk hx rfl rfl rfl ?_; intro w2 n2 hn2 hm2 hgr2; replace key := Lib.hid (key w2 n2 hn2 hm2 hgr2))
    exact bodyPost_end (v := .tuple #[]) (by simp [results, Tryz.results92, go_sem]) rfl ⟨rfl, key.out⟩
  · obtain rfl : n = 65536 := by omega
    have hlen := fun ty => hm.len ty
    obtain ⟨w1, hclr, hm1, hgr⟩ := hm.clear
    have hK1 : Keeps (fun q => q = m) _ w1 := Keeps.of_grown hgr fun q e => (Option.some.inj e).symm
    replace hX := hX.keep hK1 hBm
    replace hcB := (hK1.block c (row_lt hcB) hne).trans hcB
    replace K0 := K0.and (Keeps.of_grown hgr hFm)
    replace hm := hm1
    clear hm1 hgr hK1
    go_enter Tryz.func92, Tryz.ntmps92
    go_wp2
    clear hlen hclr
    generalize w1 = W at *
    have cW := fun u : Sub W => (show u.1.cell? ⟨c, 0, none⟩ = some (.map (some m)) by rw [cell_of_row _ _ _ _ _ _ ((u.2.block c (row_lt hcB)).trans hcB)]; rfl)
    have x0 := fun u : Sub W => (hX.sub u).cells.1
    have x1 := fun u : Sub W => (hX.sub u).cells.2.1
    have x2 := fun u : Sub W => (hX.sub u).cells.2.2
    refine wp_region_quiet_tail (C := fun w' => ∃ u : Sub W, w' = u.1) 6 (by kernel_rfl) (by kernel_rfl) (InSub.drew W) ?_
    simp only [List.take_succ_cons, List.take_zero]
    iterate 6 (go_big_quiet_step (fail))
    refine wpQuiet_nil ?_
    clear cW x0 x1 x2 c00
    intro w' hw'
    obtain ⟨u, rfl⟩ := hw'
    have hcU := (u.2.block c (row_lt hcB)).trans hcB
    have hmU := hm.block (u.2.block m hm.lt)
    have hKU := K0.and (Keeps.of_below u.2 F)
    generalize u.1 = V at *
    replace key := key V _ _ hmU (by omega) (fun _ _ h => by cases h) hcU hKU
    simp only [List.drop_succ_cons, List.drop_zero]
    go_wp2_with (at_mapUpdate; refine KMap.put hmU (by unfold maxLen; omega) rfl (.tmp 19) (.tmp 20) (.tmp 21) rfl hf hg hk hx rfl rfl rfl ?_; intro w2 n2 hn2 hm2 hgr2; replace key := Lib.hid (key w2 n2 hn2 hm2 hgr2))
    exact bodyPost_end (v := .tuple #[]) (by simp [results, Tryz.results92, go_sem]) rfl ⟨rfl, key.out⟩
end

end Go.Proofs.YtclkckinpjkglaaGreatDoor
