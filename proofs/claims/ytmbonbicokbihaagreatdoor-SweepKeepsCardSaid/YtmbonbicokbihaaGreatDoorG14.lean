/-
  Texts of this proof, one behind the other: Slay, SweepM, SweepC, SweepL, Idle.
-/
import Derived.Shelf.SlIterI.Nil
import Derived.Shelf.SortM.Plain
import Derived.Shelf.SortM.SortNone
import Derived.Test.YtmbonbicokbihaaGreatDoorProg
import Derived.Test.YtmbonbicokbihaaGreatDoorG11
import Derived.Test.YtmbonbicokbihaaGreatDoorG13
import Derived.Test.YtmbonbicokbihaaGreatDoorG8
import Derived.Test.YtmbonbicokbihaaGreatDoorG2
import Derived.Test.YtmbonbicokbihaaGreatDoorG3
import Derived.Test.YtmbonbicokbihaaGreatDoorG6
import Derived.Test.YtmbonbicokbihaaGreatDoorG5
/-
  The library's contracts of maps.Keys, slices.Sorted, slices.Sort at numbers, laid over this program: tables of numbers, and one theorem each.
-/
namespace Go.Proofs
open Go.Shelf
def Tryz.keysA_ren : Go.Shelf.Ren := ⟨fun | 7 => 69 | 10 => 83 | n => n, fun | 23 => 108 | 26 => 3 | 3 => 4 | 28 => 112 | 0 => 0 | 27 => 111 | 33 => 97 | 4 => 4 | n => n, fun | n => n⟩
theorem Tryz.keysA : Go.Proofs.SlLaysZI.n7 Tryz.prog Tryz.keysA_ren := {
  mixed := by kernel_rfl
  f7 := ⟨Tryz.f69.name, by decide, Tryz.func69.trans (congrArg some (by kernel_rfl))⟩
  f10 := ⟨Tryz.f83.name, by decide, Tryz.func83.trans (congrArg some (by kernel_rfl))⟩
  t0 := Tryz.underlying0
  a0 := Tryz.isAgg0
  z0 := Tryz.sizeOf0
  v0 := Tryz.zeroValue0
  t4 := Tryz.underlying4
  a4 := Tryz.isAgg4
  z4 := Tryz.sizeOf4
  v4 := Tryz.zeroValue4
  t23 := Tryz.underlying108
  a23 := Tryz.isAgg108
  z23 := Tryz.sizeOf108
  v23 := Tryz.zeroValue108
  t26 := Tryz.underlying3
  a26 := Tryz.isAgg3
  z26 := Tryz.sizeOf3
  v26 := Tryz.zeroValue3
  t27 := Tryz.underlying111
  a27 := Tryz.isAgg111
  z27 := Tryz.sizeOf111
  v27 := Tryz.zeroValue111
  t28 := Tryz.underlying112
  a28 := Tryz.isAgg112
  z28 := Tryz.sizeOf112
  v28 := Tryz.zeroValue112
  t33 := Tryz.underlying97
  a33 := Tryz.isAgg97
  z33 := Tryz.sizeOf97
  v33 := Tryz.zeroValue97 }
def Tryz.sortedA_ren : Go.Shelf.Ren := ⟨fun | 6 => 68 | 8 => 81 | 9 => 82 | 11 => 85 | 13 => 87 | 12 => 86 | 23 => 96 | 24 => 97 | 14 => 88 | 15 => 89 | 16 => 90 | 17 => 91 | 18 => 92 | 19 => 93 | 20 => 70 | 21 => 94 | 22 => 95 | 25 => 98 | 26 => 99 | 27 => 100 | 28 => 101 | 29 => 102 | 30 => 84 | 31 => 103 | n => n, fun | 26 => 3 | 28 => 112 | 24 => 24 | 0 => 0 | 3 => 3 | 37 => 114 | 48 => 130 | 50 => 32 | 4 => 4 | 40 => 124 | 39 => 123 | 45 => 54 | 5 => 5 | 9 => 9 | 51 => 132 | 55 => 136 | 57 => 138 | 58 => 90 | 33 => 97 | n => n, fun | n => n⟩
theorem Tryz.sortedA : Go.Proofs.SlLaysZI.n6 Tryz.prog Tryz.sortedA_ren := {
  mixed := by kernel_rfl
  f6 := ⟨Tryz.f68.name, by decide, Tryz.func68.trans (congrArg some (by kernel_rfl))⟩
  f8 := ⟨Tryz.f81.name, by decide, Tryz.func81.trans (congrArg some (by kernel_rfl))⟩
  f11 := ⟨Tryz.f85.name, by decide, Tryz.func85.trans (congrArg some (by kernel_rfl))⟩
  t0 := Tryz.underlying0
  a0 := Tryz.isAgg0
  z0 := Tryz.sizeOf0
  v0 := Tryz.zeroValue0
  t24 := Tryz.underlying24
  a24 := Tryz.isAgg24
  z24 := Tryz.sizeOf24
  v24 := Tryz.zeroValue24
  t26 := Tryz.underlying3
  a26 := Tryz.isAgg3
  z26 := Tryz.sizeOf3
  v26 := Tryz.zeroValue3
  t28 := Tryz.underlying112
  a28 := Tryz.isAgg112
  z28 := Tryz.sizeOf112
  v28 := Tryz.zeroValue112
  i26 := by kernel_rfl }
def Tryz.sortA_ren : Go.Shelf.Ren := ⟨fun | 5 => 82 | 8 => 87 | 7 => 86 | 19 => 96 | 20 => 97 | 10 => 88 | 11 => 89 | 12 => 90 | 13 => 91 | 14 => 92 | 15 => 93 | 16 => 70 | 17 => 94 | 18 => 95 | 30 => 98 | 31 => 99 | 32 => 100 | 33 => 101 | 34 => 102 | 35 => 84 | 40 => 103 | n => n, fun | 23 => 24 | 25 => 3 | 3 => 3 | 32 => 114 | 22 => 24 | 0 => 0 | 44 => 130 | 46 => 32 | 4 => 4 | 36 => 124 | 35 => 123 | 41 => 54 | 5 => 5 | 9 => 9 | 53 => 132 | 57 => 136 | 63 => 138 | 64 => 90 | n => n, fun | n => n⟩
theorem Tryz.sortA : Go.Proofs.SlLaysM.n5 Tryz.prog Tryz.sortA_ren := {
  mixed := by kernel_rfl
  f5 := ⟨Tryz.f82.name, by decide, Tryz.func82.trans (congrArg some (by kernel_rfl))⟩
  f7 := ⟨Tryz.f86.name, by decide, Tryz.func86.trans (congrArg some (by kernel_rfl))⟩
  f8 := Tryz.func87.trans (congrArg some (by kernel_rfl))
  f10 := ⟨Tryz.f88.name, by decide, Tryz.func88.trans (congrArg some (by kernel_rfl))⟩
  f11 := ⟨Tryz.f89.name, by decide, Tryz.func89.trans (congrArg some (by kernel_rfl))⟩
  f12 := ⟨Tryz.f90.name, by decide, Tryz.func90.trans (congrArg some (by kernel_rfl))⟩
  f13 := ⟨Tryz.f91.name, by decide, Tryz.func91.trans (congrArg some (by kernel_rfl))⟩
  f14 := ⟨Tryz.f92.name, by decide, Tryz.func92.trans (congrArg some (by kernel_rfl))⟩
  f15 := ⟨Tryz.f93.name, by decide, Tryz.func93.trans (congrArg some (by kernel_rfl))⟩
  f16 := ⟨Tryz.f70.name, by decide, Tryz.func70.trans (congrArg some (by kernel_rfl))⟩
  f17 := ⟨Tryz.f94.name, by decide, Tryz.func94.trans (congrArg some (by kernel_rfl))⟩
  f18 := ⟨Tryz.f95.name, by decide, Tryz.func95.trans (congrArg some (by kernel_rfl))⟩
  f19 := Tryz.func96.trans (congrArg some (by kernel_rfl))
  f20 := Tryz.func97.trans (congrArg some (by kernel_rfl))
  f30 := ⟨Tryz.f98.name, by decide, Tryz.func98.trans (congrArg some (by kernel_rfl))⟩
  f31 := Tryz.func99.trans (congrArg some (by kernel_rfl))
  f32 := Tryz.func100.trans (congrArg some (by kernel_rfl))
  f33 := ⟨Tryz.f101.name, by decide, Tryz.func101.trans (congrArg some (by kernel_rfl))⟩
  f34 := ⟨Tryz.f102.name, by decide, Tryz.func102.trans (congrArg some (by kernel_rfl))⟩
  f35 := ⟨Tryz.f84.name, by decide, Tryz.func84.trans (congrArg some (by kernel_rfl))⟩
  f40 := ⟨Tryz.f103.name, by decide, Tryz.func103.trans (congrArg some (by kernel_rfl))⟩
  t0 := Tryz.underlying0
  a0 := Tryz.isAgg0
  z0 := Tryz.sizeOf0
  v0 := Tryz.zeroValue0
  t3 := Tryz.underlying3
  a3 := Tryz.isAgg3
  z3 := Tryz.sizeOf3
  v3 := Tryz.zeroValue3
  t4 := Tryz.underlying4
  a4 := Tryz.isAgg4
  z4 := Tryz.sizeOf4
  v4 := Tryz.zeroValue4
  t5 := Tryz.underlying5
  a5 := Tryz.isAgg5
  z5 := Tryz.sizeOf5
  v5 := Tryz.zeroValue5
  t9 := Tryz.underlying9
  a9 := Tryz.isAgg9
  z9 := Tryz.sizeOf9
  v9 := Tryz.zeroValue9
  t22 := Tryz.underlying24
  a22 := Tryz.isAgg24
  z22 := Tryz.sizeOf24
  v22 := Tryz.zeroValue24
  t23 := Tryz.underlying24
  a23 := Tryz.isAgg24
  z23 := Tryz.sizeOf24
  v23 := Tryz.zeroValue24
  t25 := Tryz.underlying3
  a25 := Tryz.isAgg3
  z25 := Tryz.sizeOf3
  v25 := Tryz.zeroValue3
  t32 := Tryz.underlying114
  a32 := Tryz.isAgg114
  z32 := Tryz.sizeOf114
  v32 := Tryz.zeroValue114
  t35 := Tryz.underlying123
  a35 := Tryz.isAgg123
  z35 := Tryz.sizeOf123
  v35 := Tryz.zeroValue123
  t36 := Tryz.underlying124
  a36 := Tryz.isAgg124
  z36 := Tryz.sizeOf124
  v36 := Tryz.zeroValue124
  t41 := Tryz.underlying54
  a41 := Tryz.isAgg54
  z41 := Tryz.sizeOf54
  v41 := Tryz.zeroValue54
  t44 := Tryz.underlying130
  a44 := Tryz.isAgg130
  z44 := Tryz.sizeOf130
  v44 := Tryz.zeroValue130
  t46 := Tryz.underlying32
  a46 := Tryz.isAgg32
  z46 := Tryz.sizeOf32
  v46 := Tryz.zeroValue32
  t53 := Tryz.underlying132
  a53 := Tryz.isAgg132
  z53 := Tryz.sizeOf132
  v53 := Tryz.zeroValue132
  t57 := Tryz.underlying136
  a57 := Tryz.isAgg136
  z57 := Tryz.sizeOf136
  v57 := Tryz.zeroValue136
  t63 := Tryz.underlying138
  a63 := Tryz.isAgg138
  z63 := Tryz.sizeOf138
  v63 := Tryz.zeroValue138
  t64 := Tryz.underlying90
  a64 := Tryz.isAgg90
  z64 := Tryz.sizeOf90
  v64 := Tryz.zeroValue90 }
end Go.Proofs

/-
  Mathematics of layer 12: what nobody needs is freed, level by level. Nothing of the program is read here.
-/
namespace Go.Proofs.YtmbonbicokbihaaGreatDoor

/-- One number looked at: how many were freed, the state. -/
def MS.sw1 (K : List Int) (v : Int) (r : Int × MS) (n : Int) : Int × MS := if (r.2.nd n).var = v ∧ n ∉ K then (r.1 + 1, (r.2.free n).2) else r
/-- A level. -/
def MS.swLevel (K : List Int) (r : Int × MS) (l : Nat) : Int × MS := r.2.all.foldl (MS.sw1 K (r.2.o l)) r
/-- The first levels. -/
def MS.swTo (K : List Int) (r : Int × MS) (l : Nat) : Int × MS := (List.range l).foldl (MS.swLevel K) r
theorem MS.sweep_ex (s : MS) (roots : List Int) : ∃ r : Int × MS, r = MS.swTo (s.reach roots) (0, s) 8 := ⟨_, rfl⟩
/-- Sweep: how many were freed, the state. (Chosen, so that nobody reckons it.) -/
noncomputable def MS.sweep (s : MS) (roots : List Int) : Int × MS := (s.sweep_ex roots).choose
theorem MS.sweep_eq (s : MS) (roots : List Int) : s.sweep roots = MS.swTo (s.reach roots) (0, s) 8 := (s.sweep_ex roots).choose_spec

theorem MS.swTo_succ (K : List Int) (r : Int × MS) (l : Nat) : MS.swTo K r (l + 1) = MS.swLevel K (MS.swTo K r l) l := by
  unfold MS.swTo; rw [List.range_succ, List.foldl_append]; rfl

theorem MS.give_has {s : MS} (n m : Int) (hn : n - 2 ∈ s.ar.T) : MS.has { s with ar := s.ar.give (n - 2) } m = true ↔ s.has m = true ∧ m ≠ n := by
  have hg := (AS.give_yes hn).2
  simp only [MS.has, Bool.and_eq_true, decide_eq_true_eq, hg, List.mem_filter, bne_iff_ne]
  constructor
  · rintro ⟨a, b, c⟩; exact ⟨⟨a, b⟩, by omega⟩
  · rintro ⟨⟨a, b⟩, c⟩; exact ⟨a, b, by omega⟩

/-- What is free of parts above is freed. -/
theorem MS.Base.free_yes {s : MS} (h : s.Base) {n : Int} (hn : s.has n = true) (hlow : ∀ m, s.has m = true → (s.nd m).lo ≠ n ∧ (s.nd m).hi ≠ n) :
    (s.free n).1 = 0 ∧ (∀ m, (s.free n).2.has m = true ↔ s.has m = true ∧ m ≠ n) ∧ (s.free n).2.N = s.N ∧ (s.free n).2.o = s.o ∧ (s.free n).2.ar.most = s.ar.most ∧ (s.free n).2.all.length + 1 = s.all.length := by
  obtain ⟨r1, r2, r3⟩ := h.range hn
  have hl : s.isLow n = false := by
    unfold MS.isLow
    rw [List.any_eq_false]
    intro m _ hc
    simp only [Bool.and_eq_true, Bool.or_eq_true, decide_eq_true_eq] at hc
    obtain ⟨hc, hm⟩ := hc
    have := hlow m hm
    rcases hc with hc | hc
    · exact this.1 hc
    · exact this.2 hc
  have e : s.free n = (s.ar.giveE (n - 2), { s with ar := s.ar.give (n - 2) }) := by
    unfold MS.free
    rw [if_neg (by rw [hn, hl]; simp)]
  rw [e]
  have hh := fun m => MS.give_has (s := s) n m r3
  have hg := (AS.give_yes r3).2
  have hb : MS.Base { s with ar := s.ar.give (n - 2) } := ⟨h.ar.give _, by show s.N.length = (s.ar.give (n - 2)).next; rw [hg]; exact h.len⟩
  refine ⟨(AS.give_yes r3).1, hh, rfl, rfl, by rw [hg], ?_⟩
  have hp : (n :: MS.all { s with ar := s.ar.give (n - 2) }).Perm s.all := by
    refine (List.perm_ext_iff_of_nodup (List.nodup_cons.2 ⟨fun hc => ((hh n).1 (hb.mem_all.1 hc)).2 rfl, MS.all_nodup _⟩) s.all_nodup).2 fun m => ?_
    rw [List.mem_cons, hb.mem_all, h.mem_all, hh]
    constructor
    · rintro (rfl | ⟨hm, _⟩)
      · exact hn
      · exact hm
    · intro hm
      by_cases e : m = n
      · exact .inl e
      · exact .inr ⟨hm, e⟩
  have := hp.length_eq
  rw [List.length_cons] at this
  exact this

/-- As far as a level: what is so of what was looked at. -/
structure SwI (s : MS) (K : List Int) (r : Int × MS) : Prop where
  ok : r.2.Ok
  N : r.2.N = s.N
  o : r.2.o = s.o
  most : r.2.ar.most = s.ar.most
  has : ∀ n, r.2.has n = true → s.has n = true
  kept : ∀ n, s.has n = true → n ∈ K → r.2.has n = true
  cnt : r.1 + (r.2.all.length : Int) = s.all.length

section
variable {s : MS} {K : List Int} {r : Int × MS}
theorem SwI.nd (h : SwI s K r) (n : Int) : r.2.nd n = s.nd n := by unfold MS.nd; rw [h.N]

/-- Levels ahead have kept nodes only. -/
def SwDone (s : MS) (K : List Int) (r : Int × MS) (l : Nat) : Prop := ∀ n, r.2.has n = true → levO s.o (s.nd n).var < (l : Int) → n ∈ K

/-- K has its parts. -/
def SwClosed (s : MS) (K : List Int) : Prop := ∀ m ∈ K, (s.has (s.nd m).lo = true → (s.nd m).lo ∈ K) ∧ (s.has (s.nd m).hi = true → (s.nd m).hi ∈ K)

theorem SwI.free (h : SwI s K r) (hc : SwClosed s K) {l : Nat} (hd : SwDone s K r l) (hl : l < 8) {n : Int} (hn : r.2.has n = true) (hv : (r.2.nd n).var = r.2.o l) (hk : n ∉ K) :
    (r.2.free n).1 = 0 ∧ (∀ m, (r.2.free n).2.has m = true ↔ r.2.has m = true ∧ m ≠ n) ∧ (r.2.free n).2.N = r.2.N ∧ (r.2.free n).2.o = r.2.o ∧ (r.2.free n).2.ar.most = r.2.ar.most ∧ (r.2.free n).2.all.length + 1 = r.2.all.length := by
  refine h.ok.toBase.free_yes hn fun m hm => ?_
  have hlev : levO s.o (s.nd n).var = (l : Int) := by
    have := levO_at (v := (r.2.nd n).var) h.ok.order hl hv.symm
    rwa [h.o, h.nd] at this
  have key : ∀ x, x = n → r.2.behind x (r.2.nd m).var = true → m ∈ K := fun x e hb => by
    subst e
    rcases MS.behind_cases hb with hx | ⟨_, hx⟩
    · have : r.2.has x = false := by rcases hx with rfl | rfl <;> rfl
      rw [this] at hn; cases hn
    · rw [h.o, h.nd, h.nd, hlev] at hx
      exact hd m hm hx
  have hsn := h.has n hn
  constructor
  · intro e
    have hmK := key _ e (h.ok.lo m hm)
    rw [h.nd] at e
    exact hk (e ▸ (hc m hmK).1 (by rw [e]; exact hsn))
  · intro e
    have hmK := key _ e (h.ok.hi m hm)
    rw [h.nd] at e
    exact hk (e ▸ (hc m hmK).2 (by rw [e]; exact hsn))

/-- One step. -/
theorem SwI.step (h : SwI s K r) (hc : SwClosed s K) {l : Nat} (hd : SwDone s K r l) (hl : l < 8) {n : Int} (hn : r.2.has n = true) :
    SwI s K (MS.sw1 K (r.2.o l) r n) ∧ SwDone s K (MS.sw1 K (r.2.o l) r n) l ∧ (∀ m, (MS.sw1 K (r.2.o l) r n).2.has m = true → r.2.has m = true) ∧
      (∀ m, r.2.has m = true → m ≠ n → (MS.sw1 K (r.2.o l) r n).2.has m = true) ∧ ((MS.sw1 K (r.2.o l) r n).2.has n = true → (s.nd n).var = s.o l → n ∈ K) := by
  unfold MS.sw1
  by_cases hv : (r.2.nd n).var = r.2.o l ∧ n ∉ K
  · rw [if_pos hv]
    obtain ⟨f0, f1, f2, f3, f4, f5⟩ := h.free hc hd hl hn hv.1 hv.2
    refine ⟨⟨h.ok.freed n, f2.trans h.N, f3.trans h.o, f4.trans h.most, fun m hm => h.has m ((f1 m).1 hm).1, fun m hm hk => (f1 m).2 ⟨h.kept m hm hk, fun e => hv.2 (e ▸ hk)⟩, ?_⟩, fun m hm hlt => hd m ((f1 m).1 hm).1 hlt, fun m hm => ((f1 m).1 hm).1, fun m hm hne => (f1 m).2 ⟨hm, hne⟩, fun hm => absurd rfl ((f1 n).1 hm).2⟩
    have := h.cnt
    show r.1 + 1 + ((r.2.free n).2.all.length : Int) = _
    omega
  · rw [if_neg hv]
    refine ⟨h, hd, fun m hm => hm, fun m hm _ => hm, fun _ hvar => ?_⟩
    rw [← h.nd, ← h.o] at hvar
    exact Classical.byContradiction fun hk => hv ⟨hvar, hk⟩

/-- Within a level: of a list that is there, each once. -/
theorem SwI.level (hc : SwClosed s K) {l : Nat} (hl : l < 8) : ∀ (L : List Int) (r : Int × MS), SwI s K r → SwDone s K r l → L.Nodup → (∀ n ∈ L, r.2.has n = true) →
    SwI s K (L.foldl (MS.sw1 K (s.o l)) r) ∧ SwDone s K (L.foldl (MS.sw1 K (s.o l)) r) l ∧ (∀ m, (L.foldl (MS.sw1 K (s.o l)) r).2.has m = true → r.2.has m = true) ∧
      (∀ m, r.2.has m = true → m ∉ L → (L.foldl (MS.sw1 K (s.o l)) r).2.has m = true) ∧ (∀ n ∈ L, (L.foldl (MS.sw1 K (s.o l)) r).2.has n = true → (s.nd n).var = s.o l → n ∈ K)
  | [], r, h, hd, _, _ => ⟨h, hd, fun _ h => h, fun _ h _ => h, fun _ h => (by cases h)⟩
  | n :: L, r, h, hd, hN, hH => by
    obtain ⟨n1, n2⟩ := List.nodup_cons.1 hN
    obtain ⟨s1, s2, s3, s4, s5⟩ := h.step hc hd hl (hH n List.mem_cons_self)
    rw [h.o] at s1 s2 s3 s4 s5
    rw [List.foldl_cons]
    obtain ⟨t1, t2, t3, t4, t5⟩ := SwI.level hc hl L _ s1 s2 n2 (fun m hm => s4 m (hH m (List.mem_cons_of_mem _ hm)) (fun e => n1 (e ▸ hm)))
    refine ⟨t1, t2, fun m hm => s3 m (t3 m hm), fun m hm hne => t4 m (s4 m hm (fun e => hne (e ▸ List.mem_cons_self))) (fun e => hne (List.mem_cons_of_mem _ e)), fun m hm hh hv => ?_⟩
    rcases List.mem_cons.1 hm with rfl | hm
    · exact s5 (t3 _ hh) hv
    · exact t5 m hm hh hv

theorem SwI.next (h : SwI s K r) (hc : SwClosed s K) {l : Nat} (hl : l < 8) (hd : SwDone s K r l) : SwI s K (MS.swLevel K r l) ∧ SwDone s K (MS.swLevel K r l) (l + 1) := by
  unfold MS.swLevel
  rw [h.o]
  obtain ⟨t1, t2, t3, t4, t5⟩ := SwI.level hc hl r.2.all r h hd r.2.all_nodup (fun n hn => h.ok.toBase.mem_all.1 hn)
  refine ⟨t1, fun n hn hlt => ?_⟩
  by_cases hlt' : levO s.o (s.nd n).var < (l : Int)
  · exact t2 n hn hlt'
  · have e : levO s.o (s.nd n).var = (l : Int) := by omega
    have hr := t3 n hn
    refine t5 n (h.ok.toBase.mem_all.2 hr) hn ?_
    rcases levO_cases s.o (s.nd n).var with ⟨e1, _⟩ | ⟨j, e1, _, e2, _⟩
    · omega
    · rw [← e2]; congr 1; omega

theorem SwI.start (h : s.Ok) (K : List Int) : SwI s K (0, s) := ⟨h, rfl, rfl, rfl, fun _ h => h, fun _ h _ => h, by simp⟩
theorem SwI.upto (h : s.Ok) (hc : SwClosed s K) : ∀ l, l ≤ 8 → SwI s K (MS.swTo K (0, s) l) ∧ SwDone s K (MS.swTo K (0, s) l) l
  | 0, _ => ⟨SwI.start h K, fun n hn hl => by have := (h.lev hn).1; omega⟩
  | l + 1, hl => by
    obtain ⟨a, b⟩ := SwI.upto h hc l (by omega)
    rw [MS.swTo_succ]
    exact a.next hc (by omega) b
end

theorem MS.Ok.reach_closed {s : MS} (h : s.Ok) (roots : List Int) : SwClosed s (s.reach roots) := fun m hm => by
  have hr := (h.toBase.reach_iff).1 hm
  exact ⟨fun hh => h.toBase.reach_iff.2 (.lo hr hh), fun hh => h.toBase.reach_iff.2 (.hi hr hh)⟩

/-- What Sweep comes to. -/
structure Swept (s : MS) (roots : List Int) (t : MS) : Prop where
  ok : t.Ok
  N : t.N = s.N
  o : t.o = s.o
  most : t.ar.most = s.ar.most
  has : ∀ n, t.has n = true ↔ s.Rch roots n
  all : t.all = s.reach roots

open Classical in
theorem MS.Ok.swept {s : MS} (h : s.Ok) (roots : List Int) : Swept s roots (s.sweep roots).2 ∧ (s.sweep roots).1 + ((s.reach roots).length : Int) = s.all.length := by
  obtain ⟨a, b⟩ := SwI.upto h (h.reach_closed roots) 8 (Nat.le_refl _)
  rw [MS.sweep_eq]
  generalize MS.swTo (s.reach roots) (0, s) 8 = r at *
  have hh : ∀ n, r.2.has n = true ↔ s.Rch roots n := fun n => by
    constructor
    · intro hn
      have h1 := a.has n hn
      have := b n hn (by have := (h.lev h1).2; omega)
      exact h.toBase.reach_iff.1 this
    · intro hr
      exact a.kept n hr.has (h.toBase.reach_iff.2 hr)
  have hall : r.2.all = s.reach roots := by
    unfold MS.reach MS.all
    rw [List.filter_filter, a.N]
    refine List.filter_congr fun n _ => ?_
    have := hh n
    by_cases hr : s.Rch roots n
    · rw [this.2 hr, decide_eq_true hr, hr.has]; rfl
    · rw [decide_eq_false hr, Bool.false_and]
      cases e : r.2.has n
      · rfl
      · exact absurd (this.1 e) hr
  refine ⟨⟨a.ok, a.N, a.o, a.most, hh, hall⟩, ?_⟩
  rw [← hall]; exact a.cnt

theorem Swept.nd {s t : MS} {roots : List Int} (h : Swept s roots t) (n : Int) : t.nd n = s.nd n := by unfold MS.nd; rw [h.N]
/-- What is reached is as it was. -/
theorem Swept.val {s t : MS} {roots : List Int} (h : Swept s roots t) (ok : s.Ok) (b : Int → Bool) : ∀ k n, s.dep n ≤ k → (s.has n = true → s.Rch roots n) → t.val b n = s.val b n := by
  intro k
  induction k with
  | zero =>
    intro n hd _
    have hn : s.has n = false := by
      cases hh : s.has n
      · rfl
      · have := ok.dep_pos hh; omega
    have ht : t.has n = false := by
      cases hh : t.has n
      · rfl
      · have := ((h.has n).1 hh).has; rw [hn] at this; cases this
    rw [MS.val_const _ hn, MS.val_const _ ht]
  | succ k ih =>
    intro n hd hr
    cases hn : s.has n
    · have ht : t.has n = false := by
        cases hh : t.has n
        · rfl
        · have := ((h.has n).1 hh).has; rw [hn] at this; cases this
      rw [MS.val_const _ hn, MS.val_const _ ht]
    · have hR := hr hn
      have ht := (h.has n).2 hR
      have d1 := ok.dep_behind hn (ok.lo n hn)
      have d2 := ok.dep_behind hn (ok.hi n hn)
      rw [ok.val_node b hn, h.ok.val_node b ht, h.nd]
      split
      · exact ih _ (by omega) (fun hh => .hi hR hh)
      · exact ih _ (by omega) (fun hh => .lo hR hh)
theorem Swept.tab {s t : MS} {roots : List Int} (h : Swept s roots t) (ok : s.Ok) {n : Int} (hr : s.has n = true → s.Rch roots n) : t.tab n = s.tab n := fn_ext fun k hk => by
  rw [MS.tab_bit _ _ hk, MS.tab_bit _ _ hk]
  exact h.val ok _ _ n (Nat.le_refl _) hr

end Go.Proofs.YtmbonbicokbihaaGreatDoor

/-
  What is asked of the code's package sweep, whatever it is; its example.
-/
namespace Go.Proofs.YtmbonbicokbihaaGreatDoor
open Go Go.RowKit

/-- Roots that stay while F turns. -/
def RootsAt (w : World) (F : Nat → Prop) (v : Value) (roots : List Int) : Prop := ∀ W, Keeps F w W → Reads encI W v roots
theorem RootsAt.reads {w : World} {F : Nat → Prop} {v : Value} {roots : List Int} (h : RootsAt w F v roots) : Reads encI w v roots := h w (Keeps.refl _ _)
theorem RootsAt.keep {w w' : World} {F F' : Nat → Prop} {v : Value} {roots : List Int} (h : RootsAt w F v roots) (hk : Keeps F w w') (hW : Within w F F') : RootsAt w' F' v roots := fun W hW' => h W (hk.trans hW' hW)
theorem RootsAt.below {w w' : World} {F : Nat → Prop} {v : Value} {roots : List Int} (h : RootsAt w F v roots) (hb : Below w.heap.size w w') : RootsAt w' F v roots := h.keep (Keeps.of_below hb F) (Within.refl _ _)
theorem RootsAt.of_owns {w : World} {F : Nat → Prop} {v : Value} {roots : List Int} (h : Owns encI w v roots) (hF : ∀ g, v.ownBlock = some g → ¬ F g) : RootsAt w F v roots := fun _ hk => (h.keep hk hF).reads
theorem RootsAt.none (w : World) (F : Nat → Prop) : RootsAt w F (.slice none 0 0) [] := RootsAt.of_owns (Owns.nil _ _) (fun _ h => by cases h)
theorem ownsOne (W : World) (n : Int) : Owns encI (W.alloc (.cells #[.int .i64 n] 3)) (.slice (some ⟨W.heap.size, 0, none⟩) 1 1) [n] := World.ownsRow_lit W #[.int .i64 n] 1 (Nat.zero_le _) (by unfold maxLen; decide) rfl

/-- Each call of package sweep. -/
structure SweepC (StAt : World → Nat → (Nat → Prop) → MS → Prop) : Prop where ofAll ::
  sweep : ∀ {w b F s}, StAt w b F s → s.Ok → ∀ (roots : List Int) (v : Value), RootsAt w F v roots → roots.length ≤ 100000 → (∀ r ∈ roots, r ≤ 9223372036854775807 ∧ -9223372036854775808 ≤ r) → Calls Tryz.prog 11 #[.pointer (some ⟨b, 0, none⟩), v] w fun e w' => e = .returned (.int .i64 (s.sweep roots).1) ∧ ∃ F', StAt w' b F' (s.sweep roots).2 ∧ Keeps F w w' ∧ Within w F F'

open Classical in
/-- Without roots nothing is reached. -/
theorem MS.reach_none (s : MS) : s.reach [] = [] := by
  unfold MS.reach
  rw [List.filter_eq_nil_iff]
  intro n hm h
  have hr : s.Rch [] n := of_decide_eq_true h
  clear h hm
  induction hr with
  | root h _ => cases h
  | lo _ _ ih => exact ih
  | hi _ _ ih => exact ih
open Classical in
/-- Where roots are all there is. -/
theorem MS.Base.reach_all_of {s : MS} (ok : s.Base) {roots : List Int} (h : ∀ n, s.has n = true → n ∈ roots) : s.reach roots = s.all := by
  unfold MS.reach
  rw [List.filter_eq_self]
  intro n hn
  have hh := ok.mem_all.1 hn
  exact decide_eq_true (.root (h n hh) hh)
theorem MS.Ok.sweep_none {s : MS} (h : s.Ok) : (s.sweep []).1 = s.all.length ∧ (s.sweep []).2.all = [] := by
  obtain ⟨a, b⟩ := h.swept []
  rw [s.reach_none] at b
  exact ⟨by simpa using b, by rw [a.all, s.reach_none]⟩
theorem MS.Ok.sweep_all {s : MS} (h : s.Ok) {roots : List Int} (hr : ∀ n, s.has n = true → n ∈ roots) : (s.sweep roots).1 = 0 ∧ (s.sweep roots).2.all = s.all := by
  obtain ⟨a, b⟩ := h.swept roots
  rw [h.toBase.reach_all_of hr] at b
  exact ⟨by omega, by rw [a.all, h.toBase.reach_all_of hr]⟩

end Go.Proofs.YtmbonbicokbihaaGreatDoor

/-
  Mathematics of the landed Sweep: what isn't reached, laid by variables, is freed one behind the other. Nothing of the program is read here.
-/
namespace Go.Proofs.YtmbonbicokbihaaGreatDoor

/-- It isn't in K, and of this variable. -/
def MS.out (s : MS) (K : List Int) (v : Int) (n : Int) : Bool := decide ((s.nd n).var = v ∧ n ∉ K)
/-- Of a variable what isn't in K. -/
def MS.idle (s : MS) (K : List Int) (v : Int) : List Int := s.all.filter (s.out K v)
/-- What goes on the first levels. -/
def MS.goes (s : MS) (K : List Int) : Nat → List Int
  | 0 => []
  | l + 1 => s.goes K l ++ s.idle K (s.o l)
/-- One that goes. -/
def MS.free1 (r : Int × MS) (n : Int) : Int × MS := (r.1 + 1, (r.2.free n).2)

theorem MS.free_N (s : MS) (n : Int) : (s.free n).2.N = s.N := by unfold MS.free; split <;> rfl
theorem MS.mem_idle {s : MS} (ok : s.Base) {K : List Int} {v n : Int} : n ∈ s.idle K v ↔ s.has n = true ∧ (s.nd n).var = v ∧ n ∉ K := by
  unfold MS.idle MS.out
  rw [List.mem_filter, ok.mem_all, decide_eq_true_eq]
theorem MS.mem_goes {s : MS} (ok : s.Base) {K : List Int} {n : Int} : ∀ {l : Nat}, n ∈ s.goes K l → n ∉ K ∧ ∃ j, j < l ∧ (s.nd n).var = s.o j := by
  intro l
  induction l with
  | zero => intro h; cases h
  | succ l ih =>
    intro h
    rcases List.mem_append.1 h with h | h
    · obtain ⟨a, j, hj, e⟩ := ih h
      exact ⟨a, j, by omega, e⟩
    · obtain ⟨_, b, c⟩ := (MS.mem_idle ok).1 h
      exact ⟨c, l, by omega, b⟩

theorem foldl_sw1 {s : MS} {K : List Int} {v : Int} : ∀ (X : List Int) (r : Int × MS), r.2.N = s.N → X.foldl (MS.sw1 K v) r = (X.filter (s.out K v)).foldl MS.free1 r
  | [], _, _ => rfl
  | n :: X, r, h => by
    have hn : r.2.nd n = s.nd n := by unfold MS.nd; rw [h]
    rw [List.foldl_cons]
    by_cases hp : (s.nd n).var = v ∧ n ∉ K
    · have e : MS.sw1 K v r n = MS.free1 r n := by unfold MS.sw1 MS.free1; rw [hn, if_pos hp]
      have ep : s.out K v n = true := decide_eq_true hp
      rw [List.filter_cons_of_pos ep, List.foldl_cons, e]
      exact foldl_sw1 X _ ((MS.free_N _ _).trans h)
    · have e : MS.sw1 K v r n = r := by unfold MS.sw1; rw [hn, if_neg hp]
      have ep : ¬ s.out K v n = true := by unfold MS.out; simpa using hp
      rw [List.filter_cons_of_neg ep, e]
      exact foldl_sw1 X _ h

/-- As far as some went. -/
structure Gone (s : MS) (K : List Int) (l : Nat) (G : List Int) (r : Int × MS) : Prop where
  i : SwI s K r
  d : SwDone s K r l
  has : ∀ m, r.2.has m = true ↔ s.has m = true ∧ m ∉ G
section
variable {s : MS} {K : List Int}
theorem Gone.yes {l : Nat} {G : List Int} {r : Int × MS} (h : Gone s K l G r) (ok : s.Ok) (hc : SwClosed s K) (hl : l < 8) {n : Int} (hn : n ∈ s.idle K (s.o l)) (hG : n ∉ G) : r.2.Ok ∧ (r.2.free n).1 = 0 ∧ Gone s K l (G ++ [n]) (MS.free1 r n) := by
  obtain ⟨a, b, c⟩ := (MS.mem_idle ok.toBase).1 hn
  have hr := (h.has n).2 ⟨a, hG⟩
  have hv : (r.2.nd n).var = r.2.o l := by rw [h.i.nd, h.i.o]; exact b
  obtain ⟨f0, f1, _⟩ := h.i.free hc h.d hl hr hv c
  obtain ⟨s1, s2, _⟩ := h.i.step hc h.d hl hr
  have e : MS.sw1 K (r.2.o l) r n = MS.free1 r n := by unfold MS.sw1 MS.free1; rw [if_pos ⟨hv, c⟩]
  rw [e] at s1 s2
  refine ⟨h.i.ok, f0, s1, s2, fun m => ?_⟩
  show (r.2.free n).2.has m = true ↔ _
  rw [f1, h.has, List.mem_append, List.mem_singleton]
  constructor
  · rintro ⟨⟨x, y⟩, z⟩; exact ⟨x, fun q => q.elim y z⟩
  · rintro ⟨x, y⟩; exact ⟨⟨x, fun q => y (.inl q)⟩, fun q => y (.inr q)⟩
theorem MS.idle_nodup (s : MS) (K : List Int) (v : Int) : (s.idle K v).Nodup := List.Pairwise.filter _ s.all_nodup
/-- Within a level. -/
theorem Gone.upto {l : Nat} {r : Int × MS} (h : Gone s K l (s.goes K l) r) (ok : s.Ok) (hc : SwClosed s K) (hl : l < 8) : ∀ i, i ≤ (s.idle K (s.o l)).length → Gone s K l (s.goes K l ++ (s.idle K (s.o l)).take i) (((s.idle K (s.o l)).take i).foldl MS.free1 r) ∧
      ∀ hi : i < (s.idle K (s.o l)).length, (s.idle K (s.o l))[i] ∉ s.goes K l ++ (s.idle K (s.o l)).take i := by
  have away : ∀ i (hi : i < (s.idle K (s.o l)).length), (s.idle K (s.o l))[i] ∉ s.goes K l ++ (s.idle K (s.o l)).take i := fun i hi hm => by
    have hin := List.getElem_mem hi
    obtain ⟨_, b, _⟩ := (MS.mem_idle ok.toBase).1 hin
    rcases List.mem_append.1 hm with hm | hm
    · obtain ⟨_, j, hj, e⟩ := MS.mem_goes ok.toBase hm
      have e1 := levO_at ok.order (i := j) (by omega) e.symm
      have e2 := levO_at ok.order hl b.symm
      omega
    · obtain ⟨k, hk, e⟩ := List.mem_take_iff_getElem.1 hm
      have := (List.getElem_inj (s.idle_nodup K (s.o l))).1 e
      omega
  intro i
  induction i with
  | zero => intro _; exact ⟨by simpa using h, away 0⟩
  | succ i ih =>
    intro hi
    obtain ⟨a, b⟩ := ih (by omega)
    have hlt : i < (s.idle K (s.o l)).length := by omega
    obtain ⟨_, _, c⟩ := a.yes ok hc hl (List.getElem_mem hlt) (b hlt)
    refine ⟨?_, away (i + 1)⟩
    rw [List.take_succ_eq_append_getElem hlt, List.foldl_append, ← List.append_assoc]
    exact c
theorem Gone.next {l : Nat} {r : Int × MS} (h : Gone s K l (s.goes K l) r) (ok : s.Ok) (hc : SwClosed s K) (hl : l < 8) : MS.swLevel K r l = (s.idle K (s.o l)).foldl MS.free1 r ∧ Gone s K (l + 1) (s.goes K (l + 1)) (MS.swLevel K r l) := by
  have e : MS.swLevel K r l = (s.idle K (s.o l)).foldl MS.free1 r := by
    unfold MS.swLevel
    rw [foldl_sw1 (s := s) _ _ h.i.N, h.i.o]
    congr 1
    unfold MS.idle MS.all
    rw [List.filter_filter, List.filter_filter, h.i.N]
    refine List.filter_congr fun n _ => ?_
    cases ho : s.out K (s.o l) n
    · rw [Bool.false_and, Bool.false_and]
    · rw [Bool.true_and, Bool.true_and]
      have hv : (s.nd n).var = s.o l ∧ n ∉ K := of_decide_eq_true ho
      have := h.has n
      cases hs : s.has n
      · cases hr : r.2.has n
        · rfl
        · rw [hr, hs] at this; exact absurd (this.1 rfl).1 (by decide)
      · refine this.2 ⟨hs, fun hm => ?_⟩
        obtain ⟨_, j, hj, e⟩ := MS.mem_goes ok.toBase hm
        have e1 := levO_at ok.order (i := j) (by omega) e.symm
        have e2 := levO_at ok.order hl hv.1.symm
        omega
  obtain ⟨a, b⟩ := h.i.next hc hl h.d
  refine ⟨e, a, b, fun m => ?_⟩
  have c := (h.upto ok hc hl _ (Nat.le_refl _)).1
  rw [List.take_length] at c
  rw [e]
  exact c.has m
/-- Behind the first levels. -/
theorem MS.Ok.gone (ok : s.Ok) (hc : SwClosed s K) : ∀ l, l ≤ 8 → Gone s K l (s.goes K l) (MS.swTo K (0, s) l)
  | 0, _ => ⟨SwI.start ok K, fun n hn hl => by have := (ok.lev hn).1; omega, fun m => by simp [MS.goes, MS.swTo]⟩
  | l + 1, hl => by
    rw [MS.swTo_succ]
    exact ((MS.Ok.gone ok hc l (by omega)).next ok hc (by omega)).2

/-- Behind the first levels, and some of the next one. -/
noncomputable def MS.sweepAt (s : MS) (roots : List Int) (l i : Nat) : Int × MS := ((s.idle (s.reach roots) (s.o l)).take i).foldl MS.free1 (MS.swTo (s.reach roots) (0, s) l)
theorem MS.sweepAt_start (s : MS) (roots : List Int) : s.sweepAt roots 0 0 = (0, s) := by simp [MS.sweepAt, MS.swTo]
theorem MS.Ok.sweepAt_ok (ok : s.Ok) (roots : List Int) {l : Nat} (hl : l < 8) {i : Nat} (hi : i < (s.idle (s.reach roots) (s.o l)).length) :
    (s.sweepAt roots l i).2.Ok ∧ (((s.sweepAt roots l i).2.free (s.idle (s.reach roots) (s.o l))[i]).1 = 0) ∧ s.sweepAt roots l (i + 1) = ((s.sweepAt roots l i).1 + 1, ((s.sweepAt roots l i).2.free (s.idle (s.reach roots) (s.o l))[i]).2) := by
  have hc := ok.reach_closed roots
  obtain ⟨a, b⟩ := (ok.gone hc l (by omega)).upto ok hc hl i (by omega)
  obtain ⟨x, y, _⟩ := a.yes ok hc hl (List.getElem_mem hi) (b hi)
  refine ⟨x, y, ?_⟩
  unfold MS.sweepAt
  rw [List.take_succ_eq_append_getElem hi, List.foldl_append]
  rfl
theorem MS.Ok.sweepAt_next (ok : s.Ok) (roots : List Int) {l : Nat} (hl : l < 8) : s.sweepAt roots l (s.idle (s.reach roots) (s.o l)).length = s.sweepAt roots (l + 1) 0 := by
  have hc := ok.reach_closed roots
  unfold MS.sweepAt
  rw [List.take_length, List.take_zero, List.foldl_nil, MS.swTo_succ, ((ok.gone hc l (by omega)).next ok hc hl).1]
theorem MS.sweepAt_end (s : MS) (roots : List Int) : s.sweepAt roots 8 0 = s.sweep roots := by
  unfold MS.sweepAt; rw [List.take_zero, List.foldl_nil, MS.sweep_eq]
/-- How many: never more than there were. -/
theorem MS.Ok.sweepAt_many (ok : s.Ok) (roots : List Int) {l : Nat} (hl : l < 8) {i : Nat} (hi : i ≤ (s.idle (s.reach roots) (s.o l)).length) : 0 ≤ (s.sweepAt roots l i).1 + (s.all.length : Int) ∧ (s.sweepAt roots l i).1 ≤ (s.all.length : Int) := by
  have hc := ok.reach_closed roots
  obtain ⟨a, _⟩ := (ok.gone hc l (by omega)).upto ok hc hl i hi
  have h1 := a.i.cnt
  have h2 : ((((s.idle (s.reach roots) (s.o l)).take i).foldl MS.free1 (MS.swTo (s.reach roots) (0, s) l)).2.all.length : Int) ≤ s.all.length := by
    have : (((s.idle (s.reach roots) (s.o l)).take i).foldl MS.free1 (MS.swTo (s.reach roots) (0, s) l)).2.all.length ≤ s.all.length := by
      unfold MS.all
      rw [a.i.N]
      rw [← List.countP_eq_length_filter, ← List.countP_eq_length_filter]
      exact List.countP_mono_left fun n _ hn => a.i.has n hn
    omega
  unfold MS.sweepAt
  omega
theorem MS.Ok.sweepAt_okX (ok : s.Ok) (roots : List Int) {l : Nat} (hl : l < 8) {X : Int} (hX : s.o l = X) {i : Nat} (hi : i < (s.idle (s.reach roots) X).length) :
    (s.sweepAt roots l i).2.Ok ∧ (((s.sweepAt roots l i).2.free (s.idle (s.reach roots) X)[i]).1 = 0) ∧ s.sweepAt roots l (i + 1) = ((s.sweepAt roots l i).1 + 1, ((s.sweepAt roots l i).2.free (s.idle (s.reach roots) X)[i]).2) := by
  subst hX; exact ok.sweepAt_ok roots hl hi
theorem MS.Ok.sweepAt_nextX (ok : s.Ok) (roots : List Int) {l : Nat} (hl : l < 8) {X : Int} (hX : s.o l = X) : s.sweepAt roots l (s.idle (s.reach roots) X).length = s.sweepAt roots (l + 1) 0 := by
  subst hX; exact ok.sweepAt_next roots hl
theorem MS.Ok.sweepAt_manyX (ok : s.Ok) (roots : List Int) {l : Nat} (hl : l < 8) {X : Int} (hX : s.o l = X) {i : Nat} (hi : i ≤ (s.idle (s.reach roots) X).length) : 0 ≤ (s.sweepAt roots l i).1 + (s.all.length : Int) ∧ (s.sweepAt roots l i).1 ≤ (s.all.length : Int) := by
  subst hX; exact ok.sweepAt_many roots hl hi
end

end Go.Proofs.YtmbonbicokbihaaGreatDoor

/-
  Eight slices of numbers in one variable, each somebody's own.
-/
namespace Go.Proofs.YtmbonbicokbihaaGreatDoor
open Go Go.RowKit

/-- Eight slices, as the program holds them. -/
def iv8 (V : Nat → Value) : Value := .agg #[V 0, V 1, V 2, V 3, V 4, V 5, V 6, V 7]
/-- Block b is a variable that holds eight slices. -/
def HoldsI (w : World) (b : Nat) (V : Nat → Value) : Prop := w.heap[b]? = some (.cells #[V 0, V 1, V 2, V 3, V 4, V 5, V 6, V 7] 68 (0, 0))
theorem HoldsI.lt {w : World} {b : Nat} {V : Nat → Value} (h : HoldsI w b V) : b < w.heap.size := (Array.getElem?_eq_some_iff.1 h).1
theorem HoldsI.block {w w' : World} {b : Nat} {V : Nat → Value} (h : HoldsI w b V) (hb : w'.heap[b]? = w.heap[b]?) : HoldsI w' b V := hb.trans h
theorem HoldsI.keep {w w' : World} {b : Nat} {V : Nat → Value} {F : Nat → Prop} (h : HoldsI w b V) (hb : Keeps F w w') (hF : ¬ F b) : HoldsI w' b V := h.block (hb.block b h.lt hF)
theorem HoldsI.below {w w' : World} {b : Nat} {V : Nat → Value} (h : HoldsI w b V) (hb : Below w.heap.size w w') : HoldsI w' b V := h.block (hb.block b h.lt)
theorem HoldsI.new (w : World) (V : Nat → Value) : HoldsI (w.alloc (.cells #[V 0, V 1, V 2, V 3, V 4, V 5, V 6, V 7] 68)) w.heap.size V := heap_alloc_new _ _
theorem HoldsI.cell {w : World} {b : Nat} {V : Nat → Value} (h : HoldsI w b V) (i : Nat) (hi : i < 8) : w.cell? ⟨b, i, none⟩ = some (V i) := by
  rw [cell_of_row _ _ _ _ _ _ h]
  rcases (by omega : i = 0 ∨ i = 1 ∨ i = 2 ∨ i = 3 ∨ i = 4 ∨ i = 5 ∨ i = 6 ∨ i = 7) with rfl | rfl | rfl | rfl | rfl | rfl | rfl | rfl <;> rfl
theorem HoldsI.free {w : World} {b : Nat} {V : Nat → Value} (h : HoldsI w b V) (j : Nat) : w.frozen? ⟨b, j, none⟩ = false := frozen_of_row _ _ _ _ _ h
/-- One of them, another. -/
def putV {α : Type} (V : Nat → α) (i : Nat) (x : α) : Nat → α := fun j => if j = i then x else V j
theorem HoldsI.set {w : World} {b : Nat} {V : Nat → Value} (h : HoldsI w b V) (i : Nat) (hi : i < 8) (x : Value) : HoldsI (w.setCell ⟨b, i, none⟩ x) b (putV V i x) := by
  have h1 := heap_setCell_same w b i _ _ x h
  unfold HoldsI
  rw [h1]
  rcases (by omega : i = 0 ∨ i = 1 ∨ i = 2 ∨ i = 3 ∨ i = 4 ∨ i = 5 ∨ i = 6 ∨ i = 7) with rfl | rfl | rfl | rfl | rfl | rfl | rfl | rfl <;> rfl
theorem HoldsI.other {w : World} {b c : Nat} {V : Nat → Value} (h : HoldsI w b V) (hne : b ≠ c) (i : Nat) (x : Value) : HoldsI (w.setCell ⟨c, i, none⟩ x) b V := h.block (Below.heap_setCell _ _ _ _ hne)
/-- All of them written. -/
theorem HoldsI.set8 {w : World} {b : Nat} {V : Nat → Value} (h : HoldsI w b V) (U : Nat → Value) :
    HoldsI ((((((((w.setCell ⟨b, 0, none⟩ (U 0)).setCell ⟨b, 1, none⟩ (U 1)).setCell ⟨b, 2, none⟩ (U 2)).setCell ⟨b, 3, none⟩ (U 3)).setCell ⟨b, 4, none⟩ (U 4)).setCell ⟨b, 5, none⟩ (U 5)).setCell ⟨b, 6, none⟩ (U 6)).setCell ⟨b, 7, none⟩ (U 7)) b U :=
  ((((((((h.set 0 (by decide) (U 0)).set 1 (by decide) (U 1)).set 2 (by decide) (U 2)).set 3 (by decide) (U 3)).set 4 (by decide) (U 4)).set 5 (by decide) (U 5)).set 6 (by decide) (U 6)).set 7 (by decide) (U 7))
theorem keeps_set8 {b : Nat} {w : World} {x0 x1 x2 x3 x4 x5 x6 x7 : Value} :
    Keeps (fun g => g = b) w ((((((((w.setCell ⟨b, 0, none⟩ x0).setCell ⟨b, 1, none⟩ x1).setCell ⟨b, 2, none⟩ x2).setCell ⟨b, 3, none⟩ x3).setCell ⟨b, 4, none⟩ x4).setCell ⟨b, 5, none⟩ x5).setCell ⟨b, 6, none⟩ x6).setCell ⟨b, 7, none⟩ x7) :=
  have k : ∀ (w : World) (i : Nat) (x : Value), Keeps (fun g => g = b) w (w.setCell ⟨b, i, none⟩ x) := fun w i x => Keeps.of_setCell (fun g => g = b) w ⟨b, i, none⟩ x rfl
  ((((((((k _ _ _).and (k _ _ _)).and (k _ _ _)).and (k _ _ _)).and (k _ _ _)).and (k _ _ _)).and (k _ _ _)).and (k _ _ _))
theorem ret_holdsI {fn : Func} {p : Tmp} {tmps : Array Value} {w : World} {b : Nat} {V : Nat → Value} (h : fn.results = #[.cell p 68]) (hp : tmps.getD p undef = .pointer (some ⟨b, 0, none⟩)) (hh : HoldsI w b V) :
    (results fn tmps).run Tryz.prog w = .ok (iv8 V) w :=
  results_cell_row h tmps w b _ _ _ _ hp hh Tryz.underlying68 rfl (by kernel_rfl)

/-- Eight slices of somebody's own, apart, in a variable b; what they hold was made since B. -/
structure Idle (w : World) (B b : Nat) (V : Nat → Value) (L : Nat → List Int) : Prop where
  holds : HoldsI w b V
  size : B ≤ w.heap.size
  ahead : b < B
  own : ∀ k, k < 8 → Owns encI w (V k) (L k)
  low : ∀ k, k < 8 → ∀ g, (V k).ownBlock = some g → B ≤ g
  apart : ∀ j k, j < 8 → k < 8 → j ≠ k → ∀ g, (V j).ownBlock = some g → (V k).ownBlock = some g → False
section
variable {w w' : World} {B b : Nat} {V : Nat → Value} {L : Nat → List Int}
theorem Idle.start (h : HoldsI w b (fun _ => .slice none 0 0)) : Idle w w.heap.size b (fun _ => .slice none 0 0) (fun _ => []) :=
  ⟨h, Nat.le_refl _, h.lt, fun _ _ => Owns.nil _ _, (fun _ _ g h => by cases h), (fun _ _ _ _ _ g h => by cases h)⟩
theorem Idle.keep (h : Idle w B b V L) (hb : Below w.heap.size w w') : Idle w' B b V L :=
  ⟨h.holds.below hb, Nat.le_trans h.size hb.size, h.ahead, fun k hk => (h.own k hk).block fun g hg => hb.block g ((h.own k hk).lt g hg), h.low, h.apart⟩
theorem Idle.sub (h : Idle w B b V L) (u : Sub w) : Idle u.1 B b V L := h.keep u.2
/-- One more in one of them. -/
theorem Idle.push (h : Idle w B b V L) {k : Nat} (hk : k < 8) {v : Value} {l : List Int} (hown : Owns encI w' v l) (hgr : w.grownBy w' (V k).ownBlock) (hat : v.ownBlock = (V k).ownBlock ∨ v.ownBlock = some w.heap.size) :
    Idle (w'.setCell ⟨b, k, none⟩ v) B b (putV V k v) (putV L k l) := by
  have hab := h.ahead
  have hb' : HoldsI w' b V := h.holds.block (hgr.block b h.holds.lt (fun e => by have := h.low k hk b e.symm; omega))
  have hsz := hgr.size
  have hvg : ∀ g, v.ownBlock = some g → B ≤ g := fun g hg => by
    rcases hat with e | e
    · exact h.low k hk g (e ▸ hg)
    · rw [e] at hg; cases hg; exact h.size
  have hset : ∀ {u : Value} {l' : List Int}, Owns encI w' u l' → (∀ g, u.ownBlock = some g → B ≤ g) → Owns encI (w'.setCell ⟨b, k, none⟩ v) u l' := fun ho hne => ho.block fun g hg => Below.heap_setCell _ _ _ _ (by have := hne g hg; show g ≠ b; omega)
  refine ⟨hb'.set k hk v, ?_, hab, fun j hj => ?_, fun j hj g hg => ?_, fun i j hi hj hij g h1 h2 => ?_⟩
  · have := h.size; simp only [World.setCell, Array.size_modify]; omega
  · by_cases e : j = k
    · subst e
      simp only [putV, if_true]
      exact hset hown hvg
    · simp only [putV, if_neg e]
      exact hset ((h.own j hj).block fun g hg => hgr.block g ((h.own j hj).lt g hg) fun e2 => h.apart j k hj hk e g hg e2.symm) fun g hg => h.low j hj g hg
  · by_cases e : j = k
    · subst e
      simp only [putV, if_true] at hg
      exact hvg g hg
    · simp only [putV, if_neg e] at hg
      exact h.low j hj g hg
  · have key : ∀ i, i < 8 → i ≠ k → ∀ g, (V i).ownBlock = some g → v.ownBlock = some g → False := fun i hi hik g h1 h2 => by
      rcases hat with e | e
      · exact h.apart i k hi hk hik g h1 (e ▸ h2)
      · rw [e] at h2; cases h2
        have := (h.own i hi).lt _ h1
        omega
    by_cases e1 : i = k
    · subst e1
      have e2 : j ≠ i := fun e => hij e.symm
      simp only [putV, if_true] at h1
      simp only [putV, if_neg e2] at h2
      exact key j hj e2 g h2 h1
    · simp only [putV, if_neg e1] at h1
      by_cases e2 : j = k
      · subst e2
        simp only [putV, if_true] at h2
        exact key i hi e1 g h1 h2
      · simp only [putV, if_neg e2] at h2
        exact h.apart i j hi hj hij g h1 h2
theorem Idle.pushKeeps (h : Idle w B b V L) {k : Nat} (hk : k < 8) {v : Value} (hgr : w.grownBy w' (V k).ownBlock) {w0 : World} (hw : Keeps (fun g => g = b) w0 w) (hB : w0.heap.size ≤ B) :
    Keeps (fun g => g = b) w0 (w'.setCell ⟨b, k, none⟩ v) := by
  have h1 : Keeps (fun g => w0.heap.size ≤ g) w w' := Keeps.of_grown hgr fun g e => Nat.le_trans hB (h.low k hk g e)
  have h2 := Keeps.of_setCell (fun g => g = b) w' ⟨b, k, none⟩ v rfl
  refine ⟨h2.os.trans (h1.os.trans hw.os), h2.tape.trans (h1.tape.trans hw.tape), h2.output.trans (h1.output.trans hw.output), Nat.le_trans hw.size (Nat.le_trans h1.size h2.size), fun g hg hne => ?_⟩
  have hg1 := Nat.lt_of_lt_of_le hg hw.size
  have hg2 := Nat.lt_of_lt_of_le hg1 h1.size
  exact (h2.block g hg2 hne).trans ((h1.block g hg1 (by omega)).trans (hw.block g hg hne))
theorem Idle.pushCell (h : Idle w B b V L) {k : Nat} (hk : k < 8) (hgr : w.grownBy w' (V k).ownBlock) : w'.cell? ⟨b, k, none⟩ = some (V k) ∧ w'.frozen? ⟨b, k, none⟩ = false := by
  have hb' : HoldsI w' b V := h.holds.block (hgr.block b h.holds.lt (fun e => by have := h.low k hk b e.symm; have := h.ahead; omega))
  exact ⟨hb'.cell k hk, hb'.free k⟩
/-- Each is a slice. -/
theorem Idle.form (h : Idle w B b V L) : ∃ (A : Nat → Option Addr) (C : Nat → Nat), Idle w B b (fun k => .slice (A k) (L k).length (C k)) L := by
  have hA : ∀ k, ∃ x : Option Addr × Nat, k < 8 → V k = .slice x.1 (L k).length x.2 := fun k => by
    by_cases hk : k < 8
    · obtain ⟨a, c, e, _⟩ := (h.own k hk).form
      exact ⟨(a, c), fun _ => e⟩
    · exact ⟨(none, 0), fun q => absurd q hk⟩
  obtain ⟨X, hX⟩ := Classical.axiomOfChoice hA
  refine ⟨fun k => (X k).1, fun k => (X k).2, ?_, h.size, h.ahead, fun k hk => hX k hk ▸ h.own k hk, fun k hk g hg => h.low k hk g (hX k hk ▸ hg), fun j k hj hk hjk g h1 h2 => h.apart j k hj hk hjk g (hX j hj ▸ h1) (hX k hk ▸ h2)⟩
  have := h.holds
  unfold HoldsI at *
  rw [this, hX 0 (by decide), hX 1 (by decide), hX 2 (by decide), hX 3 (by decide), hX 4 (by decide), hX 5 (by decide), hX 6 (by decide), hX 7 (by decide)]
theorem Idle.congr (h : Idle w B b V L) {M : Nat → List Int} (he : ∀ k, k < 8 → L k = M k) : Idle w B b V M :=
  ⟨h.holds, h.size, h.ahead, fun k hk => he k hk ▸ h.own k hk, h.low, h.apart⟩
end

end Go.Proofs.YtmbonbicokbihaaGreatDoor
