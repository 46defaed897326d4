/-
  Texts of this proof, one behind the other: GathM, Slay, ReadR, ReadB.
-/
import Derived.Test.YtpcilfnnfhfgaaaGreatDoorG19
import Derived.Test.YtpcilfnnfhfgaaaGreatDoorG2
import Derived.Test.YtpcilfnnfhfgaaaGreatDoorG16
import Derived.Shelf.SlIterI.Nil
import Derived.Shelf.SortM.Plain
import Derived.Shelf.SortM.SortNone
import Derived.Test.YtpcilfnnfhfgaaaGreatDoorProg
import Derived.Test.YtpcilfnnfhfgaaaGreatDoorG10
import Derived.Test.YtpcilfnnfhfgaaaGreatDoorG8
/-
  Mathematics of package read: what a search from a node adds to what was met. Nothing of the program is read here.
-/
namespace Go.Proofs.YtpcilfnnfhfgaaaGreatDoor

/-- As deep as k all that is met has its parts met. -/
def MS.Clo (s : MS) (k : Nat) (S : List Int) : Prop := ∀ m ∈ S, s.dep m ≤ k → (s.has (s.nd m).lo = true → (s.nd m).lo ∈ S) ∧ (s.has (s.nd m).hi = true → (s.nd m).hi ∈ S)

/-- T is what a search from n adds to S. -/
structure GthP (s : MS) (n : Int) (S T : List Int) : Prop where
  nodup : (S ++ T).Nodup
  rch : ∀ m ∈ T, s.Rch [n] m ∧ s.dep m ≤ s.dep n
  inn : s.has n = true → n ∈ S ++ T
  clo : s.Clo (s.dep n) S → s.Clo (s.dep n) (S ++ T)

theorem MS.Rch.via {s : MS} {r : List Int} {m k : Int} (h : s.Rch [m] k) (hm : s.has m = true → s.Rch r m) : s.Rch r k := by
  induction h with
  | root h hh => obtain rfl := List.mem_singleton.1 h; exact hm hh
  | lo _ hh ih => exact .lo ih hh
  | hi _ hh ih => exact .hi ih hh

theorem GthP.none {s : MS} {n : Int} {S : List Int} (hS : S.Nodup) (h : s.has n = true → n ∈ S) : GthP s n S [] :=
  ⟨by rwa [List.append_nil], (by intro m hm; cases hm), fun hh => by rw [List.append_nil]; exact h hh, fun h => by rwa [List.append_nil]⟩

theorem GthP.node {s : MS} (ok : s.Ok) {n : Int} {S T1 T2 : List Int} (hn : s.has n = true) (_hS : n ∉ S) (h1 : GthP s (s.nd n).lo (S ++ [n]) T1) (h2 : GthP s (s.nd n).hi (S ++ [n] ++ T1) T2) :
    GthP s n S ([n] ++ T1 ++ T2) := by
  have d1 := ok.dep_behind hn (ok.lo n hn)
  have d2 := ok.dep_behind hn (ok.hi n hn)
  have e : S ++ ([n] ++ T1 ++ T2) = S ++ [n] ++ T1 ++ T2 := by simp
  have hr : s.Rch [n] n := .root (List.mem_singleton.2 rfl) hn
  refine ⟨by rw [e]; exact h2.nodup, fun m hm => ?_, fun _ => by simp, fun hc => ?_⟩
  · simp only [List.mem_append, List.mem_singleton] at hm
    rcases hm with (rfl | hm) | hm
    · exact ⟨hr, Nat.le_refl _⟩
    · obtain ⟨r, d⟩ := h1.rch m hm
      exact ⟨MS.Rch.via r (fun hh => .lo hr hh), by omega⟩
    · obtain ⟨r, d⟩ := h2.rch m hm
      exact ⟨MS.Rch.via r (fun hh => .hi hr hh), by omega⟩
  · rw [e]
    have c1 : s.Clo (s.dep (s.nd n).lo) (S ++ [n]) := fun m hm hd => by
      rcases List.mem_append.1 hm with hm | hm
      · obtain ⟨a, b⟩ := hc m hm (by omega)
        exact ⟨fun h => List.mem_append_left _ (a h), fun h => List.mem_append_left _ (b h)⟩
      · obtain rfl := List.mem_singleton.1 hm; omega
    replace c1 := h1.clo c1
    have c2 : s.Clo (s.dep (s.nd n).hi) (S ++ [n] ++ T1) := fun m hm hd => by
      rcases List.mem_append.1 hm with hm' | hm'
      · rcases List.mem_append.1 hm' with hm' | hm'
        · obtain ⟨a, b⟩ := hc m hm' (by omega)
          exact ⟨fun h => List.mem_append_left _ (List.mem_append_left _ (a h)), fun h => List.mem_append_left _ (List.mem_append_left _ (b h))⟩
        · obtain rfl := List.mem_singleton.1 hm'; omega
      · exact c1 m hm (h1.rch m hm').2
    replace c2 := h2.clo c2
    intro m hm hd
    rcases List.mem_append.1 hm with hm1 | hm1
    · rcases List.mem_append.1 hm1 with hm2 | hm2
      · rcases List.mem_append.1 hm2 with hm3 | hm3
        · obtain ⟨a, b⟩ := hc m hm3 hd
          exact ⟨fun h => by have := a h; simp [this], fun h => by have := b h; simp [this]⟩
        · obtain rfl := List.mem_singleton.1 hm3
          exact ⟨fun h => List.mem_append_left _ (h1.inn h), fun h => h2.inn h⟩
      · obtain ⟨a, b⟩ := c1 m (List.mem_append_right _ hm2) (h1.rch m hm2).2
        exact ⟨fun h => List.mem_append_left _ (a h), fun h => List.mem_append_left _ (b h)⟩
    · exact c2 m hm (h2.rch m hm1).2

/-- At the loop's head of Reach. -/
structure RchI (s : MS) (roots : List Int) (i : Nat) (S : List Int) : Prop where
  nodup : S.Nodup
  rch : ∀ m ∈ S, s.Rch roots m
  rt : ∀ j (hj : j < roots.length), j < i → s.has roots[j] = true → roots[j] ∈ S
  clo : ∀ k, s.Clo k S

theorem RchI.start (s : MS) (roots : List Int) : RchI s roots 0 [] := ⟨List.nodup_nil, (by intro m hm; cases hm), fun j _ h => by omega, fun k m hm => by cases hm⟩
theorem RchI.step {s : MS} {roots S T : List Int} {i : Nat} (h : RchI s roots i S) (hi : i < roots.length) (g : GthP s roots[i] S T) : RchI s roots (i + 1) (S ++ T) := by
  refine ⟨g.nodup, fun m hm => ?_, fun j hj hlt hh => ?_, fun k m hm hd => ?_⟩
  · rcases List.mem_append.1 hm with hm1 | hm1
    · exact h.rch m hm1
    · have r := (g.rch m hm1).1
      clear h hm hm1 g
      induction r with
      | root h hh => obtain rfl := List.mem_singleton.1 h; exact .root (List.getElem_mem hi) hh
      | lo _ hh ih => exact .lo ih hh
      | hi _ hh ih => exact .hi ih hh
  · by_cases e : j = i
    · subst e; exact g.inn hh
    · exact List.mem_append_left _ (h.rt j hj (by omega) hh)
  · rcases List.mem_append.1 hm with hm' | hm'
    · obtain ⟨a, b⟩ := h.clo k m hm' hd
      exact ⟨fun h => List.mem_append_left _ (a h), fun h => List.mem_append_left _ (b h)⟩
    · exact g.clo (h.clo _) m hm (g.rch m hm').2
theorem RchI.all {s : MS} {roots S : List Int} {i : Nat} (h : RchI s roots i S) (hi : roots.length ≤ i) {m : Int} (hm : s.Rch roots m) : m ∈ S := by
  induction hm with
  | root h1 hh =>
    obtain ⟨j, hj, rfl⟩ := List.mem_iff_getElem.1 h1
    exact h.rt j hj (by omega) hh
  | lo _ hh ih => exact (h.clo _ _ ih (Nat.le_refl _)).1 hh
  | hi _ hh ih => exact (h.clo _ _ ih (Nat.le_refl _)).2 hh

open Classical in
theorem MS.Base.reach_iff {s : MS} (ok : s.Base) {roots : List Int} {m : Int} : m ∈ s.reach roots ↔ s.Rch roots m := by
  unfold MS.reach
  rw [List.mem_filter]
  exact ⟨fun h => of_decide_eq_true h.2, fun h => ⟨ok.mem_all.2 h.has, decide_eq_true h⟩⟩
theorem MS.reach_sorted (s : MS) (roots : List Int) : (s.reach roots).Pairwise (· < ·) := by
  unfold MS.reach MS.all
  refine List.Pairwise.filter _ (List.Pairwise.filter _ ?_)
  rw [List.pairwise_map]
  exact List.Pairwise.imp (fun h => by omega) List.pairwise_lt_range
theorem RchI.sorted {s : MS} (ok : s.Base) {roots S ss : List Int} {i : Nat} (h : RchI s roots i S) (hi : roots.length ≤ i) (hp : ss.Perm S) : ss.mergeSort (fun x y => decide (x ≤ y)) = s.reach roots := by
  have hs := s.reach_sorted roots
  have hnd : (s.reach roots).Nodup := List.Pairwise.imp (fun h e => by omega) hs
  have hperm : ss.Perm (s.reach roots) := hp.trans ((List.perm_ext_iff_of_nodup h.nodup hnd).2 fun m => by
    rw [ok.reach_iff]
    exact ⟨h.rch m, h.all hi⟩)
  have tr : ∀ a b c : Int, decide (a ≤ b) = true → decide (b ≤ c) = true → decide (a ≤ c) = true := fun a b c h1 h2 => by simp only [decide_eq_true_eq] at *; omega
  have to : ∀ a b : Int, (decide (a ≤ b) || decide (b ≤ a)) = true := fun a b => by simp only [Bool.or_eq_true, decide_eq_true_eq]; omega
  refine List.Perm.eq_of_pairwise (le := fun a b => decide (a ≤ b) = true) (fun a b _ _ h1 h2 => ?_) (List.pairwise_mergeSort tr to ss) (hs.imp fun h => by simp only [decide_eq_true_eq]; omega) ((List.mergeSort_perm ss _).trans hperm)
  simp only [decide_eq_true_eq] at h1 h2
  omega
/-- No more are met than there may be. -/
theorem met_few {s : MS} (ok : s.Base) {S : List Int} (hS : S.Nodup) (h : ∀ m ∈ S, s.has m = true) : S.length ≤ 20000 := by
  have := List.Nodup.length_le_of_subset (l₁ := S) (l₂ := (List.range 20000).map fun k : Nat => (k : Int) + 2) hS fun m hm => by
    have := ok.has_le (h m hm)
    rw [List.mem_map]
    exact ⟨(m - 2).toNat, List.mem_range.2 (by omega), by omega⟩
  simpa using this

end Go.Proofs.YtpcilfnnfhfgaaaGreatDoor

/-
  The library's contracts of maps.Keys, slices.Sorted, slices.Sort at numbers, laid over this program: tables of numbers, and one theorem each.
-/
namespace Go.Proofs
open Go.Shelf
def Tryz.keysA_ren : Go.Shelf.Ren := ⟨fun | 7 => 54 | 10 => 93 | n => n, fun | 23 => 78 | 26 => 3 | 3 => 4 | 28 => 82 | 0 => 0 | 27 => 81 | 33 => 112 | 4 => 4 | n => n, fun | n => n⟩
theorem Tryz.keysA : Go.Proofs.SlLaysZI.n7 Tryz.prog Tryz.keysA_ren := {
  mixed := by kernel_rfl
  f7 := ⟨Tryz.f54.name, by decide, Tryz.func54.trans (congrArg some (by kernel_rfl))⟩
  f10 := ⟨Tryz.f93.name, by decide, Tryz.func93.trans (congrArg some (by kernel_rfl))⟩
  t0 := Tryz.underlying0
  a0 := Tryz.isAgg0
  z0 := Tryz.sizeOf0
  v0 := Tryz.zeroValue0
  t4 := Tryz.underlying4
  a4 := Tryz.isAgg4
  z4 := Tryz.sizeOf4
  v4 := Tryz.zeroValue4
  t23 := Tryz.underlying78
  a23 := Tryz.isAgg78
  z23 := Tryz.sizeOf78
  v23 := Tryz.zeroValue78
  t26 := Tryz.underlying3
  a26 := Tryz.isAgg3
  z26 := Tryz.sizeOf3
  v26 := Tryz.zeroValue3
  t27 := Tryz.underlying81
  a27 := Tryz.isAgg81
  z27 := Tryz.sizeOf81
  v27 := Tryz.zeroValue81
  t28 := Tryz.underlying82
  a28 := Tryz.isAgg82
  z28 := Tryz.sizeOf82
  v28 := Tryz.zeroValue82
  t33 := Tryz.underlying112
  a33 := Tryz.isAgg112
  z33 := Tryz.sizeOf112
  v33 := Tryz.zeroValue112 }
def Tryz.sortedA_ren : Go.Shelf.Ren := ⟨fun | 6 => 53 | 8 => 91 | 9 => 92 | 11 => 113 | 13 => 115 | 12 => 114 | 23 => 133 | 24 => 134 | 14 => 124 | 15 => 125 | 16 => 126 | 17 => 127 | 18 => 128 | 19 => 129 | 20 => 130 | 21 => 131 | 22 => 132 | 25 => 137 | 26 => 138 | 27 => 139 | 28 => 140 | 29 => 141 | 30 => 142 | 31 => 143 | n => n, fun | 26 => 3 | 28 => 82 | 24 => 23 | 0 => 0 | 3 => 3 | 37 => 77 | 48 => 155 | 50 => 33 | 4 => 4 | 40 => 149 | 39 => 148 | 45 => 89 | 5 => 5 | 9 => 9 | 51 => 157 | 55 => 161 | 57 => 163 | 58 => 52 | 33 => 112 | n => n, fun | n => n⟩
theorem Tryz.sortedA : Go.Proofs.SlLaysZI.n6 Tryz.prog Tryz.sortedA_ren := {
  mixed := by kernel_rfl
  f6 := ⟨Tryz.f53.name, by decide, Tryz.func53.trans (congrArg some (by kernel_rfl))⟩
  f8 := ⟨Tryz.f91.name, by decide, Tryz.func91.trans (congrArg some (by kernel_rfl))⟩
  f11 := ⟨Tryz.f113.name, by decide, Tryz.func113.trans (congrArg some (by kernel_rfl))⟩
  t0 := Tryz.underlying0
  a0 := Tryz.isAgg0
  z0 := Tryz.sizeOf0
  v0 := Tryz.zeroValue0
  t24 := Tryz.underlying23
  a24 := Tryz.isAgg23
  z24 := Tryz.sizeOf23
  v24 := Tryz.zeroValue23
  t26 := Tryz.underlying3
  a26 := Tryz.isAgg3
  z26 := Tryz.sizeOf3
  v26 := Tryz.zeroValue3
  t28 := Tryz.underlying82
  a28 := Tryz.isAgg82
  z28 := Tryz.sizeOf82
  v28 := Tryz.zeroValue82
  i26 := by kernel_rfl }
def Tryz.sortA_ren : Go.Shelf.Ren := ⟨fun | 5 => 92 | 8 => 115 | 7 => 114 | 19 => 133 | 20 => 134 | 10 => 124 | 11 => 125 | 12 => 126 | 13 => 127 | 14 => 128 | 15 => 129 | 16 => 130 | 17 => 131 | 18 => 132 | 30 => 137 | 31 => 138 | 32 => 139 | 33 => 140 | 34 => 141 | 35 => 142 | 40 => 143 | n => n, fun | 23 => 23 | 25 => 3 | 3 => 3 | 32 => 77 | 22 => 23 | 0 => 0 | 44 => 155 | 46 => 33 | 4 => 4 | 36 => 149 | 35 => 148 | 41 => 89 | 5 => 5 | 9 => 9 | 53 => 157 | 57 => 161 | 63 => 163 | 64 => 52 | n => n, fun | n => n⟩
theorem Tryz.sortA : Go.Proofs.SlLaysM.n5 Tryz.prog Tryz.sortA_ren := {
  mixed := by kernel_rfl
  f5 := ⟨Tryz.f92.name, by decide, Tryz.func92.trans (congrArg some (by kernel_rfl))⟩
  f7 := ⟨Tryz.f114.name, by decide, Tryz.func114.trans (congrArg some (by kernel_rfl))⟩
  f8 := Tryz.func115.trans (congrArg some (by kernel_rfl))
  f10 := ⟨Tryz.f124.name, by decide, Tryz.func124.trans (congrArg some (by kernel_rfl))⟩
  f11 := ⟨Tryz.f125.name, by decide, Tryz.func125.trans (congrArg some (by kernel_rfl))⟩
  f12 := ⟨Tryz.f126.name, by decide, Tryz.func126.trans (congrArg some (by kernel_rfl))⟩
  f13 := ⟨Tryz.f127.name, by decide, Tryz.func127.trans (congrArg some (by kernel_rfl))⟩
  f14 := ⟨Tryz.f128.name, by decide, Tryz.func128.trans (congrArg some (by kernel_rfl))⟩
  f15 := ⟨Tryz.f129.name, by decide, Tryz.func129.trans (congrArg some (by kernel_rfl))⟩
  f16 := ⟨Tryz.f130.name, by decide, Tryz.func130.trans (congrArg some (by kernel_rfl))⟩
  f17 := ⟨Tryz.f131.name, by decide, Tryz.func131.trans (congrArg some (by kernel_rfl))⟩
  f18 := ⟨Tryz.f132.name, by decide, Tryz.func132.trans (congrArg some (by kernel_rfl))⟩
  f19 := Tryz.func133.trans (congrArg some (by kernel_rfl))
  f20 := Tryz.func134.trans (congrArg some (by kernel_rfl))
  f30 := ⟨Tryz.f137.name, by decide, Tryz.func137.trans (congrArg some (by kernel_rfl))⟩
  f31 := Tryz.func138.trans (congrArg some (by kernel_rfl))
  f32 := Tryz.func139.trans (congrArg some (by kernel_rfl))
  f33 := ⟨Tryz.f140.name, by decide, Tryz.func140.trans (congrArg some (by kernel_rfl))⟩
  f34 := ⟨Tryz.f141.name, by decide, Tryz.func141.trans (congrArg some (by kernel_rfl))⟩
  f35 := ⟨Tryz.f142.name, by decide, Tryz.func142.trans (congrArg some (by kernel_rfl))⟩
  f40 := ⟨Tryz.f143.name, by decide, Tryz.func143.trans (congrArg some (by kernel_rfl))⟩
  t0 := Tryz.underlying0
  a0 := Tryz.isAgg0
  z0 := Tryz.sizeOf0
  v0 := Tryz.zeroValue0
  t3 := Tryz.underlying3
  a3 := Tryz.isAgg3
  z3 := Tryz.sizeOf3
  v3 := Tryz.zeroValue3
  t4 := Tryz.underlying4
  a4 := Tryz.isAgg4
  z4 := Tryz.sizeOf4
  v4 := Tryz.zeroValue4
  t5 := Tryz.underlying5
  a5 := Tryz.isAgg5
  z5 := Tryz.sizeOf5
  v5 := Tryz.zeroValue5
  t9 := Tryz.underlying9
  a9 := Tryz.isAgg9
  z9 := Tryz.sizeOf9
  v9 := Tryz.zeroValue9
  t22 := Tryz.underlying23
  a22 := Tryz.isAgg23
  z22 := Tryz.sizeOf23
  v22 := Tryz.zeroValue23
  t23 := Tryz.underlying23
  a23 := Tryz.isAgg23
  z23 := Tryz.sizeOf23
  v23 := Tryz.zeroValue23
  t25 := Tryz.underlying3
  a25 := Tryz.isAgg3
  z25 := Tryz.sizeOf3
  v25 := Tryz.zeroValue3
  t32 := Tryz.underlying77
  a32 := Tryz.isAgg77
  z32 := Tryz.sizeOf77
  v32 := Tryz.zeroValue77
  t35 := Tryz.underlying148
  a35 := Tryz.isAgg148
  z35 := Tryz.sizeOf148
  v35 := Tryz.zeroValue148
  t36 := Tryz.underlying149
  a36 := Tryz.isAgg149
  z36 := Tryz.sizeOf149
  v36 := Tryz.zeroValue149
  t41 := Tryz.underlying89
  a41 := Tryz.isAgg89
  z41 := Tryz.sizeOf89
  v41 := Tryz.zeroValue89
  t44 := Tryz.underlying155
  a44 := Tryz.isAgg155
  z44 := Tryz.sizeOf155
  v44 := Tryz.zeroValue155
  t46 := Tryz.underlying33
  a46 := Tryz.isAgg33
  z46 := Tryz.sizeOf33
  v46 := Tryz.zeroValue33
  t53 := Tryz.underlying157
  a53 := Tryz.isAgg157
  z53 := Tryz.sizeOf157
  v53 := Tryz.zeroValue157
  t57 := Tryz.underlying161
  a57 := Tryz.isAgg161
  z57 := Tryz.sizeOf161
  v57 := Tryz.zeroValue161
  t63 := Tryz.underlying163
  a63 := Tryz.isAgg163
  z63 := Tryz.sizeOf163
  v63 := Tryz.zeroValue163
  t64 := Tryz.underlying52
  a64 := Tryz.isAgg52
  z64 := Tryz.sizeOf52
  v64 := Tryz.zeroValue52 }
end Go.Proofs

/-
  Walks of package read over the store's contracts: gather, Reach.
-/
namespace Go.Proofs.YtpcilfnnfhfgaaaGreatDoor
open Go Go.RowKit Go.Maps Go.Sort Go.Shelf

/-- slices.Sort's two contracts. -/
theorem sortsA (m : Nat) : AnyZI.SortsIn Tryz.prog Tryz.sortedA_ren Fence.wide m :=
  ⟨fun blk off cap ss W hH hblk hsz => callsIn_wide.2 (AnyM.slices_Sort_int Tryz.sortA blk off cap ss W hH hblk hsz),
   fun p cap W => callsIn_wide.2 (AnyM.slices_Sort_int_none Tryz.sortA p cap W)⟩

/-- maps.Keys. -/
theorem goKeys (mb : Option Nat) (W : World) : Calls Tryz.prog 54 #[.map mb] W fun e w' => e = .returned (.func (.func 93) #[] #[.pointer (some ⟨W.heap.size, 0, none⟩)]) ∧ w' = W.alloc (.cells #[.map mb] 78) :=
  (callsIn_wide (n := 5)).1 (AnyZI.keys_in Tryz.keysA Fence.wide 5 trivial rfl mb W)

/-- slices.Sorted of what maps.Keys handed back. -/
theorem goSorted (b nn : Nat) (D0 : DataW Unit) (R : Value → Option (DataW Unit × List MemPlace)) (w : World) (hown : w.ownsMap Tryz.prog 3 R b nn D0) (hmax : Maps.size D0 ≤ maxLen) (hbytes : Maps.size D0 * 8 ≤ 140737488355328) :
    Calls Tryz.prog 53 #[.func (.func 93) #[] #[.pointer (some ⟨w.heap.size, 0, none⟩)]] (w.alloc (.cells #[.map (some b)] 78)) fun e w' => ∃ (v : Value) (ss : List Int), e = .returned v ∧ ss.Perm (intKeys D0) ∧
      w'.ownsRow (w.alloc (.cells #[.map (some b)] 78)).heap.size 3 1 v ss.length ((ss.mergeSort (fun x y => decide (x ≤ y))).map encZ) ∧ Below (w.alloc (.cells #[.map (some b)] 78)).heap.size (w.alloc (.cells #[.map (some b)] 78)) w' := by
  refine (callsIn_wide (n := 5)).1 ?_
  have hbl := hown.lt
  have hseq : SeqGives Fence.wide 2 Tryz.prog 93 #[.pointer (some ⟨w.heap.size, 0, none⟩)] encZ (fun ss => ss.Perm (intKeys D0)) (Maps.size D0) (w.alloc (.cells #[.map (some b)] 78)) :=
    AnyZI.keys_gives (ρ := Tryz.keysA_ren) { Tryz.keysA with } Fence.wide _ trivial rfl (by omega) w.heap.size b nn D0 _ (by simp) (by simp) (by
      obtain ⟨es, clock, hb, Ft, hs, hD⟩ := hown
      exact ⟨es, clock, (Below.heap_alloc _ _ b hbl).trans hb, Ft, hs, hD⟩)
  have cS := AnyZI.sorted_in Tryz.sortedA Fence.wide 5 trivial trivial trivial trivial rfl (by omega) (sortsA _) (enters_of Tryz.func92 (by kernel_rfl) rfl) 93 #[.pointer (some ⟨w.heap.size, 0, none⟩)] trivial (enters_of Tryz.func93 (by kernel_rfl) rfl) _ _ hmax hbytes _ hseq
  change CallsIn _ _ Tryz.prog 53 _ _ _ at cS
  refine cS.mono ?_
  rintro e w' ⟨v, ss, rfl, hS, hrow, _, hb⟩
  exact ⟨v, ss, rfl, hS, hrow, hb⟩

/-- Within a call of gather: the store, and what was met. -/
structure GSt8 (StAt : World → Nat → (Nat → Prop) → MS → Prop) (w : World) (b : Nat) (F : Nat → Prop) (s : MS) (bm : Nat) (S : List Int) (W : World) : Prop where
  st : StAt W b F s
  map : ISet W bm S
  keeps : Keeps (fun k => k = bm) w W

section
variable {StAt : World → Nat → (Nat → Prop) → MS → Prop} {w W W' : World} {b bm : Nat} {F : Nat → Prop} {s : MS} {S S' : List Int}
theorem GSt8.keep (H : StoreC StAt) (h : GSt8 StAt w b F s bm S W) (hb : Below W.heap.size W W') : GSt8 StAt w b F s bm S W' :=
  ⟨H.below h.st hb, h.map.keep hb h.map.lt, h.keeps.and (Keeps.of_below hb _)⟩
theorem GSt8.turn (H : StoreC StAt) (h : GSt8 StAt w b F s bm S W) (hF : ∀ k, F k → ¬ k = bm) (hM : ISet W' bm S') (hk : Keeps (fun k => k = bm) W W') : GSt8 StAt w b F s bm S' W' :=
  ⟨H.keep h.st hk hF, hM, h.keeps.and hk⟩
end

set_option maxRecDepth 100000 in
set_option maxHeartbeats 2000000 in
theorem readGather {StAt : World → Nat → (Nat → Prop) → MS → Prop} (H : StoreC StAt) {b : Nat} {F : Nat → Prop} {s : MS} (ok : s.Ok) {bm : Nat} (hF : ∀ k, F k → ¬ k = bm) (k : Nat) : ∀ (n : Int) (S : List Int) (w : World), s.dep n < k → In64 n → StAt w b F s → ISet w bm S → S.Nodup → (∀ m ∈ S, s.has m = true) →
    Calls Tryz.prog 52 #[.map (some bm), .pointer (some ⟨b, 0, none⟩), .int .i64 n] w fun e w' => e = .returned (.tuple #[]) ∧ ∃ T, GthP s n S T ∧ GSt8 StAt w b F s bm (S ++ T) w' := by
  induction k with
  | zero => intro n S w h; omega
  | succ k ih =>
    intro n S w hk hn h hM hS hSh
    have HN := H.node h ok n hn
    have G0 : GSt8 StAt w b F s bm S w := ⟨h, hM, Keeps.refl _ _⟩
    have hlen := met_few ok.toBase hS hSh
    have hbw : bm < w.heap.size := hM.lt
    have hnx : s.has n = true → In64 (s.nd n).lo ∧ In64 (s.nd n).hi ∧ s.dep (s.nd n).lo < s.dep n ∧ s.dep (s.nd n).hi < s.dep n := fun hh => by
      have b1 := ok.toBase.behind_le (ok.lo n hh)
      have b2 := ok.toBase.behind_le (ok.hi n hh)
      exact ⟨⟨by omega, by omega⟩, ⟨by omega, by omega⟩, ok.dep_behind hh (ok.lo n hh), ok.dep_behind hh (ok.hi n hh)⟩
    have HG := fun (T1 T2 : List Int) hh hna => GthP.node (s := s) ok (n := n) (S := S) (T1 := T1) (T2 := T2) hh hna
    have hnone := fun hh => GthP.none (s := s) (n := n) hS hh
    clear h hM
    simp only [nodeV, nv] at HN
    go_enter Tryz.func52, Tryz.ntmps52
    cases hh : s.has n
    · simp only [hh, Bool.false_eq_true, if_false] at HN
      go_wp2_with fail
      refine HN.mono ?_
      rintro e w1 ⟨rfl, hb1⟩
      have G := (G0.keep H hb1).keep H ((Below.refl w1.heap.size w1).alloc (Nat.le_refl _) (.cells #[.int .i64 0, .int .i64 0, .int .i64 0] 69))
      have hR := hnone (fun e => by rw [hh] at e; cases e)
      clear HN G0 hb1 hnx HG ih hnone
      go_wp2
      exact bodyPost_ret (v := .tuple #[]) (by simp [results, Tryz.results52, go_sem]) rfl ⟨rfl, [], hR, by rw [List.append_nil]; exact G⟩
    · simp only [hh, if_true] at HN
      obtain ⟨l1, l2, d1, d2⟩ := hnx hh
      replace HG := fun (T1 T2 : List Int) => HG T1 T2 hh
      clear hnx
      generalize hx : s.nd n = x at *
      obtain ⟨x0, x1, x2⟩ := x
      dsimp only at *
      go_wp2_with fail
      refine HN.mono ?_
      rintro e w1 ⟨rfl, hb1⟩
      have hX := HoldsN.new w1 ⟨x0, x1, x2⟩
      have G := (G0.keep H hb1).keep H ((Below.refl w1.heap.size w1).alloc (Nat.le_refl _) (.cells #[.int .i64 x0, .int .i64 x1, .int .i64 x2] 69))
      dsimp only at hX
      have hlook := G.map.look n hn
      have hbX : ¬ w1.heap.size = bm := by have := hb1.size; omega
      clear HN G0 hb1
      by_cases hin : n ∈ S
      · rw [decide_eq_true hin] at hlook
        have hR := hnone (fun _ => hin)
        clear HG ih hnone
        go_wp2
        exact bodyPost_ret (v := .tuple #[]) (by simp [results, Tryz.results52, go_sem]) rfl ⟨rfl, [], hR, by rw [List.append_nil]; exact G⟩
      · rw [decide_eq_false hin] at hlook
        replace HG := Lib.hid fun (T1 T2 : List Int) => HG T1 T2 hin
        have hn2 : (S ++ [n]).Nodup := List.nodup_append.2 ⟨hS, by simp, fun a ha b hb => by simp at hb; subst hb; exact fun e => hin (e ▸ ha)⟩
        have hS2 : ∀ m ∈ S ++ [n], s.has m = true := fun m hm => by
          rcases List.mem_append.1 hm with hm | hm
          · exact hSh m hm
          · rw [List.mem_singleton.1 hm]; exact hh
        have hML : S.length < maxLen := by unfold maxLen; omega
        have hM1 := G.map
        replace G := Lib.hid G
        clear hnone
        go_wp2_with (at_mapUpdate; refine ISet.put hM1 hML rfl (.tmp 21) (.tmp 22) (.const (.bool true)) rfl n hn hin rfl rfl rfl ?_; intro w2 hM2 hgr2; replace hX := hX.keep (Keeps.of_grown (F := fun k => k = bm) hgr2 (fun k e => (Option.some.inj e).symm)) hbX; replace G := Lib.hid (G.out.turn H hF hM2 (Keeps.of_grown hgr2 (fun k e => (Option.some.inj e).symm))); clear hM2 hgr2 hM1 hlook; have e1 := hX.cells.2.1)
        refine (ih _ _ _ (by omega) l1 G.out.st G.out.map hn2 hS2).mono ?_
        rintro e w3 ⟨rfl, T1, P1, G1⟩
        replace hX := hX.keep G1.keeps hbX
        replace G := Lib.hid (G.out.turn H hF G1.map G1.keeps)
        have hS3 : ∀ m ∈ S ++ [n] ++ T1, s.has m = true := fun m hm => by
          rcases List.mem_append.1 hm with hm | hm
          · exact hS2 m hm
          · exact (P1.rch m hm).1.has
        have hn3 := P1.nodup
        have H1 := Lib.hid P1
        have e2 := hX.cells.2.2
        clear P1 G1 e1
        go_wp2_with fail
        refine (ih _ _ _ (by omega) l2 G.out.st G.out.map hn3 hS3).mono ?_
        rintro e w4 ⟨rfl, T2, P2, G2⟩
        replace G := Lib.hid (G.out.turn H hF G2.map G2.keeps)
        have H2 := Lib.hid P2
        clear P2 G2 e2 ih
        go_wp2
        exact bodyPost_end (v := .tuple #[]) (by simp [results, Tryz.results52, go_sem]) rfl ⟨rfl, [n] ++ T1 ++ T2, HG.out T1 T2 H1.out H2.out, by rw [show S ++ ([n] ++ T1 ++ T2) = S ++ [n] ++ T1 ++ T2 by simp]; exact G.out⟩

theorem encI_all (l : List Int) : encI.all l = l.map encZ := by
  induction l with
  | nil => rfl
  | cons a l ih => exact congrArg (Value.int .i64 a :: ·) ih
theorem wrel_of {w w1 w' : World} {v : Value} {l : List Int} {n : Nat} (hrow : w'.ownsRow w1.heap.size 3 1 v n (l.map encZ)) (hn : n = l.length) (h1 : w.heap.size ≤ w1.heap.size) (hb : Below w.heap.size w w') : WRel w l v w' := by
  subst hn
  refine ⟨?_, fun g hg => Nat.le_trans h1 (World.ownsRow.lt hrow g hg).1, hb⟩
  unfold Owns
  rw [encI_all]
  exact ⟨hrow.1, hrow.2.elim Or.inl (fun ⟨g, cap, cur, hv, _, r⟩ => Or.inr ⟨g, cap, cur, hv, Nat.zero_le _, r⟩)⟩

set_option maxRecDepth 100000 in
set_option maxHeartbeats 2000000 in
theorem readReach {StAt : World → Nat → (Nat → Prop) → MS → Prop} (H : StoreC StAt) {b : Nat} {F : Nat → Prop} {s : MS} {w : World} (h : StAt w b F s) (ok : s.Ok) (roots : List Int) (v : Value) (hv : Reads encI w v roots) (hl : roots.length ≤ 100000) (hr : ∀ r ∈ roots, r ≤ 9223372036854775807 ∧ -9223372036854775808 ≤ r) :
    Calls Tryz.prog 20 #[.pointer (some ⟨b, 0, none⟩), v] w fun e w' => ∃ v', e = .returned v' ∧ WRel w (s.reach roots) v' w' := by
  have hmm := @run_makeMap Tryz.prog
  have hF : ∀ k, F k → ¬ k = w.heap.size := fun k hk => by have := H.lt h k hk; omega
  have hbw : ∀ W, Keeps (fun k => k = w.heap.size) (w.alloc (.map #[] 0)) W → Below w.heap.size w W := fun W hk => ((Below.refl w.heap.size w).alloc (Nat.le_refl _) (.map #[] 0)).trans (hk.below (by simp) (fun k e => by omega))
  have G0 : GSt8 StAt (w.alloc (.map #[] 0)) b F s w.heap.size [] (w.alloc (.map #[] 0)) := ⟨H.below h ((Below.refl w.heap.size w).alloc (Nat.le_refl _) _), ISet.made w, Keeps.refl _ _⟩
  have hC := fun (i : Nat) (S : List Int) (ss : List Int) (hI : RchI s roots i S) (hi : roots.length ≤ i) => RchI.sorted ok.toBase (ss := ss) hI hi
  clear h
  obtain ⟨a, cap, rfl⟩ := hv.form
  replace hv := Lib.hid hv
  go_enter Tryz.func20, Tryz.ntmps20
  go_wp2
  clear hmm
  go_loopw [11] (fun i wr => ∃ (n : Nat) (S : List Int), n ≤ roots.length ∧ i = .int .i64 n ∧ RchI s roots n S ∧ GSt8 StAt (w.alloc (.map #[] 0)) b F s w.heap.size S wr) (fun i _ => roots.length - (intOf i).toNat)
  case atStart => exact ⟨0, [], Nat.zero_le _, rfl, RchI.start s roots, G0⟩
  case round =>
    clear G0
    obtain ⟨n, S, hnl, rfl, hI, G⟩ := hrel
    by_cases hlt : n < roots.length
    · have hk0 : (0 : Int) ≤ (n : Int) := by omega
      have hk1 : (n : Int) < (roots.length : Int) := by omega
      obtain ⟨ad, rfl, hc⟩ := (hv.out.keep (hbw _ G.keeps)).intAt n hlt
      have hn64 := hr _ (List.getElem_mem hlt)
      have hGa := readGather H ok hF (s.dep roots[n] + 1) roots[n] S wr (by omega) hn64 G.st G.map hI.nodup (fun m hm => (hI.rch m hm).has)
      have hst := fun T => hI.step (T := T) hlt
      replace G := Lib.hid G
      replace hI := Lib.hid hI
      replace hst := Lib.hid hst
      clear hC
      generalize roots[n] = r at *
      go_wp2_with fail
      refine hGa.mono ?_
      rintro e w1 ⟨rfl, T, P, G1⟩
      have hI1 := hst.out T P
      have G2 := G.out.turn H hF G1.map G1.keeps
      clear hGa P G1 G hI hst hc
      go_wp2
      exact ⟨⟨n + 1, S ++ T, by omega, by go_num, hI1, G2⟩, by simp [intOf]; omega⟩
    · obtain rfl : n = roots.length := by omega
      have hlen := met_few ok.toBase hI.nodup (fun m hm => (hI.rch m hm).has)
      obtain ⟨D, ho, hsz, hp⟩ := G.map.owns hI.nodup
      have hSo := goSorted _ _ D _ wr ho (by rw [hsz]; unfold maxLen; omega) (by rw [hsz]; omega)
      have hsrt := fun ss hss => hC _ S ss hI (Nat.le_refl _) (hss : ss.Perm S)
      replace hsrt := Lib.hid hsrt
      have hKe := goKeys (some w.heap.size) wr
      have hB := hbw _ G.keeps
      have hb1 := (Below.refl wr.heap.size wr).alloc (Nat.le_refl _) (.cells #[.map (some w.heap.size)] 78)
      replace hp := Lib.hid hp
      clear hC hI G hv ho hbw
      go_wp2_with fail
      refine hKe.mono ?_
      rintro e w1 ⟨rfl, rfl⟩
      clear hKe
      generalize wr.alloc (.cells #[.map (some w.heap.size)] 78) = w1 at *
      go_wp2_with fail
      refine hSo.mono ?_
      rintro e w2 ⟨v2, ss, rfl, hS, hrow, hb2⟩
      rw [hsrt.out ss (hS.trans hp.out.symm)] at hrow
      have hn : ss.length = (s.reach roots).length := by rw [← hsrt.out ss (hS.trans hp.out.symm), List.length_mergeSort]
      clear hSo
      go_wp2
      go_ret
      exact ⟨v2, rfl, wrel_of hrow hn (Nat.le_trans hB.size hb1.size) (hB.trans ((hb1.trans (hb2.mono hb1.size)).mono hB.size))⟩

end Go.Proofs.YtpcilfnnfhfgaaaGreatDoor

/-
  Walks of package read over the store's contracts: top, constant, Build.
-/
namespace Go.Proofs.YtpcilfnnfhfgaaaGreatDoor
open Go Go.RowKit

theorem idx_ov (o : Nat → Int) (n : Nat) (hn : n < 8) (w : World) : (Instr.index 62 (.agg #[.int .i64 (o 0), .int .i64 (o 1), .int .i64 (o 2), .int .i64 (o 3), .int .i64 (o 4), .int .i64 (o 5), .int .i64 (o 6), .int .i64 (o 7)]) (.int .i64 (n : Int))).run Tryz.prog w = .ok (.int .i64 (o n)) w := by
  have h1 : (0 : Int) ≤ (n : Int) ∧ (n : Int) < 8 := ⟨by omega, by omega⟩
  rcases (by omega : n = 0 ∨ n = 1 ∨ n = 2 ∨ n = 3 ∨ n = 4 ∨ n = 5 ∨ n = 6 ∨ n = 7) with rfl | rfl | rfl | rfl | rfl | rfl | rfl | rfl <;> simp [Instr.index, run_underlying Tryz.underlying62, asIntOf, go_sem]

theorem topFrom_none8 (f : Fn) (o : Nat → Int) (n : Nat) : ∀ i, ¬ 0 ≤ topFrom f o n i → topFrom f o n i = -1 := by
  induction n with
  | zero => intro i _; rfl
  | succ n ih =>
    intro i h
    simp only [topFrom] at h ⊢
    split
    · rename_i hd
      rw [if_pos hd] at h
      exact absurd (depAny_range hd).1 h
    · rename_i hd
      rw [if_neg hd] at h
      exact ih (i + 1) h

set_option maxRecDepth 100000 in
set_option maxHeartbeats 1000000 in
theorem readTop (f : Fn) (o : Nat → Int) (w : World) (hl : LowW w) :
    Calls Tryz.prog 55 #[fv f, ov o] w fun e w' => e = .returned (.tuple #[.int .i64 (if 0 ≤ topF f o then topF f o else 0), .bool (decide (0 ≤ topF f o))]) ∧ Below w.heap.size w w' := by
  have Hl := Lib.hid hl
  have HD := fun (v : Int) (W : World) (hb : Below w.heap.size w W) => cofDepends f v W (hl.keep hb)
  replace HD := Lib.hid HD
  clear hl
  generalize hr1 : (if 0 ≤ topF f o then topF f o else 0) = r1
  generalize hr2 : decide (0 ≤ topF f o) = r2
  replace hr1 := Lib.hid hr1
  replace hr2 := Lib.hid hr2
  simp only [fv, ov]
  go_enter Tryz.func55, Tryz.ntmps55
  go_wp2
  go_loopw [9] (fun i wr => ∃ n : Nat, n ≤ 8 ∧ i = .int .i64 n ∧ Hid (topF f o = topFrom f o (8 - n) n) ∧ Holds wr w.heap.size f ∧ Below w.heap.size w wr) (fun i _ => 8 - (intOf i).toNat)
  case atStart => exact ⟨0, Nat.zero_le _, rfl, rfl, (Holds.new _ _ _).alloc _, by go_grown⟩
  case round =>
    obtain ⟨n, hn, rfl, ht, h0, hb⟩ := hrel
    by_cases hlt : n < 8
    · have Hs : Hid (topF f o = if depAny f (o n) then o n else topFrom f o (8 - (n + 1)) (n + 1)) := by
        have := ht.out
        rw [show 8 - n = (8 - (n + 1)) + 1 by omega] at this
        exact this
      clear ht
      have hn0 : (0 : Int) ≤ (n : Int) := by omega
      have hn8 : (n : Int) < 8 := by omega
      obtain ⟨c0, c1, c2, c3⟩ := h0.cells
      have hix := idx_ov o n hlt wr
      have hd := HD.out (o n) wr hb
      simp only [fv] at hd
      go_wp2_with fail
      refine hd.mono ?_
      rintro e w1 ⟨rfl, hb1⟩
      replace h0 := h0.keep hb1 h0.lt
      replace hb := hb.trans (hb1.mono hb.size)
      clear hd hix c0 c1 c2 c3 hb1
      cases hdp : depAny f (o n)
      · rw [hdp] at Hs
        go_wp2
        exact ⟨⟨n + 1, by omega, by go_num, Hs.out, h0, hb⟩, by simp [intOf]; omega⟩
      · rw [hdp] at Hs
        have h00 := (depAny_range hdp).1
        have e1 : topF f o = o n := Hs.out
        have hres : r1 = o n ∧ r2 = true := by rw [← hr1.out, ← hr2.out, e1, if_pos h00, decide_eq_true h00]; exact ⟨rfl, rfl⟩
        replace hres := Lib.hid hres
        clear Hs HD e1 h00 hr1 hr2
        go_wp2
        go_ret2
        exact ⟨by rw [hres.out.1, hres.out.2]; rfl, hb⟩
    · obtain rfl : n = 8 := by omega
      have e1 : topF f o = -1 := ht.out
      have hres : r1 = 0 ∧ r2 = false := by rw [← hr1.out, ← hr2.out, e1]; exact ⟨rfl, rfl⟩
      replace hres := Lib.hid hres
      clear ht e1 HD hr1 hr2
      go_wp2
      go_ret2
      exact ⟨by rw [hres.out.1, hres.out.2]; rfl, hb⟩

set_option maxRecDepth 100000 in
theorem readConstant (f : Fn) (w : World) :
    Calls Tryz.prog 56 #[fv f] w fun e w' => e = .returned (.int .i64 (constN f)) ∧ Below w.heap.size w w' := by
  have HA := fun W => tabAt f 0 W
  have hc : constN f = if atF f 0 then 1 else 0 := rfl
  generalize constN f = c at *
  generalize atF f 0 = z at *
  simp only [fv] at *
  have hb : Below w.heap.size w (w.alloc (.cells #[.int .u64 (wd f 0), .int .u64 (wd f 1), .int .u64 (wd f 2), .int .u64 (wd f 3)] 35)) := by go_grown
  have hF := Holds.new w f w.heap.size rfl
  cases z
  · simp only [Bool.false_eq_true, if_false] at hc
    subst hc
    go_enter Tryz.func56, Tryz.ntmps56
    go_wp2_with fail
    generalize w.alloc (.cells #[.int .u64 (wd f 0), .int .u64 (wd f 1), .int .u64 (wd f 2), .int .u64 (wd f 3)] 35) = W at *
    refine (HA _).mono ?_
    rintro e w3 ⟨rfl, hb3⟩
    go_wp2
    go_ret
    exact ⟨rfl, hb.trans (hb3.mono hb.size)⟩
  · simp only [if_true] at hc
    subst hc
    go_enter Tryz.func56, Tryz.ntmps56
    go_wp2_with fail
    generalize w.alloc (.cells #[.int .u64 (wd f 0), .int .u64 (wd f 1), .int .u64 (wd f 2), .int .u64 (wd f 3)] 35) = W at *
    refine (HA _).mono ?_
    rintro e w3 ⟨rfl, hb3⟩
    go_wp2
    go_ret
    exact ⟨rfl, hb.trans (hb3.mono hb.size)⟩

theorem LowW.keepK {w w' : World} {F : Nat → Prop} (h : LowW w) (K : Keeps F w w') (hF : ¬ F 0) : LowW w' := fun i hi => by
  have := K.block 0 h.pos hF
  have h1 := h i hi
  unfold World.cell? at *
  rw [this]
  exact h1

theorem MS.Ok.in64 {s : MS} (ok : s.Ok) {n : Int} (h : s.there n = true) : n ≤ 9223372036854775807 ∧ -9223372036854775808 ≤ n := by
  rcases MS.there_cases h with ⟨h, _⟩ | h
  · omega
  · have := ok.toBase.has_le h; omega

/-- What Build comes to: a number, an error, and the store. -/
def BldPost (StAt : World → Nat → (Nat → Prop) → MS → Prop) (w : World) (b : Nat) (F : Nat → Prop) (r : Int × Int × MS) (e : Ending) (w' : World) : Prop := e = .returned (.tuple #[.int .i64 r.1, errV r.2.1]) ∧ ∃ F', StAt w' b F' r.2.2 ∧ Keeps F w w' ∧ Within w F F'

set_option maxRecDepth 100000 in
set_option maxHeartbeats 2000000 in
theorem readBuild_const {StAt : World → Nat → (Nat → Prop) → MS → Prop} (H : StoreC StAt) {w : World} {b : Nat} {F : Nat → Prop} {s : MS} (hL : LowW w) (h : StAt w b F s) (ok : s.Ok) (f : Fn) (ht : topF f s.o < 0) :
    Calls Tryz.prog 22 #[.pointer (some ⟨b, 0, none⟩), fv f] w (BldPost StAt w b F (constN f, 0, s)) := by
  have HO := fun W (hb : Below w.heap.size w W) => H.order (H.below h hb) ok
  have HT := fun W (hb : Below w.heap.size w W) => readTop f s.o W (hL.keep hb)
  simp only [if_neg (show ¬ 0 ≤ topF f s.o by omega), decide_eq_false (show ¬ 0 ≤ topF f s.o by omega)] at HT
  have HA := fun W => readConstant f W
  have hend : ∀ w', Below w.heap.size w w' → ∃ F', StAt w' b F' s ∧ Keeps F w w' ∧ Within w F F' := fun w' hb => ⟨F, H.below h hb, Keeps.of_below hb _, Within.refl _ _⟩
  unfold BldPost errV
  simp only [if_true]
  generalize constN f = z at *
  clear h ht hL ok
  simp only [fv, ov] at *
  go_enter Tryz.func22, Tryz.ntmps22
  go_wp2
  have hF := Holds.new w f w.heap.size rfl
  have hb := (Below.refl w.heap.size w).alloc (Nat.le_refl _) (.cells #[.int .u64 (wd f 0), .int .u64 (wd f 1), .int .u64 (wd f 2), .int .u64 (wd f 3)] 35)
  generalize w.alloc (.cells #[.int .u64 (wd f 0), .int .u64 (wd f 1), .int .u64 (wd f 2), .int .u64 (wd f 3)] 35) = W at *
  have c0 := fun u : Sub W => (hF.sub u).cells.1
  have c1 := fun u : Sub W => (hF.sub u).cells.2.1
  have c2 := fun u : Sub W => (hF.sub u).cells.2.2.1
  have c3 := fun u : Sub W => (hF.sub u).cells.2.2.2
  have JO := fun u : Sub W => HO _ (hb.trans (u.2.mono hb.size))
  have JT := fun u : Sub W => HT _ (hb.trans (u.2.mono hb.size))
  refine wp_region_quiet_all (C := fun w' => ∃ u : Sub W, w' = u.1) (by kernel_rfl) (by kernel_rfl) (InSub.drew W) ?_
  iterate 2 (go_big_quiet_step (fail))
  go_big_quiet_step (exact subBelow (JO _))
  go_big_quiet_step (exact subBelow (JT _))
  iterate 5 (go_big_quiet_step (fail))
  refine wpQuiet_nil ?_
  clear c0 c1 c2 c3 JO JT HO HT
  intro w' hw'
  obtain ⟨u, rfl⟩ := hw'
  replace hF := hF.keep u.2 hF.lt
  replace hb := hb.trans (u.2.mono hb.size)
  generalize u.1 = W2 at *
  obtain ⟨c0, c1, c2, c3⟩ := hF.cells
  go_wp2_with fail
  refine (HA _).mono ?_
  rintro e w3 ⟨rfl, hb3⟩
  have hb4 := hb.trans (hb3.mono hb.size)
  clear HA c0 c1 c2 c3
  go_wp2
  go_ret2
  exact ⟨rfl, hend _ hb4⟩

set_option maxRecDepth 100000 in
set_option maxHeartbeats 4000000 in
theorem readBuild {StAt : World → Nat → (Nat → Prop) → MS → Prop} (H : StoreC StAt) {b : Nat} : ∀ (k : Nat) (s : MS) (f : Fn) (w : World) (F : Nat → Prop), LowW w → (∀ k, F k → 0 < k) → StAt w b F s → s.Ok → supN f ≤ k →
    Calls Tryz.prog 22 #[.pointer (some ⟨b, 0, none⟩), fv f] w (BldPost StAt w b F (MS.bld k s f)) := by
  intro k
  induction k with
  | zero =>
    intro s f w F hL _ h ok hk
    refine readBuild_const H hL h ok f ?_
    have := (top_neg (f := f) (full_of ok.order)).2 (supN_zero (f := f) (by omega))
    omega
  | succ k ih =>
    intro s f w F hL hlow h ok hk
    unfold MS.bld
    by_cases ht : topF f s.o < 0
    · rw [if_pos ht]
      exact readBuild_const H hL h ok f ht
    · rw [if_neg ht]
      have ht0 : 0 ≤ topF f s.o := by omega
      have k0 := supN_cof f s.o false ht0
      have k1 := supN_cof f s.o true ht0
      have ra := MS.bld_spec k s (cofAny f (topF f s.o) false) ok (by omega)
      have IA := fun W (hb : Below w.heap.size w W) => ih s (cofAny f (topF f s.o) false) W F (hL.keep hb) hlow (H.below h hb) ok (by omega)
      have rb := fun hA => MS.bld_spec k (MS.bld k s (cofAny f (topF f s.o) false)).2.2 (cofAny f (topF f s.o) true) hA (by omega)
      have IB := fun W F' hlW hl hW hA => ih (MS.bld k s (cofAny f (topF f s.o) false)).2.2 (cofAny f (topF f s.o) true) W F' hlW hl hW hA (by omega)
      have HO := fun W (hb : Below w.heap.size w W) => H.order (H.below h hb) ok
      have HT := fun W (hb : Below w.heap.size w W) => readTop f s.o W (hL.keep hb)
      simp only [if_pos ht0, decide_eq_true ht0] at HT
      have HC0 := fun W (hb : Below w.heap.size w W) => cofCof f (topF f s.o) false W (hL.keep hb)
      have HC1 := fun W (hlW : LowW W) => cofCof f (topF f s.o) true W hlW
      dsimp only
      generalize hA : MS.bld k s (cofAny f (topF f s.o) false) = A at *
      generalize hB : MS.bld k A.2.2 (cofAny f (topF f s.o) true) = B at *
      have hFlt := H.lt h
      have hp := hL.pos
      generalize topF f s.o = v at *
      generalize cofAny f v false = f0 at *
      generalize cofAny f v true = f1 at *
      clear ih hA hB k0 k1 hk
      obtain ⟨A0, A1, sA⟩ := A
      obtain ⟨B0, B1, sB⟩ := B
      dsimp only at *
      generalize hr : (if A1 ≠ 0 then ((0, A1, sA) : Int × Int × MS) else if B1 ≠ 0 then (0, B1, sB) else sB.mk v A0 B0 []) = r
      simp only [fv, ov] at *
      obtain ⟨okA, _, _, resA, _⟩ := ra
      unfold BldPost at *
      dsimp only at IA IB
      replace hL := Lib.hid hL
      go_enter Tryz.func22, Tryz.ntmps22
      go_wp2
      have hF := Holds.new w f w.heap.size rfl
      have hb := (Below.refl w.heap.size w).alloc (Nat.le_refl _) (.cells #[.int .u64 (wd f 0), .int .u64 (wd f 1), .int .u64 (wd f 2), .int .u64 (wd f 3)] 35)
      generalize w.alloc (.cells #[.int .u64 (wd f 0), .int .u64 (wd f 1), .int .u64 (wd f 2), .int .u64 (wd f 3)] 35) = W at *
      have c0 := fun u : Sub W => (hF.sub u).cells.1
      have c1 := fun u : Sub W => (hF.sub u).cells.2.1
      have c2 := fun u : Sub W => (hF.sub u).cells.2.2.1
      have c3 := fun u : Sub W => (hF.sub u).cells.2.2.2
      have JO := fun u : Sub W => HO _ (hb.trans (u.2.mono hb.size))
      have JT := fun u : Sub W => HT _ (hb.trans (u.2.mono hb.size))
      refine wp_region_quiet_all (C := fun w' => ∃ u : Sub W, w' = u.1) (by kernel_rfl) (by kernel_rfl) (InSub.drew W) ?_
      iterate 2 (go_big_quiet_step (fail))
      go_big_quiet_step (exact subBelow (JO _))
      go_big_quiet_step (exact subBelow (JT _))
      iterate 5 (go_big_quiet_step (fail))
      refine wpQuiet_nil ?_
      clear c0 c1 c2 c3 JO JT HO HT
      intro w' hw'
      obtain ⟨u, rfl⟩ := hw'
      replace hF := hF.keep u.2 hF.lt
      replace hb := hb.trans (u.2.mono hb.size)
      generalize u.1 = W2 at *
      obtain ⟨c0, c1, c2, c3⟩ := hF.cells
      go_wp2_with fail
      refine (HC0 _ hb).mono ?_
      rintro e w3 ⟨rfl, hb3⟩
      replace hF := hF.keep hb3 hF.lt
      replace hb := hb.trans (hb3.mono hb.size)
      clear HC0 c0 c1 c2 c3 hb3
      go_wp2_with fail
      refine (IA _ hb).mono ?_
      rintro e w4 ⟨rfl, FA4, hA4, hK4, hW4⟩
      have hBn : ¬ F w.heap.size := fun e => by have := hFlt _ e; omega
      have hF4 : Holds w4 w.heap.size f := by
        have := hK4.block w.heap.size hF.lt hBn
        unfold Holds at *
        rw [this]; exact hF
      have HK := (Keeps.of_below hb F).trans hK4 (Within.refl _ _)
      have HW := (Within.refl w F).trans hW4 hb.size
      have hL4 := hL.out.keepK HK (fun e => by have := hlow _ e; omega)
      have hlow4 : ∀ k, FA4 k → 0 < k := fun k hk => (HW k hk).elim (hlow k) (fun h => by omega)
      clear IA hK4 hW4 hF hb hL hlow
      by_cases hA1 : A1 = 0
      · subst hA1
        rw [if_neg (by decide)] at hr
        obtain ⟨thA, _⟩ := resA rfl
        obtain ⟨c0, c1, c2, c3⟩ := hF4.cells
        rw [errV0]
        go_wp2_with fail
        refine (HC1 _ hL4).mono ?_
        rintro e w5 ⟨rfl, hb5⟩
        clear HC1 c0 c1 c2 c3
        obtain ⟨okB, extB, _, resB, _⟩ := rb okA
        go_wp2_with fail
        refine (IB _ _ (hL4.keep hb5) hlow4 (H.below hA4 hb5) okA).mono ?_
        rintro e w6 ⟨rfl, FB6, hB6, hK6, hW6⟩
        replace HK := HK.trans ((Keeps.of_below hb5 FA4).trans hK6 (Within.refl _ _)) HW
        replace HW := HW.trans ((Within.refl w4 FA4).trans hW6 hb5.size) (by have := hF4.lt; omega)
        clear IB hK6 hb5
        by_cases hB1 : B1 = 0
        · subst hB1
          rw [if_neg (by decide)] at hr
          obtain ⟨thB, _⟩ := resB rfl
          have HM := H.make hB6 okB v A0 B0 (okB.in64 (extB.there thA)) (okB.in64 thB)
          rw [hr] at HM
          rw [errV0]
          go_wp2_with fail
          refine HM.mono ?_
          rintro e w7 ⟨rfl, F7, hM7, hK7, hW7⟩
          go_wp2
          go_ret2
          exact ⟨rfl, F7, hM7, HK.trans hK7 HW, HW.trans hW7 HK.size⟩
        · rw [if_pos hB1] at hr
          subst hr
          simp only [errV, if_neg hB1]
          go_wp2
          go_ret2
          exact ⟨by first | rfl | (simp only [errV, if_neg hB1]; rfl), FB6, hB6, HK, HW⟩
      · rw [if_pos hA1] at hr
        subst hr
        simp only [errV, if_neg hA1]
        clear IB rb
        go_wp2
        go_ret2
        exact ⟨by first | rfl | (simp only [errV, if_neg hA1]; rfl), FA4, hA4, HK, HW⟩

end Go.Proofs.YtpcilfnnfhfgaaaGreatDoor
