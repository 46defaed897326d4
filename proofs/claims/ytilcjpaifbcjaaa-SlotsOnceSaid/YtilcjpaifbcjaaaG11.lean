/-
  Texts of this proof, one behind the other: Up16, OnceM.
-/
import Derived.Test.YtilcjpaifbcjaaaG9
import Derived.Test.YtilcjpaifbcjaaaG10
import Derived.Test.YtilcjpaifbcjaaaG1
/-
  The document's example of layer 16.
-/
namespace Go.Proofs.Ytilcjpaifbcjaaa
open Go Go.RowKit

def upF1 : SF := SF.zero.grant 7
def upF2 : SF := upF1.rel 1 72057594037927936
def upF3 : SF := upF2.grant 8
theorem upF1_ok : upF1.Ok := SF.Ok.zero.grant 7
theorem upF2_ok : upF2.Ok := upF1_ok.rel 1 _
theorem upF3_ok : upF3.Ok := upF2_ok.grant 8

section
variable {w : World} {b : Nat}
theorem up16_1 (s : SlC w b 1 SF.zero) : Calls Try.prog 19 #[.pointer (some ⟨b, 0, none⟩), .int .i64 7] w fun e w' => e = .returned (.tuple #[.int .u64 72057594037927936, .nilIface]) ∧ SlC w' b 1 upF1 ∧ Keeps (only b) w w' := by
  have h := slotsGrant s 7
  rw [show SF.zero.grantH 1 = 72057594037927936 by decide +kernel, show SF.zero.grantE = 0 by decide +kernel] at h
  exact h
theorem up16_2 (s : SlC w b 1 upF1) : Calls Try.prog 9 #[.pointer (some ⟨b, 0, none⟩), .int .u64 72057594037927936] w fun e w' => e = .returned (.tuple #[.int .i64 7, .nilIface]) ∧ Below w.heap.size w w' := by
  have h := slotsGet s upF1_ok (by decide) (by decide) 72057594037927936 (by decide)
  rw [show upF1.getV 1 72057594037927936 = 7 by decide +kernel, show upF1.getE 1 72057594037927936 = 0 by decide +kernel] at h
  exact h
theorem up16_3 (s : SlC w b 1 upF1) : Calls Try.prog 12 #[.pointer (some ⟨b, 0, none⟩), .int .u64 72057594037927936] w fun e w' => e = .returned .nilIface ∧ SlC w' b 1 upF2 ∧ Keeps (only b) w w' := by
  have h := slotsRelease s upF1_ok (by decide) (by decide) 72057594037927936 (by decide)
  rw [show upF1.getE 1 72057594037927936 = 0 by decide +kernel] at h
  exact h
theorem up16_4 (s : SlC w b 1 upF2) : Calls Try.prog 19 #[.pointer (some ⟨b, 0, none⟩), .int .i64 8] w fun e w' => e = .returned (.tuple #[.int .u64 72057594037927937, .nilIface]) ∧ SlC w' b 1 upF3 ∧ Keeps (only b) w w' := by
  have h := slotsGrant s 8
  rw [show upF2.grantH 1 = 72057594037927937 by decide +kernel, show upF2.grantE = 0 by decide +kernel] at h
  exact h
theorem up16_5 (s : SlC w b 1 upF3) : Calls Try.prog 9 #[.pointer (some ⟨b, 0, none⟩), .int .u64 72057594037927936] w fun e w' => e = .returned (.tuple #[.int .i64 0, .iface 65 (.int .i64 5)]) ∧ Below w.heap.size w w' := by
  have h := slotsGet s upF3_ok (by decide) (by decide) 72057594037927936 (by decide)
  rw [show upF3.getV 1 72057594037927936 = 0 by decide +kernel, show upF3.getE 1 72057594037927936 = 5 by decide +kernel] at h
  exact h
theorem up16_6 (w : World) : Calls Try.prog 22 #[.int .i64 1, .int .i64 0, .int .i64 0] w fun e w' => e = .returned (.int .u64 72057594037927936) ∧ w = w' := refHPack 1 0 0 w
theorem up16_7 (w : World) : Calls Try.prog 22 #[.int .i64 1, .int .i64 0, .int .i64 1] w fun e w' => e = .returned (.int .u64 72057594037927937) ∧ w = w' := refHPack 1 0 1 w
theorem up16_8 (w : World) : Calls Try.prog 11 #[.iface 65 (.int .i64 5)] w fun e w' => e = .returned (.int .i64 5) ∧ w = w' := lawCode 5 w (by decide) (by decide)
end

theorem only_below {w0 w w' : World} {b : Nat} (h : Below w0.heap.size w0 w) (hb : w0.heap.size ≤ b) (hK : Keeps (only b) w w') : Below w0.heap.size w0 w' :=
  h.trans (hK.below h.size (fun k hk => by rw [hk]; exact hb))

set_option maxRecDepth 100000 in
set_option maxHeartbeats 4000000 in
theorem up16 (w : World) : Calls Try.prog 5 #[] w fun e w' => e = .returned (.bool true) ∧ Below w.heap.size w w' := by
  go_enter Try.func5, Try.ntmps5
  go_wp2_with fail
  refine (slotsNew 1 w (by decide) (by decide)).mono ?_
  rintro e w1 ⟨b, rfl, hlt, s, hb⟩
  go_wp2_with fail
  refine (up16_1 s).mono ?_
  rintro e w2 ⟨rfl, s1, hK⟩
  replace hb := only_below hb hlt hK
  clear s hK
  go_wp2_with fail
  refine (up16_2 s1).mono ?_
  rintro e w3 ⟨rfl, hb3⟩
  replace s1 := s1.below hb3
  replace hb := hb.trans (hb3.mono hb.size)
  clear hb3
  go_wp2_with fail
  refine (up16_3 s1).mono ?_
  rintro e w4 ⟨rfl, s2, hK⟩
  replace hb := only_below hb hlt hK
  clear s1 hK
  go_wp2_with fail
  refine (up16_4 s2).mono ?_
  rintro e w5 ⟨rfl, s3, hK⟩
  replace hb := only_below hb hlt hK
  clear s2 hK
  go_wp2_with fail
  refine (up16_5 s3).mono ?_
  rintro e w6 ⟨rfl, hb3⟩
  replace hb := hb.trans (hb3.mono hb.size)
  clear hb3 s3
  go_wp2_with fail
  refine (up16_6 w6).mono ?_
  rintro e w7 ⟨rfl, rfl⟩
  go_wp2_with fail
  refine (up16_7 w6).mono ?_
  rintro e w7 ⟨rfl, rfl⟩
  go_wp2_with fail
  refine (up16_8 w6).mono ?_
  rintro e w7 ⟨rfl, rfl⟩
  go_wp2
  go_ret
  exact ⟨rfl, hb⟩

end Go.Proofs.Ytilcjpaifbcjaaa

/-
  No handle is granted twice: plain mathematics.
-/
namespace Go.Proofs.Ytilcjpaifbcjaaa
open Go Go.RowKit

/-- How often a slot was granted. -/
def Slo.used (s : Slo) : Nat := s.gen.toNat + (if s.held = true then 1 else 0)

/-- Of the first n together. -/
def SF.tot (f : SF) : Nat → Nat
  | 0 => 0
  | n + 1 => f.tot n + (f n).used

theorem SF.Ok.used_le {f : SF} (ok : f.Ok) {i : Nat} (hi : i < 16) : (f i).used ≤ 16 := by
  have h0 := ok.low i hi
  have h1 := ok.top i hi
  have h2 := ok.held i hi
  unfold Slo.used
  split
  · rename_i h; have := h2 h; omega
  · omega

theorem SF.Ok.tot_le {f : SF} (ok : f.Ok) : ∀ n, n ≤ 16 → f.tot n ≤ 16 * n
  | 0, _ => Nat.le_refl _
  | n + 1, h => by
    have h1 := SF.Ok.tot_le ok n (by omega)
    have h2 := ok.used_le (i := n) (by omega)
    unfold SF.tot
    omega

theorem SF.tot_congr {f f' : SF} (h : ∀ i, (f' i).used = (f i).used) : ∀ n, f'.tot n = f.tot n
  | 0 => rfl
  | n + 1 => by unfold SF.tot; rw [SF.tot_congr h n, h n]

theorem SF.tot_put (f : SF) (i : Nat) (s : Slo) (hs : s.used = (f i).used + 1) : ∀ n, (f.put i s).tot n = f.tot n + (if i < n then 1 else 0)
  | 0 => by simp [SF.tot]
  | n + 1 => by
    have ih := SF.tot_put f i s hs n
    unfold SF.tot
    rw [ih]
    by_cases e : n = i
    · subst e
      rw [SF.put_same, hs, if_neg (Nat.lt_irrefl _), if_pos (Nat.lt_succ_self _)]
      omega
    · rw [SF.put_other _ _ _ e]
      by_cases hl : i < n
      · rw [if_pos hl, if_pos (by omega)]; omega
      · rw [if_neg hl, if_neg (by omega)]; omega

theorem SF.tot_least {f : SF} (h : ∀ i, i < 16 → 1 ≤ (f i).used) : ∀ n, n ≤ 16 → n ≤ f.tot n
  | 0, _ => Nat.zero_le _
  | n + 1, hn => by
    have := SF.tot_least h n (by omega)
    have := h n (by omega)
    unfold SF.tot
    omega

/-- What was told, and which of it is good. -/
structure Onc (t : Int) (f : SF) (told : List Nat) (good : List Bool) : Prop where
  ok : f.Ok
  len : good.length = told.length
  sum : told.length = f.tot 16
  each : ∀ h ∈ told, ∃ i g : Nat, i < 16 ∧ g < (f i).used ∧ h = packN t i g
  once : told.Pairwise (· ≠ ·)
  tells : ∀ k (hk : k < told.length), good[k]? = some (decide (f.find t told[k] < 16))

section
variable {t : Int} {f : SF} {told : List Nat} {good : List Bool}

theorem Onc.zero (t : Int) : Onc t SF.zero [] [] := ⟨SF.Ok.zero, rfl, by decide, (fun _ h => by cases h), List.Pairwise.nil, (fun _ h => by cases h)⟩

theorem Onc.few (O : Onc t f told good) : told.length ≤ 256 := by have := O.ok.tot_le 16 (Nat.le_refl _); rw [O.sum]; omega

theorem Onc.small (O : Onc t f told good) (h : Nat) (hh : h ∈ told) : h < 18446744073709551616 := by
  obtain ⟨i, g, _, _, rfl⟩ := O.each h hh
  exact packN_lt _ _ _

/-- Where none may be held, there were sixteen told. -/
theorem Onc.many (O : Onc t f told good) (hn : ¬ f.next < 16) : 16 ≤ told.length := by
  rw [O.sum]
  refine SF.tot_least (fun i hi => ?_) 16 (Nat.le_refl _)
  have h1 := firstB_none (p := fun i => (f i).may) (k := 16) hn i hi
  have h0 := O.ok.low i hi
  unfold Slo.may at h1
  unfold Slo.used
  cases hh : (f i).held with
  | true => simp
  | false =>
    rw [hh] at h1
    have : ¬ (f i).gen ≤ 15 := of_decide_eq_false (by simpa using h1)
    omega

theorem find_congr {t : Int} {h h' : Nat} {f f' : SF} (e : ∀ i, i < 16 → SF.has t h f i = SF.has t h' f' i) : f.find t h = f'.find t h' := by
  have key : ∀ k n, n + k ≤ 16 → firstB (SF.has t h f) k n = firstB (SF.has t h' f') k n := by
    intro k
    induction k with
    | zero => intro n _; rfl
    | succ k ih =>
      intro n hn
      unfold firstB
      rw [e n (by omega), ih (n + 1) (by omega)]
  exact key 16 0 (by omega)

theorem Onc.release (O : Onc t f told good) (h1 : 1 ≤ t) (h8 : t ≤ 8) {k : Nat} (hk : k < told.length) : Onc t (f.rel t told[k]) told (good.set k false) := by
  have hkg : k < good.length := by rw [O.len]; exact hk
  unfold SF.rel
  by_cases hl : f.find t told[k] < 16
  · rw [if_pos hl]
    obtain ⟨a, e⟩ := SF.find_has hl
    have hone : ∀ j, j < 16 → SF.has t told[k] f j = true → j = f.find t told[k] := fun j hj hj2 => by
      obtain ⟨k1, k2⟩ := SF.has_iff.1 hj2
      exact (O.ok.find_one h1 h8 hj k1 k2).symm
    generalize hi : f.find t told[k] = i at *
    have hused : ∀ j, (f.put i (f i).go j).used = (f j).used := fun j => by
      by_cases ej : j = i
      · subst ej
        rw [SF.put_same]
        have h0 := O.ok.low j hl
        unfold Slo.used Slo.go
        rw [a]
        simp only [Bool.false_eq_true, if_false, if_true]
        omega
      · rw [SF.put_other _ _ _ ej]
    refine ⟨O.ok.go hl a, by rw [List.length_set]; exact O.len, by rw [SF.tot_congr hused]; exact O.sum, fun h hh => ?_, O.once, fun j hj => ?_⟩
    · obtain ⟨i', g, x1, x2, x3⟩ := O.each h hh
      exact ⟨i', g, x1, by rw [hused]; exact x2, x3⟩
    · by_cases ej : j = k
      · subst ej
        rw [List.getElem?_set_self hkg]
        congr 1
        refine (decide_eq_false fun hc => ?_).symm
        obtain ⟨b1, b2⟩ := SF.find_has hc
        by_cases ei : (f.put i (f i).go).find t told[j] = i
        · rw [ei, SF.put_same] at b1; cases b1
        · rw [SF.put_other _ _ _ ei] at b1 b2
          exact ei (hone _ hc (SF.has_iff.2 ⟨b1, b2⟩))
      · rw [List.getElem?_set_ne (Ne.symm ej), O.tells j hj]
        have hne : told[j] ≠ told[k] := by
          have hp := List.pairwise_iff_getElem.1 O.once
          rcases Nat.lt_or_gt_of_ne ej with hlt | hgt
          · exact hp _ _ hj hk hlt
          · exact (hp _ _ hk hj hgt).symm
        congr 1
        rw [find_congr (f := f) (f' := f.put i (f i).go) (h := told[j]) (h' := told[j]) (t := t) fun i' _ => ?_]
        by_cases ei : i' = i
        · subst ei
          have e1 : SF.has t told[j] (f.put i' (f i').go) i' = false := by unfold SF.has; rw [SF.put_same]; rfl
          have e2 : SF.has t told[j] f i' = false := by
            rw [Bool.eq_false_iff]
            intro hc
            exact hne ((SF.has_iff.1 hc).2.symm.trans e)
          rw [e1, e2]
        · unfold SF.has; rw [SF.put_other _ _ _ ei]
  · rw [if_neg hl]
    have ht := O.tells k hk
    rw [decide_eq_false hl] at ht
    have he : good.set k false = good := by
      refine List.ext_getElem? fun j => ?_
      by_cases ej : j = k
      · subst ej; rw [List.getElem?_set_self hkg, ht]
      · rw [List.getElem?_set_ne (Ne.symm ej)]
    rw [he]
    exact O

/-- What is granted was never told. -/
theorem Onc.fresh (O : Onc t f told good) (h1 : 1 ≤ t) (h8 : t ≤ 8) (hn : f.next < 16) : ∀ h ∈ told, h ≠ f.grantH t := by
  intro h hh e
  obtain ⟨i, g, x1, x2, x3⟩ := O.each h hh
  obtain ⟨m1, m2⟩ := SF.next_may hn
  unfold SF.grantH at e
  rw [if_pos hn] at e
  have hu := O.ok.used_le x1
  have hg : mayH t i (g : Int) := ⟨h1, h8, by omega, by omega, by omega, by omega⟩
  have hj := packN_inj hg (O.ok.mayH h1 h8 hn m2) (x3.symm.trans e)
  have e1 : i = f.next := by omega
  subst e1
  unfold Slo.used at x2
  rw [m1] at x2
  have h0 := O.ok.low _ hn
  simp at x2
  omega

theorem Onc.granted (O : Onc t f told good) (h1 : 1 ≤ t) (h8 : t ≤ 8) (hn : f.next < 16) (v : Int) : Onc t (f.grant v) (told ++ [f.grantH t]) (good ++ [true]) := by
  have hfresh := O.fresh h1 h8 hn
  obtain ⟨m1, m2⟩ := SF.next_may hn
  have hG : f.grantH t = packN t f.next (f f.next).gen := by unfold SF.grantH; rw [if_pos hn]
  have ok2 := O.ok.grant v
  rw [hG] at hfresh ⊢
  unfold SF.grant at ok2 ⊢
  rw [if_pos hn] at ok2 ⊢
  generalize f.next = n at *
  have h0 := O.ok.low n hn
  have hs : (⟨(f n).gen, true, v⟩ : Slo).used = (f n).used + 1 := by unfold Slo.used; rw [m1]; simp
  have hle : ∀ i, (f i).used ≤ (f.put n ⟨(f n).gen, true, v⟩ i).used := fun i => by
    by_cases e : i = n
    · subst e; rw [SF.put_same, hs]; omega
    · rw [SF.put_other _ _ _ e]; exact Nat.le_refl _
  refine ⟨ok2, by simp [O.len], ?_, fun h hh => ?_, ?_, fun j hj => ?_⟩
  · rw [SF.tot_put f n _ hs, if_pos hn, List.length_append, O.sum]; rfl
  · rcases List.mem_append.1 hh with hh | hh
    · obtain ⟨i, g, x1, x2, x3⟩ := O.each h hh
      exact ⟨i, g, x1, Nat.lt_of_lt_of_le x2 (hle i), x3⟩
    · rw [List.mem_singleton.1 hh]
      refine ⟨n, (f n).gen.toNat, hn, ?_, by rw [Int.toNat_of_nonneg h0]⟩
      rw [SF.put_same]
      unfold Slo.used
      simp
  · rw [List.pairwise_append]
    exact ⟨O.once, List.pairwise_singleton _ _, fun a ha b hb => by rw [List.mem_singleton.1 hb]; exact hfresh a ha⟩
  · by_cases hjt : j < told.length
    · have hjg : j < good.length := by rw [O.len]; exact hjt
      rw [List.getElem?_append_left hjg, O.tells j hjt]
      have he : (told ++ [packN t n (f n).gen])[j] = told[j] := List.getElem_append_left hjt
      rw [he]
      congr 1
      have hne := hfresh _ (List.getElem_mem hjt)
      rw [find_congr (f := f) (f' := f.put n ⟨(f n).gen, true, v⟩) (h := told[j]) (h' := told[j]) (t := t) fun i _ => ?_]
      by_cases e : i = n
      · subst e
        have e1 : SF.has t told[j] (f.put i ⟨(f i).gen, true, v⟩) i = false := by
          unfold SF.has
          rw [SF.put_same]
          simp only [Bool.true_and]
          exact decide_eq_false fun hc => hne hc.symm
        have e2 : SF.has t told[j] f i = false := by unfold SF.has; rw [m1]; rfl
        rw [e1, e2]
      · unfold SF.has; rw [SF.put_other _ _ _ e]
    · have ej : j = told.length := by simp at hj; omega
      subst ej
      have he : (told ++ [packN t n (f n).gen])[told.length] = packN t n (f n).gen := by simp
      rw [he, ← O.len, List.getElem?_append_right (Nat.le_refl _), Nat.sub_self]
      have hf : (f.put n ⟨(f n).gen, true, v⟩).find t (packN t n (f n).gen) = n := ok2.find_one h1 h8 hn (by rw [SF.put_same]) (by rw [SF.put_same])
      rw [hf, decide_eq_true hn]
      rfl
end

end Go.Proofs.Ytilcjpaifbcjaaa
