/-
  Texts of this proof, one behind the other: Slay, ReadB, OrdEq, Law7, Do7.
-/
import Derived.Shelf.SlIterI.Nil
import Derived.Shelf.SortM.Plain
import Derived.Shelf.SortM.SortNone
import Derived.Test.YtpcilfnnfhfgaaaGreatDoorProg
import Derived.Test.YtpcilfnnfhfgaaaGreatDoorG19
import Derived.Test.YtpcilfnnfhfgaaaGreatDoorG7
import Derived.ChangeKeysEq
import Derived.WalkKit
import Derived.KernelRfl
import Derived.Test.YtpcilfnnfhfgaaaGreatDoorG10
import Derived.Deep.RegionHeld3
/-
  The library's contracts of maps.Keys, slices.Sorted, slices.Sort at numbers, laid over this program: tables of numbers, and one theorem each.
-/
namespace Go.Proofs
open Go.Shelf
def Tryz.keysA_ren : Go.Shelf.Ren := ⟨fun | 7 => 54 | 10 => 93 | n => n, fun | 23 => 78 | 26 => 3 | 3 => 4 | 28 => 82 | 0 => 0 | 27 => 81 | 33 => 112 | 4 => 4 | n => n, fun | n => n⟩
theorem Tryz.keysA : Go.Proofs.SlLaysZI.n7 Tryz.prog Tryz.keysA_ren := {
  mixed := by kernel_rfl
  f7 := ⟨Tryz.f54.name, by decide, Tryz.func54.trans (congrArg some (by kernel_rfl))⟩
  f10 := ⟨Tryz.f93.name, by decide, Tryz.func93.trans (congrArg some (by kernel_rfl))⟩
  t0 := Tryz.underlying0
  a0 := Tryz.isAgg0
  z0 := Tryz.sizeOf0
  v0 := Tryz.zeroValue0
  t4 := Tryz.underlying4
  a4 := Tryz.isAgg4
  z4 := Tryz.sizeOf4
  v4 := Tryz.zeroValue4
  t23 := Tryz.underlying78
  a23 := Tryz.isAgg78
  z23 := Tryz.sizeOf78
  v23 := Tryz.zeroValue78
  t26 := Tryz.underlying3
  a26 := Tryz.isAgg3
  z26 := Tryz.sizeOf3
  v26 := Tryz.zeroValue3
  t27 := Tryz.underlying81
  a27 := Tryz.isAgg81
  z27 := Tryz.sizeOf81
  v27 := Tryz.zeroValue81
  t28 := Tryz.underlying82
  a28 := Tryz.isAgg82
  z28 := Tryz.sizeOf82
  v28 := Tryz.zeroValue82
  t33 := Tryz.underlying112
  a33 := Tryz.isAgg112
  z33 := Tryz.sizeOf112
  v33 := Tryz.zeroValue112 }
def Tryz.sortedA_ren : Go.Shelf.Ren := ⟨fun | 6 => 53 | 8 => 91 | 9 => 92 | 11 => 113 | 13 => 115 | 12 => 114 | 23 => 133 | 24 => 134 | 14 => 124 | 15 => 125 | 16 => 126 | 17 => 127 | 18 => 128 | 19 => 129 | 20 => 130 | 21 => 131 | 22 => 132 | 25 => 137 | 26 => 138 | 27 => 139 | 28 => 140 | 29 => 141 | 30 => 142 | 31 => 143 | n => n, fun | 26 => 3 | 28 => 82 | 24 => 23 | 0 => 0 | 3 => 3 | 37 => 77 | 48 => 155 | 50 => 33 | 4 => 4 | 40 => 149 | 39 => 148 | 45 => 89 | 5 => 5 | 9 => 9 | 51 => 157 | 55 => 161 | 57 => 163 | 58 => 52 | 33 => 112 | n => n, fun | n => n⟩
theorem Tryz.sortedA : Go.Proofs.SlLaysZI.n6 Tryz.prog Tryz.sortedA_ren := {
  mixed := by kernel_rfl
  f6 := ⟨Tryz.f53.name, by decide, Tryz.func53.trans (congrArg some (by kernel_rfl))⟩
  f8 := ⟨Tryz.f91.name, by decide, Tryz.func91.trans (congrArg some (by kernel_rfl))⟩
  f11 := ⟨Tryz.f113.name, by decide, Tryz.func113.trans (congrArg some (by kernel_rfl))⟩
  t0 := Tryz.underlying0
  a0 := Tryz.isAgg0
  z0 := Tryz.sizeOf0
  v0 := Tryz.zeroValue0
  t24 := Tryz.underlying23
  a24 := Tryz.isAgg23
  z24 := Tryz.sizeOf23
  v24 := Tryz.zeroValue23
  t26 := Tryz.underlying3
  a26 := Tryz.isAgg3
  z26 := Tryz.sizeOf3
  v26 := Tryz.zeroValue3
  t28 := Tryz.underlying82
  a28 := Tryz.isAgg82
  z28 := Tryz.sizeOf82
  v28 := Tryz.zeroValue82
  i26 := by kernel_rfl }
def Tryz.sortA_ren : Go.Shelf.Ren := ⟨fun | 5 => 92 | 8 => 115 | 7 => 114 | 19 => 133 | 20 => 134 | 10 => 124 | 11 => 125 | 12 => 126 | 13 => 127 | 14 => 128 | 15 => 129 | 16 => 130 | 17 => 131 | 18 => 132 | 30 => 137 | 31 => 138 | 32 => 139 | 33 => 140 | 34 => 141 | 35 => 142 | 40 => 143 | n => n, fun | 23 => 23 | 25 => 3 | 3 => 3 | 32 => 77 | 22 => 23 | 0 => 0 | 44 => 155 | 46 => 33 | 4 => 4 | 36 => 149 | 35 => 148 | 41 => 89 | 5 => 5 | 9 => 9 | 53 => 157 | 57 => 161 | 63 => 163 | 64 => 52 | n => n, fun | n => n⟩
theorem Tryz.sortA : Go.Proofs.SlLaysM.n5 Tryz.prog Tryz.sortA_ren := {
  mixed := by kernel_rfl
  f5 := ⟨Tryz.f92.name, by decide, Tryz.func92.trans (congrArg some (by kernel_rfl))⟩
  f7 := ⟨Tryz.f114.name, by decide, Tryz.func114.trans (congrArg some (by kernel_rfl))⟩
  f8 := Tryz.func115.trans (congrArg some (by kernel_rfl))
  f10 := ⟨Tryz.f124.name, by decide, Tryz.func124.trans (congrArg some (by kernel_rfl))⟩
  f11 := ⟨Tryz.f125.name, by decide, Tryz.func125.trans (congrArg some (by kernel_rfl))⟩
  f12 := ⟨Tryz.f126.name, by decide, Tryz.func126.trans (congrArg some (by kernel_rfl))⟩
  f13 := ⟨Tryz.f127.name, by decide, Tryz.func127.trans (congrArg some (by kernel_rfl))⟩
  f14 := ⟨Tryz.f128.name, by decide, Tryz.func128.trans (congrArg some (by kernel_rfl))⟩
  f15 := ⟨Tryz.f129.name, by decide, Tryz.func129.trans (congrArg some (by kernel_rfl))⟩
  f16 := ⟨Tryz.f130.name, by decide, Tryz.func130.trans (congrArg some (by kernel_rfl))⟩
  f17 := ⟨Tryz.f131.name, by decide, Tryz.func131.trans (congrArg some (by kernel_rfl))⟩
  f18 := ⟨Tryz.f132.name, by decide, Tryz.func132.trans (congrArg some (by kernel_rfl))⟩
  f19 := Tryz.func133.trans (congrArg some (by kernel_rfl))
  f20 := Tryz.func134.trans (congrArg some (by kernel_rfl))
  f30 := ⟨Tryz.f137.name, by decide, Tryz.func137.trans (congrArg some (by kernel_rfl))⟩
  f31 := Tryz.func138.trans (congrArg some (by kernel_rfl))
  f32 := Tryz.func139.trans (congrArg some (by kernel_rfl))
  f33 := ⟨Tryz.f140.name, by decide, Tryz.func140.trans (congrArg some (by kernel_rfl))⟩
  f34 := ⟨Tryz.f141.name, by decide, Tryz.func141.trans (congrArg some (by kernel_rfl))⟩
  f35 := ⟨Tryz.f142.name, by decide, Tryz.func142.trans (congrArg some (by kernel_rfl))⟩
  f40 := ⟨Tryz.f143.name, by decide, Tryz.func143.trans (congrArg some (by kernel_rfl))⟩
  t0 := Tryz.underlying0
  a0 := Tryz.isAgg0
  z0 := Tryz.sizeOf0
  v0 := Tryz.zeroValue0
  t3 := Tryz.underlying3
  a3 := Tryz.isAgg3
  z3 := Tryz.sizeOf3
  v3 := Tryz.zeroValue3
  t4 := Tryz.underlying4
  a4 := Tryz.isAgg4
  z4 := Tryz.sizeOf4
  v4 := Tryz.zeroValue4
  t5 := Tryz.underlying5
  a5 := Tryz.isAgg5
  z5 := Tryz.sizeOf5
  v5 := Tryz.zeroValue5
  t9 := Tryz.underlying9
  a9 := Tryz.isAgg9
  z9 := Tryz.sizeOf9
  v9 := Tryz.zeroValue9
  t22 := Tryz.underlying23
  a22 := Tryz.isAgg23
  z22 := Tryz.sizeOf23
  v22 := Tryz.zeroValue23
  t23 := Tryz.underlying23
  a23 := Tryz.isAgg23
  z23 := Tryz.sizeOf23
  v23 := Tryz.zeroValue23
  t25 := Tryz.underlying3
  a25 := Tryz.isAgg3
  z25 := Tryz.sizeOf3
  v25 := Tryz.zeroValue3
  t32 := Tryz.underlying77
  a32 := Tryz.isAgg77
  z32 := Tryz.sizeOf77
  v32 := Tryz.zeroValue77
  t35 := Tryz.underlying148
  a35 := Tryz.isAgg148
  z35 := Tryz.sizeOf148
  v35 := Tryz.zeroValue148
  t36 := Tryz.underlying149
  a36 := Tryz.isAgg149
  z36 := Tryz.sizeOf149
  v36 := Tryz.zeroValue149
  t41 := Tryz.underlying89
  a41 := Tryz.isAgg89
  z41 := Tryz.sizeOf89
  v41 := Tryz.zeroValue89
  t44 := Tryz.underlying155
  a44 := Tryz.isAgg155
  z44 := Tryz.sizeOf155
  v44 := Tryz.zeroValue155
  t46 := Tryz.underlying33
  a46 := Tryz.isAgg33
  z46 := Tryz.sizeOf33
  v46 := Tryz.zeroValue33
  t53 := Tryz.underlying157
  a53 := Tryz.isAgg157
  z53 := Tryz.sizeOf157
  v53 := Tryz.zeroValue157
  t57 := Tryz.underlying161
  a57 := Tryz.isAgg161
  z57 := Tryz.sizeOf161
  v57 := Tryz.zeroValue161
  t63 := Tryz.underlying163
  a63 := Tryz.isAgg163
  z63 := Tryz.sizeOf163
  v63 := Tryz.zeroValue163
  t64 := Tryz.underlying52
  a64 := Tryz.isAgg52
  z64 := Tryz.sizeOf52
  v64 := Tryz.zeroValue52 }
end Go.Proofs

/-
  Walks of package read over the store's contracts: top, constant, Build.
-/
namespace Go.Proofs.YtpcilfnnfhfgaaaGreatDoor
open Go Go.RowKit

theorem idx_ov (o : Nat → Int) (n : Nat) (hn : n < 8) (w : World) : (Instr.index 62 (.agg #[.int .i64 (o 0), .int .i64 (o 1), .int .i64 (o 2), .int .i64 (o 3), .int .i64 (o 4), .int .i64 (o 5), .int .i64 (o 6), .int .i64 (o 7)]) (.int .i64 (n : Int))).run Tryz.prog w = .ok (.int .i64 (o n)) w := by
  have h1 : (0 : Int) ≤ (n : Int) ∧ (n : Int) < 8 := ⟨by omega, by omega⟩
  rcases (by omega : n = 0 ∨ n = 1 ∨ n = 2 ∨ n = 3 ∨ n = 4 ∨ n = 5 ∨ n = 6 ∨ n = 7) with rfl | rfl | rfl | rfl | rfl | rfl | rfl | rfl <;> simp [Instr.index, run_underlying Tryz.underlying62, asIntOf, go_sem]

theorem topFrom_none8 (f : Fn) (o : Nat → Int) (n : Nat) : ∀ i, ¬ 0 ≤ topFrom f o n i → topFrom f o n i = -1 := by
  induction n with
  | zero => intro i _; rfl
  | succ n ih =>
    intro i h
    simp only [topFrom] at h ⊢
    split
    · rename_i hd
      rw [if_pos hd] at h
      exact absurd (depAny_range hd).1 h
    · rename_i hd
      rw [if_neg hd] at h
      exact ih (i + 1) h

set_option maxRecDepth 100000 in
set_option maxHeartbeats 1000000 in
theorem readTop (f : Fn) (o : Nat → Int) (w : World) (hl : LowW w) :
    Calls Tryz.prog 55 #[fv f, ov o] w fun e w' => e = .returned (.tuple #[.int .i64 (if 0 ≤ topF f o then topF f o else 0), .bool (decide (0 ≤ topF f o))]) ∧ Below w.heap.size w w' := by
  have Hl := Lib.hid hl
  have HD := fun (v : Int) (W : World) (hb : Below w.heap.size w W) => cofDepends f v W (hl.keep hb)
  replace HD := Lib.hid HD
  clear hl
  generalize hr1 : (if 0 ≤ topF f o then topF f o else 0) = r1
  generalize hr2 : decide (0 ≤ topF f o) = r2
  replace hr1 := Lib.hid hr1
  replace hr2 := Lib.hid hr2
  simp only [fv, ov]
  go_enter Tryz.func55, Tryz.ntmps55
  go_wp2
  go_loopw [9] (fun i wr => ∃ n : Nat, n ≤ 8 ∧ i = .int .i64 n ∧ Hid (topF f o = topFrom f o (8 - n) n) ∧ Holds wr w.heap.size f ∧ Below w.heap.size w wr) (fun i _ => 8 - (intOf i).toNat)
  case atStart => exact ⟨0, Nat.zero_le _, rfl, rfl, (Holds.new _ _ _).alloc _, by go_grown⟩
  case round =>
    obtain ⟨n, hn, rfl, ht, h0, hb⟩ := hrel
    by_cases hlt : n < 8
    · have Hs : Hid (topF f o = if depAny f (o n) then o n else topFrom f o (8 - (n + 1)) (n + 1)) := by
        have := ht.out
        rw [show 8 - n = (8 - (n + 1)) + 1 by omega] at this
        exact this
      clear ht
      have hn0 : (0 : Int) ≤ (n : Int) := by omega
      have hn8 : (n : Int) < 8 := by omega
      obtain ⟨c0, c1, c2, c3⟩ := h0.cells
      have hix := idx_ov o n hlt wr
      have hd := HD.out (o n) wr hb
      simp only [fv] at hd
      go_wp2_with fail
      refine hd.mono ?_
      rintro e w1 ⟨rfl, hb1⟩
      replace h0 := h0.keep hb1 h0.lt
      replace hb := hb.trans (hb1.mono hb.size)
      clear hd hix c0 c1 c2 c3 hb1
      cases hdp : depAny f (o n)
      · rw [hdp] at Hs
        go_wp2
        exact ⟨⟨n + 1, by omega, by go_num, Hs.out, h0, hb⟩, by simp [intOf]; omega⟩
      · rw [hdp] at Hs
        have h00 := (depAny_range hdp).1
        have e1 : topF f o = o n := Hs.out
        have hres : r1 = o n ∧ r2 = true := by rw [← hr1.out, ← hr2.out, e1, if_pos h00, decide_eq_true h00]; exact ⟨rfl, rfl⟩
        replace hres := Lib.hid hres
        clear Hs HD e1 h00 hr1 hr2
        go_wp2
        go_ret2
        exact ⟨by rw [hres.out.1, hres.out.2]; rfl, hb⟩
    · obtain rfl : n = 8 := by omega
      have e1 : topF f o = -1 := ht.out
      have hres : r1 = 0 ∧ r2 = false := by rw [← hr1.out, ← hr2.out, e1]; exact ⟨rfl, rfl⟩
      replace hres := Lib.hid hres
      clear ht e1 HD hr1 hr2
      go_wp2
      go_ret2
      exact ⟨by rw [hres.out.1, hres.out.2]; rfl, hb⟩

set_option maxRecDepth 100000 in
theorem readConstant (f : Fn) (w : World) :
    Calls Tryz.prog 56 #[fv f] w fun e w' => e = .returned (.int .i64 (constN f)) ∧ Below w.heap.size w w' := by
  have HA := fun W => tabAt f 0 W
  have hc : constN f = if atF f 0 then 1 else 0 := rfl
  generalize constN f = c at *
  generalize atF f 0 = z at *
  simp only [fv] at *
  have hb : Below w.heap.size w (w.alloc (.cells #[.int .u64 (wd f 0), .int .u64 (wd f 1), .int .u64 (wd f 2), .int .u64 (wd f 3)] 35)) := by go_grown
  have hF := Holds.new w f w.heap.size rfl
  cases z
  · simp only [Bool.false_eq_true, if_false] at hc
    subst hc
    go_enter Tryz.func56, Tryz.ntmps56
    go_wp2_with fail
    generalize w.alloc (.cells #[.int .u64 (wd f 0), .int .u64 (wd f 1), .int .u64 (wd f 2), .int .u64 (wd f 3)] 35) = W at *
    refine (HA _).mono ?_
    rintro e w3 ⟨rfl, hb3⟩
    go_wp2
    go_ret
    exact ⟨rfl, hb.trans (hb3.mono hb.size)⟩
  · simp only [if_true] at hc
    subst hc
    go_enter Tryz.func56, Tryz.ntmps56
    go_wp2_with fail
    generalize w.alloc (.cells #[.int .u64 (wd f 0), .int .u64 (wd f 1), .int .u64 (wd f 2), .int .u64 (wd f 3)] 35) = W at *
    refine (HA _).mono ?_
    rintro e w3 ⟨rfl, hb3⟩
    go_wp2
    go_ret
    exact ⟨rfl, hb.trans (hb3.mono hb.size)⟩

theorem LowW.keepK {w w' : World} {F : Nat → Prop} (h : LowW w) (K : Keeps F w w') (hF : ¬ F 0) : LowW w' := fun i hi => by
  have := K.block 0 h.pos hF
  have h1 := h i hi
  unfold World.cell? at *
  rw [this]
  exact h1

theorem MS.Ok.in64 {s : MS} (ok : s.Ok) {n : Int} (h : s.there n = true) : n ≤ 9223372036854775807 ∧ -9223372036854775808 ≤ n := by
  rcases MS.there_cases h with ⟨h, _⟩ | h
  · omega
  · have := ok.toBase.has_le h; omega

/-- What Build comes to: a number, an error, and the store. -/
def BldPost (StAt : World → Nat → (Nat → Prop) → MS → Prop) (w : World) (b : Nat) (F : Nat → Prop) (r : Int × Int × MS) (e : Ending) (w' : World) : Prop := e = .returned (.tuple #[.int .i64 r.1, errV r.2.1]) ∧ ∃ F', StAt w' b F' r.2.2 ∧ Keeps F w w' ∧ Within w F F'

set_option maxRecDepth 100000 in
set_option maxHeartbeats 2000000 in
theorem readBuild_const {StAt : World → Nat → (Nat → Prop) → MS → Prop} (H : StoreC StAt) {w : World} {b : Nat} {F : Nat → Prop} {s : MS} (hL : LowW w) (h : StAt w b F s) (ok : s.Ok) (f : Fn) (ht : topF f s.o < 0) :
    Calls Tryz.prog 22 #[.pointer (some ⟨b, 0, none⟩), fv f] w (BldPost StAt w b F (constN f, 0, s)) := by
  have HO := fun W (hb : Below w.heap.size w W) => H.order (H.below h hb) ok
  have HT := fun W (hb : Below w.heap.size w W) => readTop f s.o W (hL.keep hb)
  simp only [if_neg (show ¬ 0 ≤ topF f s.o by omega), decide_eq_false (show ¬ 0 ≤ topF f s.o by omega)] at HT
  have HA := fun W => readConstant f W
  have hend : ∀ w', Below w.heap.size w w' → ∃ F', StAt w' b F' s ∧ Keeps F w w' ∧ Within w F F' := fun w' hb => ⟨F, H.below h hb, Keeps.of_below hb _, Within.refl _ _⟩
  unfold BldPost errV
  simp only [if_true]
  generalize constN f = z at *
  clear h ht hL ok
  simp only [fv, ov] at *
  go_enter Tryz.func22, Tryz.ntmps22
  go_wp2
  have hF := Holds.new w f w.heap.size rfl
  have hb := (Below.refl w.heap.size w).alloc (Nat.le_refl _) (.cells #[.int .u64 (wd f 0), .int .u64 (wd f 1), .int .u64 (wd f 2), .int .u64 (wd f 3)] 35)
  generalize w.alloc (.cells #[.int .u64 (wd f 0), .int .u64 (wd f 1), .int .u64 (wd f 2), .int .u64 (wd f 3)] 35) = W at *
  have c0 := fun u : Sub W => (hF.sub u).cells.1
  have c1 := fun u : Sub W => (hF.sub u).cells.2.1
  have c2 := fun u : Sub W => (hF.sub u).cells.2.2.1
  have c3 := fun u : Sub W => (hF.sub u).cells.2.2.2
  have JO := fun u : Sub W => HO _ (hb.trans (u.2.mono hb.size))
  have JT := fun u : Sub W => HT _ (hb.trans (u.2.mono hb.size))
  refine wp_region_quiet_all (C := fun w' => ∃ u : Sub W, w' = u.1) (by kernel_rfl) (by kernel_rfl) (InSub.drew W) ?_
  iterate 2 (go_big_quiet_step (fail))
  go_big_quiet_step (exact subBelow (JO _))
  go_big_quiet_step (exact subBelow (JT _))
  iterate 5 (go_big_quiet_step (fail))
  refine wpQuiet_nil ?_
  clear c0 c1 c2 c3 JO JT HO HT
  intro w' hw'
  obtain ⟨u, rfl⟩ := hw'
  replace hF := hF.keep u.2 hF.lt
  replace hb := hb.trans (u.2.mono hb.size)
  generalize u.1 = W2 at *
  obtain ⟨c0, c1, c2, c3⟩ := hF.cells
  go_wp2_with fail
  refine (HA _).mono ?_
  rintro e w3 ⟨rfl, hb3⟩
  have hb4 := hb.trans (hb3.mono hb.size)
  clear HA c0 c1 c2 c3
  go_wp2
  go_ret2
  exact ⟨rfl, hend _ hb4⟩

set_option maxRecDepth 100000 in
set_option maxHeartbeats 4000000 in
theorem readBuild {StAt : World → Nat → (Nat → Prop) → MS → Prop} (H : StoreC StAt) {b : Nat} : ∀ (k : Nat) (s : MS) (f : Fn) (w : World) (F : Nat → Prop), LowW w → (∀ k, F k → 0 < k) → StAt w b F s → s.Ok → supN f ≤ k →
    Calls Tryz.prog 22 #[.pointer (some ⟨b, 0, none⟩), fv f] w (BldPost StAt w b F (MS.bld k s f)) := by
  intro k
  induction k with
  | zero =>
    intro s f w F hL _ h ok hk
    refine readBuild_const H hL h ok f ?_
    have := (top_neg (f := f) (full_of ok.order)).2 (supN_zero (f := f) (by omega))
    omega
  | succ k ih =>
    intro s f w F hL hlow h ok hk
    unfold MS.bld
    by_cases ht : topF f s.o < 0
    · rw [if_pos ht]
      exact readBuild_const H hL h ok f ht
    · rw [if_neg ht]
      have ht0 : 0 ≤ topF f s.o := by omega
      have k0 := supN_cof f s.o false ht0
      have k1 := supN_cof f s.o true ht0
      have ra := MS.bld_spec k s (cofAny f (topF f s.o) false) ok (by omega)
      have IA := fun W (hb : Below w.heap.size w W) => ih s (cofAny f (topF f s.o) false) W F (hL.keep hb) hlow (H.below h hb) ok (by omega)
      have rb := fun hA => MS.bld_spec k (MS.bld k s (cofAny f (topF f s.o) false)).2.2 (cofAny f (topF f s.o) true) hA (by omega)
      have IB := fun W F' hlW hl hW hA => ih (MS.bld k s (cofAny f (topF f s.o) false)).2.2 (cofAny f (topF f s.o) true) W F' hlW hl hW hA (by omega)
      have HO := fun W (hb : Below w.heap.size w W) => H.order (H.below h hb) ok
      have HT := fun W (hb : Below w.heap.size w W) => readTop f s.o W (hL.keep hb)
      simp only [if_pos ht0, decide_eq_true ht0] at HT
      have HC0 := fun W (hb : Below w.heap.size w W) => cofCof f (topF f s.o) false W (hL.keep hb)
      have HC1 := fun W (hlW : LowW W) => cofCof f (topF f s.o) true W hlW
      dsimp only
      generalize hA : MS.bld k s (cofAny f (topF f s.o) false) = A at *
      generalize hB : MS.bld k A.2.2 (cofAny f (topF f s.o) true) = B at *
      have hFlt := H.lt h
      have hp := hL.pos
      generalize topF f s.o = v at *
      generalize cofAny f v false = f0 at *
      generalize cofAny f v true = f1 at *
      clear ih hA hB k0 k1 hk
      obtain ⟨A0, A1, sA⟩ := A
      obtain ⟨B0, B1, sB⟩ := B
      dsimp only at *
      generalize hr : (if A1 ≠ 0 then ((0, A1, sA) : Int × Int × MS) else if B1 ≠ 0 then (0, B1, sB) else sB.mk v A0 B0 []) = r
      simp only [fv, ov] at *
      obtain ⟨okA, _, _, resA, _⟩ := ra
      unfold BldPost at *
      dsimp only at IA IB
      replace hL := Lib.hid hL
      go_enter Tryz.func22, Tryz.ntmps22
      go_wp2
      have hF := Holds.new w f w.heap.size rfl
      have hb := (Below.refl w.heap.size w).alloc (Nat.le_refl _) (.cells #[.int .u64 (wd f 0), .int .u64 (wd f 1), .int .u64 (wd f 2), .int .u64 (wd f 3)] 35)
      generalize w.alloc (.cells #[.int .u64 (wd f 0), .int .u64 (wd f 1), .int .u64 (wd f 2), .int .u64 (wd f 3)] 35) = W at *
      have c0 := fun u : Sub W => (hF.sub u).cells.1
      have c1 := fun u : Sub W => (hF.sub u).cells.2.1
      have c2 := fun u : Sub W => (hF.sub u).cells.2.2.1
      have c3 := fun u : Sub W => (hF.sub u).cells.2.2.2
      have JO := fun u : Sub W => HO _ (hb.trans (u.2.mono hb.size))
      have JT := fun u : Sub W => HT _ (hb.trans (u.2.mono hb.size))
      refine wp_region_quiet_all (C := fun w' => ∃ u : Sub W, w' = u.1) (by kernel_rfl) (by kernel_rfl) (InSub.drew W) ?_
      iterate 2 (go_big_quiet_step (fail))
      go_big_quiet_step (exact subBelow (JO _))
      go_big_quiet_step (exact subBelow (JT _))
      iterate 5 (go_big_quiet_step (fail))
      refine wpQuiet_nil ?_
      clear c0 c1 c2 c3 JO JT HO HT
      intro w' hw'
      obtain ⟨u, rfl⟩ := hw'
      replace hF := hF.keep u.2 hF.lt
      replace hb := hb.trans (u.2.mono hb.size)
      generalize u.1 = W2 at *
      obtain ⟨c0, c1, c2, c3⟩ := hF.cells
      go_wp2_with fail
      refine (HC0 _ hb).mono ?_
      rintro e w3 ⟨rfl, hb3⟩
      replace hF := hF.keep hb3 hF.lt
      replace hb := hb.trans (hb3.mono hb.size)
      clear HC0 c0 c1 c2 c3 hb3
      go_wp2_with fail
      refine (IA _ hb).mono ?_
      rintro e w4 ⟨rfl, FA4, hA4, hK4, hW4⟩
      have hBn : ¬ F w.heap.size := fun e => by have := hFlt _ e; omega
      have hF4 : Holds w4 w.heap.size f := by
        have := hK4.block w.heap.size hF.lt hBn
        unfold Holds at *
        rw [this]; exact hF
      have HK := (Keeps.of_below hb F).trans hK4 (Within.refl _ _)
      have HW := (Within.refl w F).trans hW4 hb.size
      have hL4 := hL.out.keepK HK (fun e => by have := hlow _ e; omega)
      have hlow4 : ∀ k, FA4 k → 0 < k := fun k hk => (HW k hk).elim (hlow k) (fun h => by omega)
      clear IA hK4 hW4 hF hb hL hlow
      by_cases hA1 : A1 = 0
      · subst hA1
        rw [if_neg (by decide)] at hr
        obtain ⟨thA, _⟩ := resA rfl
        obtain ⟨c0, c1, c2, c3⟩ := hF4.cells
        rw [errV0]
        go_wp2_with fail
        refine (HC1 _ hL4).mono ?_
        rintro e w5 ⟨rfl, hb5⟩
        clear HC1 c0 c1 c2 c3
        obtain ⟨okB, extB, _, resB, _⟩ := rb okA
        go_wp2_with fail
        refine (IB _ _ (hL4.keep hb5) hlow4 (H.below hA4 hb5) okA).mono ?_
        rintro e w6 ⟨rfl, FB6, hB6, hK6, hW6⟩
        replace HK := HK.trans ((Keeps.of_below hb5 FA4).trans hK6 (Within.refl _ _)) HW
        replace HW := HW.trans ((Within.refl w4 FA4).trans hW6 hb5.size) (by have := hF4.lt; omega)
        clear IB hK6 hb5
        by_cases hB1 : B1 = 0
        · subst hB1
          rw [if_neg (by decide)] at hr
          obtain ⟨thB, _⟩ := resB rfl
          have HM := H.make hB6 okB v A0 B0 (okB.in64 (extB.there thA)) (okB.in64 thB)
          rw [hr] at HM
          rw [errV0]
          go_wp2_with fail
          refine HM.mono ?_
          rintro e w7 ⟨rfl, F7, hM7, hK7, hW7⟩
          go_wp2
          go_ret2
          exact ⟨rfl, F7, hM7, HK.trans hK7 HW, HW.trans hW7 HK.size⟩
        · rw [if_pos hB1] at hr
          subst hr
          simp only [errV, if_neg hB1]
          go_wp2
          go_ret2
          exact ⟨by first | rfl | (simp only [errV, if_neg hB1]; rfl), FB6, hB6, HK, HW⟩
      · rw [if_pos hA1] at hr
        subst hr
        simp only [errV, if_neg hA1]
        clear IB rb
        go_wp2
        go_ret2
        exact ⟨by first | rfl | (simp only [errV, if_neg hA1]; rfl), FA4, hA4, HK, HW⟩

end Go.Proofs.YtpcilfnnfhfgaaaGreatDoor

/-
  Orders compared.
-/
namespace Go.Proofs.YtpcilfnnfhfgaaaGreatDoor
open Go Go.RowKit

theorem run_equal_same (d : Nat) (a0 a1 a2 a3 a4 a5 a6 a7 : Int) (w : World) : (Op.equalIn (d + 1 + 1) 62 (.agg #[.int .i64 a0, .int .i64 a1, .int .i64 a2, .int .i64 a3, .int .i64 a4, .int .i64 a5, .int .i64 a6, .int .i64 a7]) (.agg #[.int .i64 a0, .int .i64 a1, .int .i64 a2, .int .i64 a3, .int .i64 a4, .int .i64 a5, .int .i64 a6, .int .i64 a7])).run Tryz.prog w = .ok true w := by
  obtain ⟨i, hi⟩ : ∃ i, Tryz.prog.info? 3 = some i := info_of_underlying Tryz.underlying3
  rw [run_equalIn_array w (d + 1) _ _ Tryz.underlying62 hi]
  have hc : Tryz.prog.cellsOf 3 = 1 := by kernel_rfl
  have hr : List.range 8 = [0, 1, 2, 3, 4, 5, 6, 7] := rfl
  rw [hc, hr]
  have hq : ∀ (w : World) (a b : Int), (Op.equalIn (d + 1) 3 (.int .i64 a) (.int .i64 b)).run Tryz.prog w = .ok (a == b) w := fun w a b => run_equalIn_int w d _ _ _ _ _ Tryz.underlying3
  simp [Op.eqItems, part, go_sem, hq]

theorem run_eql_same (a0 a1 a2 a3 a4 a5 a6 a7 : Int) (w : World) : (binOp .eql 62 (.agg #[.int .i64 a0, .int .i64 a1, .int .i64 a2, .int .i64 a3, .int .i64 a4, .int .i64 a5, .int .i64 a6, .int .i64 a7]) (.agg #[.int .i64 a0, .int .i64 a1, .int .i64 a2, .int .i64 a3, .int .i64 a4, .int .i64 a5, .int .i64 a6, .int .i64 a7])).run Tryz.prog w = .ok (.bool true) w := by
  rw [run_eql_struct, run_equal_same 9998]
  rfl
theorem run_neq_same (a0 a1 a2 a3 a4 a5 a6 a7 : Int) (w : World) : (binOp .neq 62 (.agg #[.int .i64 a0, .int .i64 a1, .int .i64 a2, .int .i64 a3, .int .i64 a4, .int .i64 a5, .int .i64 a6, .int .i64 a7]) (.agg #[.int .i64 a0, .int .i64 a1, .int .i64 a2, .int .i64 a3, .int .i64 a4, .int .i64 a5, .int .i64 a6, .int .i64 a7])).run Tryz.prog w = .ok (.bool false) w := by
  rw [run_neq_struct, run_equal_same 9998]
  rfl
theorem run_guard_order (op : BinOp) (x y : Operand) (a b : Array Value) (w : World) : (eqGuard op 62 x y (.agg a) (.agg b)).run Tryz.prog w = .ok () w :=
  run_eqGuard_agg w op _ x y _ _ (by kernel_rfl)
theorem run_equal_same' (a0 a1 a2 a3 a4 a5 a6 a7 : Int) (w : World) : (Op.equalIn 10000 62 (.agg #[.int .i64 a0, .int .i64 a1, .int .i64 a2, .int .i64 a3, .int .i64 a4, .int .i64 a5, .int .i64 a6, .int .i64 a7]) (.agg #[.int .i64 a0, .int .i64 a1, .int .i64 a2, .int .i64 a3, .int .i64 a4, .int .i64 a5, .int .i64 a6, .int .i64 a7])).run Tryz.prog w = .ok true w := run_equal_same 9998 _ _ _ _ _ _ _ _ w

end Go.Proofs.YtpcilfnnfhfgaaaGreatDoor

/-
  Layer 7's law: the two stores compared; a deed.
-/
namespace Go.Proofs.YtpcilfnnfhfgaaaGreatDoor
open Go Go.RowKit
attribute [local go_sem] run_equal_same' run_eql_same run_neq_same run_guard_order

theorem run_neq_nodes (a0 a1 a2 : Int) (w : World) : (binOp .neq 69 (.agg #[.int .i64 a0, .int .i64 a1, .int .i64 a2]) (.agg #[.int .i64 a0, .int .i64 a1, .int .i64 a2])).run Tryz.prog w = .ok (.bool false) w := by
  have hq : ∀ (w : World) (a b : Int), (Op.equalIn 9999 3 (.int .i64 a) (.int .i64 b)).run Tryz.prog w = .ok (a == b) w := fun w a b => run_equalIn_int w 9998 _ _ _ _ _ Tryz.underlying3
  rw [run_neq_struct, run_equalIn_agg w 9999 _ _ _ (by kernel_rfl) (by kernel_rfl)]
  simp [Op.eqFields, part, go_sem, hq]

section
variable {StAt : World → Nat → (Nat → Prop) → MS → Prop} {w0 W W' : World} {bA bM : Nat} {FA FM FA' FM' : Nat → Prop} {sA sM s' : MS}
/-- The order's cells. -/
def OrdAt (w : World) (b : Nat) (o : Nat → Int) : Prop := w.cell? ⟨b, 2, none⟩ = some (.int .i64 (o 0)) ∧ w.cell? ⟨b, 3, none⟩ = some (.int .i64 (o 1)) ∧ w.cell? ⟨b, 4, none⟩ = some (.int .i64 (o 2)) ∧ w.cell? ⟨b, 5, none⟩ = some (.int .i64 (o 3)) ∧
    w.cell? ⟨b, 6, none⟩ = some (.int .i64 (o 4)) ∧ w.cell? ⟨b, 7, none⟩ = some (.int .i64 (o 5)) ∧ w.cell? ⟨b, 8, none⟩ = some (.int .i64 (o 6)) ∧ w.cell? ⟨b, 9, none⟩ = some (.int .i64 (o 7))
theorem P2.order (h : P2 StAt w0 bA bM FA FM sA sM W) : OrdAt W bM sM.o := by
  obtain ⟨_, _, _, _, hR⟩ := h.m
  exact hR.order
end

set_option maxRecDepth 100000 in
set_option maxHeartbeats 8000000 in
theorem lawSame {StAt : World → Nat → (Nat → Prop) → MS → Prop} (H : StoreC StAt) {w0 w : World} {bA bM : Nat} {FA FM : Nat → Prop} {s : MS} (P : P2 StAt w0 bA bM FA FM s s w) (ok : s.Ok) :
    Calls Tryz.prog 25 #[.pointer (some ⟨bA, 0, none⟩), .pointer (some ⟨bM, 0, none⟩)] w fun e w' => e = .returned (.int .i64 1) ∧ Below w.heap.size w w' := by
  have hal : s.all.length ≤ 20000 := Nat.le_trans (numsTo_filter_length s.has s.N.length) ok.toBase.few
  go_enter Tryz.func25, Tryz.ntmps25
  go_wp2_with fail
  refine (refSAll P.m ok.toBase).mono ?_
  rintro e w1 ⟨vA, rfl, RA⟩
  replace P := P.keep H RA.below
  obtain ⟨aA, cA, rfl, _⟩ := RA.own.form
  replace P := P.keep H (Below.refl w1.heap.size w1).drew
  have hb1 := RA.below.drew
  have hA := RA.own.reads.keep (Below.refl w1.heap.size w1).drew
  clear RA
  go_wp2
  have hS0 := P.order
  simp only [OrdAt] at hS0
  replace P := Lib.hid P
  replace hA := Lib.hid hA
  replace H := Lib.hid H
  go_region_held3 (fun w' => w'.cell? ⟨bM, 2, none⟩ = some (.int .i64 (s.o 0)) ∧ w'.cell? ⟨bM, 3, none⟩ = some (.int .i64 (s.o 1)) ∧ w'.cell? ⟨bM, 4, none⟩ = some (.int .i64 (s.o 2)) ∧ w'.cell? ⟨bM, 5, none⟩ = some (.int .i64 (s.o 3)) ∧
    w'.cell? ⟨bM, 6, none⟩ = some (.int .i64 (s.o 4)) ∧ w'.cell? ⟨bM, 7, none⟩ = some (.int .i64 (s.o 5)) ∧ w'.cell? ⟨bM, 8, none⟩ = some (.int .i64 (s.o 6)) ∧ w'.cell? ⟨bM, 9, none⟩ = some (.int .i64 (s.o 7))) (first | assumption)
    (first
      | (go_at_call 60; refine (H.out.all P.out.a ok).mono ?_; rintro e W1 ⟨v1, rfl, R1⟩; have P1 := Lib.hid (P.out.keep H.out R1.below); have hb2 := hb1.trans (R1.below.mono hb1.size); have hA1 := Lib.hid (hA.out.keep R1.below); have hS1 := P1.out.order; simp only [OrdAt] at hS1)
      | (go_at_call 19; refine (lawInts s.all v1 _ _ R1.own.reads hA1.out (by omega)).mono ?_; rintro e W2 ⟨rfl, R2⟩; have P2 := Lib.hid (P1.out.keep H.out R2); have hb3 := hb2.trans (R2.mono hb2.size); have hA2 := Lib.hid (hA1.out.keep R2); have hS2 := P2.out.order; simp only [OrdAt] at hS2)
      | (go_at_call 29; refine (H.out.live P2.out.a ok).mono ?_; rintro e W3 ⟨rfl, R3⟩; have P3 := Lib.hid (P2.out.keep H.out R3); have hb4 := hb3.trans (R3.mono hb3.size); have hA3 := Lib.hid (hA2.out.keep R3); have hS3 := P3.out.order; simp only [OrdAt] at hS3)
      | (go_at_call 61; refine (H.out.room P3.out.a ok).mono ?_; rintro e W4 ⟨rfl, R4⟩; have P4 := Lib.hid (P3.out.keep H.out R4); have hb5 := hb4.trans (R4.mono hb4.size); have hA4 := Lib.hid (hA3.out.keep R4); have hS4 := P4.out.order; simp only [OrdAt] at hS4)
      | (go_at_call 62; refine (refSRoom P4.out.m ok.toBase).mono ?_; rintro e W5 ⟨rfl, R5⟩; have P5 := Lib.hid (P4.out.keep H.out R5); have hb6 := hb5.trans (R5.mono hb5.size); have hA5 := Lib.hid (hA4.out.keep R5); have hS5 := P5.out.order; simp only [OrdAt] at hS5)
      | (go_at_call 31; refine (H.out.order P5.out.a ok).mono ?_; rintro e W6 ⟨rfl, R6⟩; have P6 := Lib.hid (P5.out.keep H.out R6); have hb7 := hb6.trans (R6.mono hb6.size); have hA6 := Lib.hid (hA5.out.keep R6); have hS6 := P6.out.order; simp only [OrdAt] at hS6; simp only [ov]))
  replace P := P6.out
  replace hA := hA6.out
  replace H := H.out
  clear hS0 hS1 hS2 hS3 hS4 hS5 hS6 P1 P2 P3 P4 P5 P6 hA1 hA2 hA3 hA4 hA5 hA6 R1 R2 R3 R4 R5 R6 hb1 hb2 hb3 hb4 hb5 hb6
  go_wp2
  go_loopw [6] (fun i wr => ∃ k : Nat, k ≤ s.all.length ∧ i = .int .i64 k ∧ Below W6.heap.size W6 wr) (fun i _ => s.all.length - (intOf i).toNat)
  case atStart => exact ⟨0, Nat.zero_le _, rfl, Below.refl _ _⟩
  case round =>
    obtain ⟨k, hk, rfl, hb⟩ := hrel
    by_cases hlt : k < s.all.length
    · replace P := P.keep H hb
      obtain ⟨ad, rfl, hc⟩ := (hA.keep hb).intAt k hlt
      have hhas : s.has s.all[k] = true := ok.toBase.mem_all.1 (List.getElem_mem hlt)
      generalize s.all[k] = n at *
      have hle := ok.toBase.has_le hhas
      have hk0 : (0 : Int) ≤ (k : Int) := by omega
      have hk1 : (k : Int) < (s.all.length : Int) := by omega
      have HA := H.node P.a ok n (by omega)
      have HM := fun V (hV : Below wr.heap.size wr V) => refSNode (P.m.below hV) ok.toBase n (by omega)
      simp only [nodeV, hhas, if_true, nv] at HA HM
      generalize s.nd n = x at *
      obtain ⟨x0, x1, x2⟩ := x
      dsimp only at HA HM
      have hq := run_neq_nodes x0 x1 x2
      clear hA P
      go_wp2_with fail
      refine HA.mono ?_
      rintro e w2 ⟨rfl, hb2⟩
      have hb3 := hb2.alloc hb2.size (.cells #[.int .i64 x0, .int .i64 x1, .int .i64 x2] 69)
      have y0 := HoldsN.new w2 ⟨x0, x1, x2⟩
      dsimp only at y0
      have hc3 := (hb3.cell (p := ad.add k) (block_lt_of_cell hc)).trans hc
      go_wp2_with fail
      generalize w2.alloc (.cells #[.int .i64 x0, .int .i64 x1, .int .i64 x2] 69) = W3 at *
      refine (HM _ hb3).mono ?_
      rintro e w4 ⟨rfl, hb4⟩
      replace y0 := y0.below hb4
      replace hb4 := hb3.trans (hb4.mono hb3.size)
      clear HA HM hc3 hc
      have z0 := HoldsN.new w4 ⟨x0, x1, x2⟩
      have hb5 : Below wr.heap.size wr (w4.alloc (.cells #[.int .i64 x0, .int .i64 x1, .int .i64 x2] 69)) := hb4.alloc hb4.size _
      have y1 : HoldsN (w4.alloc (.cells #[.int .i64 x0, .int .i64 x1, .int .i64 x2] 69)) w2.heap.size ⟨x0, x1, x2⟩ := y0.keep (Keeps.of_alloc noBlock _ _) (fun h => h)
      dsimp only at z0
      obtain ⟨a0, a1, a2⟩ := y1.cells
      obtain ⟨c0, c1, c2⟩ := z0.cells
      dsimp only at a0 a1 a2 c0 c1 c2
      clear y0 y1 z0
      go_wp2
      exact ⟨⟨k + 1, by omega, by go_num, hb.trans (hb5.mono hb.size)⟩, by simp [intOf]; omega⟩
    · obtain rfl : k = s.all.length := by omega
      go_wp2
      go_ret
      exact ⟨rfl, hb7.trans (hb.mono hb7.size)⟩

end Go.Proofs.YtpcilfnnfhfgaaaGreatDoor

/-
  Layer 7's law: a deed.
-/
namespace Go.Proofs.YtpcilfnnfhfgaaaGreatDoor
open Go Go.RowKit

theorem le_of_wf {n : Int} (h : (Lit.int .i64 n).wf = true) : n ≤ 9223372036854775807 := by
  simp only [Lit.wf, Bool.and_eq_true, decide_eq_true_eq] at h
  exact h.2
theorem ge_of_wf {n : Int} (h : (Lit.int .i64 n).wf = true) : -9223372036854775808 ≤ n := by
  simp only [Lit.wf, Bool.and_eq_true, decide_eq_true_eq] at h
  exact h.1
theorem pick_wf {n by' : Int} (h : 0 < by') (h2 : by' ≤ 1000) : n % by' ≤ 9223372036854775807 := by
  have := Int.emod_lt_of_pos n h; omega

set_option maxRecDepth 100000 in
set_option maxHeartbeats 8000000 in
theorem lawDo {StAt : World → Nat → (Nat → Prop) → MS → Prop} (H : StoreC StAt) {w0 w : World} {bA bM : Nat} {FA FM : Nat → Prop} {s : MS} (P : P2 StAt w0 bA bM FA FM s s w) (ok : s.Ok) (What A B C : Int) (raw : Bool)
    (wW : (Lit.int .i64 What).wf = true) (wA : (Lit.int .i64 A).wf = true) (wB : (Lit.int .i64 B).wf = true) (wC : (Lit.int .i64 C).wf = true) :
    Calls Tryz.prog 8 #[.pointer (some ⟨bA, 0, none⟩), .pointer (some ⟨bM, 0, none⟩), .agg #[.int .i64 What, .int .i64 A, .int .i64 B, .int .i64 C, .bool raw]] w fun e w' => e = .returned (.int .i64 1) ∧ ∃ s' FA' FM', s'.Ok ∧ P2 StAt w0 bA bM FA' FM' s' s' w' := by
  have bA0 := le_of_wf wA
  have bB := ok.toBase.pick_le (raw := raw) (le_of_wf wB)
  have bC := ok.toBase.pick_le (raw := raw) (le_of_wf wC)
  have bA1 := ok.toBase.pick_le (raw := raw) (le_of_wf wA)
  have gA0 := ge_of_wf wA
  have gB := ok.toBase.pick_ge (raw := raw) (ge_of_wf wB)
  have gC := ok.toBase.pick_ge (raw := raw) (ge_of_wf wC)
  have gA1 := ok.toBase.pick_ge (raw := raw) (ge_of_wf wA)
  have p1 := Int.emod_nonneg What (show (8 : Int) ≠ 0 by decide)
  have p2 := Int.emod_lt_of_pos What (show (0 : Int) < 8 by decide)
  have pk := fun V => lawPick What 8 V (by decide) (by decide) wW
  have pk7 := fun V => lawPick A 7 V (by decide) (by decide) wA
  have pk8 := fun V => lawPick A 8 V (by decide) (by decide) wA
  have nB := fun V (hV : Below w.heap.size w V) => lawNode (P.m.below hV) ok.toBase B raw wB
  have nC := fun V (hV : Below w.heap.size w V) => lawNode (P.m.below hV) ok.toBase C raw wC
  have nA := fun V (hV : Below w.heap.size w V) => lawNode (P.m.below hV) ok.toBase A raw wA
  generalize What % 8 = p at *
  generalize s.pick B raw = lo at *
  generalize s.pick C raw = hi at *
  generalize s.pick A raw = an at *
  go_enter Tryz.func8, Tryz.ntmps8
  go_wp2_with fail
  have hD := heap_alloc_new w (.cells #[.int .i64 What, .int .i64 A, .int .i64 B, .int .i64 C, .bool raw] 31)
  have hb : Below w.heap.size w (w.alloc (.cells #[.int .i64 What, .int .i64 A, .int .i64 B, .int .i64 C, .bool raw] 31)) := by go_grown
  generalize w.alloc (.cells #[.int .i64 What, .int .i64 A, .int .i64 B, .int .i64 C, .bool raw] 31) = W at *
  have hDl := row_lt hD
  refine (nB _ hb).mono ?_
  rintro e w1 ⟨rfl, hb1⟩
  replace hD := (hb1.block _ hDl).trans hD
  replace hb := hb.trans (hb1.mono hb.size)
  have d3 : w1.cell? ⟨w.heap.size, 3, none⟩ = some (.int .i64 C) := by rw [cell_of_row _ _ _ _ _ _ hD]; rfl
  have d4 : w1.cell? ⟨w.heap.size, 4, none⟩ = some (.bool raw) := by rw [cell_of_row _ _ _ _ _ _ hD]; rfl
  clear hb1 hDl nB
  go_wp2_with fail
  have hDl := row_lt hD
  refine (nC _ hb).mono ?_
  rintro e w2 ⟨rfl, hb1⟩
  replace hD := (hb1.block _ hDl).trans hD
  replace hb := hb.trans (hb1.mono hb.size)
  clear hb1 hDl nC d3 d4
  have d0 : w2.cell? ⟨w.heap.size, 0, none⟩ = some (.int .i64 What) := by rw [cell_of_row _ _ _ _ _ _ hD]; rfl
  have d4 : w2.cell? ⟨w.heap.size, 4, none⟩ = some (.bool raw) := by rw [cell_of_row _ _ _ _ _ _ hD]; rfl
  go_wp2_with fail
  refine (pk _).mono ?_
  rintro e w3 ⟨rfl, rfl⟩
  clear pk d0
  replace P := P.keep H hb
  have nA' := nA _ hb
  clear nA hD
  by_cases h4 : p = 4
  · subst h4
    go_wp2_with fail
    refine nA'.mono ?_
    rintro e w3 ⟨rfl, hb3⟩
    replace P := P.keep H hb3
    clear nA' d4 hb3 pk7 pk8
    have hE := s.free_err an
    go_wp2_with fail
    refine (H.free P.a ok an ⟨bA1, gA1⟩).mono ?_
    rintro e w4 ⟨rfl, FA1, hA1, hK1, hW1⟩
    replace P := P.code H hA1 hK1 hW1
    clear hA1 hK1 hW1
    go_wp2_with fail
    refine (lawCode _ _ hE.1 hE.2).mono ?_
    rintro e wx ⟨rfl, rfl⟩
    go_wp2_with fail
    refine (refSFree P.m ok.toBase an bA1).mono ?_
    rintro e w5 ⟨rfl, FM1, hM1, hK1, hW1⟩
    replace P := P.ref H hM1 hK1 hW1
    have ok' := ok.freed an
    clear hM1 hK1 hW1
    generalize (s.free an).1 = E at *
    generalize (s.free an).2 = S at *
    go_wp2
    go_ret
    exact ⟨rfl, S, _, _, ok', P⟩
  clear nA'
  by_cases h5 : p = 5
  · subst h5
    clear pk8 d4
    go_wp2_with fail
    refine (pk7 _).mono ?_
    rintro e w3 ⟨rfl, rfl⟩
    clear pk7
    generalize A % 7 = l at *
    have hE := s.swap_err l
    go_wp2_with fail
    refine (H.swap P.a ok l).mono ?_
    rintro e w4 ⟨rfl, FA1, hA1, hK1, hW1⟩
    replace P := P.code H hA1 hK1 hW1
    clear hA1 hK1 hW1
    go_wp2_with fail
    refine (lawCode _ _ hE.1 hE.2).mono ?_
    rintro e wx ⟨rfl, rfl⟩
    go_wp2_with fail
    refine (refSSwap P.m ok l).mono ?_
    rintro e w5 ⟨rfl, FM1, hM1, hK1, hW1⟩
    replace P := P.ref H hM1 hK1 hW1
    have ok' := ok.swapped l
    clear hM1 hK1 hW1
    generalize (s.swap l).1 = E at *
    generalize (s.swap l).2 = S at *
    go_wp2
    go_ret
    exact ⟨rfl, S, _, _, ok', P⟩
  clear pk7
  by_cases h6 : p = 6
  · subst h6
    clear pk8 d4
    have HA := H.node P.a ok A ⟨bA0, gA0⟩
    have HM := fun V (hV : Below w2.heap.size w2 V) => refSNode (P.m.below hV) ok.toBase A bA0
    unfold nodeV nv at HA HM
    generalize (if s.has A then s.nd A else ⟨0, 0, 0⟩) = x at *
    generalize s.has A = hh at *
    obtain ⟨x0, x1, x2⟩ := x
    dsimp only at HA HM
    have hq := run_neq_nodes x0 x1 x2
    go_wp2_with fail
    refine HA.mono ?_
    rintro e w3 ⟨rfl, hb3⟩
    have hb4 := hb3.alloc hb3.size (.cells #[.int .i64 x0, .int .i64 x1, .int .i64 x2] 69)
    have y0 := HoldsN.new w3 ⟨x0, x1, x2⟩
    dsimp only at y0
    go_wp2_with fail
    generalize w3.alloc (.cells #[.int .i64 x0, .int .i64 x1, .int .i64 x2] 69) = W3 at *
    refine (HM _ hb4).mono ?_
    rintro e w4 ⟨rfl, hb5⟩
    replace y0 := y0.below hb5
    replace hb4 := hb4.trans (hb5.mono hb4.size)
    clear HA HM hb5 hb3
    have z0 := HoldsN.new w4 ⟨x0, x1, x2⟩
    have hb5 : Below w2.heap.size w2 (w4.alloc (.cells #[.int .i64 x0, .int .i64 x1, .int .i64 x2] 69)) := hb4.alloc hb4.size _
    have y1 : HoldsN (w4.alloc (.cells #[.int .i64 x0, .int .i64 x1, .int .i64 x2] 69)) w3.heap.size ⟨x0, x1, x2⟩ := y0.keep (Keeps.of_alloc noBlock _ _) (fun h => h)
    dsimp only at z0
    obtain ⟨a0, a1, a2⟩ := y1.cells
    obtain ⟨c0, c1, c2⟩ := z0.cells
    dsimp only at a0 a1 a2 c0 c1 c2
    clear y0 y1 z0
    go_wp2
    go_ret
    exact ⟨rfl, s, _, _, ok, P.keep H hb5⟩
  by_cases h7 : p = 7
  · subst h7
    clear pk8 d4
    have hE := s.swap_err A
    go_wp2_with fail
    refine (H.swap P.a ok A).mono ?_
    rintro e w4 ⟨rfl, FA1, hA1, hK1, hW1⟩
    replace P := P.code H hA1 hK1 hW1
    clear hA1 hK1 hW1
    go_wp2_with fail
    refine (lawCode _ _ hE.1 hE.2).mono ?_
    rintro e wx ⟨rfl, rfl⟩
    go_wp2_with fail
    refine (refSSwap P.m ok A).mono ?_
    rintro e w5 ⟨rfl, FM1, hM1, hK1, hW1⟩
    replace P := P.ref H hM1 hK1 hW1
    have ok' := ok.swapped A
    clear hM1 hK1 hW1
    generalize (s.swap A).1 = E at *
    generalize (s.swap A).2 = S at *
    go_wp2
    go_ret
    exact ⟨rfl, S, _, _, ok', P⟩
  have e4 : (p == 4) = false := by rw [beq_eq_false_iff_ne]; exact h4
  have e5 : (p == 5) = false := by rw [beq_eq_false_iff_ne]; exact h5
  have e6 : (p == 6) = false := by rw [beq_eq_false_iff_ne]; exact h6
  have e7 : (p == 7) = false := by rw [beq_eq_false_iff_ne]; exact h7
  clear h4 h5 h6 h7
  cases raw
  · go_wp2_with fail
    refine (pk8 _).mono ?_
    rintro e w3 ⟨rfl, rfl⟩
    clear pk8
    generalize A % 8 = v at *
    have hE := s.mk_err v lo hi []
    go_wp2_with fail
    refine (H.make P.a ok v lo hi ⟨bB, gB⟩ ⟨bC, gC⟩).mono ?_
    rintro e w4 ⟨rfl, FA1, hA1, hK1, hW1⟩
    replace P := P.code H hA1 hK1 hW1
    clear hA1 hK1 hW1
    go_wp2_with fail
    refine (refSMk P.m ok.toBase v lo hi bB bC).mono ?_
    rintro e w5 ⟨rfl, FM1, hM1, hK1, hW1⟩
    replace P := P.ref H hM1 hK1 hW1
    have ok' := ok.made v lo hi
    clear hM1 hK1 hW1
    have HC := fun V => lawCode (s.mk v lo hi []).2.1 V hE.1 hE.2
    generalize s.mk v lo hi [] = r at *
    obtain ⟨r0, r1, S⟩ := r
    dsimp only at *
    go_wp2_with fail
    refine (HC _).mono ?_
    rintro e wx ⟨rfl, rfl⟩
    clear HC
    go_wp2
    go_ret
    exact ⟨rfl, S, _, _, ok', P⟩
  · clear pk8
    have hE := s.mk_err A lo hi []
    go_wp2_with fail
    refine (H.make P.a ok A lo hi ⟨bB, gB⟩ ⟨bC, gC⟩).mono ?_
    rintro e w4 ⟨rfl, FA1, hA1, hK1, hW1⟩
    replace P := P.code H hA1 hK1 hW1
    clear hA1 hK1 hW1
    go_wp2_with fail
    refine (refSMk P.m ok.toBase A lo hi bB bC).mono ?_
    rintro e w5 ⟨rfl, FM1, hM1, hK1, hW1⟩
    replace P := P.ref H hM1 hK1 hW1
    have ok' := ok.made A lo hi
    clear hM1 hK1 hW1
    have HC := fun V => lawCode (s.mk A lo hi []).2.1 V hE.1 hE.2
    generalize s.mk A lo hi [] = r at *
    obtain ⟨r0, r1, S⟩ := r
    dsimp only at *
    go_wp2_with fail
    refine (HC _).mono ?_
    rintro e wx ⟨rfl, rfl⟩
    clear HC
    go_wp2
    go_ret
    exact ⟨rfl, S, _, _, ok', P⟩

end Go.Proofs.YtpcilfnnfhfgaaaGreatDoor
