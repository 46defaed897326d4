/-
  Texts of this proof, one behind the other: RefSize, Back8, Open, Open3.
-/
import Derived.Test.YtpcilfnnfhfgaaaGreatDoorG23
import Derived.Test.YtpcilfnnfhfgaaaGreatDoorG15
import Derived.Test.YtpcilfnnfhfgaaaGreatDoorG7
import Derived.Test.YtpcilfnnfhfgaaaGreatDoorRows
import Derived.Test.YtpcilfnnfhfgaaaGreatDoorG17
import Derived.ProofKit
import Derived.OpenShut
import Derived.LaidLaws
import Derived.ChangeVars
import Derived.Laws.IdiomArrays
import Derived.Stop.Joined
import Derived.Deep.Slices
import Derived.Carry
import Derived.SizedLaws
/-
  Walk of the document's Size and Plain.
-/
namespace Go.Proofs.YtpcilfnnfhfgaaaGreatDoor
open Go Go.RowKit Go.Maps

theorem OwnsF.form {w : World} {base : Nat} {v : Value} {l : List Fn} (h : OwnsF w base v l) : ∃ a cap, v = .slice a l.length cap := by
  obtain ⟨h1, ⟨rfl, h2⟩ | ⟨g, cap, cur, rfl, hr⟩⟩ := h
  · exact ⟨none, 0, by rw [h2]⟩
  · exact ⟨_, _, rfl⟩

set_option maxRecDepth 100000 in
set_option maxHeartbeats 400000 in
theorem refSize (l : List Fn) (o : Nat → Int) (v : Value) (w : World) (hv : SliceF w v l) (hl : l.length ≤ 40) :
    Calls Tryz.prog 30 #[v, ov o] w fun e w' => e = .returned (.int .i64 (sizeF l o)) ∧ Below w.heap.size w w' := by
  have hb0 : Below w.heap.size w (w.alloc (.cells #[.int .i64 (o 0), .int .i64 (o 1), .int .i64 (o 2), .int .i64 (o 3), .int .i64 (o 4), .int .i64 (o 5), .int .i64 (o 6), .int .i64 (o 7)] 62)) := by go_grown
  have hv0 := hv.keep hb0 (Nat.le_refl _)
  simp only [ov]
  go_enter Tryz.func30, Tryz.ntmps30
  go_wp2_with fail
  refine (refNodes l o v _ hv0 hl).mono ?_
  rintro e w1 ⟨v1, out, rfl, h1, h2, hb1⟩
  have Hz := Lib.hid (sizeF_eq h2)
  obtain ⟨a, cap, rfl⟩ := h1.form
  clear h2
  go_wp2
  go_ret
  exact ⟨ret_int (by rw [Hz.out]), hb0.trans (hb1.mono hb0.size)⟩

end Go.Proofs.YtpcilfnnfhfgaaaGreatDoor

/-
  ReadBack over the contracts.
-/
namespace Go.Proofs.YtpcilfnnfhfgaaaGreatDoor
open Go Go.RowKit
attribute [local go_sem] run_eql_fv run_eql_fv1 run_neq_fv run_neq_fv1 run_guard_fv run_guard_fv1

attribute [local go_sem] run_eql_fv2 run_guard_fv2 run_equal_fv2

theorem back8_cells {x y : World} {b4 : Nat} {f g : Fn} (h : x.cell? ⟨b4, 0, none⟩ = some (.int .u64 (wd f 0)) ∧ x.cell? ⟨b4, 1, none⟩ = some (.int .u64 (wd f 1)) ∧ x.cell? ⟨b4, 2, none⟩ = some (.int .u64 (wd f 2)) ∧ x.cell? ⟨b4, 3, none⟩ = some (.int .u64 (wd f 3)) ∧ x.cell? ⟨b4 + 1, 0, none⟩ = some (.int .u64 (wd g 0)) ∧ x.cell? ⟨b4 + 1, 1, none⟩ = some (.int .u64 (wd g 1)) ∧ x.cell? ⟨b4 + 1, 2, none⟩ = some (.int .u64 (wd g 2)) ∧ x.cell? ⟨b4 + 1, 3, none⟩ = some (.int .u64 (wd g 3))) (hb : Below x.heap.size x y) : y.cell? ⟨b4, 0, none⟩ = some (.int .u64 (wd f 0)) ∧ y.cell? ⟨b4, 1, none⟩ = some (.int .u64 (wd f 1)) ∧ y.cell? ⟨b4, 2, none⟩ = some (.int .u64 (wd f 2)) ∧ y.cell? ⟨b4, 3, none⟩ = some (.int .u64 (wd f 3)) ∧ y.cell? ⟨b4 + 1, 0, none⟩ = some (.int .u64 (wd g 0)) ∧ y.cell? ⟨b4 + 1, 1, none⟩ = some (.int .u64 (wd g 1)) ∧ y.cell? ⟨b4 + 1, 2, none⟩ = some (.int .u64 (wd g 2)) ∧ y.cell? ⟨b4 + 1, 3, none⟩ = some (.int .u64 (wd g 3)) := by
  obtain ⟨h1, h2, h3, h4, h5, h6, h7, h8⟩ := h
  exact ⟨by rw [hb.cell (block_lt_of_cell h1)]; exact h1, by rw [hb.cell (block_lt_of_cell h2)]; exact h2, by rw [hb.cell (block_lt_of_cell h3)]; exact h3, by rw [hb.cell (block_lt_of_cell h4)]; exact h4, by rw [hb.cell (block_lt_of_cell h5)]; exact h5, by rw [hb.cell (block_lt_of_cell h6)]; exact h6, by rw [hb.cell (block_lt_of_cell h7)]; exact h7, by rw [hb.cell (block_lt_of_cell h8)]; exact h8⟩

set_option maxRecDepth 100000 in
set_option maxHeartbeats 8000000 in
theorem readBack' {StAt : World → Nat → (Nat → Prop) → MS → Prop} (H : StoreC StAt) (R : ReadC StAt) (f g : Fn) (swaps : List Int) (x : Int) (v : Value) (w : World) (hL : LowW w) (hv : Reads encI w v swaps) (hwf : ∀ n ∈ swaps, (Lit.int .i64 n).wf = true) :
    Calls Tryz.prog 5 #[fv f, fv g, v, .int .i64 x] w fun e w' => e = .returned (.bool true) ∧ Below w.heap.size w w' := by
  obtain ⟨a, cap, rfl⟩ := hv.form
  simp only [fv]
  go_enter Tryz.func5, Tryz.ntmps5
  go_wp2_with fail
  have h0 : Holds ((w.alloc (.cells #[.int .u64 (wd f 0), .int .u64 (wd f 1), .int .u64 (wd f 2), .int .u64 (wd f 3)] 35)).alloc (.cells #[.int .u64 (wd g 0), .int .u64 (wd g 1), .int .u64 (wd g 2), .int .u64 (wd g 3)] 35)) w.heap.size f := (Holds.new _ _ _).alloc _
  have h1 : Holds ((w.alloc (.cells #[.int .u64 (wd f 0), .int .u64 (wd f 1), .int .u64 (wd f 2), .int .u64 (wd f 3)] 35)).alloc (.cells #[.int .u64 (wd g 0), .int .u64 (wd g 1), .int .u64 (wd g 2), .int .u64 (wd g 3)] 35)) (w.heap.size + 1) g := Holds.new _ _ _
  have hb : Below w.heap.size w ((w.alloc (.cells #[.int .u64 (wd f 0), .int .u64 (wd f 1), .int .u64 (wd f 2), .int .u64 (wd f 3)] 35)).alloc (.cells #[.int .u64 (wd g 0), .int .u64 (wd g 1), .int .u64 (wd g 2), .int .u64 (wd g 3)] 35)) := by go_grown
  generalize ((w.alloc (.cells #[.int .u64 (wd f 0), .int .u64 (wd f 1), .int .u64 (wd f 2), .int .u64 (wd f 3)] 35)).alloc (.cells #[.int .u64 (wd g 0), .int .u64 (wd g 1), .int .u64 (wd g 2), .int .u64 (wd g 3)] 35)) = W0 at *
  refine (up08 H R _ (hL.keep hb)).mono ?_
  rintro e W ⟨rfl, hb1⟩
  replace h0 := h0.keep hb1 h0.lt
  replace h1 := h1.keep hb1 h1.lt
  replace hb := hb.trans (hb1.mono hb.size)
  replace hL := hL.keep hb
  replace hv := hv.keep hb
  clear hb1
  go_wp2_with fail
  refine (H.new 400 W (by decide) (by decide)).mono ?_
  rintro e W1 ⟨bA, rfl, ⟨F, hA, hF⟩, hb1⟩
  rw [show MS.none (400 : Int).toNat = MS.empty 400 plainO from rfl] at hA
  by_cases hlen : swaps.length ≤ 60
  · have hl3 : ¬ 60 < (swaps.length : Int) := by omega
    replace hv := Lib.hid hv
    replace hA := Lib.hid hA
    replace hF := Lib.hid hF
    go_wp2
    go_loopw [11] (fun i wr => ∃ (j : Nat) (o : Nat → Int) (F : Nat → Prop), j ≤ swaps.length ∧ i = .int .i64 j ∧ mayO o = true ∧ StAt wr bA F (MS.empty 400 o) ∧ Hid (∀ k, F k → W.heap.size ≤ k) ∧ Below W.heap.size W wr) (fun i _ => swaps.length - (intOf i).toNat)
    case atStart => exact ⟨0, plainO, F, Nat.zero_le _, rfl, plainO_may, hA.out, hF, hb1⟩
    case round =>
      clear hA hF hb1
      obtain ⟨j, o, F, hj, rfl, hmay, hA, hF, hbr⟩ := hrel
      by_cases hlt : j < swaps.length
      · obtain ⟨ad, rfl, hc⟩ := (hv.out.keep hbr).intAt j hlt
        have hwk := hwf _ (List.getElem_mem hlt)
        have hk0 : (0 : Int) ≤ (j : Int) := by omega
        have hk1 : (j : Int) < (swaps.length : Int) := by omega
        generalize swaps[j] = n at *
        have HP := fun U => lawPick n 7 U (by decide) (by decide) hwk
        have m0 := Int.emod_nonneg n (show (7 : Int) ≠ 0 by decide)
        have m1 := Int.emod_lt_of_pos n (show (0 : Int) < 7 by decide)
        generalize n % 7 = l at *
        have HS := H.swap hA (MS.empty_ok 400 (by decide) hmay) l
        rw [MS.empty_swap 400 o m0 (by omega)] at HS
        dsimp only at HS
        rw [errV0] at HS
        go_wp2_with fail
        refine (HP _).mono ?_
        rintro e w5 ⟨rfl, rfl⟩
        go_wp2_with fail
        refine HS.mono ?_
        rintro e w6 ⟨rfl, F2, hA2, hK, hW⟩
        have Z := UpS.step hbr hF.out hA2 hK hW
        clear HS HP hA hF hbr hA2 hK hW hc
        obtain ⟨⟨F3, hA, hF⟩, hbr⟩ := Z
        go_wp2
        exact ⟨⟨j + 1, swapO o l, F3, by omega, by go_num, by rw [swapO_may]; exact hmay, hA, hF, hbr⟩, by simp [intOf]; omega⟩
      · obtain rfl : j = swaps.length := by omega
        clear hv hwf
        have hs77 : sizeF [f] o ≤ 400 := by have := size_77 f o (full_of hmay); omega
        have X := MS.bld_empty (most := 400) (by decide) hmay f hs77
        have ok := MS.empty_ok 400 (by decide) hmay
        have hlow : ∀ k, F k → 0 < k := fun k hk => Nat.lt_of_lt_of_le hL.pos (hF.out k hk)
        have BA := R.build (hL.keep hbr) hlow hA ok f
        generalize hr : MS.bld 8 (MS.empty 400 o) f = r at *
        obtain ⟨n, e, s⟩ := r
        dsimp only at X BA
        obtain ⟨rfl, ok1, ho1, hm1, ht, htab, hno, hlen1⟩ := X
        have hX2 := MS.bld_two (most := 400) (by decide) hmay f g (by have := size_154 f g hmay; omega) s n hr ok1 ho1 hm1 ht htab hno
        have hr2 := MS.bld_same 8 s f n ok1 (supN_8 f) ht htab
        simp only [fv, errV0] at BA
        have k0 := h0.keep hbr h0.lt
        have k1 := h1.keep hbr h1.lt
        obtain ⟨c0, c1, c2, c3⟩ := k0.cells
        go_wp2_with fail
        refine BA.mono ?_
        rintro e w2 ⟨rfl, F2, hA2, hK, hW⟩
        have Z := UpS.step hbr hF.out hA2 hK hW
        clear BA hA hF hbr hA2 hK hW ok hlow c0 c1 c2 c3 k0 k1 hr hno hs77
        obtain ⟨⟨F3, hA, hF⟩, hbr⟩ := Z
        replace hF := Lib.hid hF
        have HV := H.live hA ok1
        rw [hlen1] at HV
        go_wp2_with fail
        refine HV.mono ?_
        rintro e w3 ⟨rfl, hb3⟩
        replace hA := H.below hA hb3
        replace hbr := hbr.trans (hb3.mono hbr.size)
        clear HV hb3
        have hlow : ∀ k, F3 k → 0 < k := fun k hk => Nat.lt_of_lt_of_le hL.pos (hF.out k hk)
        have BA := R.build (hL.keep hbr) hlow hA ok1 f
        rw [hr2] at BA
        dsimp only at BA
        simp only [fv, errV0] at BA
        have k0 := h0.keep hbr h0.lt
        obtain ⟨c0, c1, c2, c3⟩ := k0.cells
        go_wp2_with fail
        refine BA.mono ?_
        rintro e w4 ⟨rfl, F4, hA2, hK, hW⟩
        have Z := UpS.step hbr hF.out hA2 hK hW
        clear BA hA hF hbr hA2 hK hW hlow c0 c1 c2 c3 k0 hr2
        obtain ⟨⟨F5, hA, hF⟩, hbr⟩ := Z
        have k0 := h0.keep hbr h0.lt
        obtain ⟨c0, c1, c2, c3⟩ := k0.cells
        have K1 := fun x (hx : Below w4.heap.size w4 x) => H.live (H.below hA hx) ok1
        have K2 := fun x (hx : Below w4.heap.size w4 x) => H.order (H.below hA hx) ok1
        have K3 := fun x (v : Value) (hv : SliceF x v [f]) => refSize [f] o v x hv (by simp)
        rw [hlen1] at K1
        rw [ho1] at K2
        generalize hz : sizeF [f] o = z at *
        replace K1 := Lib.hid K1
        replace K2 := Lib.hid K2
        replace K3 := Lib.hid K3
        replace hX2 := Lib.hid hX2
        replace hA := Lib.hid hA
        replace hF := Lib.hid hF
        replace hbr := Lib.hid hbr
        replace ok1 := Lib.hid ok1
        replace ht := Lib.hid ht
        replace htab := Lib.hid htab
        replace ho1 := Lib.hid ho1
        generalize hb4 : w.heap.size = b4 at *
        have b0 := (Below.refl w4.heap.size w4).drew
        have hS0 : w4.drew.cell? ⟨b4, 0, none⟩ = some (.int .u64 (wd f 0)) ∧ w4.drew.cell? ⟨b4, 1, none⟩ = some (.int .u64 (wd f 1)) ∧ w4.drew.cell? ⟨b4, 2, none⟩ = some (.int .u64 (wd f 2)) ∧ w4.drew.cell? ⟨b4, 3, none⟩ = some (.int .u64 (wd f 3)) := up8_cells ⟨c0, c1, c2, c3⟩ b0
        clear c0 c1 c2 c3 k0
        go_wp2
        go_region_held3 (fun w' => w'.cell? ⟨b4, 0, none⟩ = some (.int .u64 (wd f 0)) ∧ w'.cell? ⟨b4, 1, none⟩ = some (.int .u64 (wd f 1)) ∧ w'.cell? ⟨b4, 2, none⟩ = some (.int .u64 (wd f 2)) ∧ w'.cell? ⟨b4, 3, none⟩ = some (.int .u64 (wd f 3))) (first | assumption)
          (first
            | (go_at_call 29; refine (K1.out _ b0).mono ?_; rintro e X1 ⟨rfl, R1⟩; have b1 := b0.trans (R1.mono b0.size); have hS1 := up8_cells hS0 R1; have b1a := b1.alloc b1.size (.cells #[.int .u64 (wd f 0), .int .u64 (wd f 1), .int .u64 (wd f 2), .int .u64 (wd f 3)] 35); have hS1a := up8_cells hS1 ((Below.refl _ _).alloc (Nat.le_refl _) (.cells #[.int .u64 (wd f 0), .int .u64 (wd f 1), .int .u64 (wd f 2), .int .u64 (wd f 3)] 35)))
            | (go_at_call 31; refine (K2.out _ ?_).mono ?_; (first | exact b1 | exact b1a); rintro e X2 ⟨rfl, R2⟩; have b2 := Below.trans (by first | exact b1 | exact b1a) (R2.mono (Below.size (by first | exact b1 | exact b1a))); have hS2 := up8_cells (B := b4) (f := f) (by assumption) R2; have b2a := b2.alloc b2.size (.cells #[.int .u64 (wd f 0), .int .u64 (wd f 1), .int .u64 (wd f 2), .int .u64 (wd f 3)] 35); have hS2a := up8_cells hS2 ((Below.refl _ _).alloc (Nat.le_refl _) (.cells #[.int .u64 (wd f 0), .int .u64 (wd f 1), .int .u64 (wd f 2), .int .u64 (wd f 3)] 35)))
            | (go_at_call 30; refine (K3.out _ _ ?_).mono ?_; (first | (with_reducible exact slice_one _ _ _ rfl) | (exact SliceF.keep (slice_one X1 f _ rfl) R2 (Nat.le_refl _))); rintro e X3 ⟨rfl, R3⟩; have b3 := Below.trans (by first | exact b2a | exact b2) (R3.mono (Below.size (by first | exact b2a | exact b2))); have hS3 := up8_cells (B := b4) (f := f) (by assumption) R3))
        all_goals
          have hbr2 := hbr.out.trans (b3.mono hbr.out.size)
          replace hA := H.below hA.out b3
          clear hS0 hS1 hS1a hS2 hS2a hS3 b1 b1a b2 b2a R1 R2 R3 K1 K2 K3 b0 hbr b3
          have hlow : ∀ k, F5 k → 0 < k := fun k hk => Nat.lt_of_lt_of_le hL.pos (hF.out k hk)
          have BA := R.build (hL.keep hbr2) hlow hA ok1.out g
          replace hX2 := hX2.out
          generalize MS.bld 8 s g = r at *
          obtain ⟨m, e, s2⟩ := r
          dsimp only at hX2 BA
          obtain ⟨rfl, ok2, ho2, ht2, htab2, hta, htaba, hiff, hlen2⟩ := hX2
          simp only [fv, errV0] at BA
          have k1 := h1.keep hbr2 h1.lt
          obtain ⟨c0, c1, c2, c3⟩ := k1.cells
          go_wp2_with fail
          refine BA.mono ?_
          rintro e w6 ⟨rfl, F6, hA2, hK, hW⟩
          have Z := UpS.step hbr2 hF.out hA2 hK hW
          clear BA hA hF hbr2 hA2 hK hW hlow c0 c1 c2 c3 k1
          obtain ⟨⟨F7, hA, hF⟩, hbr⟩ := Z
          have hn := ok2.toBase.there_i64 hta
          have hm := ok2.toBase.there_i64 ht2
          have hLr := hL.keep hbr
          replace h0 := h0.keep hbr h0.lt
          replace h1 := h1.keep hbr h1.lt
          replace hb := hb.trans (hbr.mono (hb4 ▸ hb.size))
          have C1 := fun x (hx : Below w6.heap.size w6 x) => R.table (hLr.keep hx) (H.below hA hx) ok2 n hn
          have C2 := fun x (hx : Below w6.heap.size w6 x) => R.table (hLr.keep hx) (H.below hA hx) ok2 m hm
          have C3 := fun y (hx : Below w6.heap.size w6 y) => R.value (hLr.keep hx) (H.below hA hx) ok2 n x hn
          have K1 := fun x (hx : Below w6.heap.size w6 x) => H.live (H.below hA hx) ok2
          have K2 := fun x (hx : Below w6.heap.size w6 x) => H.order (H.below hA hx) ok2
          have K3 := fun x (v : Value) (hv : SliceF x v [f, g]) => refSize [f, g] o v x hv (by simp)
          rw [hlen2] at K1
          rw [ho2] at K2
          rw [htaba] at C1 C3
          rw [htab2] at C2
          obtain ⟨q, e1, e2⟩ : ∃ q : Bool, (n == m) = q ∧ (f == g) = q := ⟨f == g, by
            by_cases h : f = g
            · have h2 := hiff.2 h
              rw [h, h2]; simp
            · have h2 : ¬ n = m := fun h3 => h (hiff.1 h3)
              rw [beq_eq_false_iff_ne.2 h, beq_eq_false_iff_ne.2 h2], rfl⟩
          clear hiff hlen2 ho2 htaba htab2 hA ok2 ht2 hta hbr
          generalize sizeF [f, g] o = z2 at *
          replace C1 := Lib.hid C1
          replace C2 := Lib.hid C2
          replace C3 := Lib.hid C3
          replace K1 := Lib.hid K1
          replace K2 := Lib.hid K2
          replace K3 := Lib.hid K3
          obtain ⟨c0, c1, c2, c3⟩ := h0.cells
          obtain ⟨d0, d1, d2, d3⟩ := h1.cells
          have b0 := (Below.refl w6.heap.size w6).drew
          have hS0 : w6.drew.cell? ⟨b4, 0, none⟩ = some (.int .u64 (wd f 0)) ∧ w6.drew.cell? ⟨b4, 1, none⟩ = some (.int .u64 (wd f 1)) ∧ w6.drew.cell? ⟨b4, 2, none⟩ = some (.int .u64 (wd f 2)) ∧ w6.drew.cell? ⟨b4, 3, none⟩ = some (.int .u64 (wd f 3)) ∧ w6.drew.cell? ⟨b4 + 1, 0, none⟩ = some (.int .u64 (wd g 0)) ∧ w6.drew.cell? ⟨b4 + 1, 1, none⟩ = some (.int .u64 (wd g 1)) ∧ w6.drew.cell? ⟨b4 + 1, 2, none⟩ = some (.int .u64 (wd g 2)) ∧ w6.drew.cell? ⟨b4 + 1, 3, none⟩ = some (.int .u64 (wd g 3)) := back8_cells ⟨c0, c1, c2, c3, d0, d1, d2, d3⟩ b0
          have b0a := b0.alloc b0.size (.cells #[.int .u64 (wd f 0), .int .u64 (wd f 1), .int .u64 (wd f 2), .int .u64 (wd f 3), .int .u64 (wd g 0), .int .u64 (wd g 1), .int .u64 (wd g 2), .int .u64 (wd g 3)] 35)
          have hS0a := back8_cells hS0 ((Below.refl _ _).alloc (Nat.le_refl _) (.cells #[.int .u64 (wd f 0), .int .u64 (wd f 1), .int .u64 (wd f 2), .int .u64 (wd f 3), .int .u64 (wd g 0), .int .u64 (wd g 1), .int .u64 (wd g 2), .int .u64 (wd g 3)] 35))
          clear c0 c1 c2 c3 d0 d1 d2 d3
          go_wp2
          go_region_held3 (fun w' => w'.cell? ⟨b4, 0, none⟩ = some (.int .u64 (wd f 0)) ∧ w'.cell? ⟨b4, 1, none⟩ = some (.int .u64 (wd f 1)) ∧ w'.cell? ⟨b4, 2, none⟩ = some (.int .u64 (wd f 2)) ∧ w'.cell? ⟨b4, 3, none⟩ = some (.int .u64 (wd f 3)) ∧ w'.cell? ⟨b4 + 1, 0, none⟩ = some (.int .u64 (wd g 0)) ∧ w'.cell? ⟨b4 + 1, 1, none⟩ = some (.int .u64 (wd g 1)) ∧ w'.cell? ⟨b4 + 1, 2, none⟩ = some (.int .u64 (wd g 2)) ∧ w'.cell? ⟨b4 + 1, 3, none⟩ = some (.int .u64 (wd g 3))) (first | assumption)
            (first
              | (go_at_call 29; refine (K1.out _ ?_).mono ?_; (first | exact b0 | exact b0a); rintro e X1 ⟨rfl, R1⟩; have b1 := Below.trans (by first | exact b0 | exact b0a) (R1.mono (Below.size (by first | exact b0 | exact b0a))); have hS1 := back8_cells (b4 := b4) (f := f) (g := g) (by assumption) R1; have b1a := b1.alloc b1.size (.cells #[.int .u64 (wd f 0), .int .u64 (wd f 1), .int .u64 (wd f 2), .int .u64 (wd f 3), .int .u64 (wd g 0), .int .u64 (wd g 1), .int .u64 (wd g 2), .int .u64 (wd g 3)] 35); have hS1a := back8_cells hS1 ((Below.refl _ _).alloc (Nat.le_refl _) (.cells #[.int .u64 (wd f 0), .int .u64 (wd f 1), .int .u64 (wd f 2), .int .u64 (wd f 3), .int .u64 (wd g 0), .int .u64 (wd g 1), .int .u64 (wd g 2), .int .u64 (wd g 3)] 35)))
              | (go_at_call 31; refine (K2.out _ ?_).mono ?_; (first | exact b1 | exact b1a); rintro e X2 ⟨rfl, R2⟩; have b2 := Below.trans (by first | exact b1 | exact b1a) (R2.mono (Below.size (by first | exact b1 | exact b1a))); have hS2 := back8_cells (b4 := b4) (f := f) (g := g) (by assumption) R2; have b2a := b2.alloc b2.size (.cells #[.int .u64 (wd f 0), .int .u64 (wd f 1), .int .u64 (wd f 2), .int .u64 (wd f 3), .int .u64 (wd g 0), .int .u64 (wd g 1), .int .u64 (wd g 2), .int .u64 (wd g 3)] 35); have hS2a := back8_cells hS2 ((Below.refl _ _).alloc (Nat.le_refl _) (.cells #[.int .u64 (wd f 0), .int .u64 (wd f 1), .int .u64 (wd f 2), .int .u64 (wd f 3), .int .u64 (wd g 0), .int .u64 (wd g 1), .int .u64 (wd g 2), .int .u64 (wd g 3)] 35)))
              | (go_at_call 30; refine (K3.out _ _ ?_).mono ?_; (first | (with_reducible exact slice_two _ _ _ _ rfl) | (exact SliceF.keep (slice_two X1 f g _ rfl) R2 (Nat.le_refl _)) | (exact SliceF.keep (slice_two w6.drew f g _ rfl) (R1.trans (R2.mono R1.size)) (Nat.le_refl _))); rintro e X3 ⟨rfl, R3⟩; have b3 := Below.trans (by first | exact b2a | exact b2) (R3.mono (Below.size (by first | exact b2a | exact b2))); have hS3 := back8_cells (b4 := b4) (f := f) (g := g) (by assumption) R3))
          all_goals
            have c0 : ∀ u : Sub X3, u.1.cell? ⟨b4, 0, none⟩ = some (.int .u64 (wd f 0)) := fun u => (back8_cells hS3 u.2).1
            have c1 : ∀ u : Sub X3, u.1.cell? ⟨b4, 1, none⟩ = some (.int .u64 (wd f 1)) := fun u => (back8_cells hS3 u.2).2.1
            have c2 : ∀ u : Sub X3, u.1.cell? ⟨b4, 2, none⟩ = some (.int .u64 (wd f 2)) := fun u => (back8_cells hS3 u.2).2.2.1
            have c3 : ∀ u : Sub X3, u.1.cell? ⟨b4, 3, none⟩ = some (.int .u64 (wd f 3)) := fun u => (back8_cells hS3 u.2).2.2.2.1
            have d0 : ∀ u : Sub X3, u.1.cell? ⟨b4 + 1, 0, none⟩ = some (.int .u64 (wd g 0)) := fun u => (back8_cells hS3 u.2).2.2.2.2.1
            have d1 : ∀ u : Sub X3, u.1.cell? ⟨b4 + 1, 1, none⟩ = some (.int .u64 (wd g 1)) := fun u => (back8_cells hS3 u.2).2.2.2.2.2.1
            have d2 : ∀ u : Sub X3, u.1.cell? ⟨b4 + 1, 2, none⟩ = some (.int .u64 (wd g 2)) := fun u => (back8_cells hS3 u.2).2.2.2.2.2.2.1
            have d3 : ∀ u : Sub X3, u.1.cell? ⟨b4 + 1, 3, none⟩ = some (.int .u64 (wd g 3)) := fun u => (back8_cells hS3 u.2).2.2.2.2.2.2.2
            have D1 := fun u : Sub X3 => C1.out _ (b3.trans (u.2.mono b3.size))
            have D2 := fun u : Sub X3 => C2.out _ (b3.trans (u.2.mono b3.size))
            have D3 := fun u : Sub X3 => C3.out _ (b3.trans (u.2.mono b3.size))
            have hbf := hb.trans (b3.mono (hb4 ▸ hb.size))
            clear hS0 hS0a hS1 hS1a hS2 hS2a hS3 b1 b1a b2 b2a R1 R2 R3 K1 K2 K3 b0 b0a b3 C1 C2 C3 h0 h1 hb hLr
            go_wp2
            refine wp_region_quiet_all (C := fun w' => ∃ u : Sub X3, w' = u.1) (by kernel_rfl) (by kernel_rfl) (InSub.drew X3) ?_
            iterate 4 (go_big_quiet_step (fail))
            go_big_quiet_step (exact sub_below (D1 _))
            iterate 6 (go_big_quiet_step (fail))
            go_big_quiet_step (exact sub_below (D2 _))
            iterate 7 (go_big_quiet_step (fail))
            go_big_quiet_step (exact sub_below (D3 _))
            iterate 2 (go_big_quiet_step (fail))
            go_big_quiet_step (exact sub_below (refAt f x _))
            iterate 3 (go_big_quiet_step (fail))
            refine wpQuiet_nil ?_
            clear c0 c1 c2 c3 d0 d1 d2 d3 D1 D2 D3
            intro w' hw'
            obtain ⟨u, rfl⟩ := hw'
            replace hbf := hbf.trans (u.2.mono (hb4 ▸ hbf.size))
            generalize u.1 = X4 at *
            go_wp2
            go_ret
            refine ⟨rfl, ?_⟩
            rw [hb4]
            exact hbf
  · have hl3 : 60 < (swaps.length : Int) := by omega
    go_wp2
    go_ret
    exact ⟨rfl, hb.trans (hb1.mono hb.size)⟩

end Go.Proofs.YtpcilfnnfhfgaaaGreatDoor

/-
  How a function of eight variables comes in and reads; the table of words as it is laid.
-/
namespace Go.Proofs.YtpcilfnnfhfgaaaGreatDoor
open Go Go.ChangeShapes Go.WideShapes Go.ChangeAt Go.RowKit

/-- The function of four words. -/
def ofWords (a b c d : Nat) : Fn := ofRow fun x => if x < 64 then a.testBit x else if x < 128 then b.testBit (x - 64) else if x < 192 then c.testBit (x - 128) else d.testBit (x - 192)

set_option maxRecDepth 100000 in
theorem wd_of_bits (f : Fn) (i a : Nat) (ha : a < 2 ^ 64) (h : ∀ j, j < 64 → f.getLsbD (64 * i + j) = a.testBit j) : wd f i = a := by
  refine Nat.eq_of_testBit_eq fun j => ?_
  unfold wd
  rw [BitVec.testBit_toNat, BitVec.getLsbD_extractLsb']
  by_cases hj : j < 64
  · rw [h j hj]; simp [hj]
  · have : a.testBit j = false := Nat.testBit_lt_two_pow (Nat.lt_of_lt_of_le ha (Nat.pow_le_pow_right (by decide) (by omega)))
    rw [this]; simp [hj]

set_option maxRecDepth 100000 in
theorem wd_ofWords (a b c d : Nat) (ha : a < 2 ^ 64) (hb : b < 2 ^ 64) (hc : c < 2 ^ 64) (hd : d < 2 ^ 64) :
    wd (ofWords a b c d) 0 = a ∧ wd (ofWords a b c d) 1 = b ∧ wd (ofWords a b c d) 2 = c ∧ wd (ofWords a b c d) 3 = d := by
  refine ⟨wd_of_bits _ _ _ ha fun j hj => ?_, wd_of_bits _ _ _ hb fun j hj => ?_, wd_of_bits _ _ _ hc fun j hj => ?_, wd_of_bits _ _ _ hd fun j hj => ?_⟩
  · rw [ofWords, ofRow_bit _ _ (by omega), if_pos (by omega), show 64 * 0 + j = j by omega]
  · rw [ofWords, ofRow_bit _ _ (by omega), if_neg (by omega), if_pos (by omega), show 64 * 1 + j - 64 = j by omega]
  · rw [ofWords, ofRow_bit _ _ (by omega), if_neg (by omega), if_neg (by omega), if_pos (by omega), show 64 * 2 + j - 128 = j by omega]
  · rw [ofWords, ofRow_bit _ _ (by omega), if_neg (by omega), if_neg (by omega), if_neg (by omega), show 64 * 3 + j - 192 = j by omega]

/-- What it reads as. -/
def datF {H : Type} (f : Fn) : DataW H := .agg [.lit (.int .u64 (wd f 0)), .lit (.int .u64 (wd f 1)), .lit (.int .u64 (wd f 2)), .lit (.int .u64 (wd f 3))]

set_option maxRecDepth 100000 in
theorem Tryz.cellsF : Tryz.prog.cellsOf 35 = 4 := by kernel_rfl
set_option maxRecDepth 100000 in
theorem Tryz.cellsU : Tryz.prog.cellsOf 33 = 1 := by kernel_rfl
set_option maxRecDepth 100000 in
theorem Tryz.own : ownKnob Tryz.prog.godebug = none := by kernel_rfl

set_option maxRecDepth 100000 in
theorem list4 {α : Type} (l : List α) (h : (⟨l⟩ : Array α).size = 4) : ∃ a b c d, l = [a, b, c, d] := by
  match l, h with
  | [a, b, c, d], _ => exact ⟨a, b, c, d, rfl⟩

set_option maxRecDepth 100000 in
theorem wf_u64 {n : Int} (h : (Lit.int .u64 n).wf = true) : ∃ m : Nat, n = (m : Int) ∧ m < 2 ^ 64 := by
  simp [Lit.wf, IntKind.min, IntKind.max, IntKind.signed, IntKind.bits] at h
  exact ⟨n.toNat, by omega, by omega⟩

set_option maxRecDepth 100000 in
theorem wd_wf (f : Fn) (i : Nat) : (Lit.int .u64 (wd f i)).wf = true := by
  have := wd_lt f i
  simp [Lit.wf, IntKind.min, IntKind.max, IntKind.signed, IntKind.bits]
  omega

section
variable {H : Type} {enc : TypeId × Value → H} {w : World} {base : Nat} {spare : Nat → Bool} {held : Bool}

set_option maxRecDepth 100000 in
theorem open_fn {r : Go.Reach} {b0 : Nat} {v : Value} {d : DataW H} {ps : List MemPlace} (hval : Value.okWide Tryz.prog w r b0 35 v) (hd : DataW.Trod enc Tryz.prog w base spare held 35 v d ps) :
    ∃ f : Fn, v = fv f ∧ d = datF f ∧ ps = [] := by
  obtain ⟨cs, rfl, hsz, _⟩ : ∃ cs, v = .agg cs ∧ cs.size = Tryz.prog.cellsOf 35 ∧ Row.okWide Tryz.prog w r b0 35 cs := by
    simpa [Value.okWide, Tryz.underlying35] using hval
  rw [Tryz.cellsF] at hsz
  obtain ⟨l⟩ := cs
  obtain ⟨c0, c1, c2, c3, rfl⟩ := list4 l hsz
  obtain ⟨fuel, hf⟩ := hd
  obtain ⟨y0, y1, y2, y3, m, hx, hy0, hy1, hy2, hy3⟩ := trod_array4 Tryz.underlying35 Tryz.cellsU hf
  obtain ⟨x0, e0, rfl, w0⟩ := DataW.trod_int Tryz.underlying33 hy0
  obtain ⟨x1, e1, rfl, w1⟩ := DataW.trod_int Tryz.underlying33 hy1
  obtain ⟨x2, e2, rfl, w2⟩ := DataW.trod_int Tryz.underlying33 hy2
  obtain ⟨x3, e3, rfl, w3⟩ := DataW.trod_int Tryz.underlying33 hy3
  simp at e0 e1 e2 e3
  subst e0 e1 e2 e3
  simp only [Prod.mk.injEq] at hx
  obtain ⟨rfl, rfl⟩ := hx
  obtain ⟨a, rfl, ha⟩ := wf_u64 w0
  obtain ⟨b, rfl, hb⟩ := wf_u64 w1
  obtain ⟨c, rfl, hc⟩ := wf_u64 w2
  obtain ⟨e, rfl, he⟩ := wf_u64 w3
  obtain ⟨i0, i1, i2, i3⟩ := wd_ofWords a b c e ha hb hc he
  exact ⟨ofWords a b c e, by rw [fv, i0, i1, i2, i3], by rw [datF, i0, i1, i2, i3], rfl⟩

set_option maxRecDepth 100000 in
theorem shut_fn (f : Fn) : DataW.Trod enc Tryz.prog w base spare held 35 (fv f) (datF f) [] :=
  ⟨2, by simp [fv, datF, DataW.trod, Value.cells, Tryz.underlying35, Tryz.underlying33, Tryz.cellsF, Tryz.cellsU, wd_wf, show List.range 4 = [0, 1, 2, 3] from rfl]⟩
end

/-- The table's cells. -/
def lowCells : Array Value := #[.int .u64 12297829382473034410, .int .u64 14757395258967641292, .int .u64 17361641481138401520, .int .u64 18374966859414961920, .int .u64 18446462603027742720, .int .u64 18446744069414584320]

set_option maxRecDepth 100000 in
theorem Tryz.low : Tryz.prog.globalNamed "bower/tab.lowWords" = some 0 := by kernel_rfl
set_option maxRecDepth 100000 in
theorem Tryz.lowType : (Tryz.prog.globals[0]?).map (·.type) = some 142 := by kernel_rfl
set_option maxRecDepth 100000 in
theorem Tryz.cellsLow : Tryz.prog.cellsOf 142 = 6 := by kernel_rfl

set_option maxRecDepth 100000 in
theorem list6 {α : Type} (l : List α) (h : l.length = 6) : ∃ a b c d e f, l = [a, b, c, d, e, f] := by
  match l, h with
  | [a, b, c, d, e, f], _ => exact ⟨a, b, c, d, e, f, rfl⟩

set_option maxRecDepth 100000 in
theorem low_of_laid {W : World} (h : laidMet Tryz.prog [("bower/tab.lowWords", Rows.laid_bower_tab_lowWords)] W) : W.var? Tryz.prog "bower/tab.lowWords" = some lowCells := by
  obtain ⟨ps, ⟨g, t, cs, fuel, p, q, hg, ht, hvar, hd, _, _⟩, _⟩ := h
  obtain rfl := Option.some.inj (Tryz.low.symm.trans hg)
  obtain rfl := Option.some.inj (Tryz.lowType.symm.trans ht)
  rw [hvar]
  congr 1
  obtain ⟨l⟩ := cs
  cases fuel with
  | zero => simp [DataW.trod] at hd
  | succ fuel =>
    simp only [DataW.trod, Tryz.underlying142, Tryz.cellsLow, Tryz.cellsU] at hd
    split at hd
    · rename_i hl
      obtain ⟨c0, c1, c2, c3, c4, c5, rfl⟩ := list6 l (by simpa using hl)
      have e : List.range 6 = [0, 1, 2, 3, 4, 5] := rfl
      rw [e] at hd
      simp only [Option.map_eq_some_iff, List.mapM_cons, List.mapM_nil, Option.bind_eq_bind, Option.bind_eq_some_iff, Option.pure_def, Option.some.injEq] at hd
      obtain ⟨xs, ⟨y0, h0, _, ⟨y1, h1, _, ⟨y2, h2, _, ⟨y3, h3, _, ⟨y4, h4, _, ⟨y5, h5, _, rfl, rfl⟩, rfl⟩, rfl⟩, rfl⟩, rfl⟩, rfl⟩, hx⟩ := hd
      obtain ⟨n0, e0, rfl, _⟩ := DataW.trod_int Tryz.underlying33 h0
      obtain ⟨n1, e1, rfl, _⟩ := DataW.trod_int Tryz.underlying33 h1
      obtain ⟨n2, e2, rfl, _⟩ := DataW.trod_int Tryz.underlying33 h2
      obtain ⟨n3, e3, rfl, _⟩ := DataW.trod_int Tryz.underlying33 h3
      obtain ⟨n4, e4, rfl, _⟩ := DataW.trod_int Tryz.underlying33 h4
      obtain ⟨n5, e5, rfl, _⟩ := DataW.trod_int Tryz.underlying33 h5
      simp at e0 e1 e2 e3 e4 e5
      subst e0 e1 e2 e3 e4 e5
      simp [Rows.laid_bower_tab_lowWords] at hx
      obtain ⟨⟨rfl, rfl, rfl, rfl, rfl, rfl⟩, _⟩ := hx
      rfl
    · cases hd

set_option maxRecDepth 100000 in
theorem lowW_of_laid {W : World} (h : laidMet Tryz.prog [("bower/tab.lowWords", Rows.laid_bower_tab_lowWords)] W) : LowW W := by
  intro i hi
  rw [World.var?_cell Tryz.low (low_of_laid h) i]
  rcases (by omega : i = 0 ∨ i = 1 ∨ i = 2 ∨ i = 3 ∨ i = 4 ∨ i = 5) with rfl | rfl | rfl | rfl | rfl | rfl <;> rfl

/-- A world in which the table is laid. -/
noncomputable def laidWorld (os : Os) : World :=
  { World.holding Tryz.prog os ⟨#[], #[], []⟩ with heap := (World.holding Tryz.prog os ⟨#[], #[], []⟩).heap.modify 0 fun
      | .cells _ t frozen => .cells lowCells t frozen
      | o => o }

set_option maxRecDepth 100000 in
theorem laidWorld_row (os : Os) (args : Array Value) : ((laidWorld os).forCall (fun _ _ => 0) ⟨#[], args, []⟩).memory.heap[0]? = some (.cells lowCells 142 (0, 0)) := by kernel_rfl

set_option maxRecDepth 100000 in
theorem laidWorld_met (os : Os) (args : Array Value) : laidMet Tryz.prog [("bower/tab.lowWords", Rows.laid_bower_tab_lowWords)] ((laidWorld os).forCall (fun _ _ => 0) ⟨#[], args, []⟩).memory :=
  ⟨_, ⟨0, 142, lowCells, 8, [], [], by kernel_rfl, by kernel_rfl, by kernel_rfl, by kernel_rfl, rfl, rfl⟩, by decide, fun b off h => by
    have h' : MemPlace.cell b off ∈ [MemPlace.cell 0 0, .cell 0 1, .cell 0 2, .cell 0 3, .cell 0 4, .cell 0 5] := h
    have hb : b = 0 := by
      simp at h'
      omega
    subst hb
    refine ⟨⟨_, _, laidWorld_row os args⟩, fun u v hc => ?_⟩
    simp only [World.cell?, laidWorld_row os args] at hc
    simp at h'
    rcases h' with rfl | rfl | rfl | rfl | rfl | rfl <;> simp [lowCells] at hc⟩

end Go.Proofs.YtpcilfnnfhfgaaaGreatDoor

/-
  How slices of functions and orders come in; arguments that read behind a call as they did.
-/
namespace Go.Proofs.YtpcilfnnfhfgaaaGreatDoor
open Go Go.ChangeShapes Go.WideShapes Go.ChangeAt Go.RowKit

section
variable {H : Type} {enc : TypeId × Value → H}

set_option maxRecDepth 100000 in
theorem trodAll_stays {P : Program} (hl : laidOutB P = true) {W W' : World} (hb : Below W.heap.size W W') : ∀ {ts : List TypeId} {vs : List Value} {ds : List (DataW H)} {ps : List MemPlace}, (∀ t ∈ ts, P.readableRec t = true ∧ t < P.types.size) →
    DataW.TrodAll enc P W 0 (fun _ => true) true ts vs ds ps → (∀ x ∈ ps, x.block < W.heap.size) → DataW.TrodAll enc P W' 0 (fun b => decide (b < W.heap.size)) true ts vs ds ps
  | [], [], [], _, _, h, _ => h
  | _ :: _, _ :: _, _ :: _, _, hT, ⟨p, q, h1, h2, e⟩, hs =>
    ⟨p, q, Below.trod hl (hT _ (List.mem_cons.2 (Or.inl rfl))).1 (hT _ (List.mem_cons.2 (Or.inl rfl))).2 h1 hb (fun x hx => hs x (by rw [e]; exact List.mem_append_left _ hx)),
      trodAll_stays hl hb (fun t ht => hT t (List.mem_cons.2 (Or.inr ht))) h2 (fun x hx => hs x (by rw [e]; exact List.mem_append_right _ hx)), e⟩

variable {w : World} {base : Nat} {spare : Nat → Bool} {held : Bool}

set_option maxRecDepth 100000 in
theorem trod_fn {fuel : Nat} {cs : List Value} {x : DataW H × List MemPlace} (hlen : cs.length = 4) (h : DataW.trod enc Tryz.prog w base spare held fuel 35 cs = some x) :
    ∃ f : Fn, cs = [.int .u64 (wd f 0), .int .u64 (wd f 1), .int .u64 (wd f 2), .int .u64 (wd f 3)] := by
  obtain ⟨c0, c1, c2, c3, rfl⟩ := list4 cs (by simpa using hlen)
  obtain ⟨y0, y1, y2, y3, m, hx, hy0, hy1, hy2, hy3⟩ := trod_array4 Tryz.underlying35 Tryz.cellsU h
  obtain ⟨x0, e0, _, w0⟩ := DataW.trod_int Tryz.underlying33 hy0
  obtain ⟨x1, e1, _, w1⟩ := DataW.trod_int Tryz.underlying33 hy1
  obtain ⟨x2, e2, _, w2⟩ := DataW.trod_int Tryz.underlying33 hy2
  obtain ⟨x3, e3, _, w3⟩ := DataW.trod_int Tryz.underlying33 hy3
  simp at e0 e1 e2 e3
  subst e0 e1 e2 e3
  obtain ⟨a, rfl, ha⟩ := wf_u64 w0
  obtain ⟨b, rfl, hb⟩ := wf_u64 w1
  obtain ⟨c, rfl, hc⟩ := wf_u64 w2
  obtain ⟨e, rfl, he⟩ := wf_u64 w3
  obtain ⟨i0, i1, i2, i3⟩ := wd_ofWords a b c e ha hb hc he
  exact ⟨ofWords a b c e, by rw [i0, i1, i2, i3]⟩

set_option maxRecDepth 100000 in
theorem cellsL_at (l : List Fn) (j : Nat) (u : Value) (h : (cellsL l)[j]? = some u) : ∃ (i r : Nat) (hi : i < l.length), r < 4 ∧ j = i * 4 + r ∧ u = .int .u64 (wd l[i] r) := by
  have hj : j < (cellsL l).length := by
    rcases Nat.lt_or_ge j (cellsL l).length with h' | h'
    · exact h'
    · rw [List.getElem?_eq_none h'] at h; cases h
  rw [cellsL_length] at hj
  have hi : j / 4 < l.length := by omega
  have e : j = j / 4 * 4 + j % 4 := by omega
  have h2 := cellsL_get l (j / 4) hi (j % 4) (by omega)
  rw [← e] at h2
  exact ⟨j / 4, j % 4, hi, by omega, e, Option.some.inj (h.symm.trans h2)⟩

set_option maxRecDepth 100000 in
/-- A slice of functions that came in. -/
theorem open_fns {r : Go.Reach} {b0 : Nat} {v : Value} {d : DataW H} {ps : List MemPlace} (hval : Value.okWide Tryz.prog w r b0 47 v) (hd : DataW.Trod enc Tryz.prog w base spare held 47 v d ps) :
    ∃ l : List Fn, SliceF w v l ∧ l.length ≤ maxLen ∧ ((l = [] ∧ d = .nil) ∨ ∃ xs ys, d = .slice xs ys ∧ xs.length = l.length) := by
  obtain ⟨a, len, cap, rfl⟩ := okWide_slice Tryz.underlying47 hval
  obtain ⟨fuel, hf⟩ := hd
  rcases Deep.open_slice Tryz.underlying47 hf with ⟨hcs, hx⟩ | ⟨ad, len', cap', m, n, D, Pl, hcs, _, hl, hm, hmm, hx, hall⟩
  · have hcs' : Value.slice a len cap = .slice none 0 0 := by simpa [Value.cells] using hcs
    rw [hcs']
    exact ⟨[], .inl ⟨rfl, rfl⟩, Nat.zero_le _, .inl ⟨rfl, congrArg Prod.fst hx⟩⟩
  · have hcs' : Value.slice a len cap = .slice (some ad) len' cap' := by simpa [Value.cells] using hcs
    rw [hcs']
    have hle : len' ≤ m := by rw [hmm]; split <;> omega
    have hall2 : ∀ i, i < len' → ∃ f : Fn, ∀ j, j < 4 → w.cell? (ad.add (i * 4 + j)) = some (.int .u64 (wd f j)) := fun i hi => by
      obtain ⟨cs', h1, h2⟩ := hall i (by omega)
      rw [Tryz.cellsF] at h1
      obtain ⟨_, hlen, hc⟩ := World.cells?_some h1
      obtain ⟨f, rfl⟩ := trod_fn hlen h2
      refine ⟨f, fun j hj => ?_⟩
      have h3 := hc j hj
      rw [Addr.add_add] at h3
      rw [h3]
      rcases (by omega : j = 0 ∨ j = 1 ∨ j = 2 ∨ j = 3) with rfl | rfl | rfl | rfl <;> rfl
    obtain ⟨F, hF⟩ := Deep.choose_lt (α := Fn) hall2
    refine ⟨(List.range len').map F, .inr ⟨ad, cap', by simp, fun j u hj => ?_⟩, by simp; omega, .inr ⟨_, _, congrArg Prod.fst hx, by simp⟩⟩
    obtain ⟨i, q, hi, hq, rfl, rfl⟩ := cellsL_at _ j u hj
    have hi' : i < len' := by simpa using hi
    rw [hF i hi' q hq]
    simp

set_option maxRecDepth 100000 in
theorem list8 {α : Type} (l : List α) (h : l.length = 8) : ∃ a b c d e f g i, l = [a, b, c, d, e, f, g, i] := by
  match l, h with
  | [a, b, c, d, e, f, g, i], _ => exact ⟨a, b, c, d, e, f, g, i, rfl⟩

set_option maxRecDepth 100000 in
theorem Tryz.cellsO : Tryz.prog.cellsOf 62 = 8 := by kernel_rfl
set_option maxRecDepth 100000 in
theorem Tryz.cellsI : Tryz.prog.cellsOf 3 = 1 := by kernel_rfl

set_option maxRecDepth 100000 in
/-- An order that came in. -/
theorem open_order {r : Go.Reach} {b0 : Nat} {v : Value} {d : DataW H} {ps : List MemPlace} (hval : Value.okWide Tryz.prog w r b0 62 v) (hd : DataW.Trod enc Tryz.prog w base spare held 62 v d ps) :
    ∃ o : Nat → Int, v = ov o ∧ ∀ i, (Lit.int .i64 (o i)).wf = true := by
  obtain ⟨cs, rfl, hsz, _⟩ : ∃ cs, v = .agg cs ∧ cs.size = Tryz.prog.cellsOf 62 ∧ Row.okWide Tryz.prog w r b0 62 cs := by
    simpa [Value.okWide, Tryz.underlying62] using hval
  rw [Tryz.cellsO] at hsz
  obtain ⟨l⟩ := cs
  obtain ⟨c0, c1, c2, c3, c4, c5, c6, c7, rfl⟩ := list8 l (by simpa using hsz)
  obtain ⟨fuel, hf⟩ := hd
  obtain ⟨xs, m, _, _, _, hxl, hget⟩ := DataW.trod_array Tryz.underlying62 hf
  rw [Tryz.cellsI] at hget
  have key : ∀ i (c : Value), i < 8 → ((Value.agg #[c0, c1, c2, c3, c4, c5, c6, c7]).cells.toList.drop (i * 1)).take 1 = [c] → ∃ n, c = .int .i64 n ∧ (Lit.int .i64 n).wf = true := fun i c hi hc => by
    have h1 := hget i hi
    rw [hc, List.getElem?_eq_getElem (by omega)] at h1
    obtain ⟨n, e, _, hw⟩ := DataW.trod_int Tryz.underlying3 h1
    exact ⟨n, by simpa using e, hw⟩
  obtain ⟨n0, rfl, w0⟩ := key 0 c0 (by decide) rfl
  obtain ⟨n1, rfl, w1⟩ := key 1 c1 (by decide) rfl
  obtain ⟨n2, rfl, w2⟩ := key 2 c2 (by decide) rfl
  obtain ⟨n3, rfl, w3⟩ := key 3 c3 (by decide) rfl
  obtain ⟨n4, rfl, w4⟩ := key 4 c4 (by decide) rfl
  obtain ⟨n5, rfl, w5⟩ := key 5 c5 (by decide) rfl
  obtain ⟨n6, rfl, w6⟩ := key 6 c6 (by decide) rfl
  obtain ⟨n7, rfl, w7⟩ := key 7 c7 (by decide) rfl
  refine ⟨fun i => [n0, n1, n2, n3, n4, n5, n6, n7].getD i 0, rfl, fun i => ?_⟩
  rcases Nat.lt_or_ge i 8 with hi | hi
  · rcases (by omega : i = 0 ∨ i = 1 ∨ i = 2 ∨ i = 3 ∨ i = 4 ∨ i = 5 ∨ i = 6 ∨ i = 7) with rfl | rfl | rfl | rfl | rfl | rfl | rfl | rfl <;> assumption
  · have e : [n0, n1, n2, n3, n4, n5, n6, n7].getD i 0 = 0 := by simp [List.getD, List.getElem?_eq_none (show [n0, n1, n2, n3, n4, n5, n6, n7].length ≤ i by simpa using hi)]
    simp only [e]
    decide
end

set_option maxRecDepth 100000 in
/-- By the reach. -/
theorem fns_short {H : Type} {ts : List TypeId} {ds : List (DataW H)} (h : (DataW.weightsEach Tryz.prog ts ds).all (· ≤ reachBytes) = true) {j : Nat} {l : List Fn} {d : DataW H} (ht : ts[j]? = some 47) (hd : ds[j]? = some d)
    (hl : (l = [] ∧ d = .nil) ∨ ∃ xs ys, d = .slice xs ys ∧ xs.length = l.length) : l.length ≤ 4611686018427387 := by
  rcases hl with ⟨rfl, _⟩ | ⟨xs, ys, rfl, hx⟩
  · exact Nat.zero_le _
  · have h1 := sized_slice h ht hd Tryz.underlying47
    rw [show Tryz.prog.bytesOf 35 = 32 by kernel_rfl, show reachBytes = 140737488351232 by kernel_rfl] at h1
    omega

end Go.Proofs.YtpcilfnnfhfgaaaGreatDoor
