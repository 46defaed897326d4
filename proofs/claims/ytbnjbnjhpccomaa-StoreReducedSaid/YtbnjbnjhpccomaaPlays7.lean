/-
  StorePlays: the walk.
-/
import Derived.Test.YtbnjbnjhpccomaaUp7
namespace Go.Proofs.Ytbnjbnjhpccomaa
open Go Go.RowKit

/-- A deed. -/
structure D7 where
  what : Int
  a : Int
  b : Int
  c : Int
  raw : Bool
def D7.good (d : D7) : Prop := (Lit.int .i64 d.what).wf = true ∧ (Lit.int .i64 d.a).wf = true ∧ (Lit.int .i64 d.b).wf = true ∧ (Lit.int .i64 d.c).wf = true

/-- A deed's cells. -/
def encD7 : Enc Try.prog D7 where
  slice := 22
  elem := 31
  size := 5
  bytes := 40
  cells d := [.int .i64 d.what, .int .i64 d.a, .int .i64 d.b, .int .i64 d.c, .bool d.raw]
  zero := .agg #[.int .i64 0, .int .i64 0, .int .i64 0, .int .i64 0, .bool false]
  und := Try.underlying22
  info := info_of _ _ _ _ _ (by kernel_rfl)
  zsize := rfl
  pos := by decide
  few := by decide
  len _ := rfl
  one d u h := by
    simp only [List.mem_cons, List.not_mem_nil, or_false] at h
    rcases h with rfl | rfl | rfl | rfl | rfl <;> rfl

theorem deedAt7 {w : World} {a : Option Addr} {cap : Nat} {l : List D7} (h : Reads encD7 w (.slice a l.length cap) l) (i : Nat) (hi : i < l.length) : ∃ ad, a = some ad ∧ w.cell? (ad.add (i * 5)) = some (.int .i64 l[i].what) ∧
    w.cell? ⟨(ad.add (i * 5)).block, (ad.add (i * 5)).off + 1, none⟩ = some (.int .i64 l[i].a) ∧ w.cell? ⟨(ad.add (i * 5)).block, (ad.add (i * 5)).off + 2, none⟩ = some (.int .i64 l[i].b) ∧
    w.cell? ⟨(ad.add (i * 5)).block, (ad.add (i * 5)).off + 3, none⟩ = some (.int .i64 l[i].c) ∧ w.cell? ⟨(ad.add (i * 5)).block, (ad.add (i * 5)).off + 4, none⟩ = some (.bool l[i].raw) := by
  obtain ⟨ad, rfl, H⟩ := h.at i hi
  have h0 := H 0 (by decide)
  have h1 := H 1 (by decide)
  have h2 := H 2 (by decide)
  have h3 := H 3 (by decide)
  have h4 := H 4 (by decide)
  simp only [encD7] at h1 h2 h3 h4
  rw [← Addr.add_add, Addr.add, if_neg (by omega)] at h1 h2 h3 h4
  exact ⟨ad, rfl, by simpa [encD7] using h0, by simpa using h1, by simpa using h2, by simpa using h3, by simpa using h4⟩

set_option maxRecDepth 100000 in
set_option maxHeartbeats 4000000 in
theorem lawBegin {StAt : World → Nat → (Nat → Prop) → MS → Prop} (H : StoreC StAt) (most : Int) (w : World) (h0 : 0 ≤ most) (h1 : most ≤ 20000) :
    Calls Try.prog 6 #[.int .i64 most] w fun e w' => ∃ bA bM FA FM, e = .returned (.tuple #[.pointer (some ⟨bA, 0, none⟩), .pointer (some ⟨bM, 0, none⟩)]) ∧ P2 StAt w bA bM FA FM (MS.none most.toNat) (MS.none most.toNat) w' := by
  go_enter Try.func6, Try.ntmps6
  go_wp2_with fail
  refine (H.new most w h0 h1).mono ?_
  rintro e w1 ⟨b, rfl, ⟨F, hA, hF⟩, hb⟩
  go_wp2_with fail
  refine (refSNew most _ h0).mono ?_
  rintro e w2 ⟨b2, rfl, ⟨F2, hM, hF2⟩, hb2⟩
  have P : P2 StAt w b b2 F F2 (MS.none most.toNat) (MS.none most.toNat) w2 := ⟨H.below hA hb2, hM, fun k hk e => by have := H.lt hA k hk; have := hF2 k e; omega, hF, fun k hk => Nat.le_trans hb.size (hF2 k hk), hb.trans (hb2.mono hb.size)⟩
  go_wp2
  go_ret2
  exact ⟨b, b2, F, F2, rfl, P⟩

set_option maxRecDepth 100000 in
set_option maxHeartbeats 4000000 in
theorem lawBegin_no {StAt : World → Nat → (Nat → Prop) → MS → Prop} (H : StoreC StAt) (most : Int) (w : World) (h : most < 0 ∨ 20000 < most) :
    Calls Try.prog 6 #[.int .i64 most] w fun e w' => e = .returned (.tuple #[.pointer none, .pointer none]) ∧ Below w.heap.size w w' := by
  go_enter Try.func6, Try.ntmps6
  go_wp2_with fail
  refine (H.no most w h).mono ?_
  rintro e w1 ⟨rfl, hb⟩
  go_wp2
  go_ret2
  exact ⟨rfl, hb⟩

set_option maxRecDepth 100000 in
set_option maxHeartbeats 8000000 in
theorem storePlays' {StAt : World → Nat → (Nat → Prop) → MS → Prop} (H : StoreC StAt) (most : Int) (l : List D7) (v : Value) (w : World) (hv : Reads encD7 w v l) (_hl : l.length ≤ maxLen) (hwf : ∀ d ∈ l, d.good) :
    Calls Try.prog 3 #[.int .i64 most, v] w fun e w' => e = .returned (.bool true) ∧ Below w.heap.size w w' := by
  obtain ⟨a, cap, rfl⟩ := hv.form
  go_enter Try.func3, Try.ntmps3
  go_wp2_with fail
  refine (up07 H _).mono ?_
  rintro e w1 ⟨rfl, hb1⟩
  by_cases hmost : 0 ≤ most ∧ most ≤ 20000
  · obtain ⟨h0, h1⟩ := hmost
    go_wp2_with fail
    refine (lawBegin H most _ h0 h1).mono ?_
    rintro e w2 ⟨bA, bM, FA, FM, rfl, P⟩
    have ok := MS.none_ok most.toNat (by omega)
    generalize MS.none most.toNat = s at *
    by_cases hlen : l.length ≤ 150
    · have hl3 : ¬ 150 < (l.length : Int) := by omega
      replace hv := Lib.hid hv
      replace P := Lib.hid P
      replace ok := Lib.hid ok
      go_wp2
      go_loopw [8] (fun i wr => ∃ (k : Nat) (s : MS) (FA FM : Nat → Prop), k ≤ l.length ∧ i = .int .i64 k ∧ s.Ok ∧ P2 StAt w1 bA bM FA FM s s wr) (fun i _ => l.length - (intOf i).toNat)
      case atStart => exact ⟨0, s, _, _, Nat.zero_le _, rfl, ok.out, P.out⟩
      case round =>
        clear P ok
        obtain ⟨k, s, FA, FM, hk, rfl, ok, P⟩ := hrel
        by_cases hlt : k < l.length
        · have hk0 : (0 : Int) ≤ (k : Int) := by omega
          have hk1 : (k : Int) < (l.length : Int) := by omega
          obtain ⟨ad, rfl, q0, q1, q2, q3, q4⟩ := deedAt7 (hv.out.keep (hb1.trans (P.below.mono hb1.size))) k hlt
          have hwk := hwf _ (List.getElem_mem hlt)
          generalize l[k] = d at *
          obtain ⟨What, A, B, C, raw⟩ := d
          obtain ⟨g0, g1, g2, g3⟩ := hwk
          dsimp only at q0 q1 q2 q3 q4 g0 g1 g2 g3
          have HD := lawDo H P ok What A B C raw g0 g1 g2 g3
          clear P
          go_wp2_with fail
          refine HD.mono ?_
          rintro e w3 ⟨rfl, S, FA1, FM1, ok1, P1⟩
          clear HD ok q0 q1 q2 q3 q4
          go_wp2_with fail
          refine (lawSame H P1 ok1).mono ?_
          rintro e w4 ⟨rfl, hb4⟩
          replace P1 := P1.keep H hb4
          clear hb4
          go_wp2
          exact ⟨⟨k + 1, S, FA1, FM1, by omega, by go_num, ok1, P1⟩, by simp [intOf]; omega⟩
        · obtain rfl : k = l.length := by omega
          go_wp2
          go_ret
          exact ⟨rfl, hb1.trans (P.below.mono hb1.size)⟩
    · have hl3 : 150 < (l.length : Int) := by omega
      have hn0 : ¬ most < 0 := by omega
      have hn1 : ¬ 20000 < most := by omega
      go_wp2
      go_ret
      refine ⟨?_, hb1.trans (P.below.mono hb1.size)⟩
      show Ending.returned (.bool (!decide (most < 0) && !decide (20000 < most))) = _
      rw [decide_eq_false (by omega), decide_eq_false (by omega)]
      rfl
  · have hm : most < 0 ∨ 20000 < most := by omega
    go_wp2_with fail
    refine (lawBegin_no H most _ hm).mono ?_
    rintro e w2 ⟨rfl, hb2⟩
    have hb := hb1.trans (hb2.mono hb1.size)
    rcases hm with hm | hm
    · go_wp2_with fail
      refine (H.no most _ (.inl hm)).mono ?_
      rintro e w3 ⟨rfl, hb3⟩
      go_wp2
      go_ret
      exact ⟨rfl, hb.trans (hb3.mono hb.size)⟩
    · have hm0 : ¬ most < 0 := by omega
      go_wp2_with fail
      refine (H.no most _ (.inr hm)).mono ?_
      rintro e w3 ⟨rfl, hb3⟩
      go_wp2
      go_ret
      exact ⟨rfl, hb.trans (hb3.mono hb.size)⟩

end Go.Proofs.Ytbnjbnjhpccomaa
