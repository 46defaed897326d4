/-
  Texts of this proof, one behind the other: UniqP, UniqS, Pure, Eff, Ord.
-/
import Derived.Test.YtipocmbplcdmjaaDoorG5
import Derived.Test.YtipocmbplcdmjaaDoorG3
import Derived.Lib.Hide
import Derived.Test.YtipocmbplcdmjaaDoorProg
import Derived.Handy
import Derived.WalkKit
import Derived.KernelRfl
/-
  Walks of package uniq: Put, Drop.
-/
namespace Go.Proofs.YtipocmbplcdmjaaDoor
open Go Go.RowKit

theorem chain_place (W : World) (g o : Nat) (k1 k2 x : Int) : (((W.setCell ⟨g, o, none⟩ (.bool true)).setCell ⟨g, o + 1, none⟩ (.int .i64 k1)).setCell ⟨g, o + 2, none⟩ (.int .i64 k2)).setCell ⟨g, o + 3, none⟩ (.int .i64 x) = W.setCells g o (entCells (some ((k1, k2), x))) := rfl

section
variable {w : World} {b g cap n : Nat} {T : List (Option Ent)} {L : List Ent}

set_option maxRecDepth 100000 in
set_option maxHeartbeats 1000000 in
theorem uniqPutNo (h : UniqV w b g cap n L.length T) (H : TInv n (homeN n) T L) (hl : Places n) (hh : 2 * L.length ≤ n) (k1 k2 x : Int) {e : Ent} (he : e ∈ L) (hk : e.1 = (k1, k2)) :
    Calls Tryd.prog 61 #[.pointer (some ⟨b, 0, none⟩), .int .i64 k1, .int .i64 k2, .int .i64 x] w fun e w' => e = .returned (.bool false) ∧ Below w.heap.size w w' := by
  have h8 := hl.least
  have hcl : (content T).length < n := by have := H.perm.length_eq; omega
  obtain ⟨c, F⟩ := found_exists H.len H.home hcl (k1, k2)
  have hNlt : onBy n (homeN n (k1, k2)) c < n := onBy_lt (homeN_lt (by omega) _) (Nat.le_of_lt F.lt)
  obtain ⟨z, hz⟩ : ∃ z : Ent, T[onBy n (homeN n (k1, k2)) c]? = some (some z) := by
    rcases H.search F with ⟨_, h1⟩ | ⟨z, _, _, h1⟩
    · exact absurd hk (h1 e he)
    · exact ⟨z, h1⟩
  have hF := fun W (hW : UniqV W b g cap n L.length T) => uniqFindV hW hl k1 k2 F
  clear F
  generalize onBy n (homeN n (k1, k2)) c = N at *
  have hN0 : (0 : Int) ≤ (N : Int) := by omega
  have hN1 : (N : Int) < (n : Int) := by omega
  go_enter Tryd.func61, Tryd.ntmps61
  go_wp2_with fail
  have hb : Below w.heap.size w (w.alloc (.cells #[.int .i64 k1, .int .i64 k2] 85)) := by go_grown
  replace h := h.below hb
  generalize w.alloc (.cells #[.int .i64 k1, .int .i64 k2] 85) = W at *
  refine (hF W h).mono ?_
  clear hF
  rintro e' w1 ⟨rfl, hb1⟩
  replace h := h.below hb1
  replace hb := hb.trans (hb1.mono hb.size)
  clear hb1
  have hq := h.place N _ hz
  simp only [entCells, List.getElem?_cons_zero, List.getElem?_cons_succ] at hq
  obtain ⟨q0, _, _, _⟩ := hq
  obtain ⟨c0, c1⟩ := h.cells
  clear h H hz he hk hcl
  go_wp2
  go_ret
  exact ⟨rfl, hb⟩

set_option maxRecDepth 100000 in
set_option maxHeartbeats 1000000 in
theorem uniqPutYes (h : UniqV w b g cap n L.length T) (H : TInv n (homeN n) T L) (hl : Places n) (hl2 : Places (2 * n)) (hh : 2 * L.length ≤ n) (k1 k2 x : Int) (hno : ∀ e ∈ L, e.1 ≠ (k1, k2)) :
    Calls Tryd.prog 61 #[.pointer (some ⟨b, 0, none⟩), .int .i64 k1, .int .i64 k2, .int .i64 x] w fun e w' => e = .returned (.bool true) ∧ ∃ g' cap' n' T', n' = (if L.length + 1 > n / 2 then 2 * n else n) ∧ UniqV w' b g' cap' n' ((L.length + 1 : Nat) : Int) T' ∧ TInv n' (homeN n') T' (L ++ [((k1, k2), x)]) ∧ Keeps (fun k => k = b ∨ k = g) w w' ∧ (g' = g ∨ w.heap.size ≤ g') := by
  have h8 := hl.least
  have hM := hl.most
  have hcl : (content T).length < n := by have := H.perm.length_eq; omega
  obtain ⟨c, F⟩ := found_exists H.len H.home hcl (k1, k2)
  have hNlt : onBy n (homeN n (k1, k2)) c < n := onBy_lt (homeN_lt (by omega) _) (Nat.le_of_lt F.lt)
  have hz : T[onBy n (homeN n (k1, k2)) c]? = some none := by
    rcases H.search F with ⟨h1, _⟩ | ⟨z, hz, hk, _⟩
    · exact h1
    · exact absurd hk (hno z hz)
  have hput := H.put (e := ((k1, k2), x)) F hz
  have hF := fun W (hW : UniqV W b g cap n L.length T) => uniqFindV hW hl k1 k2 F
  clear F hno
  simp only at hput
  generalize onBy n (homeN n (k1, k2)) c = N at *
  have hN0 : (0 : Int) ≤ (N : Int) := by omega
  have hN1 : (N : Int) < (n : Int) := by omega
  have hL1 : (0 : Int) ≤ (L.length : Int) := by omega
  have hL2 : (L.length : Int) ≤ 1000000 := by omega
  have hn0 : (0 : Int) ≤ (n : Int) := by omega
  have hn2 : (n : Int) ≤ 1000000 := by omega
  replace hput := Lib.hid hput
  go_enter Tryd.func61, Tryd.ntmps61
  go_wp2_with fail
  have hp := PairAt.new w k1 k2
  have hb : Below w.heap.size w (w.alloc (.cells #[.int .i64 k1, .int .i64 k2] 85)) := by go_grown
  replace h := h.below hb
  generalize w.alloc (.cells #[.int .i64 k1, .int .i64 k2] 85) = W at *
  refine (hF W h).mono ?_
  clear hF
  rintro e' w1 ⟨rfl, hb1⟩
  replace h := h.below hb1
  replace hp := hp.keep hb1
  replace hb := hb.trans (hb1.mono hb.size)
  clear hb1
  have hq := h.place N _ hz
  simp only [entCells, List.getElem?_cons_zero, List.getElem?_cons_succ] at hq
  obtain ⟨q0, q1, q2, q3⟩ := hq
  obtain ⟨c0, c1⟩ := h.cells
  replace h := Lib.hid h
  replace hp := Lib.hid hp
  clear H hcl
  go_wp2
  clear c0 c1 q0 q1 q2 q3
  refine wp_region_quiet_tail (C := fun w' => ∃ u : Sub w1, w' = u.1) 9 (by kernel_rfl) (by kernel_rfl) (InSub.drew w1) ?_
  have x0 : ∀ s : Sub w1, s.1.cell? ⟨b, 0, none⟩ = some (.slice (some ⟨g, 0, none⟩) n cap) := fun s => (h.out.below s.2).cells.1
  have r0 := fun s : Sub w1 => (hp.out.keep s.2).cells.1
  have r1 := fun s : Sub w1 => (hp.out.keep s.2).cells.2
  simp only [List.take_succ_cons, List.take_zero]
  iterate 9 (go_big_quiet_step (fail))
  refine wpQuiet_nil ?_
  clear x0 r0 r1
  intro w' hw'
  obtain ⟨s, rfl⟩ := hw'
  have hb2 := hb.trans (s.2.mono hb.size)
  have hv := h.out.below s.2
  clear h hp hb
  generalize s.1 = W1 at *
  have hv2 := hv.putPlace hNlt (some ((k1, k2), x))
  have hk2 := (Keeps.of_below hb2 (fun k => k = b ∨ k = g)).and (Keeps.of_setCells (fun k => k = b ∨ k = g) g (.inr rfl) (entCells (some ((k1, k2), x))) (N * 4) W1)
  have hq := hv.place N _ hz
  simp only [entCells, List.getElem?_cons_zero, List.getElem?_cons_succ] at hq
  obtain ⟨z0, z1, z2, z3⟩ := hq
  have y0 := hv.freeP (N * 4)
  have y1 := hv.freeP (N * 4 + 1)
  have y2 := hv.freeP (N * 4 + 2)
  have y3 := hv.freeP (N * 4 + 3)
  replace hv2 := Lib.hid hv2
  replace hk2 := Lib.hid hk2
  clear hv hz
  simp only [List.drop_succ_cons, List.drop_zero]
  apply wpList_step
  intro K hK
  go_simp
  apply hK
  clear hK z0 z1 z2 z3 y0 y1 y2 y3
  rw [chain_place]
  generalize W1.setCells g (N * 4) (entCells (some ((k1, k2), x))) = W2 at *
  refine wpList_nil ?_
  have hv3 := hv2.out.setMany ((L.length + 1 : Nat) : Int)
  have hk3 := hk2.out.and (Keeps.of_setCell _ W2 ⟨b, 1, none⟩ (.int .i64 ((L.length + 1 : Nat) : Int)) (.inl rfl))
  have f1 := hv2.out.free 1
  obtain ⟨c0, c1⟩ := hv2.out.cells
  replace hv3 := Lib.hid hv3
  replace hk3 := Lib.hid hk3
  clear hv2 hk2
  go_wp2
  clear c0 c1 f1
  rw [show (L.length : Int) + 1 = ((L.length + 1 : Nat) : Int) by omega]
  generalize W2.setCell ⟨b, 1, none⟩ (.int .i64 ((L.length + 1 : Nat) : Int)) = W3 at *
  obtain ⟨c0, c1⟩ := hv3.out.cells
  have hq0 : (0 : Int) ≤ (n : Int) / 2 := by omega
  have hq1 : (n : Int) / 2 ≤ 1000000 := by omega
  have HV := hv3.out.drewN
  have HK := fun q => hk3.out.and (Keeps.of_below (below_drewN (n := q) (Below.refl W3.heap.size W3)) _)
  have hsz : ∀ q, w.heap.size ≤ (W3.drewN q).heap.size := fun q => hk3.out.size
  replace HV := Lib.hid HV
  replace HK := Lib.hid HK
  replace hsz := Lib.hid hsz
  by_cases hd : L.length + 1 > n / 2
  · have hd1 : (n : Int) / 2 < ((L.length + 1 : Nat) : Int) := by omega
    replace hb2 := Lib.hid hb2
    replace hd := Lib.hid hd
    generalize hm : L.length + 1 = M at *
    go_quiet (fail)
    clear c0 c1
    go_wp2_with fail
    refine (uniqDoubleV (HV.out _) hput.out hl hl2).mono ?_
    rintro e w4 ⟨rfl, g', T', hg', hv4, hT4, hk4⟩
    go_wp2
    go_ret
    refine ⟨rfl, g', 2 * n, T', hv4, hT4, (HK.out _).and (hk4.mono fun k h => .inl h), .inr ?_⟩
    exact Nat.le_trans (hsz.out _) hg'
  · have hd1 : ¬ (n : Int) / 2 < ((L.length + 1 : Nat) : Int) := by omega
    replace hb2 := Lib.hid hb2
    replace hd := Lib.hid hd
    generalize hm : L.length + 1 = M at *
    go_quiet (fail)
    clear c0 c1
    go_wp2
    go_ret
    exact ⟨rfl, g, cap, _, HV.out _, hput.out, HK.out _, .inl rfl⟩

set_option maxRecDepth 100000 in
set_option maxHeartbeats 1000000 in
theorem uniqDropNo (h : UniqV w b g cap n L.length T) (H : TInv n (homeN n) T L) (hl : Places n) (hh : 2 * L.length ≤ n) (k1 k2 : Int) (hno : ∀ e ∈ L, e.1 ≠ (k1, k2)) :
    Calls Tryd.prog 23 #[.pointer (some ⟨b, 0, none⟩), .int .i64 k1, .int .i64 k2] w fun e w' => e = .returned (.bool false) ∧ Below w.heap.size w w' := by
  have h8 := hl.least
  have hcl : (content T).length < n := by have := H.perm.length_eq; omega
  obtain ⟨c, F⟩ := found_exists H.len H.home hcl (k1, k2)
  have hNlt : onBy n (homeN n (k1, k2)) c < n := onBy_lt (homeN_lt (by omega) _) (Nat.le_of_lt F.lt)
  have hz : T[onBy n (homeN n (k1, k2)) c]? = some none := by
    rcases H.search F with ⟨h1, _⟩ | ⟨z, hz, hk, _⟩
    · exact h1
    · exact absurd hk (hno z hz)
  have hF := uniqFindV h hl k1 k2 F
  clear F
  generalize onBy n (homeN n (k1, k2)) c = N at *
  have hN0 : (0 : Int) ≤ (N : Int) := by omega
  have hN1 : (N : Int) < (n : Int) := by omega
  go_enter Tryd.func23, Tryd.ntmps23
  go_wp2_with fail
  refine hF.mono ?_
  clear hF
  rintro e' w1 ⟨rfl, hb⟩
  replace h := h.below hb
  have hq := h.place N _ hz
  simp only [entCells, List.getElem?_cons_zero, List.getElem?_cons_succ] at hq
  obtain ⟨q0, _, _, _⟩ := hq
  obtain ⟨c0, c1⟩ := h.cells
  clear h H hz hno hcl
  go_wp2
  go_ret
  exact ⟨rfl, hb⟩

set_option maxRecDepth 100000 in
set_option maxHeartbeats 1000000 in
theorem uniqDropYes (h : UniqV w b g cap n L.length T) (H : TInv n (homeN n) T L) (hl : Places n) (hh : 2 * L.length ≤ n) {e : Ent} {K : List Ent} (hK : L.Perm (e :: K)) :
    Calls Tryd.prog 23 #[.pointer (some ⟨b, 0, none⟩), .int .i64 e.1.1, .int .i64 e.1.2] w fun r w' => r = .returned (.bool true) ∧ ∃ T', UniqV w' b g cap n (K.length : Int) T' ∧ TInv n (homeN n) T' K ∧ Keeps (fun k => k = b ∨ k = g) w w' := by
  have h8 := hl.least
  have hM := hl.most
  have hcl : (content T).length < n := by have := H.perm.length_eq; omega
  have hLK : L.length = K.length + 1 := hK.length_eq
  obtain ⟨j, hj⟩ := exists_empty T (by rw [h.len]; exact hcl)
  obtain ⟨c, F⟩ := found_exists H.len H.home hcl e.1
  have hNlt : onBy n (homeN n e.1) c < n := onBy_lt (homeN_lt (by omega) _) (Nat.le_of_lt F.lt)
  have hz := H.found (hK.mem_iff.2 (List.mem_cons_self)) F
  obtain ⟨⟨k1, k2⟩, x⟩ := e
  have hF := uniqFindV h hl k1 k2 F
  clear F
  simp only at hz hNlt
  generalize onBy n (homeN n (k1, k2)) c = N at *
  have hN0 : (0 : Int) ≤ (N : Int) := by omega
  have hN1 : (N : Int) < (n : Int) := by omega
  have hL1 : (0 : Int) ≤ (K.length : Int) := by omega
  have hL2 : (K.length : Int) ≤ 1000000 := by omega
  have hE := fun W (hW : UniqV W b g cap n L.length T) => uniqEmptyV hW H hl hz hj hK
  go_enter Tryd.func23, Tryd.ntmps23
  go_wp2_with fail
  refine hF.mono ?_
  clear hF
  rintro e' w1 ⟨rfl, hb⟩
  replace h := h.below hb
  have hq := h.place N _ hz
  simp only [entCells, List.getElem?_cons_zero, List.getElem?_cons_succ] at hq
  obtain ⟨q0, _, _, _⟩ := hq
  obtain ⟨c0, c1⟩ := h.cells
  replace hE := hE w1 h
  clear h H hz hj hcl
  go_wp2_with fail
  refine hE.mono ?_
  clear hE q0 c0 c1
  rintro e' w2 ⟨rfl, T', hv, hT, hk⟩
  have hk2 := (Keeps.of_below hb (fun k => k = b ∨ k = g)).and (hk.mono fun k h => .inr h)
  have hv3 := hv.setMany (K.length : Int)
  have hk3 := hk2.and (Keeps.of_setCell _ w2 ⟨b, 1, none⟩ (.int .i64 (K.length : Int)) (.inl rfl))
  have f1 := hv.free 1
  obtain ⟨c0, c1⟩ := hv.cells
  have hm : (L.length : Int) - 1 = (K.length : Int) := by omega
  clear hv hk hk2
  replace hv3 := Lib.hid hv3
  replace hk3 := Lib.hid hk3
  go_wp2
  go_ret
  exact ⟨rfl, T', hv3.out, hT, hk3.out⟩
end

end Go.Proofs.YtipocmbplcdmjaaDoor

/-
  The code's table of pairs, by its state.
-/
namespace Go.Proofs.YtipocmbplcdmjaaDoor
open Go Go.RowKit

/-- At block b, in the blocks F, stands the code's table in this state. -/
def UniqAt (w : World) (b : Nat) (F : Nat → Prop) (s : TS) : Prop := ∃ g cap T, F = (fun k => k = b ∨ k = g) ∧ UniqV w b g cap s.slots s.L.length T ∧ TInv s.slots (homeN s.slots) T s.L

theorem Places.of {n : Nat} (hp : ∃ k, n = 2 ^ k) (h8 : 8 ≤ n) (hM : n ≤ 1000000) : Places n := by
  obtain ⟨k, rfl⟩ := hp
  refine ⟨⟨k, rfl, Nat.le_of_not_lt fun h => ?_⟩, hM, h8⟩
  have : 2 ^ 63 ≤ 2 ^ k := Nat.pow_le_pow_right (by decide) h
  omega

theorem TS.Ok.new : TS.Ok ⟨[], 8⟩ := ⟨List.nodup_nil, by simp, ⟨3, rfl⟩, Nat.le_refl _⟩

theorem TS.put_no {s : TS} {e : Ent} (h : (s.get e.1).2 = true) : s.put e = s := by simp [TS.put, h]
theorem TS.put_yes {s : TS} {e : Ent} (h : (s.get e.1).2 = false) : s.put e = ⟨s.L ++ [e], if s.L.length + 1 > s.slots / 2 then 2 * s.slots else s.slots⟩ := by simp [TS.put, h]

theorem TS.get_cases (s : TS) (ap : Apart s.L) (k : Int × Int) : ((∀ e ∈ s.L, e.1 ≠ k) ∧ s.get k = (0, false)) ∨ ∃ e ∈ s.L, e.1 = k ∧ s.get k = (e.2, true) := by
  by_cases h : ∃ e ∈ s.L, e.1 = k
  · obtain ⟨e, he, rfl⟩ := h
    exact .inr ⟨e, he, rfl, TS.get_yes ap he⟩
  · have h1 : ∀ e ∈ s.L, e.1 ≠ k := fun e he hk => h ⟨e, he, hk⟩
    exact .inl ⟨h1, TS.get_no h1⟩

theorem TS.Ok.put {s : TS} (ok : s.Ok) (e : Ent) : (s.put e).Ok := by
  rcases s.get_cases ok.apart e.1 with ⟨hno, hg⟩ | ⟨x, hx, hxe, hg⟩
  · rw [TS.put_yes (by rw [hg])]
    have h1 := ok.half
    have h2 := ok.least
    obtain ⟨k, hk⟩ := ok.pow
    refine ⟨?_, ?_, ?_, ?_⟩
    · have : Apart (e :: s.L) := by
        simp only [Apart, List.map_cons, List.nodup_cons, List.mem_map, not_exists, not_and]
        exact ⟨fun x hx hk => hno x hx hk, ok.apart⟩
      exact this.perm (by have := List.perm_append_comm (l₁ := [e]) (l₂ := s.L); simpa using this)
    · show 2 * (s.L ++ [e]).length ≤ if s.L.length + 1 > s.slots / 2 then 2 * s.slots else s.slots
      rw [List.length_append]
      simp only [List.length_singleton]
      split <;> omega
    · show ∃ k, (if s.L.length + 1 > s.slots / 2 then 2 * s.slots else s.slots) = 2 ^ k
      split
      · exact ⟨k + 1, by rw [Nat.pow_succ, hk]; omega⟩
      · exact ⟨k, hk⟩
    · show 8 ≤ if s.L.length + 1 > s.slots / 2 then 2 * s.slots else s.slots
      split <;> omega
  · rw [TS.put_no (by rw [hg])]; exact ok

theorem TS.Ok.drop {s : TS} (ok : s.Ok) (k : Int × Int) : (s.drop k).Ok := by
  have h1 := ok.half
  have h2 : (s.L.filter (fun e => e.1 != k)).length ≤ s.L.length := List.length_filter_le _ _
  refine ⟨?_, ?_, ok.pow, ok.least⟩
  · exact ok.apart.sublist (List.Sublist.map _ List.filter_sublist)
  · show 2 * (s.L.filter (fun e => e.1 != k)).length ≤ s.slots
    omega

section
variable {w w' : World} {b : Nat} {F G : Nat → Prop} {s : TS}

theorem UniqAt.keep (h : UniqAt w b F s) (hb : Keeps G w w') (hF : ∀ k, F k → ¬ G k) : UniqAt w' b F s := by
  obtain ⟨g, cap, T, rfl, h, H⟩ := h
  exact ⟨g, cap, T, rfl, h.keep hb hF, H⟩
theorem UniqAt.below (h : UniqAt w b F s) (hb : Below w.heap.size w w') : UniqAt w' b F s := h.keep (Keeps.of_below hb noBlock) (fun _ _ h => h)
theorem UniqAt.lt (h : UniqAt w b F s) (k : Nat) (hk : F k) : k < w.heap.size := by
  obtain ⟨g, cap, T, rfl, h, H⟩ := h
  rcases hk with rfl | rfl
  · exact h.ltb
  · exact h.ltg

theorem uniqNewS (w : World) : Calls Tryd.prog 19 #[] w fun e w' => e = .returned (.pointer (some ⟨w.heap.size + 1, 0, none⟩)) ∧ (∃ F, UniqAt w' (w.heap.size + 1) F ⟨[], 8⟩ ∧ ∀ k, F k → w.heap.size ≤ k) ∧ Below w.heap.size w w' := by
  refine (uniqNew w).mono fun e w' ⟨he, hR, hb⟩ => ⟨he, ⟨_, ⟨w.heap.size, 8, _, rfl, ⟨List.length_replicate, hR⟩, TInv.bare 8 (homeN 8) (fun k => homeN_lt (by decide) k)⟩, ?_⟩, hb⟩
  rintro k (rfl | rfl) <;> omega

theorem uniqGetS (h : UniqAt w b F s) (ok : s.Ok) (hM : s.slots ≤ 1000000) (k1 k2 : Int) : Calls Tryd.prog 63 #[.pointer (some ⟨b, 0, none⟩), .int .i64 k1, .int .i64 k2] w fun e w' => e = .returned (.tuple #[.int .i64 (s.get (k1, k2)).1, .bool (s.get (k1, k2)).2]) ∧ Below w.heap.size w w' := by
  obtain ⟨g, cap, T, rfl, h, H⟩ := h
  have hl := Places.of ok.pow ok.least hM
  have h1 := ok.half
  have h8 := ok.least
  obtain ⟨c, Fd⟩ := found_exists H.len H.home (by have := H.perm.length_eq; omega) (k1, k2)
  rcases H.search Fd with ⟨h2, h3⟩ | ⟨e, he, hk, h2⟩
  · have := uniqGetV h hl k1 k2 Fd h2
    rwa [TS.get_no h3]
  · have := uniqGetV h hl k1 k2 Fd h2
    have hg := TS.get_yes ok.apart he
    rw [hk] at hg
    rwa [hg]

theorem uniqPutS (h : UniqAt w b F s) (ok : s.Ok) (hM : 2 * s.slots ≤ 1000000) (k1 k2 x : Int) : Calls Tryd.prog 61 #[.pointer (some ⟨b, 0, none⟩), .int .i64 k1, .int .i64 k2, .int .i64 x] w fun e w' => e = .returned (.bool (s.putB (k1, k2))) ∧ ∃ F', UniqAt w' b F' (s.put ((k1, k2), x)) ∧ Keeps F w w' ∧ Within w F F' := by
  obtain ⟨g, cap, T, rfl, h, H⟩ := h
  have h8 := ok.least
  have hl := Places.of ok.pow ok.least (by omega)
  obtain ⟨k, hk⟩ := ok.pow
  have hl2 := Places.of (n := 2 * s.slots) ⟨k + 1, by rw [Nat.pow_succ, hk]; omega⟩ (by omega) hM
  rcases s.get_cases ok.apart (k1, k2) with ⟨hno, hg⟩ | ⟨e, he, hk, hg⟩
  · rw [TS.put_yes (e := ((k1, k2), x)) (by rw [hg])]
    unfold TS.putB
    rw [hg]
    refine (uniqPutYes h H hl hl2 ok.half k1 k2 x hno).mono fun e w' ⟨he, g', cap', n', T', hn', hv, hT, hK, hg'⟩ => ⟨he, _, ⟨g', cap', T', rfl, ?_, ?_⟩, hK, ?_⟩
    · subst hn'; rw [List.length_append]; exact hv
    · subst hn'; exact hT
    · rintro i (rfl | rfl)
      · exact .inl (.inl rfl)
      · rcases hg' with rfl | hg'
        · exact .inl (.inr rfl)
        · exact .inr hg'
  · rw [TS.put_no (e := ((k1, k2), x)) (by rw [hg])]
    unfold TS.putB
    rw [hg]
    exact (uniqPutNo h H hl ok.half k1 k2 x he hk).mono fun e w' ⟨he, hb⟩ => ⟨he, _, ⟨g, cap, T, rfl, h.below hb, H⟩, Keeps.of_below hb _, Within.refl _ _⟩

theorem uniqDropS (h : UniqAt w b F s) (ok : s.Ok) (hM : s.slots ≤ 1000000) (k1 k2 : Int) : Calls Tryd.prog 23 #[.pointer (some ⟨b, 0, none⟩), .int .i64 k1, .int .i64 k2] w fun e w' => e = .returned (.bool (s.dropB (k1, k2))) ∧ ∃ F', UniqAt w' b F' (s.drop (k1, k2)) ∧ Keeps F w w' ∧ Within w F F' := by
  obtain ⟨g, cap, T, rfl, h, H⟩ := h
  have hl := Places.of ok.pow ok.least hM
  rcases s.get_cases ok.apart (k1, k2) with ⟨hno, hg⟩ | ⟨e, he, hk, hg⟩
  · have hs : s.drop (k1, k2) = s := by unfold TS.drop; rw [filter_no hno]
    rw [hs]
    unfold TS.dropB
    rw [hg]
    exact (uniqDropNo h H hl ok.half k1 k2 hno).mono fun e w' ⟨he, hb⟩ => ⟨he, _, ⟨g, cap, T, rfl, h.below hb, H⟩, Keeps.of_below hb _, Within.refl _ _⟩
  · have hp := filter_yes ok.apart he
    obtain ⟨⟨e1, e2⟩, e3⟩ := e
    simp only at hk
    injection hk with hk1 hk2
    subst hk1 hk2
    unfold TS.dropB
    rw [hg]
    exact (uniqDropYes h H hl ok.half hp).mono fun r w' ⟨he, T', hv, hT, hK⟩ => ⟨he, _, ⟨g, cap, T', rfl, hv, hT⟩, hK, Within.refl _ _⟩
end

end Go.Proofs.YtipocmbplcdmjaaDoor

/-
  A region whose order is open: operations that read no memory come first, in whatever order they stand; those behind them come one after another. One walk serves every order. Nothing of the program is read here.
-/
namespace Go.Proofs.YtipocmbplcdmjaaDoor
open Go Go.RowKit

section
variable {P : Program} {ops : Array Oper} {md : Region.Mode}

end

end Go.Proofs.YtipocmbplcdmjaaDoor

/-
  A region whose order is open: its first operations are quiet in a class of worlds; then one comes that waits for all of them, whatever it does; those behind it read no memory, in whatever order they stand. Nothing of the program is read here.
-/
namespace Go.Proofs.YtipocmbplcdmjaaDoor
open Go Go.RowKit

section
variable {P : Program} {ops : Array Oper} {md : Region.Mode} {C : World → Prop}

end

end Go.Proofs.YtipocmbplcdmjaaDoor

/-
  Orders of eight numbers, as the program holds them.
-/
namespace Go.Proofs.YtipocmbplcdmjaaDoor
open Go Go.RowKit

/-- An order, as the program holds it. -/
def ov (o : Nat → Int) : Value := .agg #[.int .i64 (o 0), .int .i64 (o 1), .int .i64 (o 2), .int .i64 (o 3), .int .i64 (o 4), .int .i64 (o 5), .int .i64 (o 6), .int .i64 (o 7)]

/-- Block b is a variable that holds the order o. -/
def HoldsO (w : World) (b : Nat) (o : Nat → Int) : Prop := w.heap[b]? = some (.cells #[.int .i64 (o 0), .int .i64 (o 1), .int .i64 (o 2), .int .i64 (o 3), .int .i64 (o 4), .int .i64 (o 5), .int .i64 (o 6), .int .i64 (o 7)] 37 (0, 0))

theorem HoldsO.lt {w : World} {b : Nat} {o : Nat → Int} (h : HoldsO w b o) : b < w.heap.size := by
  rcases Nat.lt_or_ge b w.heap.size with h' | h'
  · exact h'
  · unfold HoldsO at h; rw [Array.getElem?_eq_none h'] at h; cases h
theorem HoldsO.keep {w w' : World} {b B : Nat} {o : Nat → Int} (h : HoldsO w b o) (hb : Below B w w') (hB : b < B) : HoldsO w' b o := by
  unfold HoldsO; rw [hb.block b hB]; exact h
theorem HoldsO.sub {wr : World} {b : Nat} {o : Nat → Int} (h : HoldsO wr b o) (u : Sub wr) : HoldsO u.1 b o := h.keep u.2 h.lt
theorem HoldsO.alloc {w : World} {b : Nat} {o : Nat → Int} (h : HoldsO w b o) (x : Obj) : HoldsO (w.alloc x) b o := by
  unfold HoldsO; rw [heap_alloc_old _ _ h.lt]; exact h
theorem HoldsO.new (w : World) (o : Nat → Int) (b : Nat) (hb : b = w.heap.size := by simp) : HoldsO (w.alloc (.cells #[.int .i64 (o 0), .int .i64 (o 1), .int .i64 (o 2), .int .i64 (o 3), .int .i64 (o 4), .int .i64 (o 5), .int .i64 (o 6), .int .i64 (o 7)] 37)) b o := by
  subst hb
  exact heap_alloc_new _ _
theorem HoldsO.cell {w : World} {b : Nat} {o : Nat → Int} (h : HoldsO w b o) (i : Nat) (hi : i < 8) : w.cell? ⟨b, i, none⟩ = some (.int .i64 (o i)) := by
  rw [cell_of_row _ _ _ _ _ _ h]
  rcases (by omega : i = 0 ∨ i = 1 ∨ i = 2 ∨ i = 3 ∨ i = 4 ∨ i = 5 ∨ i = 6 ∨ i = 7) with rfl | rfl | rfl | rfl | rfl | rfl | rfl | rfl <;> rfl
theorem HoldsO.free {w : World} {b : Nat} {o : Nat → Int} (h : HoldsO w b o) (j : Nat) : w.frozen? ⟨b, j, none⟩ = false := frozen_of_row _ _ _ _ _ h

/-- A place of it written. -/
def setO (o : Nat → Int) (i : Nat) (x : Int) : Nat → Int := fun j => if j = i then x else o j
theorem HoldsO.set {w : World} {b : Nat} {o : Nat → Int} (h : HoldsO w b o) (i : Nat) (hi : i < 8) (x : Int) : HoldsO (w.setCell ⟨b, i, none⟩ (.int .i64 x)) b (setO o i x) := by
  have h1 := heap_setCell_same w b i _ _ (.int .i64 x) h
  unfold HoldsO
  rw [h1]
  rcases (by omega : i = 0 ∨ i = 1 ∨ i = 2 ∨ i = 3 ∨ i = 4 ∨ i = 5 ∨ i = 6 ∨ i = 7) with rfl | rfl | rfl | rfl | rfl | rfl | rfl | rfl <;> rfl
theorem HoldsO.other {w : World} {b c : Nat} {o : Nat → Int} (h : HoldsO w b o) (hne : b ≠ c) (i : Nat) (x : Value) : HoldsO (w.setCell ⟨c, i, none⟩ x) b o := by
  unfold HoldsO; rw [Below.heap_setCell _ _ _ _ hne]; exact h
theorem HoldsO.congr {w : World} {b : Nat} {o p : Nat → Int} (h : HoldsO w b o) (he : ∀ i, i < 8 → o i = p i) : HoldsO w b p := by
  unfold HoldsO at *
  rw [h, he 0 (by decide), he 1 (by decide), he 2 (by decide), he 3 (by decide), he 4 (by decide), he 5 (by decide), he 6 (by decide), he 7 (by decide)]

theorem ret_holdsO {fn : Func} {p : Tmp} {tmps : Array Value} {w : World} {b : Nat} {o : Nat → Int} (h : fn.results = #[.cell p 37]) (hp : tmps.getD p undef = .pointer (some ⟨b, 0, none⟩)) (hh : HoldsO w b o) :
    (results fn tmps).run Tryd.prog w = .ok (ov o) w :=
  results_cell_row h tmps w b _ _ _ _ hp hh Tryd.underlying37 rfl (by kernel_rfl)

theorem HoldsO.set8 {w : World} {b : Nat} {o : Nat → Int} (h : HoldsO w b o) (p : Nat → Int) :
    HoldsO ((((((((w.setCell ⟨b, 0, none⟩ (.int .i64 (p 0))).setCell ⟨b, 1, none⟩ (.int .i64 (p 1))).setCell ⟨b, 2, none⟩ (.int .i64 (p 2))).setCell ⟨b, 3, none⟩ (.int .i64 (p 3))).setCell ⟨b, 4, none⟩ (.int .i64 (p 4))).setCell ⟨b, 5, none⟩ (.int .i64 (p 5))).setCell ⟨b, 6, none⟩ (.int .i64 (p 6))).setCell ⟨b, 7, none⟩ (.int .i64 (p 7))) b p :=
  HoldsO.congr ((((((((h.set 0 (by decide) (p 0)).set 1 (by decide) (p 1)).set 2 (by decide) (p 2)).set 3 (by decide) (p 3)).set 4 (by decide) (p 4)).set 5 (by decide) (p 5)).set 6 (by decide) (p 6)).set 7 (by decide) (p 7)) (fun i hi => by
    rcases (by omega : i = 0 ∨ i = 1 ∨ i = 2 ∨ i = 3 ∨ i = 4 ∨ i = 5 ∨ i = 6 ∨ i = 7) with rfl | rfl | rfl | rfl | rfl | rfl | rfl | rfl <;> rfl)
theorem below_set8 {B b : Nat} {a w : World} {x0 x1 x2 x3 x4 x5 x6 x7 : Value} (h : Below B a w) (hb : B ≤ b) :
    Below B a ((((((((w.setCell ⟨b, 0, none⟩ x0).setCell ⟨b, 1, none⟩ x1).setCell ⟨b, 2, none⟩ x2).setCell ⟨b, 3, none⟩ x3).setCell ⟨b, 4, none⟩ x4).setCell ⟨b, 5, none⟩ x5).setCell ⟨b, 6, none⟩ x6).setCell ⟨b, 7, none⟩ x7) :=
  (((((((h.setCell hb _).setCell hb _).setCell hb _).setCell hb _).setCell hb _).setCell hb _).setCell hb _).setCell hb _

end Go.Proofs.YtipocmbplcdmjaaDoor
