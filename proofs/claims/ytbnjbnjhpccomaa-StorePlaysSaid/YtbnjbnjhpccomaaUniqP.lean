/-
  Walks of package uniq: Put, Drop.
-/
import Derived.Test.YtbnjbnjhpccomaaUniqE
namespace Go.Proofs.Ytbnjbnjhpccomaa
open Go Go.RowKit

theorem chain_place (W : World) (g o : Nat) (k1 k2 x : Int) : (((W.setCell ⟨g, o, none⟩ (.bool true)).setCell ⟨g, o + 1, none⟩ (.int .i64 k1)).setCell ⟨g, o + 2, none⟩ (.int .i64 k2)).setCell ⟨g, o + 3, none⟩ (.int .i64 x) = W.setCells g o (entCells (some ((k1, k2), x))) := rfl

section
variable {w : World} {b g cap n : Nat} {T : List (Option Ent)} {L : List Ent}

set_option maxRecDepth 100000 in
set_option maxHeartbeats 1000000 in
theorem uniqPutNo (h : UniqV w b g cap n L.length T) (H : TInv n (homeN n) T L) (hl : Places n) (hh : 2 * L.length ≤ n) (k1 k2 x : Int) {e : Ent} (he : e ∈ L) (hk : e.1 = (k1, k2)) :
    Calls Try.prog 71 #[.pointer (some ⟨b, 0, none⟩), .int .i64 k1, .int .i64 k2, .int .i64 x] w fun e w' => e = .returned (.bool false) ∧ Below w.heap.size w w' := by
  have h8 := hl.least
  have hcl : (content T).length < n := by have := H.perm.length_eq; omega
  obtain ⟨c, F⟩ := found_exists H.len H.home hcl (k1, k2)
  have hNlt : onBy n (homeN n (k1, k2)) c < n := onBy_lt (homeN_lt (by omega) _) (Nat.le_of_lt F.lt)
  obtain ⟨z, hz⟩ : ∃ z : Ent, T[onBy n (homeN n (k1, k2)) c]? = some (some z) := by
    rcases H.search F with ⟨_, h1⟩ | ⟨z, _, _, h1⟩
    · exact absurd hk (h1 e he)
    · exact ⟨z, h1⟩
  have hF := fun W (hW : UniqV W b g cap n L.length T) => uniqFindV hW hl k1 k2 F
  clear F
  generalize onBy n (homeN n (k1, k2)) c = N at *
  have hN0 : (0 : Int) ≤ (N : Int) := by omega
  have hN1 : (N : Int) < (n : Int) := by omega
  go_enter Try.func71, Try.ntmps71
  go_wp2_with fail
  have hb : Below w.heap.size w (w.alloc (.cells #[.int .i64 k1, .int .i64 k2] 94)) := by go_grown
  replace h := h.below hb
  generalize w.alloc (.cells #[.int .i64 k1, .int .i64 k2] 94) = W at *
  refine (hF W h).mono ?_
  clear hF
  rintro e' w1 ⟨rfl, hb1⟩
  replace h := h.below hb1
  replace hb := hb.trans (hb1.mono hb.size)
  clear hb1
  have hq := h.place N _ hz
  simp only [entCells, List.getElem?_cons_zero, List.getElem?_cons_succ] at hq
  obtain ⟨q0, _, _, _⟩ := hq
  obtain ⟨c0, c1⟩ := h.cells
  clear h H hz he hk hcl
  go_wp2
  go_ret
  exact ⟨rfl, hb⟩

set_option maxRecDepth 100000 in
set_option maxHeartbeats 1000000 in
theorem uniqPutYes (h : UniqV w b g cap n L.length T) (H : TInv n (homeN n) T L) (hl : Places n) (hl2 : Places (2 * n)) (hh : 2 * L.length ≤ n) (k1 k2 x : Int) (hno : ∀ e ∈ L, e.1 ≠ (k1, k2)) :
    Calls Try.prog 71 #[.pointer (some ⟨b, 0, none⟩), .int .i64 k1, .int .i64 k2, .int .i64 x] w fun e w' => e = .returned (.bool true) ∧ ∃ g' cap' n' T', n' = (if L.length + 1 > n / 2 then 2 * n else n) ∧ UniqV w' b g' cap' n' ((L.length + 1 : Nat) : Int) T' ∧ TInv n' (homeN n') T' (L ++ [((k1, k2), x)]) ∧ Keeps (fun k => k = b ∨ k = g) w w' ∧ (g' = g ∨ w.heap.size ≤ g') := by
  have h8 := hl.least
  have hM := hl.most
  have hcl : (content T).length < n := by have := H.perm.length_eq; omega
  obtain ⟨c, F⟩ := found_exists H.len H.home hcl (k1, k2)
  have hNlt : onBy n (homeN n (k1, k2)) c < n := onBy_lt (homeN_lt (by omega) _) (Nat.le_of_lt F.lt)
  have hz : T[onBy n (homeN n (k1, k2)) c]? = some none := by
    rcases H.search F with ⟨h1, _⟩ | ⟨z, hz, hk, _⟩
    · exact h1
    · exact absurd hk (hno z hz)
  have hput := H.put (e := ((k1, k2), x)) F hz
  have hF := fun W (hW : UniqV W b g cap n L.length T) => uniqFindV hW hl k1 k2 F
  clear F hno
  simp only at hput
  generalize onBy n (homeN n (k1, k2)) c = N at *
  have hN0 : (0 : Int) ≤ (N : Int) := by omega
  have hN1 : (N : Int) < (n : Int) := by omega
  have hL1 : (0 : Int) ≤ (L.length : Int) := by omega
  have hL2 : (L.length : Int) ≤ 1000000 := by omega
  have hn0 : (0 : Int) ≤ (n : Int) := by omega
  have hn2 : (n : Int) ≤ 1000000 := by omega
  replace hput := Lib.hid hput
  go_enter Try.func71, Try.ntmps71
  go_wp2_with fail
  have hp := PairAt.new w k1 k2
  have hb : Below w.heap.size w (w.alloc (.cells #[.int .i64 k1, .int .i64 k2] 94)) := by go_grown
  replace h := h.below hb
  generalize w.alloc (.cells #[.int .i64 k1, .int .i64 k2] 94) = W at *
  refine (hF W h).mono ?_
  clear hF
  rintro e' w1 ⟨rfl, hb1⟩
  replace h := h.below hb1
  replace hp := hp.keep hb1
  replace hb := hb.trans (hb1.mono hb.size)
  clear hb1
  have hq := h.place N _ hz
  simp only [entCells, List.getElem?_cons_zero, List.getElem?_cons_succ] at hq
  obtain ⟨q0, q1, q2, q3⟩ := hq
  obtain ⟨c0, c1⟩ := h.cells
  replace h := Lib.hid h
  replace hp := Lib.hid hp
  clear H hcl
  go_wp2
  clear c0 c1 q0 q1 q2 q3
  refine wp_region_quiet_tail (C := fun w' => ∃ u : Sub w1, w' = u.1) 9 (by kernel_rfl) (by kernel_rfl) (InSub.drew w1) ?_
  have x0 : ∀ s : Sub w1, s.1.cell? ⟨b, 0, none⟩ = some (.slice (some ⟨g, 0, none⟩) n cap) := fun s => (h.out.below s.2).cells.1
  have r0 := fun s : Sub w1 => (hp.out.keep s.2).cells.1
  have r1 := fun s : Sub w1 => (hp.out.keep s.2).cells.2
  simp only [List.take_succ_cons, List.take_zero]
  iterate 9 (go_big_quiet_step (fail))
  refine wpQuiet_nil ?_
  clear x0 r0 r1
  intro w' hw'
  obtain ⟨s, rfl⟩ := hw'
  have hb2 := hb.trans (s.2.mono hb.size)
  have hv := h.out.below s.2
  clear h hp hb
  generalize s.1 = W1 at *
  have hv2 := hv.putPlace hNlt (some ((k1, k2), x))
  have hk2 := (Keeps.of_below hb2 (fun k => k = b ∨ k = g)).and (Keeps.of_setCells (fun k => k = b ∨ k = g) g (.inr rfl) (entCells (some ((k1, k2), x))) (N * 4) W1)
  have hq := hv.place N _ hz
  simp only [entCells, List.getElem?_cons_zero, List.getElem?_cons_succ] at hq
  obtain ⟨z0, z1, z2, z3⟩ := hq
  have y0 := hv.freeP (N * 4)
  have y1 := hv.freeP (N * 4 + 1)
  have y2 := hv.freeP (N * 4 + 2)
  have y3 := hv.freeP (N * 4 + 3)
  replace hv2 := Lib.hid hv2
  replace hk2 := Lib.hid hk2
  clear hv hz
  simp only [List.drop_succ_cons, List.drop_zero]
  apply wpList_step
  intro K hK
  go_simp
  apply hK
  clear hK z0 z1 z2 z3 y0 y1 y2 y3
  rw [chain_place]
  generalize W1.setCells g (N * 4) (entCells (some ((k1, k2), x))) = W2 at *
  refine wpList_nil ?_
  have hv3 := hv2.out.setMany ((L.length + 1 : Nat) : Int)
  have hk3 := hk2.out.and (Keeps.of_setCell _ W2 ⟨b, 1, none⟩ (.int .i64 ((L.length + 1 : Nat) : Int)) (.inl rfl))
  have f1 := hv2.out.free 1
  obtain ⟨c0, c1⟩ := hv2.out.cells
  replace hv3 := Lib.hid hv3
  replace hk3 := Lib.hid hk3
  clear hv2 hk2
  go_wp2
  clear c0 c1 f1
  rw [show (L.length : Int) + 1 = ((L.length + 1 : Nat) : Int) by omega]
  generalize W2.setCell ⟨b, 1, none⟩ (.int .i64 ((L.length + 1 : Nat) : Int)) = W3 at *
  obtain ⟨c0, c1⟩ := hv3.out.cells
  have hq0 : (0 : Int) ≤ (n : Int) / 2 := by omega
  have hq1 : (n : Int) / 2 ≤ 1000000 := by omega
  have HV := hv3.out.drewN
  have HK := fun q => hk3.out.and (Keeps.of_below (below_drewN (n := q) (Below.refl W3.heap.size W3)) _)
  have hsz : ∀ q, w.heap.size ≤ (W3.drewN q).heap.size := fun q => hk3.out.size
  replace HV := Lib.hid HV
  replace HK := Lib.hid HK
  replace hsz := Lib.hid hsz
  by_cases hd : L.length + 1 > n / 2
  · have hd1 : (n : Int) / 2 < ((L.length + 1 : Nat) : Int) := by omega
    replace hb2 := Lib.hid hb2
    replace hd := Lib.hid hd
    generalize hm : L.length + 1 = M at *
    go_quiet (fail)
    clear c0 c1
    go_wp2_with fail
    refine (uniqDoubleV (HV.out _) hput.out hl hl2).mono ?_
    rintro e w4 ⟨rfl, g', T', hg', hv4, hT4, hk4⟩
    go_wp2
    go_ret
    refine ⟨rfl, g', 2 * n, T', hv4, hT4, (HK.out _).and (hk4.mono fun k h => .inl h), .inr ?_⟩
    exact Nat.le_trans (hsz.out _) hg'
  · have hd1 : ¬ (n : Int) / 2 < ((L.length + 1 : Nat) : Int) := by omega
    replace hb2 := Lib.hid hb2
    replace hd := Lib.hid hd
    generalize hm : L.length + 1 = M at *
    go_quiet (fail)
    clear c0 c1
    go_wp2
    go_ret
    exact ⟨rfl, g, cap, _, HV.out _, hput.out, HK.out _, .inl rfl⟩

set_option maxRecDepth 100000 in
set_option maxHeartbeats 1000000 in
theorem uniqDropNo (h : UniqV w b g cap n L.length T) (H : TInv n (homeN n) T L) (hl : Places n) (hh : 2 * L.length ≤ n) (k1 k2 : Int) (hno : ∀ e ∈ L, e.1 ≠ (k1, k2)) :
    Calls Try.prog 37 #[.pointer (some ⟨b, 0, none⟩), .int .i64 k1, .int .i64 k2] w fun e w' => e = .returned (.bool false) ∧ Below w.heap.size w w' := by
  have h8 := hl.least
  have hcl : (content T).length < n := by have := H.perm.length_eq; omega
  obtain ⟨c, F⟩ := found_exists H.len H.home hcl (k1, k2)
  have hNlt : onBy n (homeN n (k1, k2)) c < n := onBy_lt (homeN_lt (by omega) _) (Nat.le_of_lt F.lt)
  have hz : T[onBy n (homeN n (k1, k2)) c]? = some none := by
    rcases H.search F with ⟨h1, _⟩ | ⟨z, hz, hk, _⟩
    · exact h1
    · exact absurd hk (hno z hz)
  have hF := uniqFindV h hl k1 k2 F
  clear F
  generalize onBy n (homeN n (k1, k2)) c = N at *
  have hN0 : (0 : Int) ≤ (N : Int) := by omega
  have hN1 : (N : Int) < (n : Int) := by omega
  go_enter Try.func37, Try.ntmps37
  go_wp2_with fail
  refine hF.mono ?_
  clear hF
  rintro e' w1 ⟨rfl, hb⟩
  replace h := h.below hb
  have hq := h.place N _ hz
  simp only [entCells, List.getElem?_cons_zero, List.getElem?_cons_succ] at hq
  obtain ⟨q0, _, _, _⟩ := hq
  obtain ⟨c0, c1⟩ := h.cells
  clear h H hz hno hcl
  go_wp2
  go_ret
  exact ⟨rfl, hb⟩

set_option maxRecDepth 100000 in
set_option maxHeartbeats 1000000 in
theorem uniqDropYes (h : UniqV w b g cap n L.length T) (H : TInv n (homeN n) T L) (hl : Places n) (hh : 2 * L.length ≤ n) {e : Ent} {K : List Ent} (hK : L.Perm (e :: K)) :
    Calls Try.prog 37 #[.pointer (some ⟨b, 0, none⟩), .int .i64 e.1.1, .int .i64 e.1.2] w fun r w' => r = .returned (.bool true) ∧ ∃ T', UniqV w' b g cap n (K.length : Int) T' ∧ TInv n (homeN n) T' K ∧ Keeps (fun k => k = b ∨ k = g) w w' := by
  have h8 := hl.least
  have hM := hl.most
  have hcl : (content T).length < n := by have := H.perm.length_eq; omega
  have hLK : L.length = K.length + 1 := hK.length_eq
  obtain ⟨j, hj⟩ := exists_empty T (by rw [h.len]; exact hcl)
  obtain ⟨c, F⟩ := found_exists H.len H.home hcl e.1
  have hNlt : onBy n (homeN n e.1) c < n := onBy_lt (homeN_lt (by omega) _) (Nat.le_of_lt F.lt)
  have hz := H.found (hK.mem_iff.2 (List.mem_cons_self)) F
  obtain ⟨⟨k1, k2⟩, x⟩ := e
  have hF := uniqFindV h hl k1 k2 F
  clear F
  simp only at hz hNlt
  generalize onBy n (homeN n (k1, k2)) c = N at *
  have hN0 : (0 : Int) ≤ (N : Int) := by omega
  have hN1 : (N : Int) < (n : Int) := by omega
  have hL1 : (0 : Int) ≤ (K.length : Int) := by omega
  have hL2 : (K.length : Int) ≤ 1000000 := by omega
  have hE := fun W (hW : UniqV W b g cap n L.length T) => uniqEmptyV hW H hl hz hj hK
  go_enter Try.func37, Try.ntmps37
  go_wp2_with fail
  refine hF.mono ?_
  clear hF
  rintro e' w1 ⟨rfl, hb⟩
  replace h := h.below hb
  have hq := h.place N _ hz
  simp only [entCells, List.getElem?_cons_zero, List.getElem?_cons_succ] at hq
  obtain ⟨q0, _, _, _⟩ := hq
  obtain ⟨c0, c1⟩ := h.cells
  replace hE := hE w1 h
  clear h H hz hj hcl
  go_wp2_with fail
  refine hE.mono ?_
  clear hE q0 c0 c1
  rintro e' w2 ⟨rfl, T', hv, hT, hk⟩
  have hk2 := (Keeps.of_below hb (fun k => k = b ∨ k = g)).and (hk.mono fun k h => .inr h)
  have hv3 := hv.setMany (K.length : Int)
  have hk3 := hk2.and (Keeps.of_setCell _ w2 ⟨b, 1, none⟩ (.int .i64 (K.length : Int)) (.inl rfl))
  have f1 := hv.free 1
  obtain ⟨c0, c1⟩ := hv.cells
  have hm : (L.length : Int) - 1 = (K.length : Int) := by omega
  clear hv hk hk2
  replace hv3 := Lib.hid hv3
  replace hk3 := Lib.hid hk3
  go_wp2
  go_ret
  exact ⟨rfl, T', hv3.out, hT, hk3.out⟩
end

end Go.Proofs.Ytbnjbnjhpccomaa
