/-
  Walks of the code's store: hang, lay.
-/
import Derived.Test.YtbnjbnjhpccomaaCoW2
namespace Go.Proofs.Ytbnjbnjhpccomaa
open Go Go.RowKit

theorem list_set_same {α : Type} {l : List α} {j : Nat} {v : α} (h : l[j]? = some v) : l.set j v = l := by
  refine List.ext_getElem? fun i => ?_
  rw [List.getElem?_set]
  split
  · rename_i e
    subst e
    have := (List.getElem?_eq_some_iff.1 h).1
    rw [if_pos this]
    exact h.symm
  · rfl
theorem encX_cell (X : List (Nd × Int)) (i : Nat) (hi : i < X.length) : (encX.all X)[i * 4]? = some (.int .i64 X[i].1.var) ∧ (encX.all X)[i * 4 + 1]? = some (.int .i64 X[i].1.lo) ∧ (encX.all X)[i * 4 + 2]? = some (.int .i64 X[i].1.hi) ∧ (encX.all X)[i * 4 + 3]? = some (.int .i64 X[i].2) :=
  ⟨encX.all_get X i hi 0 (by decide), encX.all_get X i hi 1 (by decide), encX.all_get X i hi 2 (by decide), encX.all_get X i hi 3 (by decide)⟩
/-- How often one is had, written. -/
theorem encX_above (X : List (Nd × Int)) (i : Nat) (hi : i < X.length) (k : Int) : encX.all (X.set i (X[i].1, k)) = (encX.all X).set (i * 4 + 3) (.int .i64 k) := by
  obtain ⟨h0, h1, h2, _⟩ := encX_cell X i hi
  rw [encX.all_set X i hi]
  show ((((encX.all X).set (i * 4) (.int .i64 X[i].1.var)).set (i * 4 + 1) (.int .i64 X[i].1.lo)).set (i * 4 + 1 + 1) (.int .i64 X[i].1.hi)).set (i * 4 + 1 + 1 + 1) (.int .i64 k) = _
  rw [list_set_same h0, list_set_same h1, list_set_same h2]
/-- A node, written. -/
theorem encX_node (X : List (Nd × Int)) (i : Nat) (hi : i < X.length) (x : Nd) : encX.all (X.set i (x, X[i].2)) = setMany (encX.all X) (i * 4) [.int .i64 x.var, .int .i64 x.lo, .int .i64 x.hi] := by
  obtain ⟨_, _, _, h3⟩ := encX_cell X i hi
  rw [encX.all_set X i hi]
  show ((((encX.all X).set (i * 4) (.int .i64 x.var)).set (i * 4 + 1) (.int .i64 x.lo)).set (i * 4 + 1 + 1) (.int .i64 x.hi)).set (i * 4 + 1 + 1 + 1) (.int .i64 X[i].2) = (((encX.all X).set (i * 4) (.int .i64 x.var)).set (i * 4 + 1) (.int .i64 x.lo)).set (i * 4 + 1 + 1) (.int .i64 x.hi)
  refine list_set_same ?_
  rw [List.getElem?_set_ne (by omega), List.getElem?_set_ne (by omega), List.getElem?_set_ne (by omega)]
  exact h3

section
variable {w : World} {b bA : Nat} {FA F : Nat → Prop} {bT : Nat → Nat} {FT : Nat → Nat → Prop} {v : Value} {o : Nat → Int} {ar : AS} {X : List (Nd × Int)} {tabs : Nat → TS} {s : MS} {R : List Int} {f : Int → Int}

theorem CoR.putNode {g n cap i : Nat} (h : CoR w b bA FA bT FT (.slice (some ⟨g, 0, none⟩) n cap) o ar X tabs) (hi : i < X.length) (x : Nd) :
    CoR (w.setCells g (i * 4) [.int .i64 x.var, .int .i64 x.lo, .int .i64 x.hi]) b bA FA bT FT (.slice (some ⟨g, 0, none⟩) n cap) o ar (X.set i (x, X[i].2)) tabs ∧ Keeps (footC b FA FT (.slice (some ⟨g, 0, none⟩) n cap)) w (w.setCells g (i * 4) [.int .i64 x.var, .int .i64 x.lo, .int .i64 x.hi]) := by
  refine h.setX rfl ?_ (Keeps.of_setCells (fun k => k = g) g rfl _ _ w)
  have hO := h.places
  obtain ⟨a, c, hv, _⟩ := hO.form
  injection hv with _ hn _
  subst hn
  have h1 := ownsRow_setCells [.int .i64 x.var, .int .i64 x.lo, .int .i64 x.hi] (i * 4) w _ hO
  unfold Owns
  rw [List.length_set, encX_node X i hi x]
  exact h1

/-- What a part of a node's sides has. -/
def cntK (x : Nd) (k : Nat) (m : Int) : Int := (if 1 ≤ k ∧ x.lo = m then 1 else 0) + (if 2 ≤ k ∧ x.hi = m then 1 else 0)
theorem cntK_zero (x : Nd) (m : Int) : cntK x 0 m = 0 := by simp [cntK]
theorem cntK_one (x : Nd) (m : Int) : cntK x 1 m = if x.lo = m then 1 else 0 := by simp [cntK]
theorem cntK_two (x : Nd) (m : Int) : cntK x 2 m = cnt x m := by simp [cntK, cnt]
theorem cntK_range (x : Nd) (k : Nat) (m : Int) : 0 ≤ cntK x k m ∧ cntK x k m ≤ 2 := by
  unfold cntK; split <;> split <;> decide

theorem cntK_next (x : Nd) {k : Nat} (hk : k < 2) {by' : Int} (hby : by' = 1 ∨ by' = -1) (m : Int) : by' * cntK x k m + (if (if k = 0 then x.lo else x.hi) = m then by' else 0) = by' * cntK x (k + 1) m := by
  rcases (by omega : k = 0 ∨ k = 1) with rfl | rfl
  · rw [cntK_zero, cntK_one, if_pos rfl]
    by_cases h1 : x.lo = m <;> simp [h1]
  · rw [cntK_one, cntK_two, show (if (1 : Nat) = 0 then x.lo else x.hi) = x.hi from rfl]
    unfold cnt
    rcases hby with rfl | rfl <;> by_cases h1 : x.lo = m <;> by_cases h2 : x.hi = m <;> simp [h1, h2]

/-- A constant is had by one more, or less: nothing is to be done. -/
theorem CoAt.bumpC (h : CoAt w b F s R f) {n : Int} (hc : n = 0 ∨ n = 1) (by' : Int) : CoAt w b F s R (fun m => f m + (if n = m then by' else 0)) := by
  obtain ⟨bA, FA, bT, FT, v, X, tabs, rfl, hR, c⟩ := h
  have h1 := c.bump n by' (by omega)
  have h2 : bump X n by' = X := by simp [bump, hc]
  rw [h2] at h1
  exact ⟨bA, FA, bT, FT, v, X, tabs, rfl, hR, h1⟩
/-- A node is. -/
theorem CoR.bumpN {g n1 cap : Nat} (h : CoR w b bA FA bT FT (.slice (some ⟨g, 0, none⟩) n1 cap) s.o s.ar X tabs) (c : s.Co R f X tabs) {n : Int} (h2 : 2 ≤ n) (hX : (n - 2).toNat < X.length) (by' : Int) :
    CoAt (w.setCell ⟨g, (n - 2).toNat * 4 + 3, none⟩ (.int .i64 (f n + by'))) b (footC b FA FT (.slice (some ⟨g, 0, none⟩) n1 cap)) s R (fun m => f m + (if n = m then by' else 0)) ∧
      Keeps (footC b FA FT (.slice (some ⟨g, 0, none⟩) n1 cap)) w (w.setCell ⟨g, (n - 2).toNat * 4 + 3, none⟩ (.int .i64 (f n + by'))) := by
  have h1 := c.bump n by' (by omega)
  have e : bump X n by' = X.set (n - 2).toNat (X[(n - 2).toNat].1, f n + by') := by
    have h3 := c.above _ hX
    rw [show ((n - 2).toNat : Int) + 2 = n by omega] at h3
    simp [bump, show ¬ (n = 0 ∨ n = 1) by omega, List.getD, hX, h3]
  obtain ⟨h4, h5⟩ := h.putCell (X' := bump X n by') (j := (n - 2).toNat * 4 + 3) (u := .int .i64 (f n + by')) (bump_length _ _ _) (by rw [e, encX_above X _ hX])
  exact ⟨⟨bA, FA, bT, FT, _, _, tabs, rfl, h4, h1⟩, h5⟩

set_option maxRecDepth 100000 in
set_option maxHeartbeats 1000000 in
theorem coHang (h : CoAt w b F s R f) (ok : s.Base) (x : Nd) (by' : Int) (hlo : s.there x.lo = true) (hhi : s.there x.hi = true) (hf : ∀ m, -100000 ≤ f m ∧ f m ≤ 100000) (hby : by' = 1 ∨ by' = -1) :
    Calls Try.prog 44 #[pv b, nv x, .int .i64 by'] w fun e w' => e = .returned (.tuple #[]) ∧ CoAt w' b F s R (fun m => f m + by' * cnt x m) ∧ Keeps F w w' := by
  have hfew := ok.few
  unfold nv
  go_enter Try.func44, Try.ntmps44
  go_wp2
  have hb : Below w.heap.size w (w.alloc (.cells #[.int .i64 x.var, .int .i64 x.lo, .int .i64 x.hi] 39)) := by go_grown
  replace h := h.below hb
  have hK0 := Keeps.of_below hb F
  generalize w.alloc (.cells #[.int .i64 x.var, .int .i64 x.lo, .int .i64 x.hi] 39) = W at *
  go_loopw [13] (fun i wr => ∃ k : Nat, k ≤ 2 ∧ i = .int .i64 k ∧ CoAt wr b F s R (fun m => f m + by' * cntK x k m) ∧ Keeps F w wr) (fun i _ => 2 - (intOf i).toNat)
  case atStart => exact ⟨0, by omega, rfl, h.congr fun m => by rw [cntK_zero]; omega, hK0⟩
  case round =>
    clear h hK0 hb
    obtain ⟨k, hk, rfl, h, hK⟩ := hrel
    by_cases hlt : k < 2
    · have hnext := cntK_next x hlt hby
      have hr := cntK_range x k
      have hthere : s.there (if k = 0 then x.lo else x.hi) = true := by split <;> assumption
      have hcm : ∀ W, CoAt W b F s R (fun m => (f m + by' * cntK x k m) + (if (if k = 0 then x.lo else x.hi) = m then by' else 0)) → CoAt W b F s R (fun m => f m + by' * cntK x (k + 1) m) := fun W hW => hW.congr fun m => by
        have := hnext m; omega
      have hbnd : ∀ m, -200000 ≤ f m + by' * cntK x k m ∧ f m + by' * cntK x k m ≤ 200000 := fun m => by
        have := hr m; have := hf m; rcases hby with rfl | rfl <;> omega
      have hix : ∀ W, (Instr.index 103 (.agg #[.int .i64 x.lo, .int .i64 x.hi]) (.int .i64 (k : Int))).run Try.prog W = .ok (.int .i64 (if k = 0 then x.lo else x.hi)) W := fun W => by
        rcases (by omega : k = 0 ∨ k = 1) with rfl | rfl <;> kernel_rfl
      clear hnext hr hlo hhi hf
      generalize hf1 : (fun m => f m + by' * cntK x k m) = f1 at *
      replace hbnd : ∀ m, -200000 ≤ f1 m ∧ f1 m ≤ 200000 := by subst hf1; exact hbnd
      replace hcm : ∀ W, CoAt W b F s R (fun m => f1 m + (if (if k = 0 then x.lo else x.hi) = m then by' else 0)) → CoAt W b F s R (fun m => f m + by' * cntK x (k + 1) m) := by subst hf1; exact hcm
      clear hf1
      generalize (if k = 0 then x.lo else x.hi) = n at *
      have hk2 : (k : Int) < 2 := by omega
      have HC := fun W => coIsConst n W
      replace hcm := Lib.hid hcm
      rcases MS.there_cases hthere with ⟨hc, _⟩ | hh
      · have hN := h.bumpC hc by'
        have e : isC n = true := by rcases hc with rfl | rfl <;> rfl
        rw [e] at HC
        clear h hc hthere
        go_wp2_with fail
        refine (HC _).mono ?_
        rintro e w1 ⟨rfl, rfl⟩
        clear HC
        go_wp2
        exact ⟨⟨k + 1, by omega, by go_num, hcm.out _ hN, hK⟩, by simp [intOf]; omega⟩
      · have e : isC n = false := isC_of ok hh
        rw [e] at HC
        have hbn := hbnd n
        obtain ⟨bA, FA, bT, FT, v, X, tabs, rfl, hR, c⟩ := h
        have hl := c.len
        obtain ⟨g, cap, rfl, h2, i0, i1, d0, d1, d2, d3⟩ := hR.node c ok hh
        have z3 := hR.places.free ((n - 2).toNat * 4 + 3)
        have c18 := hR.cell.2.2
        obtain ⟨hN, hK2⟩ := hR.bumpN c h2 (by omega) by'
        have HN := Lib.hid (hcm.out _ hN)
        have HK := Lib.hid (hK.and hK2)
        clear hR c hN hK2 hcm hbnd hK hthere
        go_wp2_with fail
        refine (HC _).mono ?_
        rintro e w1 ⟨rfl, rfl⟩
        clear HC
        go_wp2
        exact ⟨⟨k + 1, by omega, by go_num, HN.out, HK.out⟩, by simp [intOf]; omega⟩
    · obtain rfl : k = 2 := by omega
      go_wp2
      exact bodyPost_end (v := .tuple #[]) (by simp [results, Try.results44, go_sem]) rfl ⟨rfl, h.congr fun m => by rw [cntK_two], hK⟩

theorem chain_nodeC (W : World) (g k : Nat) (v0 v1 v2 : Value) : ((W.setCell ⟨g, k, none⟩ v0).setCell ⟨g, k + 1, none⟩ v1).setCell ⟨g, k + 2, none⟩ v2 = W.setCells g k [v0, v1, v2] := rfl
theorem MS.setNd_there {n m : Int} {x : Nd} : (s.setNd n x).there m = s.there m := rfl
theorem MS.Base.setNd (h : s.Base) (n : Int) (x : Nd) : (s.setNd n x).Base := ⟨h.ar, by simp [MS.setNd, h.len]⟩

set_option maxRecDepth 100000 in
set_option maxHeartbeats 2000000 in
theorem coLay {n : Int} (h : CoAt w b F s (n :: R) f) (ok : s.Base) (hn : s.has n = true) (hnR : n ∉ R) (x : Nd) (hv : 0 ≤ x.var ∧ x.var ≤ 7) (hlo : s.there x.lo = true) (hhi : s.there x.hi = true) (hone : ∀ m, s.has m = true → m ∉ n :: R → s.nd m ≠ x) (hf : ∀ m, -100000 ≤ f m ∧ f m ≤ 100000) :
    Calls Try.prog 58 #[pv b, .int .i64 n, nv x] w fun e w' => e = .returned (.tuple #[]) ∧ ∃ F', CoAt w' b F' (s.setNd n x) R (fun m => f m + cnt x m) ∧ Keeps F w w' ∧ Within w F F' := by
  have hfew := ok.few
  obtain ⟨xv, xl, xh⟩ := x
  dsimp only at hv hlo hhi
  obtain ⟨vn, rfl⟩ := Int.eq_ofNat_of_zero_le hv.1
  have okn := ok.setNd n ⟨(vn : Int), xl, xh⟩
  have hv8 : vn < 8 := by omega
  have hv8' : (vn : Int) < 8 := by omega
  obtain ⟨bA, FA, bT, FT, v, X, tabs, rfl, hR, c⟩ := h
  have hl := c.len
  obtain ⟨g, cap, rfl, h2, i0, i1, _, _, _, _⟩ := hR.node c ok hn
  have hX : (n - 2).toNat < X.length := by omega
  obtain ⟨cL, hget⟩ := c.lay ok hn hnR hv8 xl xh hone
  have hput : (tabs vn).putB (xl, xh) = true := by simp [TS.putB, hget]
  have tok := c.ok vn hv8
  have tsl := c.slots vn hv8
  have e2 : (X.getD (n - 2).toNat (⟨0, 0, 0⟩, 0)).2 = X[(n - 2).toNat].2 := by simp [List.getD, hX]
  rw [e2] at cL
  clear e2 hget hone
  unfold nv
  dsimp only
  have hBF := hR.lt
  go_enter Try.func58, Try.ntmps58
  go_wp2
  have hx := HoldsN.new w ⟨(vn : Int), xl, xh⟩
  dsimp only at hx
  have hb : Below w.heap.size w (w.alloc (.cells #[.int .i64 (vn : Int), .int .i64 xl, .int .i64 xh] 39)) := by go_grown
  replace hR := hR.below hb
  have hK := Keeps.of_below hb (footC b FA FT (.slice (some ⟨g, 0, none⟩) X.length cap))
  generalize w.alloc (.cells #[.int .i64 (vn : Int), .int .i64 xl, .int .i64 xh] 39) = W at *
  have c18 := fun u : Sub W => (hR.sub u).cell.2.2
  have x0 := fun u : Sub W => (HoldsN.sub hx u).cells.1
  have x1 := fun u : Sub W => (HoldsN.sub hx u).cells.2.1
  have x2 := fun u : Sub W => (HoldsN.sub hx u).cells.2.2
  dsimp only at x0 x1 x2
  replace cL := Lib.hid cL
  refine wp_region_quiet_tail (C := fun w' => ∃ u : Sub W, w' = u.1) 9 (by kernel_rfl) (by kernel_rfl) (InSub.drew W) ?_
  simp only [List.take_succ_cons, List.take_zero]
  iterate 9 (go_big_quiet_step (fail))
  refine wpQuiet_nil ?_
  clear c18 x0 x1 x2
  intro w' hw'
  obtain ⟨u, rfl⟩ := hw'
  have hR5 := hR.sub u
  have hx5 := HoldsN.sub hx u
  have hk5 := hK.and (Keeps.of_below u.2 _)
  clear hR hK hx
  generalize u.1 = W5 at *
  obtain ⟨q0, q1, q2, q3⟩ := placeX hR5.places (n - 2).toNat hX
  have y0 := hR5.places.free ((n - 2).toNat * 4)
  have y1 := hR5.places.free ((n - 2).toNat * 4 + 1)
  have y2 := hR5.places.free ((n - 2).toNat * 4 + 2)
  obtain ⟨hR6, hk6⟩ := hR5.putNode hX ⟨(vn : Int), xl, xh⟩
  have hx6 := hx5.keep hk6 (fun e => by have := hBF _ e; omega)
  replace hk6 := hk5.and hk6
  dsimp only at hR6 hk6 hx6
  have HR6 := Lib.hid hR6
  have HK6 := Lib.hid hk6
  have HX6 := Lib.hid hx6
  clear hR5 hx5 hk5 hR6 hk6 hx6 q3
  simp only [List.drop_succ_cons, List.drop_zero]
  apply wpList_step
  intro K1 hK1
  go_simp
  apply hK1
  clear hK1 q0 q1 q2 y0 y1 y2
  rw [chain_nodeC]
  have hR := HR6.out
  have hK := HK6.out
  have hx := HX6.out
  clear HR6 HK6 HX6
  generalize W5.setCells g ((n - 2).toNat * 4) [.int .i64 (vn : Int), .int .i64 xl, .int .i64 xh] = W6 at *
  refine wpList_nil ?_
  have x0 := fun u : Sub W6 => (HoldsN.sub hx u).cells.1
  have x1 := fun u : Sub W6 => (HoldsN.sub hx u).cells.2.1
  have x2 := fun u : Sub W6 => (HoldsN.sub hx u).cells.2.2
  dsimp only at x0 x1 x2
  have ct := fun u : Sub W6 => (hR.sub u).table vn hv8
  go_wp2
  refine wp_region_quiet_tail (C := fun w' => ∃ u : Sub W6, w' = u.1) 12 (by kernel_rfl) (by kernel_rfl) (InSub.drew W6) ?_
  simp only [List.take_succ_cons, List.take_zero]
  iterate 12 (go_big_quiet_step (fail))
  refine wpQuiet_nil ?_
  clear x0 x1 x2 ct
  intro w' hw'
  obtain ⟨u, rfl⟩ := hw'
  have hR7 := hR.sub u
  have hx7 := HoldsN.sub hx u
  have hk7 := hK.and (Keeps.of_below u.2 _)
  clear hR hK hx
  generalize u.1 = W7 at *
  have HP := uniqPutS (hR7.tab vn hv8) tok (by omega) xl xh n
  rw [hput] at HP
  simp only [List.drop_succ_cons, List.drop_zero]
  apply wpList_step
  intro K1 hK1
  go_simp
  refine HP.mono ?_
  rintro e W8 ⟨rfl, FT', hU, hKU, hWU⟩
  clear HP
  obtain ⟨hR8, hK8, hW8⟩ := hR7.setTab hv8 hU hKU hWU
  have hx8 := hx7.keep hK8 (fun e => by have := hBF _ e; omega)
  have hsz := hk7.size
  have hKf := hk7.and hK8
  have hWf : Within w (footC b FA FT (.slice (some ⟨g, 0, none⟩) X.length cap)) (footC b FA (upd FT vn FT') (.slice (some ⟨g, 0, none⟩) X.length cap)) := fun k hk => (hW8 k hk).imp id (fun h => by omega)
  clear hR7 hx7 hk7 hU hKU hWU hK8 hW8
  apply hK1
  clear hK1
  refine wpList_nil ?_
  have hlX : (X.set (n - 2).toNat (⟨(vn : Int), xl, xh⟩, X[(n - 2).toNat].2)).length = X.length := List.length_set ..
  have hC : CoAt W8 b (footC b FA (upd FT vn FT') (.slice (some ⟨g, 0, none⟩) X.length cap)) (s.setNd n ⟨(vn : Int), xl, xh⟩) R f := ⟨bA, FA, bT, upd FT vn FT', _, _, _, rfl, hR8, cL.out⟩
  have HH := coHang hC okn ⟨(vn : Int), xl, xh⟩ 1 hlo hhi hf (.inl rfl)
  unfold nv at HH
  dsimp only at HH
  obtain ⟨x0, x1, x2⟩ := hx8.cells
  dsimp only at x0 x1 x2
  clear hR8 hC hx8 cL tok
  go_wp2_with fail
  refine HH.mono ?_
  rintro e W9 ⟨rfl, hC9, hK9⟩
  clear HH
  go_wp2
  exact bodyPost_end (v := .tuple #[]) (by simp [results, Try.results58, go_sem]) rfl ⟨rfl, _, hC9.congr fun m => by omega, hKf.trans hK9 hWf, hWf⟩
end

end Go.Proofs.Ytbnjbnjhpccomaa
