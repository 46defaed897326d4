/-
  Texts of this proof, one behind the other: CoX, CoO, CoF, CoT.
-/
import Derived.Test.YtdcomiopjgcboaaGreatDoorG8
/-
  Walks of the code's store: hang, lay.
-/
namespace Go.Proofs.YtdcomiopjgcboaaGreatDoor
open Go Go.RowKit

theorem list_set_same {α : Type} {l : List α} {j : Nat} {v : α} (h : l[j]? = some v) : l.set j v = l := by
  refine List.ext_getElem? fun i => ?_
  rw [List.getElem?_set]
  split
  · rename_i e
    subst e
    have := (List.getElem?_eq_some_iff.1 h).1
    rw [if_pos this]
    exact h.symm
  · rfl
theorem encX_cell (X : List (Nd × Int)) (i : Nat) (hi : i < X.length) : (encX.all X)[i * 4]? = some (.int .i64 X[i].1.var) ∧ (encX.all X)[i * 4 + 1]? = some (.int .i64 X[i].1.lo) ∧ (encX.all X)[i * 4 + 2]? = some (.int .i64 X[i].1.hi) ∧ (encX.all X)[i * 4 + 3]? = some (.int .i64 X[i].2) :=
  ⟨encX.all_get X i hi 0 (by decide), encX.all_get X i hi 1 (by decide), encX.all_get X i hi 2 (by decide), encX.all_get X i hi 3 (by decide)⟩
/-- How often one is had, written. -/
theorem encX_above (X : List (Nd × Int)) (i : Nat) (hi : i < X.length) (k : Int) : encX.all (X.set i (X[i].1, k)) = (encX.all X).set (i * 4 + 3) (.int .i64 k) := by
  obtain ⟨h0, h1, h2, _⟩ := encX_cell X i hi
  rw [encX.all_set X i hi]
  show ((((encX.all X).set (i * 4) (.int .i64 X[i].1.var)).set (i * 4 + 1) (.int .i64 X[i].1.lo)).set (i * 4 + 1 + 1) (.int .i64 X[i].1.hi)).set (i * 4 + 1 + 1 + 1) (.int .i64 k) = _
  rw [list_set_same h0, list_set_same h1, list_set_same h2]
/-- A node, written. -/
theorem encX_node (X : List (Nd × Int)) (i : Nat) (hi : i < X.length) (x : Nd) : encX.all (X.set i (x, X[i].2)) = setMany (encX.all X) (i * 4) [.int .i64 x.var, .int .i64 x.lo, .int .i64 x.hi] := by
  obtain ⟨_, _, _, h3⟩ := encX_cell X i hi
  rw [encX.all_set X i hi]
  show ((((encX.all X).set (i * 4) (.int .i64 x.var)).set (i * 4 + 1) (.int .i64 x.lo)).set (i * 4 + 1 + 1) (.int .i64 x.hi)).set (i * 4 + 1 + 1 + 1) (.int .i64 X[i].2) = (((encX.all X).set (i * 4) (.int .i64 x.var)).set (i * 4 + 1) (.int .i64 x.lo)).set (i * 4 + 1 + 1) (.int .i64 x.hi)
  refine list_set_same ?_
  rw [List.getElem?_set_ne (by omega), List.getElem?_set_ne (by omega), List.getElem?_set_ne (by omega)]
  exact h3

section
variable {w : World} {b bA : Nat} {FA F : Nat → Prop} {bT : Nat → Nat} {FT : Nat → Nat → Prop} {v : Value} {o : Nat → Int} {ar : AS} {X : List (Nd × Int)} {tabs : Nat → TS} {s : MS} {R : List Int} {f : Int → Int}

theorem CoR.putNode {g n cap i : Nat} (h : CoR w b bA FA bT FT (.slice (some ⟨g, 0, none⟩) n cap) o ar X tabs) (hi : i < X.length) (x : Nd) :
    CoR (w.setCells g (i * 4) [.int .i64 x.var, .int .i64 x.lo, .int .i64 x.hi]) b bA FA bT FT (.slice (some ⟨g, 0, none⟩) n cap) o ar (X.set i (x, X[i].2)) tabs ∧ Keeps (footC b FA FT (.slice (some ⟨g, 0, none⟩) n cap)) w (w.setCells g (i * 4) [.int .i64 x.var, .int .i64 x.lo, .int .i64 x.hi]) := by
  refine h.setX rfl ?_ (Keeps.of_setCells (fun k => k = g) g rfl _ _ w)
  have hO := h.places
  obtain ⟨a, c, hv, _⟩ := hO.form
  injection hv with _ hn _
  subst hn
  have h1 := ownsRow_setCells [.int .i64 x.var, .int .i64 x.lo, .int .i64 x.hi] (i * 4) w _ hO
  unfold Owns
  rw [List.length_set, encX_node X i hi x]
  exact h1

/-- What a part of a node's sides has. -/
def cntK (x : Nd) (k : Nat) (m : Int) : Int := (if 1 ≤ k ∧ x.lo = m then 1 else 0) + (if 2 ≤ k ∧ x.hi = m then 1 else 0)
theorem cntK_zero (x : Nd) (m : Int) : cntK x 0 m = 0 := by simp [cntK]
theorem cntK_one (x : Nd) (m : Int) : cntK x 1 m = if x.lo = m then 1 else 0 := by simp [cntK]
theorem cntK_two (x : Nd) (m : Int) : cntK x 2 m = cnt x m := by simp [cntK, cnt]
theorem cntK_range (x : Nd) (k : Nat) (m : Int) : 0 ≤ cntK x k m ∧ cntK x k m ≤ 2 := by
  unfold cntK; split <;> split <;> decide

theorem cntK_next (x : Nd) {k : Nat} (hk : k < 2) {by' : Int} (hby : by' = 1 ∨ by' = -1) (m : Int) : by' * cntK x k m + (if (if k = 0 then x.lo else x.hi) = m then by' else 0) = by' * cntK x (k + 1) m := by
  rcases (by omega : k = 0 ∨ k = 1) with rfl | rfl
  · rw [cntK_zero, cntK_one, if_pos rfl]
    by_cases h1 : x.lo = m <;> simp [h1]
  · rw [cntK_one, cntK_two, show (if (1 : Nat) = 0 then x.lo else x.hi) = x.hi from rfl]
    unfold cnt
    rcases hby with rfl | rfl <;> by_cases h1 : x.lo = m <;> by_cases h2 : x.hi = m <;> simp [h1, h2]

/-- A constant is had by one more, or less: nothing is to be done. -/
theorem CoAt.bumpC (h : CoAt w b F s R f) {n : Int} (hc : n = 0 ∨ n = 1) (by' : Int) : CoAt w b F s R (fun m => f m + (if n = m then by' else 0)) := by
  obtain ⟨bA, FA, bT, FT, v, X, tabs, rfl, hR, c⟩ := h
  have h1 := c.bump n by' (by omega)
  have h2 : bump X n by' = X := by simp [bump, hc]
  rw [h2] at h1
  exact ⟨bA, FA, bT, FT, v, X, tabs, rfl, hR, h1⟩
/-- A node is. -/
theorem CoR.bumpN {g n1 cap : Nat} (h : CoR w b bA FA bT FT (.slice (some ⟨g, 0, none⟩) n1 cap) s.o s.ar X tabs) (c : s.Co R f X tabs) {n : Int} (h2 : 2 ≤ n) (hX : (n - 2).toNat < X.length) (by' : Int) :
    CoAt (w.setCell ⟨g, (n - 2).toNat * 4 + 3, none⟩ (.int .i64 (f n + by'))) b (footC b FA FT (.slice (some ⟨g, 0, none⟩) n1 cap)) s R (fun m => f m + (if n = m then by' else 0)) ∧
      Keeps (footC b FA FT (.slice (some ⟨g, 0, none⟩) n1 cap)) w (w.setCell ⟨g, (n - 2).toNat * 4 + 3, none⟩ (.int .i64 (f n + by'))) := by
  have h1 := c.bump n by' (by omega)
  have e : bump X n by' = X.set (n - 2).toNat (X[(n - 2).toNat].1, f n + by') := by
    have h3 := c.above _ hX
    rw [show ((n - 2).toNat : Int) + 2 = n by omega] at h3
    simp [bump, show ¬ (n = 0 ∨ n = 1) by omega, List.getD, hX, h3]
  obtain ⟨h4, h5⟩ := h.putCell (X' := bump X n by') (j := (n - 2).toNat * 4 + 3) (u := .int .i64 (f n + by')) (bump_length _ _ _) (by rw [e, encX_above X _ hX])
  exact ⟨⟨bA, FA, bT, FT, _, _, tabs, rfl, h4, h1⟩, h5⟩

set_option maxRecDepth 100000 in
set_option maxHeartbeats 1000000 in
theorem coHang (h : CoAt w b F s R f) (ok : s.Base) (x : Nd) (by' : Int) (hlo : s.there x.lo = true) (hhi : s.there x.hi = true) (hf : ∀ m, -100000 ≤ f m ∧ f m ≤ 100000) (hby : by' = 1 ∨ by' = -1) :
    Calls Tryz.prog 85 #[pv b, nv x, .int .i64 by'] w fun e w' => e = .returned (.tuple #[]) ∧ CoAt w' b F s R (fun m => f m + by' * cnt x m) ∧ Keeps F w w' := by
  have hfew := ok.few
  unfold nv
  go_enter Tryz.func85, Tryz.ntmps85
  go_wp2
  have hb : Below w.heap.size w (w.alloc (.cells #[.int .i64 x.var, .int .i64 x.lo, .int .i64 x.hi] 78)) := by go_grown
  replace h := h.below hb
  have hK0 := Keeps.of_below hb F
  generalize w.alloc (.cells #[.int .i64 x.var, .int .i64 x.lo, .int .i64 x.hi] 78) = W at *
  go_loopw [13] (fun i wr => ∃ k : Nat, k ≤ 2 ∧ i = .int .i64 k ∧ CoAt wr b F s R (fun m => f m + by' * cntK x k m) ∧ Keeps F w wr) (fun i _ => 2 - (intOf i).toNat)
  case atStart => exact ⟨0, by omega, rfl, h.congr fun m => by rw [cntK_zero]; omega, hK0⟩
  case round =>
    clear h hK0 hb
    obtain ⟨k, hk, rfl, h, hK⟩ := hrel
    by_cases hlt : k < 2
    · have hnext := cntK_next x hlt hby
      have hr := cntK_range x k
      have hthere : s.there (if k = 0 then x.lo else x.hi) = true := by split <;> assumption
      have hcm : ∀ W, CoAt W b F s R (fun m => (f m + by' * cntK x k m) + (if (if k = 0 then x.lo else x.hi) = m then by' else 0)) → CoAt W b F s R (fun m => f m + by' * cntK x (k + 1) m) := fun W hW => hW.congr fun m => by
        have := hnext m; omega
      have hbnd : ∀ m, -200000 ≤ f m + by' * cntK x k m ∧ f m + by' * cntK x k m ≤ 200000 := fun m => by
        have := hr m; have := hf m; rcases hby with rfl | rfl <;> omega
      have hix : ∀ W, (Instr.index 142 (.agg #[.int .i64 x.lo, .int .i64 x.hi]) (.int .i64 (k : Int))).run Tryz.prog W = .ok (.int .i64 (if k = 0 then x.lo else x.hi)) W := fun W => by
        rcases (by omega : k = 0 ∨ k = 1) with rfl | rfl <;> kernel_rfl
      clear hnext hr hlo hhi hf
      generalize hf1 : (fun m => f m + by' * cntK x k m) = f1 at *
      replace hbnd : ∀ m, -200000 ≤ f1 m ∧ f1 m ≤ 200000 := by subst hf1; exact hbnd
      replace hcm : ∀ W, CoAt W b F s R (fun m => f1 m + (if (if k = 0 then x.lo else x.hi) = m then by' else 0)) → CoAt W b F s R (fun m => f m + by' * cntK x (k + 1) m) := by subst hf1; exact hcm
      clear hf1
      generalize (if k = 0 then x.lo else x.hi) = n at *
      have hk2 : (k : Int) < 2 := by omega
      have HC := fun W => coIsConst n W
      replace hcm := Lib.hid hcm
      rcases MS.there_cases hthere with ⟨hc, _⟩ | hh
      · have hN := h.bumpC hc by'
        have e : isC n = true := by rcases hc with rfl | rfl <;> rfl
        rw [e] at HC
        clear h hc hthere
        go_wp2_with fail
        refine (HC _).mono ?_
        rintro e w1 ⟨rfl, rfl⟩
        clear HC
        go_wp2
        exact ⟨⟨k + 1, by omega, by go_num, hcm.out _ hN, hK⟩, by simp [intOf]; omega⟩
      · have e : isC n = false := isC_of ok hh
        rw [e] at HC
        have hbn := hbnd n
        obtain ⟨bA, FA, bT, FT, v, X, tabs, rfl, hR, c⟩ := h
        have hl := c.len
        obtain ⟨g, cap, rfl, h2, i0, i1, d0, d1, d2, d3⟩ := hR.node c ok hh
        have z3 := hR.places.free ((n - 2).toNat * 4 + 3)
        have c18 := hR.cell.2.2
        obtain ⟨hN, hK2⟩ := hR.bumpN c h2 (by omega) by'
        have HN := Lib.hid (hcm.out _ hN)
        have HK := Lib.hid (hK.and hK2)
        clear hR c hN hK2 hcm hbnd hK hthere
        go_wp2_with fail
        refine (HC _).mono ?_
        rintro e w1 ⟨rfl, rfl⟩
        clear HC
        go_wp2
        exact ⟨⟨k + 1, by omega, by go_num, HN.out, HK.out⟩, by simp [intOf]; omega⟩
    · obtain rfl : k = 2 := by omega
      go_wp2
      exact bodyPost_end (v := .tuple #[]) (by simp [results, Tryz.results85, go_sem]) rfl ⟨rfl, h.congr fun m => by rw [cntK_two], hK⟩

theorem chain_nodeC (W : World) (g k : Nat) (v0 v1 v2 : Value) : ((W.setCell ⟨g, k, none⟩ v0).setCell ⟨g, k + 1, none⟩ v1).setCell ⟨g, k + 2, none⟩ v2 = W.setCells g k [v0, v1, v2] := rfl
theorem MS.setNd_there {n m : Int} {x : Nd} : (s.setNd n x).there m = s.there m := rfl
theorem MS.Base.setNd (h : s.Base) (n : Int) (x : Nd) : (s.setNd n x).Base := ⟨h.ar, by simp [MS.setNd, h.len]⟩

set_option maxRecDepth 100000 in
set_option maxHeartbeats 2000000 in
theorem coLay {n : Int} (h : CoAt w b F s (n :: R) f) (ok : s.Base) (hn : s.has n = true) (hnR : n ∉ R) (x : Nd) (hv : 0 ≤ x.var ∧ x.var ≤ 7) (hlo : s.there x.lo = true) (hhi : s.there x.hi = true) (hone : ∀ m, s.has m = true → m ∉ n :: R → s.nd m ≠ x) (hf : ∀ m, -100000 ≤ f m ∧ f m ≤ 100000) :
    Calls Tryz.prog 84 #[pv b, .int .i64 n, nv x] w fun e w' => e = .returned (.tuple #[]) ∧ ∃ F', CoAt w' b F' (s.setNd n x) R (fun m => f m + cnt x m) ∧ Keeps F w w' ∧ Within w F F' := by
  have hfew := ok.few
  obtain ⟨xv, xl, xh⟩ := x
  dsimp only at hv hlo hhi
  obtain ⟨vn, rfl⟩ := Int.eq_ofNat_of_zero_le hv.1
  have okn := ok.setNd n ⟨(vn : Int), xl, xh⟩
  have hv8 : vn < 8 := by omega
  have hv8' : (vn : Int) < 8 := by omega
  obtain ⟨bA, FA, bT, FT, v, X, tabs, rfl, hR, c⟩ := h
  have hl := c.len
  obtain ⟨g, cap, rfl, h2, i0, i1, _, _, _, _⟩ := hR.node c ok hn
  have hX : (n - 2).toNat < X.length := by omega
  obtain ⟨cL, hget⟩ := c.lay ok hn hnR hv8 xl xh hone
  have hput : (tabs vn).putB (xl, xh) = true := by simp [TS.putB, hget]
  have tok := c.ok vn hv8
  have tsl := c.slots vn hv8
  have e2 : (X.getD (n - 2).toNat (⟨0, 0, 0⟩, 0)).2 = X[(n - 2).toNat].2 := by simp [List.getD, hX]
  rw [e2] at cL
  clear e2 hget hone
  unfold nv
  dsimp only
  have hBF := hR.lt
  go_enter Tryz.func84, Tryz.ntmps84
  go_wp2
  have hx := HoldsN.new w ⟨(vn : Int), xl, xh⟩
  dsimp only at hx
  have hb : Below w.heap.size w (w.alloc (.cells #[.int .i64 (vn : Int), .int .i64 xl, .int .i64 xh] 78)) := by go_grown
  replace hR := hR.below hb
  have hK := Keeps.of_below hb (footC b FA FT (.slice (some ⟨g, 0, none⟩) X.length cap))
  generalize w.alloc (.cells #[.int .i64 (vn : Int), .int .i64 xl, .int .i64 xh] 78) = W at *
  have c18 := fun u : Sub W => (hR.sub u).cell.2.2
  have x0 := fun u : Sub W => (HoldsN.sub hx u).cells.1
  have x1 := fun u : Sub W => (HoldsN.sub hx u).cells.2.1
  have x2 := fun u : Sub W => (HoldsN.sub hx u).cells.2.2
  dsimp only at x0 x1 x2
  replace cL := Lib.hid cL
  refine wp_region_quiet_tail (C := fun w' => ∃ u : Sub W, w' = u.1) 9 (by kernel_rfl) (by kernel_rfl) (InSub.drew W) ?_
  simp only [List.take_succ_cons, List.take_zero]
  iterate 9 (go_big_quiet_step (fail))
  refine wpQuiet_nil ?_
  clear c18 x0 x1 x2
  intro w' hw'
  obtain ⟨u, rfl⟩ := hw'
  have hR5 := hR.sub u
  have hx5 := HoldsN.sub hx u
  have hk5 := hK.and (Keeps.of_below u.2 _)
  clear hR hK hx
  generalize u.1 = W5 at *
  obtain ⟨q0, q1, q2, q3⟩ := placeX hR5.places (n - 2).toNat hX
  have y0 := hR5.places.free ((n - 2).toNat * 4)
  have y1 := hR5.places.free ((n - 2).toNat * 4 + 1)
  have y2 := hR5.places.free ((n - 2).toNat * 4 + 2)
  obtain ⟨hR6, hk6⟩ := hR5.putNode hX ⟨(vn : Int), xl, xh⟩
  have hx6 := hx5.keep hk6 (fun e => by have := hBF _ e; omega)
  replace hk6 := hk5.and hk6
  dsimp only at hR6 hk6 hx6
  have HR6 := Lib.hid hR6
  have HK6 := Lib.hid hk6
  have HX6 := Lib.hid hx6
  clear hR5 hx5 hk5 hR6 hk6 hx6 q3
  simp only [List.drop_succ_cons, List.drop_zero]
  apply wpList_step
  intro K1 hK1
  go_simp
  apply hK1
  clear hK1 q0 q1 q2 y0 y1 y2
  rw [chain_nodeC]
  have hR := HR6.out
  have hK := HK6.out
  have hx := HX6.out
  clear HR6 HK6 HX6
  generalize W5.setCells g ((n - 2).toNat * 4) [.int .i64 (vn : Int), .int .i64 xl, .int .i64 xh] = W6 at *
  refine wpList_nil ?_
  have x0 := fun u : Sub W6 => (HoldsN.sub hx u).cells.1
  have x1 := fun u : Sub W6 => (HoldsN.sub hx u).cells.2.1
  have x2 := fun u : Sub W6 => (HoldsN.sub hx u).cells.2.2
  dsimp only at x0 x1 x2
  have ct := fun u : Sub W6 => (hR.sub u).table vn hv8
  go_wp2
  refine wp_region_quiet_tail (C := fun w' => ∃ u : Sub W6, w' = u.1) 12 (by kernel_rfl) (by kernel_rfl) (InSub.drew W6) ?_
  simp only [List.take_succ_cons, List.take_zero]
  iterate 12 (go_big_quiet_step (fail))
  refine wpQuiet_nil ?_
  clear x0 x1 x2 ct
  intro w' hw'
  obtain ⟨u, rfl⟩ := hw'
  have hR7 := hR.sub u
  have hx7 := HoldsN.sub hx u
  have hk7 := hK.and (Keeps.of_below u.2 _)
  clear hR hK hx
  generalize u.1 = W7 at *
  have HP := uniqPutS (hR7.tab vn hv8) tok (by omega) xl xh n
  rw [hput] at HP
  simp only [List.drop_succ_cons, List.drop_zero]
  apply wpList_step
  intro K1 hK1
  go_simp
  refine HP.mono ?_
  rintro e W8 ⟨rfl, FT', hU, hKU, hWU⟩
  clear HP
  obtain ⟨hR8, hK8, hW8⟩ := hR7.setTab hv8 hU hKU hWU
  have hx8 := hx7.keep hK8 (fun e => by have := hBF _ e; omega)
  have hsz := hk7.size
  have hKf := hk7.and hK8
  have hWf : Within w (footC b FA FT (.slice (some ⟨g, 0, none⟩) X.length cap)) (footC b FA (upd FT vn FT') (.slice (some ⟨g, 0, none⟩) X.length cap)) := fun k hk => (hW8 k hk).imp id (fun h => by omega)
  clear hR7 hx7 hk7 hU hKU hWU hK8 hW8
  apply hK1
  clear hK1
  refine wpList_nil ?_
  have hlX : (X.set (n - 2).toNat (⟨(vn : Int), xl, xh⟩, X[(n - 2).toNat].2)).length = X.length := List.length_set ..
  have hC : CoAt W8 b (footC b FA (upd FT vn FT') (.slice (some ⟨g, 0, none⟩) X.length cap)) (s.setNd n ⟨(vn : Int), xl, xh⟩) R f := ⟨bA, FA, bT, upd FT vn FT', _, _, _, rfl, hR8, cL.out⟩
  have HH := coHang hC okn ⟨(vn : Int), xl, xh⟩ 1 hlo hhi hf (.inl rfl)
  unfold nv at HH
  dsimp only at HH
  obtain ⟨x0, x1, x2⟩ := hx8.cells
  dsimp only at x0 x1 x2
  clear hR8 hC hx8 cL tok
  go_wp2_with fail
  refine HH.mono ?_
  rintro e W9 ⟨rfl, hC9, hK9⟩
  clear HH
  go_wp2
  exact bodyPost_end (v := .tuple #[]) (by simp [results, Tryz.results84, go_sem]) rfl ⟨rfl, _, hC9.congr fun m => by omega, hKf.trans hK9 hWf, hWf⟩
end

end Go.Proofs.YtdcomiopjgcboaaGreatDoor

/-
  Walks of the code's store: obtain, Mk.
-/
namespace Go.Proofs.YtdcomiopjgcboaaGreatDoor
open Go Go.RowKit

section
variable {w w' : World} {b bA : Nat} {FA F : Nat → Prop} {bT : Nat → Nat} {FT : Nat → Nat → Prop} {v v' : Value} {o : Nat → Int} {ar : AS} {X X' : List (Nd × Int)} {tabs : Nat → TS} {s : MS} {R : List Int} {f : Int → Int}

theorem appendX {ops : Array Oper} {rest : List Oper} {o : Oper} {a : Act} {w : World} {Q : Exit → Act → World → Prop} (hgd : o.guard = none) (s x : Operand)
    (ho : o.op = .call { callee := .builtin .append, args := #[s, x], argTypes := #[85, 85] })
    (v y : Value) (l k : List (Nd × Int)) (hs : a.eval s = v) (hown : Owns encX w v l) (hx : a.eval x = y) (hsrc : Reads encX w y k) (hn : l.length + k.length ≤ 1000000)
    (h : ∀ v' w', Owns encX w' v' (l ++ k) → w.grownBy w' v.ownBlock → (v'.ownBlock = v.ownBlock ∨ v'.ownBlock = some w.heap.size) → wpList Tryz.prog ops Q rest (a.put o.dst v') w') : wpList Tryz.prog ops Q (o :: rest) a w :=
  wpList_append_owns encX hgd s x ho v y l k hs hown hx hsrc hn h
theorem oneX (w : World) (b : Nat) (hb : b = w.heap.size := by rfl) : Reads encX (w.alloc (.cells #[.int .i64 0, .int .i64 0, .int .i64 0, .int .i64 0] 92)) (.slice (some ⟨b, 0, none⟩) 1 1) [(⟨0, 0, 0⟩, 0)] := Reads.one encX w _ _ rfl b hb

/-- The places have grown, and are stored anew. -/
theorem CoR.grown (h : CoR w b bA FA bT FT v o ar X tabs) (hO : Owns encX w' v' X') (hg : w.grownBy w' v.ownBlock) (hat : v'.ownBlock = v.ownBlock ∨ v'.ownBlock = some w.heap.size) :
    CoR (w'.setCell ⟨b, 18, none⟩ v') b bA FA bT FT v' o ar X' tabs ∧ Keeps (footC b FA FT v) w (w'.setCell ⟨b, 18, none⟩ v') ∧ Within w (footC b FA FT v) (footC b FA FT v') := by
  have hK1 : Keeps (fun k => v.ownBlock = some k) w w' := Keeps.of_grown hg fun k hk => hk
  have hK2 := Keeps.of_setCell (fun k => k = b) w' ⟨b, 18, none⟩ v' rfl
  have hlb := row_lt h.row
  have hown : ∀ k, v'.ownBlock = some k → v.ownBlock = some k ∨ w.heap.size ≤ k := fun k hk => hat.imp (fun e => e.symm.trans hk) (fun e => by rw [e] at hk; injection hk with hk; omega)
  have hb : v'.ownBlock ≠ some b := fun e => (hown b e).elim h.apart1 (fun h => by omega)
  have hrow : w'.heap[b]? = some (rowC ar.most o bA bT v) := (hK1.block b hlb h.apart1).trans h.row
  refine ⟨⟨(heap_setCell_same w' b 18 _ _ v' hrow).trans rfl, ?_, fun i hi => ?_, hO.keep hK2 fun g hg e => hb (e ▸ hg), hb, fun k hk => ⟨(h.apart2 k hk).1, fun e => ?_⟩, fun i hi k hk => ⟨(h.apart3 i hi k hk).1, fun e => ?_, (h.apart3 i hi k hk).2.2⟩, h.apart4⟩, ?_, ?_⟩
  · exact (h.ar.keep hK1 fun k hk => (h.apart2 k hk).2).keep hK2 fun k hk e => (h.apart2 k hk).1 e
  · exact ((h.tab i hi).keep hK1 fun k hk => (h.apart3 i hi k hk).2.1).keep hK2 fun k hk e => (h.apart3 i hi k hk).1 e
  · exact (hown k e).elim (h.apart2 k hk).2 (fun h1 => by have := h.ar.lt k hk; omega)
  · exact (hown k e).elim (h.apart3 i hi k hk).2.1 (fun h1 => by have := (h.tab i hi).lt k hk; omega)
  · exact (hK1.mono fun k hk => .inr (.inl hk)).and (hK2.mono fun k hk => .inl hk)
  · rintro k (e | e | e | e)
    · exact .inl (.inl e)
    · exact (hown k e).imp (fun h => .inr (.inl h)) id
    · exact .inl (.inr (.inr (.inl e)))
    · exact .inl (.inr (.inr (.inr e)))

theorem CoR.grownRow (h : CoR w b bA FA bT FT v o ar X tabs) (hg : w.grownBy w' v.ownBlock) : w'.heap[b]? = some (rowC ar.most o bA bT v) :=
  ((Keeps.of_grown (F := fun k => v.ownBlock = some k) hg fun _ hk => hk).block b (row_lt h.row) h.apart1).trans h.row

theorem MS.Base.takeS (h : s.Base) (hf : s.ar.T.length ≠ s.ar.most) (x : Nd) : (s.takeS x).Base := by
  obtain ⟨h0, _, _, h3⟩ := h.took hf
  refine ⟨h.ar.take, ?_⟩
  unfold MS.takeS
  rcases h3 with ⟨e, e2⟩ | ⟨e, e2⟩
  · simp [e, e2]
  · have e3 : ¬ s.ar.takeN = s.N.length := by omega
    simp [e3, e2]

set_option maxRecDepth 100000 in
set_option maxHeartbeats 4000000 in
theorem coObtain (h : CoAt w b F s R s.refs) (ok : s.Okb R) (cl : s.Closed) (hR : ∀ n ∈ R, s.has n = true) (vn : Nat) (hv : vn < 8) (lo hi : Int) (blo : s.behind lo (vn : Int) = true) (bhi : s.behind hi (vn : Int) = true) :
    Calls Tryz.prog 63 #[pv b, .int .i64 (vn : Int), .int .i64 lo, .int .i64 hi] w fun e w' => e = .returned (.tuple #[.int .i64 (s.mk (vn : Int) lo hi R).1, errV (s.mk (vn : Int) lo hi R).2.1]) ∧ ∃ F', CoAt w' b F' (s.mk (vn : Int) lo hi R).2.2 R (s.mk (vn : Int) lo hi R).2.2.refs ∧ Keeps F w w' ∧ Within w F F' := by
  have okb := ok.toBase
  have hfew := okb.few
  generalize hr : s.mk (vn : Int) lo hi R = r
  unfold MS.mk at hr
  rw [if_neg (show ¬ ((vn : Int) < 0 ∨ 7 < (vn : Int) ∨ s.behind lo (vn : Int) = false ∨ s.behind hi (vn : Int) = false) by rw [blo, bhi]; simp; omega)] at hr
  have hv8 : (vn : Int) < 8 := by omega
  go_enter Tryz.func63, Tryz.ntmps63
  by_cases hlh : lo = hi
  · rw [if_pos hlh] at hr
    subst hr
    have hb : (lo == hi) = true := by rw [beq_iff_eq]; exact hlh
    replace hlh := Lib.hid hlh
    go_wp2
    go_ret2
    exact ⟨rfl, F, h, Keeps.refl _ _, Within.refl _ _⟩
  rw [if_neg hlh] at hr
  have hb : (lo == hi) = false := by rw [beq_eq_false_iff_ne]; exact hlh
  obtain ⟨bA, FA, bT, FT, v, X, tabs, rfl, hC, c⟩ := h
  have ct := hC.table vn hv
  have tsl := c.slots vn hv
  have HG := uniqGetS (hC.tab vn hv) (c.ok vn hv) (by omega) lo hi
  rcases c.get ok hv lo hi with ⟨n, hf, hg⟩ | ⟨hf, hg⟩
  · rw [hf] at hr
    dsimp only at hr
    subst hr
    rw [hg] at HG
    dsimp only at HG
    have H0 := Lib.hid hC
    have hcc := Lib.hid c
    clear hC hlh hf c ct hg
    have ct := H0.out.table vn hv
    go_wp2_with fail
    refine HG.mono ?_
    rintro e w1 ⟨rfl, hb1⟩
    clear HG ct
    go_wp2
    go_ret2
    exact ⟨rfl, _, ⟨bA, FA, bT, FT, v, X, tabs, rfl, H0.out.below hb1, hcc.out⟩, Keeps.of_below hb1 _, Within.refl _ _⟩
  · rw [hf] at hr
    dsimp only at hr
    rw [hg] at HG
    dsimp only at HG
    clear hg
    replace hlh := Lib.hid hlh
    replace hf := Lib.hid hf
    by_cases hfull : s.ar.T.length = s.ar.most
    · have e2 := (AS.Ok.take_full hfull).2.1
      obtain ⟨e1, _, e3⟩ := AS.Ok.take_full hfull
      rw [e2, if_pos (by decide)] at hr
      subst hr
      have H0 := Lib.hid hC
      have hcc := Lib.hid c
      clear hC c ct hfull
      have ct := H0.out.table vn hv
      go_wp2_with fail
      refine HG.mono ?_
      rintro e w1 ⟨rfl, hb1⟩
      clear HG ct
      have hC1 := H0.out.below hb1
      have c9 := hC1.cell.2.1
      have HT := arenaTakeS hC1.ar okb.ar
      rw [e1, e2, e3] at HT
      replace hC1 := Lib.hid hC1
      unfold errV at HT
      simp only [show ¬ (2 : Int) = 0 by decide, if_false] at HT
      clear H0
      go_wp2_with fail
      refine HT.mono ?_
      rintro e w2 ⟨rfl, FA', hA, hK, hW⟩
      clear HT c9
      obtain ⟨hC2, hK2, hW2⟩ := hC1.out.setAr hA rfl hK hW
      clear hA hK hW hC1
      replace hC2 := Lib.hid hC2
      go_wp2
      go_ret2
      exact ⟨rfl, _, ⟨bA, FA', bT, FT, v, X, tabs, rfl, hC2.out, hcc.out⟩, (Keeps.of_below hb1 _).and hK2, fun k hk => (hW2 k hk).imp id (fun h => Nat.le_trans hb1.size h)⟩
    · have e2 : s.ar.takeE = 0 := by simp [AS.takeE, hfull]
      rw [e2, if_neg (by decide)] at hr
      subst hr
      obtain ⟨t0, t1, t2, t3⟩ := okb.took hfull
      have hmost : s.ar.take.most = s.ar.most := by
        rcases last_or_nil s.ar.B with hb | ⟨l, n, hb⟩
        · rw [(AS.Ok.take_new hfull hb).2.2]
        · rw [(AS.Ok.take_again hfull hb).2.2]
      have hlX := c.len
      have hnew : s.has (s.ar.takeN + 2) = false := Bool.eq_false_iff.2 fun e => by
        have := (okb.range e).2.2
        rw [show s.ar.takeN + 2 - 2 = s.ar.takeN by omega] at this
        exact t1 this
      have hnR : s.ar.takeN + 2 ∉ R := fun e => by rw [hR _ e] at hnew; cases hnew
      obtain ⟨z, hcz⟩ := c.take okb hfull (fun e => okb.refs_new cl (by omega))
      have okt := okb.takeS hfull z
      have hthas := (okb.takeS_has hfull z (s.ar.takeN + 2)).2 (.inr rfl)
      have hmono : ∀ n, s.has n = true → (s.takeS z).has n = true := fun n hn => (okb.takeS_has hfull z n).2 (.inl hn)
      have htlo := MS.there_mono hmono (MS.behind_there blo)
      have hthi := MS.there_mono hmono (MS.behind_there bhi)
      have hone : ∀ m, (s.takeS z).has m = true → m ∉ (s.ar.takeN + 2) :: R → (s.takeS z).nd m ≠ ⟨(vn : Int), lo, hi⟩ := fun m hm hmR => by
        simp only [List.mem_cons, not_or] at hmR
        have h1 := ((okb.takeS_has hfull z m).1 hm).resolve_right hmR.1
        rw [okb.takeS_old hfull z h1]
        exact MS.find_none okb hf.out h1 hmR.2
      have hbnd : ∀ m, -100000 ≤ s.refs m ∧ s.refs m ≤ 100000 := fun m => by
        have := s.refs_nonneg m; have := okb.refs_le m; omega
      have hset := MS.takeS_setNd (s := s) (z := z) (x := ⟨(vn : Int), lo, hi⟩) okb hfull
      have hrefs := okb.refs_takeS hfull ⟨(vn : Int), lo, hi⟩
      have HL := fun {w b F} (h : CoAt w b F (s.takeS z) ((s.ar.takeN + 2) :: R) s.refs) => coLay h okt hthas hnR ⟨(vn : Int), lo, hi⟩ (by constructor <;> dsimp only <;> omega) htlo hthi hone hbnd
      unfold nv at HL
      dsimp only at HL
      have H0 := Lib.hid hC
      have har := okb.ar
      clear hC c ct hone hmono htlo hthi t1 t2 okt hthas hbnd hnew hnR
      have ct := H0.out.table vn hv
      go_wp2_with fail
      refine HG.mono ?_
      rintro e w1 ⟨rfl, hb1⟩
      clear HG ct
      have hC1 := H0.out.below hb1
      have c9 := hC1.cell.2.1
      have HT := arenaTakeS hC1.ar har
      rw [e2] at HT
      replace hC1 := Lib.hid hC1
      unfold errV at HT
      simp only [if_true] at HT
      have hTr : s.ar.takeN + 2 ≤ 20002 := by rcases t3 with ⟨h, _⟩ | ⟨h, _⟩ <;> omega
      generalize hTN : s.ar.takeN = N at *
      clear H0
      replace hTN := Lib.hid hTN
      go_wp2_with fail
      refine HT.mono ?_
      rintro e w2 ⟨rfl, FA', hA, hK, hW⟩
      clear HT c9
      obtain ⟨hC2, hK2, hW2⟩ := hC1.out.setAr hA hmost hK hW
      clear hA hK hW hC1
      have hKw := (Keeps.of_below hb1 _).and hK2
      have hWw : Within w (footC b FA FT v) (footC b FA' FT v) := fun k hk => (hW2 k hk).imp id (fun h => Nat.le_trans hb1.size h)
      clear hK2 hW2 hb1
      obtain ⟨a, cp, e5⟩ := hC2.form
      rw [hlX] at e5
      subst e5
      have c18 := hC2.cell.2.2
      by_cases hnl : N = (s.N.length : Int)
      · rw [if_pos hnl] at hcz
        have hnb : (N == (s.N.length : Int)) = true := by rw [beq_iff_eq]; exact hnl
        replace hnl := Lib.hid hnl
        have hbA : Below w2.heap.size w2 (w2.alloc (.cells #[.int .i64 0, .int .i64 0, .int .i64 0, .int .i64 0] 92)) := by go_grown
        have hsrc := oneX w2 w2.heap.size rfl
        have c18' := c18
        replace hC2 := hC2.below hbA
        have hKw2 := hKw.and (Keeps.of_below hbA _)
        have hsz := hKw2.size
        clear hKw hbA
        have c18 := hC2.cell.2.2
        have hX0 := hC2.places
        have hln : X.length + [((⟨0, 0, 0⟩, 0) : Nd × Int)].length ≤ 1000000 := by simp; omega
        replace hC2 := Lib.hid hC2
        have hL1 : (X ++ [((⟨0, 0, 0⟩, 0) : Nd × Int)]).length = s.N.length + 1 := by simp [hlX]
        go_wp2_with (at_builtin; refine appendX rfl (.tmp 55) (.tmp 57) rfl _ _ X [(⟨0, 0, 0⟩, 0)] rfl hX0 rfl hsrc hln ?_; intro v' w3 hown3 hgr hat; have hrow3 := hC2.out.grownRow hgr; obtain ⟨g4, c4, e4, _, _⟩ := hown3.some (by simp); rw [hL1] at e4; subst e4; have c18n : w3.cell? ⟨b, 18, none⟩ = some (.slice a s.N.length cp) := (by rw [cell_of_row _ _ _ _ _ _ hrow3]; rfl); have z18 : w3.frozen? ⟨b, 18, none⟩ = false := frozen_of_row _ _ _ _ _ hrow3; clear hrow3)
        obtain ⟨hC3, hK3, hW3⟩ := hC2.out.grown hown3 hgr hat
        have hKf := hKw2.trans hK3 hWw
        have hWf := hWw.trans hW3 hsz
        refine (HL ⟨bA, FA', bT, FT, _, _, tabs, rfl, hC3, hcz⟩).mono ?_
        rintro e w4 ⟨rfl, F4, hC4, hK4, hW4⟩
        rw [hset] at hC4
        have hWl := hWf.trans hW4 hKf.size
        have hKl := hKf.trans hK4 hWf
        clear hC3 hK3 hW3 hKf hWf hK4 hW4 hKw2 hcz HL hsrc hX0 hown3 hgr hat c18 c18' c18n z18 hC2
        go_wp2
        go_ret2
        exact ⟨by rw [← hTN.out]; rfl, F4, hC4.congr fun m => (hrefs m).symm, hKl, hWl⟩
      · rw [if_neg hnl] at hcz
        have hnb : (N == (s.N.length : Int)) = false := by rw [beq_eq_false_iff_ne]; exact hnl
        replace hnl := Lib.hid hnl
        have hHL := HL ⟨bA, FA', bT, FT, _, _, tabs, rfl, hC2, hcz⟩
        clear hC2 HL hcz
        go_wp2_with fail
        refine hHL.mono ?_
        rintro e w4 ⟨rfl, F4, hC4, hK4, hW4⟩
        rw [hset] at hC4
        have hWl := hWw.trans hW4 hKw.size
        have hKl := hKw.trans hK4 hWw
        clear hK4 hW4 hKw hWw hHL c18
        go_wp2
        go_ret2
        exact ⟨by rw [← hTN.out]; rfl, F4, hC4.congr fun m => (hrefs m).symm, hKl, hWl⟩

set_option maxRecDepth 100000 in
theorem coMust (h : CoAt w b F s R s.refs) (ok : s.Okb R) (cl : s.Closed) (hR : ∀ n ∈ R, s.has n = true) (vn : Nat) (hv : vn < 8) (lo hi : Int) (blo : s.behind lo (vn : Int) = true) (bhi : s.behind hi (vn : Int) = true) :
    Calls Tryz.prog 83 #[pv b, .int .i64 (vn : Int), .int .i64 lo, .int .i64 hi] w fun e w' => e = .returned (.int .i64 (s.mk (vn : Int) lo hi R).1) ∧ ∃ F', CoAt w' b F' (s.mk (vn : Int) lo hi R).2.2 R (s.mk (vn : Int) lo hi R).2.2.refs ∧ Keeps F w w' ∧ Within w F F' := by
  have HO := coObtain h ok cl hR vn hv lo hi blo bhi
  generalize s.mk (vn : Int) lo hi R = r at *
  clear h
  go_enter Tryz.func83, Tryz.ntmps83
  go_wp2_with fail
  refine HO.mono ?_
  rintro e w1 ⟨rfl, F1, hC, hK, hW⟩
  clear HO
  go_wp2
  go_ret
  exact ⟨rfl, F1, hC, hK, hW⟩

set_option maxRecDepth 100000 in
set_option maxHeartbeats 1000000 in
theorem coMk (h : CoAt w b F s [] s.refs) (ok : s.Ok) (v lo hi : Int) (hlo : lo ≤ 9223372036854775807 ∧ -9223372036854775808 ≤ lo) (hhi : hi ≤ 9223372036854775807 ∧ -9223372036854775808 ≤ hi) :
    Calls Tryz.prog 25 #[pv b, .int .i64 v, .int .i64 lo, .int .i64 hi] w fun e w' => e = .returned (.tuple #[.int .i64 (s.mk v lo hi []).1, errV (s.mk v lo hi []).2.1]) ∧ ∃ F', CoAt w' b F' (s.mk v lo hi []).2.2 [] (s.mk v lo hi []).2.2.refs ∧ Keeps F w w' ∧ Within w F F' := by
  have okb := ok.toBase
  generalize hr : s.mk v lo hi [] = r
  have HL := permLevel s.o v w
  have HFl := fun W (hb : Below w.heap.size w W) => coFits (h.below hb) okb lo (levO s.o v) v hlo rfl
  have HFh := fun W (hb : Below w.heap.size w W) => coFits (h.below hb) okb hi (levO s.o v) v hhi rfl
  have hrg := levO_range s.o v
  have hvr : 0 ≤ levO s.o v ↔ 0 ≤ v ∧ v ≤ 7 := by
    constructor
    · intro h0
      rcases levO_cases s.o v with ⟨h1, _⟩ | ⟨j, h1, h2, h3, _⟩
      · omega
      · have := mayO_range ok.order h2; omega
    · rintro ⟨h0, h7⟩
      obtain ⟨n, rfl⟩ := Int.eq_ofNat_of_zero_le h0
      exact levO_nonneg.2 (mayO_iff.1 ok.order n (by omega))
  have hbad : (v < 0 ∨ 7 < v ∨ s.behind lo v = false ∨ s.behind hi v = false) → r = (0, 1, s) := fun hc => by
    rw [← hr]; unfold MS.mk; rw [if_pos hc]
  have HO := fun {w F} (h : CoAt w b F s [] s.refs) (vn : Nat) (hv : vn < 8) (blo : s.behind lo (vn : Int) = true) (bhi : s.behind hi (vn : Int) = true) => coObtain h (ok.okb []) ok.closed (fun _ h => by cases h) vn hv lo hi blo bhi
  have H0 := Lib.hid h
  obtain ⟨bA, FA, bT, FT, vv, X, tabs, rfl, hR, c⟩ := h
  obtain ⟨c1, c2, c3, c4, c5, c6, c7, c8⟩ := hR.order
  simp only [ov] at HL
  clear hR c
  go_enter Tryz.func25, Tryz.ntmps25
  by_cases hl : levO s.o v < 0
  · have hr1 := hbad (by have := mt hvr.2 (by omega); omega)
    subst hr1
    generalize levO s.o v = L at *
    clear HFl HFh HO hvr hbad
    go_wp2_with fail
    refine HL.mono ?_
    rintro e w1 ⟨rfl, hb1⟩
    clear HL c1 c2 c3 c4 c5 c6 c7 c8
    go_wp2
    go_ret2
    exact ⟨rfl, _, H0.out.below hb1, Keeps.of_below hb1 _, Within.refl _ _⟩
  · have hv8 := hvr.1 (by omega)
    obtain ⟨vn, rfl⟩ := Int.eq_ofNat_of_zero_le hv8.1
    cases blo : s.behind lo (vn : Int)
    · have hr1 := hbad (.inr (.inr (.inl blo)))
      subst hr1
      rw [blo] at HFl
      generalize levO s.o (vn : Int) = L at *
      clear HFh HO hvr hbad hv8 blo
      go_wp2_with fail
      refine HL.mono ?_
      rintro e w1 ⟨rfl, hb1⟩
      clear HL c1 c2 c3 c4 c5 c6 c7 c8
      go_wp2_with fail
      refine (HFl _ hb1).mono ?_
      rintro e w2 ⟨rfl, hb2⟩
      replace hb1 := hb1.trans (hb2.mono hb1.size)
      clear HFl hb2
      go_wp2
      go_ret2
      exact ⟨rfl, _, H0.out.below hb1, Keeps.of_below hb1 _, Within.refl _ _⟩
    · cases bhi : s.behind hi (vn : Int)
      · have hr1 := hbad (.inr (.inr (.inr bhi)))
        subst hr1
        rw [blo] at HFl
        rw [bhi] at HFh
        generalize levO s.o (vn : Int) = L at *
        clear HO hvr hbad hv8 blo bhi
        go_wp2_with fail
        refine HL.mono ?_
        rintro e w1 ⟨rfl, hb1⟩
        clear HL c1 c2 c3 c4 c5 c6 c7 c8
        go_wp2_with fail
        refine (HFl _ hb1).mono ?_
        rintro e w2 ⟨rfl, hb2⟩
        replace hb1 := hb1.trans (hb2.mono hb1.size)
        clear HFl hb2
        go_wp2_with fail
        refine (HFh _ hb1).mono ?_
        rintro e w2 ⟨rfl, hb2⟩
        replace hb1 := hb1.trans (hb2.mono hb1.size)
        clear HFh hb2
        go_wp2
        go_ret2
        exact ⟨rfl, _, H0.out.below hb1, Keeps.of_below hb1 _, Within.refl _ _⟩
      · rw [blo] at HFl
        rw [bhi] at HFh
        have HO1 := fun {w F} (h : CoAt w b F s [] s.refs) => HO h vn (by omega) blo bhi
        rw [hr] at HO1
        generalize levO s.o (vn : Int) = L at *
        clear HO hvr hbad hv8 blo bhi hr
        go_wp2_with fail
        refine HL.mono ?_
        rintro e w1 ⟨rfl, hb1⟩
        clear HL c1 c2 c3 c4 c5 c6 c7 c8
        go_wp2_with fail
        refine (HFl _ hb1).mono ?_
        rintro e w2 ⟨rfl, hb2⟩
        replace hb1 := hb1.trans (hb2.mono hb1.size)
        clear HFl hb2
        go_wp2_with fail
        refine (HFh _ hb1).mono ?_
        rintro e w2 ⟨rfl, hb2⟩
        replace hb1 := hb1.trans (hb2.mono hb1.size)
        clear HFh hb2
        go_wp2_with fail
        refine (HO1 (H0.out.below hb1)).mono ?_
        rintro e w3 ⟨rfl, F3, hC, hK, hW⟩
        clear HO1 H0
        go_wp2
        go_ret2
        exact ⟨rfl, F3, hC, (Keeps.of_below hb1 _).and hK, fun k hk => (hW k hk).imp id (fun h => Nat.le_trans hb1.size h)⟩
end

end Go.Proofs.YtdcomiopjgcboaaGreatDoor

/-
  Walks of the code's store: Free.
-/
namespace Go.Proofs.YtdcomiopjgcboaaGreatDoor
open Go Go.RowKit

section
variable {w w' : World} {b bA : Nat} {FA F : Nat → Prop} {bT : Nat → Nat} {FT : Nat → Nat → Prop} {v v' : Value} {o : Nat → Int} {ar : AS} {X X' : List (Nd × Int)} {tabs : Nat → TS} {s : MS} {R : List Int} {f : Int → Int}

theorem chain_placeC (W : World) (g k : Nat) (v0 v1 v2 v3 : Value) : (((W.setCell ⟨g, k, none⟩ v0).setCell ⟨g, k + 1, none⟩ v1).setCell ⟨g, k + 2, none⟩ v2).setCell ⟨g, k + 3, none⟩ v3 = W.setCells g k [v0, v1, v2, v3] := rfl
/-- A place emptied. -/
theorem CoR.putZero {g n cap i : Nat} (h : CoR w b bA FA bT FT (.slice (some ⟨g, 0, none⟩) n cap) o ar X tabs) (hn : n = X.length) (hi : i < X.length) :
    CoR (w.setCells g (i * 4) [.int .i64 0, .int .i64 0, .int .i64 0, .int .i64 0]) b bA FA bT FT (.slice (some ⟨g, 0, none⟩) n cap) o ar (X.set i (⟨0, 0, 0⟩, 0)) tabs ∧ Keeps (footC b FA FT (.slice (some ⟨g, 0, none⟩) n cap)) w (w.setCells g (i * 4) [.int .i64 0, .int .i64 0, .int .i64 0, .int .i64 0]) := by
  subst hn
  exact h.setX rfl (owns_putCells h.places hi (⟨0, 0, 0⟩, 0)) (Keeps.of_setCells (fun k => k = g) g rfl _ _ w)

set_option maxRecDepth 100000 in
set_option maxHeartbeats 4000000 in
theorem coFree (h : CoAt w b F s [] s.refs) (ok : s.Ok) (n : Int) (hn : n ≤ 9223372036854775807 ∧ -9223372036854775808 ≤ n) :
    Calls Tryz.prog 55 #[pv b, .int .i64 n] w fun e w' => e = .returned (errV (s.free n).1) ∧ ∃ F', CoAt w' b F' (s.free n).2 [] (s.free n).2.refs ∧ Keeps F w w' ∧ Within w F F' := by
  have okb := ok.toBase
  have hfew := okb.few
  have HH := coHas h okb n hn
  generalize hr : s.free n = r
  unfold MS.free at hr
  go_enter Tryz.func55, Tryz.ntmps55
  cases hh : s.has n
  · rw [hh] at hr HH
    rw [if_pos (.inl rfl)] at hr
    subst hr
    go_wp2_with fail
    refine HH.mono ?_
    rintro e w1 ⟨rfl, rfl⟩
    clear HH
    go_wp2
    go_ret
    exact ⟨rfl, F, h, Keeps.refl _ _, Within.refl _ _⟩
  rw [hh] at HH
  have HA := coAt h okb hh
  have hlow := okb.isLow_refs n
  have hrb := okb.refs_le n
  have hr0 := s.refs_nonneg n
  have q1 := fieldK (s.nd n) (s.refs n)
  unfold plv at HA
  by_cases hpos : 0 < s.refs n
  · rw [if_pos (.inr (by rw [hlow, decide_eq_true hpos]))] at hr
    subst hr
    replace h := Lib.hid h
    go_wp2_with fail
    refine HH.mono ?_
    rintro e w1 ⟨rfl, rfl⟩
    clear HH
    go_wp2_with fail
    refine HA.mono ?_
    rintro e w1 ⟨rfl, hb1⟩
    clear HA
    go_wp2
    go_ret
    exact ⟨rfl, F, h.out.below hb1, Keeps.of_below hb1 _, Within.refl _ _⟩
  · have hz : s.refs n = 0 := by omega
    have hr2 := (AS.give_yes ((MS.has_mem okb).1 hh)).1
    rw [if_neg (by rw [hh, hlow, decide_eq_false hpos]; simp), hr2] at hr
    subst hr
    have hno := (okb.refs_zero n).1 hz
    have hv := ok.var n hh
    obtain ⟨vn, hvn⟩ := Int.eq_ofNat_of_zero_le hv.1
    have hv8 : vn < 8 := by omega
    have hv8' : (vn : Int) < 8 := by omega
    have hlo := MS.behind_there (ok.lo n hh)
    have hhi := MS.behind_there (ok.hi n hh)
    obtain ⟨n1, n2⟩ := hno n hh
    have hgive := okb.refs_give hh
    have hone : ∀ m, s.has m = true → m ∉ ([] : List Int) → s.nd m = s.nd n → m = n := fun m hm _ e => ok.one m n hm hh e
    have hbnd : ∀ m, -100000 ≤ s.refs m ∧ s.refs m ≤ 100000 := fun m => by
      have := s.refs_nonneg m; have := okb.refs_le m; omega
    have HA2 := fun W (hb : Below w.heap.size w W) => coAt (h.below hb) okb hh
    have q0 := fieldP (s.nd n) (s.refs n)
    unfold plv at HA2
    have HHg := fun {w F} (h : CoAt w b F s [n] s.refs) => coHang h okb (s.nd n) (-1) hlo hhi hbnd (.inr rfl)
    unfold nv at HHg
    obtain ⟨bA, FA, bT, FT, v, X, tabs, rfl, hR, c⟩ := h
    have hcd := c.drop (n := n) hv8 hvn hone (R' := [n]) (fun m => by simp)
    have tsl := c.slots vn hv8
    have tok := c.ok vn hv8
    have hBF := hR.lt
    generalize hnd : s.nd n = x at *
    obtain ⟨xv, xl, xh⟩ := x
    dsimp only at hvn hlo hhi n1 n2 hcd HA HA2 q0 q1 HHg
    subst hvn
    have hR0 := Lib.hid hR
    have hcd0 := Lib.hid hcd
    have hnd0 := Lib.hid hnd
    have hgive0 := Lib.hid hgive
    have hzz := Lib.hid hz
    have hnn := Lib.hid (show cnt ⟨(vn : Int), xl, xh⟩ n = 0 from cnt_zero.2 ⟨n1, n2⟩)
    have hrr := (okb.range hh).2.1
    have hl0 := c.len
    clear hR c hone hno hgive hbnd hlow hrb hv hcd hnd hz n1 n2
    generalize hrn : s.refs n = rn at *
    replace hrn := Lib.hid hrn
    go_wp2_with fail
    refine HH.mono ?_
    rintro e w1 ⟨rfl, rfl⟩
    clear HH
    go_wp2_with fail
    refine HA.mono ?_
    rintro e w1 ⟨rfl, hb1⟩
    clear HA
    go_wp2_with fail
    refine (HA2 w1 hb1).mono ?_
    rintro e w2 ⟨rfl, hb2⟩
    replace hb1 := hb1.trans (hb2.mono hb1.size)
    clear HA2 hb2
    go_wp2
    have hx := HoldsN.new w2 ⟨(vn : Int), xl, xh⟩
    dsimp only at hx
    have hb3 : Below w.heap.size w (w2.alloc (.cells #[.int .i64 (vn : Int), .int .i64 xl, .int .i64 xh] 78)) := hb1.alloc hb1.size _
    have hBl := hb1.size
    clear hb1
    generalize w2.alloc (.cells #[.int .i64 (vn : Int), .int .i64 xl, .int .i64 xh] 78) = W at *
    generalize hB : w2.heap.size = B at *
    have hR := hR0.out.below hb3
    have x0 := fun u : Sub W => (HoldsN.sub hx u).cells.1
    have x1 := fun u : Sub W => (HoldsN.sub hx u).cells.2.1
    have x2 := fun u : Sub W => (HoldsN.sub hx u).cells.2.2
    dsimp only at x0 x1 x2
    have ct := fun u : Sub W => (hR.sub u).table vn hv8
    refine wp_region_quiet_tail (C := fun w' => ∃ u : Sub W, w' = u.1) 11 (by kernel_rfl) (by kernel_rfl) (InSub.drew W) ?_
    simp only [List.take_succ_cons, List.take_zero]
    iterate 11 (go_big_quiet_step (fail))
    refine wpQuiet_nil ?_
    clear x0 x1 x2 ct
    intro w' hw'
    obtain ⟨u, rfl⟩ := hw'
    have hR7 := hR.sub u
    have hx7 := HoldsN.sub hx u
    have hb7 := hb3.trans (u.2.mono hb3.size)
    clear hR hx hR0 hb3
    generalize u.1 = W7 at *
    have HP := uniqDropS (hR7.tab vn hv8) tok (by omega) xl xh
    simp only [List.drop_succ_cons, List.drop_zero]
    apply wpList_step
    intro K1 hK1
    go_simp
    refine HP.mono ?_
    rintro e W8 ⟨rfl, FT', hU, hKU, hWU⟩
    clear HP
    obtain ⟨hR8, hK8, hW8⟩ := hR7.setTab hv8 hU hKU hWU
    have hx8 := hx7.keep hK8 (fun e => by have := hBF _ e; omega)
    have hKf := (Keeps.of_below hb7 _).and hK8
    have hWf : Within w (footC b FA FT v) (footC b FA (upd FT vn FT') v) := fun k hk => (hW8 k hk).imp id (fun h => Nat.le_trans hb7.size h)
    clear hR7 hx7 hU hKU hWU hK8 hW8 hb7
    apply hK1
    clear hK1
    refine wpList_nil ?_
    have HH1 := HHg ⟨bA, FA, bT, upd FT vn FT', v, X, _, rfl, hR8, hcd0.out⟩
    obtain ⟨x0, x1, x2⟩ := hx8.cells
    dsimp only at x0 x1 x2
    clear HHg hR8 hcd0 hx8
    go_wp2_with fail
    refine HH1.mono ?_
    rintro e W9 ⟨rfl, hC9, hK9⟩
    replace hKf := hKf.trans hK9 hWf
    clear HH1 x0 x1 x2 hK9
    obtain ⟨bA9, FA9, bT9, FT9, v9, X9, tabs9, e9, hR9, hc9⟩ := hC9
    rw [e9] at hWf
    have hl9 := hc9.len
    obtain ⟨g, cap, rfl, h2, i0, i1, d0, d1, d2, d3⟩ := hR9.node hc9 okb hh
    have hX9 : (n - 2).toNat < X9.length := by omega
    have c18 := hR9.cell.2.2
    have y0 := hR9.places.free ((n - 2).toNat * 4)
    have y1 := hR9.places.free ((n - 2).toNat * 4 + 1)
    have y2 := hR9.places.free ((n - 2).toNat * 4 + 2)
    have y3 := hR9.places.free ((n - 2).toNat * 4 + 3)
    obtain ⟨hR10, hK10⟩ := hR9.putZero rfl hX9
    have hKf2 := hKf.trans hK10 hWf
    have HR10 := Lib.hid hR10
    have HK10 := Lib.hid hKf2
    clear hR9 hR10 hK10 hKf hKf2
    have c9 := HR10.out.cell.2.1
    rw [← chain_placeC] at c9
    go_wp2_with fail
    clear c9 c18 y0 y1 y2 y3 d0 d1 d2 d3
    rw [chain_placeC]
    have hR10 := HR10.out
    have hK10 := HK10.out
    clear HR10 HK10
    generalize W9.setCells g ((n - 2).toNat * 4) [.int .i64 0, .int .i64 0, .int .i64 0, .int .i64 0] = W10 at *
    have HG := arenaGiveS hR10.ar okb.ar (n - 2)
    rw [hr2] at HG
    refine HG.mono ?_
    rintro e W11 ⟨rfl, FA', hA, hK, hW⟩
    clear HG
    have hmost : (s.ar.give (n - 2)).most = s.ar.most := by rw [(AS.give_yes ((MS.has_mem okb).1 hh)).2]
    obtain ⟨hR11, hK11, hW11⟩ := hR10.setAr hA hmost hK hW
    have hKl := hK10.trans hK11 hWf
    have hWl := hWf.trans hW11 hK10.size
    have hcf := hc9.free okb hh (by rw [hrn.out, hzz.out, hnn.out]; rfl)
    clear hR10 hA hK hW hK11 hW11 hc9
    go_wp2
    go_ret
    exact ⟨rfl, _, ⟨bA9, FA', bT9, FT9, _, _, tabs9, rfl, hR11, hcf.congr fun m => by rw [hgive0.out m]; omega⟩, hKl, hWl⟩
end

end Go.Proofs.YtdcomiopjgcboaaGreatDoor

/-
  Walks of the code's store: turn.
-/
namespace Go.Proofs.YtdcomiopjgcboaaGreatDoor
open Go Go.RowKit

/-- What is known of a round. -/
structure MS.Turn (t : MS) (n : Int) (R : List Int) (X Y : Nat) (a c : Int) (t1 t2 : MS) : Prop where
  okb : t.Okb (n :: R)
  okb1 : t1.Okb (n :: R)
  base2 : t2.Base
  closed : t.Closed
  closed1 : t1.Closed
  hasR : ∀ m ∈ n :: R, t.has m = true
  hasR1 : ∀ m ∈ n :: R, t1.has m = true
  has2 : t2.has n = true
  nR : n ∉ R
  X8 : X < 8
  Y8 : Y < 8
  var : (t.nd n).var = (X : Int)
  nd2 : t2.nd n = t.nd n
  mk1 : t.mk (X : Int) (t.side (t.nd n).lo (Y : Int) false) (t.side (t.nd n).hi (Y : Int) false) (n :: R) = (a, 0, t1)
  mk2 : t1.mk (X : Int) (t.side (t.nd n).lo (Y : Int) true) (t.side (t.nd n).hi (Y : Int) true) (n :: R) = (c, 0, t2)
  b1 : t.behind (t.side (t.nd n).lo (Y : Int) false) (X : Int) = true
  b2 : t.behind (t.side (t.nd n).hi (Y : Int) false) (X : Int) = true
  b3 : t1.behind (t.side (t.nd n).lo (Y : Int) true) (X : Int) = true
  b4 : t1.behind (t.side (t.nd n).hi (Y : Int) true) (X : Int) = true
  ta : t2.there a = true
  tc : t2.there c = true
  tlo : t2.there (t.nd n).lo = true
  thi : t2.there (t.nd n).hi = true
  one : ∀ m, t2.has m = true → m ∉ n :: R → t2.nd m ≠ ⟨(Y : Int), a, c⟩

theorem MS.J.turn {s t : MS} {l : Nat} {C R : List Int} (w : s.Sw l C) {n : Int} (hn : n ∈ C) (hnR : n ∉ R) (hR : ∀ m ∈ R, m ∈ C) (j : MS.J s l C (n :: R) t) (hroom : 2 * ((n :: R).length : Int) ≤ t.room) {X Y : Nat} (hX : s.o l = (X : Int)) (hY : s.o (l + 1) = (Y : Int)) :
    ∃ a c t1 t2, t.Turn n R X Y a c t1 t2 ∧ t.mk (X : Int) (t.side (t.nd n).lo (Y : Int) false) (t.side (t.nd n).hi (Y : Int) false) (n :: R) = (a, 0, t1) ∧
      t1.mk (X : Int) (t1.side (t.nd n).lo (Y : Int) true) (t1.side (t.nd n).hi (Y : Int) true) (n :: R) = (c, 0, t2) ∧ MS.J s l C R (t2.setNd n ⟨(Y : Int), a, c⟩) ∧ 2 * (R.length : Int) ≤ (t2.setNd n ⟨(Y : Int), a, c⟩).room := by
  have hRC : ∀ m ∈ n :: R, m ∈ C := fun m hm => by
    rcases List.mem_cons.1 hm with rfl | hm
    · exact hn
    · exact hR m hm
  have rx := mayO_range w.ok.order (i := l) (by have := w.l6; omega)
  have ry := mayO_range w.ok.order (i := l + 1) (by have := w.l6; omega)
  obtain ⟨n1, n2, _⟩ := (w.mem n).1 hn
  obtain ⟨d1, d2⟩ := w.sides hn
  have e0 := j.old n n1 (.inr List.mem_cons_self)
  obtain ⟨a, c, t1, t2, _, m1, m2, j1, j2, hn2, j3, r3⟩ := j.round w hn hnR hroom
  have p00 := w.ok.deep_side w.l6 d1 false
  have p10 := w.ok.deep_side w.l6 d2 false
  have p01 := w.ok.deep_side w.l6 d1 true
  have p11 := w.ok.deep_side w.l6 d2 true
  have s00 := j.side_as w d1 false
  have s10 := j.side_as w d2 false
  have s01 := j.side_as w d1 true
  have s11 := j.side_as w d2 true
  have u01 := j1.side_as w d1 true
  have u11 := j1.side_as w d2 true
  have b00 := j.deep_behind w p00
  have b10 := j.deep_behind w p10
  have b01 := j1.deep_behind w p01
  have b11 := j1.deep_behind w p11
  have e2 := j2.old n n1 (.inr List.mem_cons_self)
  have hB2 := j2.okb.toBase
  have hat := hB2.setNd_at hn2 ⟨s.o (l + 1), a, c⟩
  have ha := MS.behind_there (j3.okb.lo n hn2 hnR)
  have hc := MS.behind_there (j3.okb.hi n hn2 hnR)
  rw [hat] at ha hc
  have hcl2 := j2.closed w hRC n hn2
  rw [e2] at hcl2
  rw [hX] at m1 m2 b00 b10 b01 b11
  rw [hX] at n2 rx
  rw [hY] at m1 m2 s00 s10 s01 s11 u01 u11 b00 b10 b01 b11 hat j3 r3 ry
  have m2' := m2
  rw [e0] at m1 m2 m2'
  rw [u01, u11, ← s01, ← s11] at m2'
  refine ⟨a, c, t1, t2, ⟨j.okb, j1.okb, hB2, j.closed w hRC, j1.closed w hRC, fun m hm => j.has m ((w.mem m).1 (hRC m hm)).1, fun m hm => j1.has m ((w.mem m).1 (hRC m hm)).1, hn2, hnR, by omega, by omega, by rw [e0]; exact n2, by rw [e2, e0], by rw [e0]; exact m1, by rw [e0]; exact m2', ?_, ?_, ?_, ?_, ha, hc, by rw [e0]; exact hcl2.1, by rw [e0]; exact hcl2.2, fun m hm hmR e => ?_⟩, by rw [e0]; exact m1, by rw [e0]; exact m2, j3, r3⟩
  · rw [e0, s00]; exact b00
  · rw [e0, s10]; exact b10
  · rw [e0, s01]; exact b01
  · rw [e0, s11]; exact b11
  · simp only [List.mem_cons, not_or] at hmR
    have h1 := hB2.setNd_ne hn2 hm hmR.1 ⟨(Y : Int), a, c⟩
    exact hmR.1 (j3.okb.one m n hm hn2 hmR.2 hnR (by rw [h1, e, hat]))

section
variable {w w' : World} {b : Nat} {F : Nat → Prop} {t t1 t2 : MS} {R : List Int}

set_option maxRecDepth 100000 in
set_option maxHeartbeats 4000000 in
theorem coTurn {n a c : Int} {vx vy : Nat} (h : CoAt w b F t (n :: R) t.refs) (T : t.Turn n R vx vy a c t1 t2) :
    Calls Tryz.prog 50 #[pv b, .int .i64 n, .int .i64 (vy : Int)] w fun e w' => e = .returned (.tuple #[]) ∧ ∃ F', CoAt w' b F' (t2.setNd n ⟨(vy : Int), a, c⟩) R (t2.setNd n ⟨(vy : Int), a, c⟩).refs ∧ Keeps F w w' ∧ Within w F F' := by
  have hh := T.hasR n List.mem_cons_self
  have okb := T.okb.toBase
  have hcl := T.closed n hh
  have HA := coAt h okb hh
  have q0 := fieldP (t.nd n) (t.refs n)
  unfold plv at HA
  have hFlt := h.lt
  have hlt : ∀ m, -100000 ≤ t2.refs m ∧ t2.refs m ≤ 100000 := fun m => by
    have := t2.refs_nonneg m; have := T.base2.refs_le m; omega
  have hlt2 : ∀ m, -100000 ≤ t2.refs m + cnt ⟨(vy : Int), a, c⟩ m ∧ t2.refs m + cnt ⟨(vy : Int), a, c⟩ m ≤ 100000 := fun m => by
    have := t2.refs_nonneg m; have := T.base2.refs_le m; have := cnt_nonneg ⟨(vy : Int), a, c⟩ m; have := cnt_le ⟨(vy : Int), a, c⟩ m; omega
  have hrefs := T.base2.refs_setNd T.has2 ⟨(vy : Int), a, c⟩
  rw [T.nd2] at hrefs
  have P1 := fun W hb => coApart (w := W) (h.below hb) okb (t.nd n).lo (vy : Int) hcl.1
  have P2 := fun W hb => coApart (w := W) (h.below hb) okb (t.nd n).hi (vy : Int) hcl.2
  have M1 := fun {W F} (h : CoAt W b F t (n :: R) t.refs) => coMust h T.okb T.closed T.hasR vx T.X8 _ _ T.b1 T.b2
  have M2 := fun {W F} (h : CoAt W b F t1 (n :: R) t1.refs) => coMust h T.okb1 T.closed1 T.hasR1 vx T.X8 _ _ T.b3 T.b4
  rw [T.mk1] at M1
  rw [T.mk2] at M2
  dsimp only at M1 M2
  have L := fun {W F} (h : CoAt W b F t2 (n :: R) t2.refs) => coLay h T.base2 T.has2 T.nR ⟨(vy : Int), a, c⟩ (by have := T.Y8; constructor <;> dsimp only <;> omega) T.ta T.tc T.one hlt
  have G := fun {W F} (h : CoAt W b F (t2.setNd n ⟨(vy : Int), a, c⟩) R (fun m => t2.refs m + cnt ⟨(vy : Int), a, c⟩ m)) => coHang h (T.base2.setNd n ⟨(vy : Int), a, c⟩) (t.nd n) (-1) T.tlo T.thi hlt2 (.inr rfl)
  have hvx := T.var
  unfold nv at L G
  generalize t.side (t.nd n).lo (vy : Int) false = s00 at *
  generalize t.side (t.nd n).lo (vy : Int) true = s01 at *
  generalize t.side (t.nd n).hi (vy : Int) false = s10 at *
  generalize t.side (t.nd n).hi (vy : Int) true = s11 at *
  generalize hold : t.nd n = old at *
  obtain ⟨ov', ol, oh⟩ := old
  dsimp only at hvx
  subst hvx
  dsimp only at HA q0 P1 P2 M1 M2 L G hrefs
  clear hlt hlt2 hcl T hh okb
  replace hold := Lib.hid hold
  replace hrefs := Lib.hid hrefs
  replace hFlt := Lib.hid hFlt
  go_enter Tryz.func50, Tryz.ntmps50
  go_wp2_with fail
  refine HA.mono ?_
  rintro e w2 ⟨rfl, hb2⟩
  clear HA
  have hx := HoldsN.new w2 ⟨(vx : Int), ol, oh⟩
  dsimp only at hx
  have hb3 : Below w.heap.size w (w2.alloc (.cells #[.int .i64 (vx : Int), .int .i64 ol, .int .i64 oh] 78)) := hb2.alloc hb2.size _
  have hBl := hb2.size
  clear hb2
  obtain ⟨x0, x1, x2⟩ := HoldsN.cells hx
  dsimp only at x0 x1 x2
  go_wp2_with fail
  generalize w2.alloc (.cells #[.int .i64 (vx : Int), .int .i64 ol, .int .i64 oh] 78) = W at *
  generalize hB : w2.heap.size = B at *
  clear hB x0 x1 x2
  refine (P1 W hb3).mono ?_
  rintro e w3 ⟨rfl, hb4⟩
  replace hx := HoldsN.below hx hb4
  replace hb3 := hb3.trans (hb4.mono hb3.size)
  clear P1 hb4
  obtain ⟨x0, x1, x2⟩ := HoldsN.cells hx
  dsimp only at x0 x1 x2
  go_wp2_with fail
  clear x0 x1 x2
  refine (P2 w3 hb3).mono ?_
  rintro e w4 ⟨rfl, hb4⟩
  replace hx := HoldsN.below hx hb4
  replace hb3 := hb3.trans (hb4.mono hb3.size)
  clear P2 hb4
  obtain ⟨x0, x1, x2⟩ := HoldsN.cells hx
  dsimp only at x0 x1 x2
  go_wp2_with fail
  clear x0 x1 x2
  have hBF : ¬ F B := fun e => by have := hFlt.out _ e; omega
  have hBlt := HoldsN.lt hx
  refine (M1 (h.below hb3)).mono ?_
  rintro e w5 ⟨rfl, F5, hC, hK, hW⟩
  replace hx := HoldsN.keep hx hK hBF
  have hKw := (Keeps.of_below hb3 F).and hK
  have hWw : Within w F F5 := fun k hk => (hW k hk).imp id (fun h => Nat.le_trans hb3.size h)
  have hBF5 : ¬ F5 B := fun e => (hW B e).elim hBF (fun h => by omega)
  clear M1 h hK hW hBlt hBF hb3
  obtain ⟨x0, x1, x2⟩ := HoldsN.cells hx
  dsimp only at x0 x1 x2
  go_wp2_with fail
  clear x0 x1 x2
  have hBlt := HoldsN.lt hx
  refine (M2 hC).mono ?_
  rintro e w6 ⟨rfl, F6, hC6, hK, hW⟩
  replace hx := HoldsN.keep hx hK hBF5
  have hWl := hWw.trans hW hKw.size
  have hKl := hKw.trans hK hWw
  have hBF6 : ¬ F6 B := fun e => (hW B e).elim hBF5 (fun h => by omega)
  clear M2 hC hK hW hBlt hBF5 hKw hWw
  go_wp2_with fail
  have hBlt := HoldsN.lt hx
  refine (L hC6).mono ?_
  rintro e w7 ⟨rfl, F7, hC7, hK, hW⟩
  replace hx := HoldsN.keep hx hK hBF6
  have hWw := hWl.trans hW hKl.size
  have hKw := hKl.trans hK hWl
  clear L hC6 hK hW hBlt hBF6 hKl hWl
  obtain ⟨x0, x1, x2⟩ := HoldsN.cells hx
  dsimp only at x0 x1 x2
  go_wp2_with fail
  refine (G hC7).mono ?_
  rintro e w8 ⟨rfl, hC8, hK⟩
  have hKl := hKw.trans hK hWw
  clear G hC7 hK x0 x1 x2 hx
  go_wp2
  exact bodyPost_end (v := .tuple #[]) (by simp [results, Tryz.results50, go_sem]) rfl ⟨rfl, F7, hC8.congr fun m => by rw [hrefs.out m]; omega, hKl, hWw⟩
end

end Go.Proofs.YtdcomiopjgcboaaGreatDoor
