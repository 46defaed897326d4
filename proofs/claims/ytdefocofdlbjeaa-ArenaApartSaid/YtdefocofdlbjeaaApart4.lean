/-
  ArenaApart: the walk.
-/
import Derived.Test.YtdefocofdlbjeaaUp4
import Derived.Test.YtdefocofdlbjeaaPure
namespace Go.Proofs.Ytdefocofdlbjeaa
open Go Go.RowKit

/-- The arena, and a slice of numbers, apart from each other and from all that stood in w0. -/
structure AR' (w0 : World) (b : Nat) (F : Nat → Prop) (s : AS) (v : Value) (T : List Int) (W : World) : Prop where
  a : ArenaAt W b F s
  own : Owns encI W v T
  apart : ∀ g, v.ownBlock = some g → ¬ F g
  low : ∀ k, F k → w0.heap.size ≤ k
  lowV : ∀ g, v.ownBlock = some g → w0.heap.size ≤ g
  below : Below w0.heap.size w0 W

section
variable {w0 W W' : World} {b : Nat} {F F' : Nat → Prop} {s s' : AS} {v v' : Value} {T : List Int}

theorem AR'.keep (h : AR' w0 b F s v T W) (hb : Below W.heap.size W W') : AR' w0 b F s v T W' :=
  ⟨h.a.below hb, h.own.keep (Keeps.of_below hb noBlock) (fun _ _ h => h), h.apart, h.low, h.lowV, h.below.trans (hb.mono h.below.size)⟩
theorem AR'.step (h : AR' w0 b F s v T W) (hA : ArenaAt W' b F' s') (hK : Keeps F W W') (hW : Within W F F') : AR' w0 b F' s' v T W' :=
  ⟨hA, h.own.keep hK h.apart, fun g hg h1 => (hW g h1).elim (h.apart g hg) (fun h2 => by have := h.own.lt g hg; omega),
    fun k h1 => (hW k h1).elim (h.low k) (fun h3 => Nat.le_trans h.below.size h3), h.lowV, h.below.trans (hK.below h.below.size h.low)⟩
theorem AR'.drew (h : AR' w0 b F s v T W) : AR' w0 b F s v T W.drew := h.keep ((Below.refl _ _).drew)
/-- A slice that lies in what was made since. -/
theorem AR'.new (h : AR' w0 b F s v T W) {l : List Int} (ho : Owns encI W' v' l) (hb : Below W.heap.size W W') (hn : ∀ g, v'.ownBlock = some g → W.heap.size ≤ g) : AR' w0 b F s v' l W' :=
  ⟨h.a.below hb, ho, fun g hg h1 => by have := hn g hg; have := h.a.lt g h1; omega, h.low, fun g hg => Nat.le_trans h.below.size (hn g hg), h.below.trans (hb.mono h.below.size)⟩
/-- The slice appended to. -/
theorem AR'.app (h : AR' w0 b F s v T W) {l : List Int} (ho : Owns encI W' v' l) (hg : W.grownBy W' v.ownBlock) (hat : v'.ownBlock = v.ownBlock ∨ v'.ownBlock = some W.heap.size) : AR' w0 b F s v' l W' :=
  ⟨h.a.keep (Keeps.of_grown (F := fun k => v.ownBlock = some k) hg (fun _ h => h)) (fun k h1 h2 => h.apart k h2 h1), ho,
    fun g hg1 h1 => hat.elim (fun e => h.apart g (e ▸ hg1) h1) (fun e => by rw [e] at hg1; injection hg1; have := h.a.lt g h1; omega), h.low,
    fun g hg1 => hat.elim (fun e => h.lowV g (e ▸ hg1)) (fun e => by rw [e] at hg1; injection hg1; have := h.below.size; omega),
    h.below.grown hg h.below.size h.lowV⟩
end

/-- At the loop's head. -/
structure MRel (w : World) (n : Nat) (k : Nat) (b : Nat) (s : AS) (v : Value) (W : World) : Prop where
  le : k ≤ n
  ok : s.Ok
  ex : ∃ F, AR' w b F s v s.T W

/-- What is left of a slice behind its first k elements. -/
theorem ownsDrop {P : Program} {α : Type} {E : Enc P α} {w : World} {g cap k : Nat} {l : List α} (h : Owns E w (.slice (some ⟨g, 0, none⟩) l.length cap) l) (hk : k ≤ l.length) (hl : l.length ≤ cap) (hs : E.size = 1) (A : Option Addr) (hA : A = if cap = k then some ⟨g, 0, none⟩ else some ⟨g, k, none⟩) :
    Reads E w (.slice A (l.length - k) (cap - k)) (l.drop k) := by
  have hlen : (l.drop k).length = l.length - k := by simp
  by_cases hc : cap = k
  · rw [if_pos hc] at hA
    subst hA
    have h0 : l.drop k = [] := List.drop_of_length_le (by omega)
    refine .inr ⟨⟨g, 0, none⟩, cap - k, by rw [hlen], fun j u hj => ?_⟩
    rw [h0] at hj
    simp [Enc.all] at hj
  · rw [if_neg hc] at hA
    subst hA
    refine .inr ⟨⟨g, k, none⟩, cap - k, by rw [hlen], fun j u hj => ?_⟩
    have hj2 : j < (E.all (l.drop k)).length := by
      rcases Nat.lt_or_ge j (E.all (l.drop k)).length with h' | h'
      · exact h'
      · rw [List.getElem?_eq_none h'] at hj; cases hj
    rw [E.all_length, hlen, hs, Nat.mul_one] at hj2
    have h1 := E.all_get (l.drop k) j (by omega) 0 (by omega)
    rw [hs, Nat.mul_one, Nat.add_zero] at h1
    rw [h1] at hj
    obtain ⟨a, c, hv, _, _, _, H⟩ := h.form
    injection hv with ha _ hc
    obtain ⟨g', e, _, _, hcell⟩ := H ⟨g, 0, none⟩ ha.symm
    cases e
    have h2 := hcell (k + j) (by omega) 0 (by omega)
    rw [hs, Nat.mul_one, Nat.add_zero] at h2
    have e2 : (⟨g, k, none⟩ : Addr).add j = ⟨g, k + j, none⟩ := by unfold Addr.add; split <;> simp_all
    rw [e2, h2, ← hj]
    congr 2
    simp

theorem erase_filter {l : List Int} (h : l.Nodup) : ∀ (k : Nat) (hk : k < l.length), l.take k ++ l.drop (k + 1) = l.filter (fun x => x != l[k]) := by
  induction l with
  | nil => intro k hk; cases hk
  | cons a l ih =>
    intro k hk
    rw [List.nodup_cons] at h
    cases k with
    | zero =>
      have h1 : l.filter (fun x => x != a) = l := List.filter_eq_self.2 fun x hx => by
        simp only [bne_iff_ne, ne_eq]; exact fun e => h.1 (e ▸ hx)
      simp [h1]
    | succ k =>
      have hk' : k < l.length := by simpa using hk
      have h1 := ih h.2 k hk'
      have h2 : a ≠ l[k] := fun e => h.1 (e ▸ List.getElem_mem hk')
      simp only [List.take_succ_cons, List.drop_succ_cons, List.cons_append, h1, List.getElem_cons_succ]
      rw [List.filter_cons, if_pos (by simpa using h2)]

section
variable {w : World} {b : Nat} {F : Nat → Prop} {s : AS} {n : Int}

theorem giveYes (h : ArenaAt w b F s) (ok : s.Ok) (hn : n ∈ s.T) : Calls Try.prog 11 #[.pointer (some ⟨b, 0, none⟩), .int .i64 n] w fun e w' => e = .returned .nilIface ∧ ∃ F', ArenaAt w' b F' (s.give n) ∧ Keeps F w w' ∧ Within w F F' := by
  have H := arenaGiveS h ok n
  rw [(AS.give_yes hn).1] at H
  exact H
theorem giveNo (h : ArenaAt w b F s) (ok : s.Ok) (hn : n ∉ s.T) : Calls Try.prog 11 #[.pointer (some ⟨b, 0, none⟩), .int .i64 n] w fun e w' => e = .returned (.iface 49 (.int .i64 1)) ∧ ∃ F', ArenaAt w' b F' s ∧ Keeps F w w' ∧ Within w F F' := by
  have H := arenaGiveS h ok n
  rw [(AS.give_no hn).1, (AS.give_no hn).2] at H
  exact H
theorem hasYes (h : ArenaAt w b F s) (ok : s.Ok) (hn : n ∈ s.T) : Calls Try.prog 14 #[.pointer (some ⟨b, 0, none⟩), .int .i64 n] w fun e w' => e = .returned (.bool true) ∧ w = w' := by
  have H := arenaHasS h ok n
  rwa [decide_eq_true hn] at H
theorem hasNo (h : ArenaAt w b F s) (ok : s.Ok) (hn : n ∉ s.T) : Calls Try.prog 14 #[.pointer (some ⟨b, 0, none⟩), .int .i64 n] w fun e w' => e = .returned (.bool false) ∧ w = w' := by
  have H := arenaHasS h ok n
  rwa [decide_eq_false hn] at H
theorem takeFull (h : ArenaAt w b F s) (ok : s.Ok) (hf : s.T.length = s.most) : Calls Try.prog 8 #[.pointer (some ⟨b, 0, none⟩)] w fun e w' => e = .returned (.tuple #[.int .i64 0, .iface 49 (.int .i64 2)]) ∧ ∃ F', ArenaAt w' b F' s ∧ Keeps F w w' ∧ Within w F F' := by
  have H := arenaTakeS h ok
  obtain ⟨e1, e2, e3⟩ := AS.Ok.take_full hf
  rw [e1, e2, e3] at H
  exact H
/-- What is taken where there is room. -/
theorem take_room {s : AS} (ok : s.Ok) (hf : s.T.length ≠ s.most) : s.takeE = 0 ∧ s.takeN ∉ s.T ∧ s.take.T = s.T ++ [s.takeN] ∧ s.take.most = s.most ∧ 0 ≤ s.takeN ∧ s.takeN < s.most := by
  have hl := ok.len
  have h1 := ok.nextLe
  rcases last_or_nil s.B with hb | ⟨l, n, hb⟩
  · obtain ⟨e1, e2, e3⟩ := AS.Ok.take_new hf hb
    rw [hb] at hl
    simp only [List.length_nil, Nat.add_zero] at hl
    rw [e1, e2, e3]
    exact ⟨rfl, fun e => by have := (ok.all s.next).1 (.inl e); omega, rfl, rfl, by omega, by omega⟩
  · obtain ⟨e1, e2, e3⟩ := AS.Ok.take_again hf hb
    rw [e1, e2, e3]
    have hn : n ∈ s.B := by rw [hb]; simp
    have := (ok.all n).1 (.inr hn)
    exact ⟨rfl, fun e => ok.apart n e hn, rfl, rfl, by omega, by omega⟩
theorem takeRoom (h : ArenaAt w b F s) (ok : s.Ok) (hf : s.T.length ≠ s.most) : Calls Try.prog 8 #[.pointer (some ⟨b, 0, none⟩)] w fun e w' => e = .returned (.tuple #[.int .i64 s.takeN, .nilIface]) ∧ ∃ F', ArenaAt w' b F' s.take ∧ Keeps F w w' ∧ Within w F F' := by
  have H := arenaTakeS h ok
  rw [(take_room ok hf).1] at H
  exact H
end

theorem emptyI (w : World) : Owns encI (w.alloc (.cells #[] 3)) (.slice (some ⟨w.heap.size, 0, none⟩) 0 0) [] :=
  ⟨rfl, .inr ⟨w.heap.size, 0, #[], rfl, Nat.zero_le _, heap_alloc_new w _, Nat.le_refl _, Nat.zero_le _, rfl, rfl⟩⟩

/-- '[]int{}'. -/
theorem wpList_build0 {ops : Array Oper} {rest : List Oper} {o : Oper} {a : Act} {w : World} {Q : Exit → Act → World → Prop} (hgd : o.guard = none) (ho : o.op = .buildSlice 27 0 #[])
    (h : wpList Try.prog ops Q rest (a.put o.dst (.slice (some ⟨w.heap.size, 0, none⟩) 0 0)) (w.alloc (.cells #[] 3))) : wpList Try.prog ops Q (o :: rest) a w := by
  refine wpList_plain hgd fun K hK => ?_
  unfold Oper.wp execOp
  simp only [ho]
  go_simp
  exact hK _ _ h

theorem wpList_assign {P : Program} {ops : Array Oper} {rest : List Oper} {o : Oper} {a : Act} {w : World} {Q : Exit → Act → World → Prop} (x : Operand) (hgd : o.guard = none) (ho : o.op = .assign x)
    (h : wpList P ops Q rest (a.put o.dst (a.eval x)) w) : wpList P ops Q (o :: rest) a w := by
  refine wpList_plain hgd fun K hK => ?_
  unfold Oper.wp execOp
  simp only [ho]
  exact hK _ _ h

set_option maxRecDepth 100000 in
set_option maxHeartbeats 8000000 in
theorem arenaApart (most : Int) (l : List Int) (v : Value) (w : World) (hv : Reads encI w v l) (_hl : l.length ≤ maxLen) (hwf : ∀ d ∈ l, (Lit.int .i64 d).wf = true) :
    Calls Try.prog 4 #[.int .i64 most, v] w fun e w' => e = .returned (.bool true) ∧ Below w.heap.size w w' := by
  obtain ⟨a, cap, rfl⟩ := hv.form
  go_enter Try.func4, Try.ntmps4
  go_wp2_with fail
  refine (up04 _).mono ?_
  rintro e w1 ⟨rfl, hb1⟩
  by_cases hmost : 0 ≤ most ∧ most ≤ 20000
  · obtain ⟨h0, h1⟩ := hmost
    have hn0 : ¬ most < 0 := by omega
    have hn1 : ¬ 20000 < most := by omega
    go_wp2_with fail
    refine (arenaNewS most _ h0 h1).mono ?_
    rintro e w2 ⟨rfl, ⟨FA, hA, hFA⟩, hb2⟩
    by_cases hlen : l.length ≤ 300
    · have hl3 : ¬ 300 < (l.length : Int) := by omega
      have R0 : AR' w w1.heap.size FA ⟨most.toNat, 0, [], []⟩ (.slice none 0 0) [] w2 :=
        ⟨hA, Owns.nil _ _, (fun _ h => by cases h), fun k hk => Nat.le_trans hb1.size (hFA k hk), (fun _ h => by cases h), hb1.trans (hb2.mono hb1.size)⟩
      have HV := Lib.hid hv
      have L0 := Lib.hid (show MRel w l.length 0 w1.heap.size ⟨most.toNat, 0, [], []⟩ _ _ from ⟨Nat.zero_le _, AS.new_ok _ (by omega), _, R0⟩)
      have HM := Lib.hid (show (⟨most.toNat, 0, [], []⟩ : AS).most = most.toNat from rfl)
      clear R0 hA hFA hv hb1 hb2
      generalize w1.heap.size = bA at *
      go_wp2
      go_loopw [7, 8] (fun vm i wr => ∃ (k : Nat) (s : AS), i = .int .i64 k ∧ Hid ((s.most : Int) = most) ∧ MRel w l.length k bA s vm wr) (fun _ i _ => l.length - (intOf i).toNat)
      case atStart => exact ⟨0, ⟨most.toNat, 0, [], []⟩, rfl, Int.toNat_of_nonneg h0, L0.out⟩
      case round =>
        clear L0 HM
        obtain ⟨k, s, rfl, hsm, hk, ok, F, R⟩ := hrel
        obtain ⟨am, km, e7, _⟩ := R.own.form
        subst e7
        by_cases hlt : k < l.length
        · have hk0 : (0 : Int) ≤ (k : Int) := by omega
          have hk1 : (k : Int) < (l.length : Int) := by omega
          obtain ⟨ad, rfl, q0⟩ := (HV.out.keep R.below).intAt k hlt
          have hwk := hwf _ (List.getElem_mem hlt)
          generalize l[k] = X at *
          have hsl : s.T.length ≤ 20000 := by have := ok.len; have := ok.nextLe; have := ok.mostLe; omega
          by_cases hgive : X.tmod 3 = 0 ∧ 0 < s.T.length
          · obtain ⟨hx3, hpos⟩ := hgive
            have hx3b : (X.tmod 3 == 0) = true := by rw [beq_iff_eq]; exact hx3
            have hposI : (0 : Int) < (s.T.length : Int) := by omega
            obtain ⟨J, hJ⟩ : ∃ J : Nat, X % (s.T.length : Int) = J := Int.eq_ofNat_of_zero_le (Int.emod_nonneg X (by omega))
            have hJl : J < s.T.length := by have := Int.emod_lt_of_pos X (show (0 : Int) < (s.T.length : Int) by omega); omega
            obtain ⟨g, kc, e7, hc1, hc2⟩ := R.own.some hpos
            injection e7 with e7 _ e8
            subst e7 e8
            have hJ0 : (0 : Int) ≤ (J : Int) := by omega
            have hJ1 : (J : Int) < (s.T.length : Int) := by omega
            have hPick := lawPick X s.T.length wr (by omega) (by omega) hwk
            rw [hJ] at hPick
            have cX := R.own.intAt J hJl
            have hmem : s.T[J] ∈ s.T := List.getElem_mem hJl
            have HE := Lib.hid (erase_filter ok.nodT J hJl)
            clear hJ hx3
            go_wp2_with fail
            refine hPick.mono ?_
            rintro e wx ⟨rfl, rfl⟩
            generalize s.T[J] = N at *
            go_wp2_with fail
            refine (hasYes R.a ok hmem).mono ?_
            rintro e wx ⟨rfl, rfl⟩
            go_wp2_with fail
            refine (giveYes R.a ok hmem).mono ?_
            rintro e W1 ⟨rfl, F1, hA1, hK1, hW1⟩
            have ok1 := ok.give N
            have hT1 : (s.give N).T = s.T.filter (fun x => x != N) := by rw [(AS.give_yes hmem).2]
            have hm1 : (s.give N).most = s.most := by rw [(AS.give_yes hmem).2]
            have hno : N ∉ (s.give N).T := by rw [hT1]; simp
            have R1 := R.step hA1 hK1 hW1
            have HT1 := Lib.hid hT1
            clear R hA1 hK1 hW1 cX hPick hT1
            generalize s.give N = s1 at *
            go_wp2_with fail
            refine (hasNo R1.a ok1 hno).mono ?_
            rintro e wx ⟨rfl, rfl⟩
            go_wp2_with fail
            refine (giveNo R1.a ok1 hno).mono ?_
            rintro e W2 ⟨rfl, F2, hA1, hK1, hW1⟩
            have R2 := R1.step hA1 hK1 hW1
            clear R1 hA1 hK1 hW1
            have hJc : (J : Int) ≤ (km : Int) := by omega
            have hJ2 : (J : Int) + 1 ≤ (s.T.length : Int) := by omega
            have hT3 : (s.T.length : Int) ≤ 20000 := by omega
            have hJ3 : (0 : Int) ≤ (J : Int) + 1 := by omega
            have hJ4 : ((J : Int) + 1).toNat = J + 1 := by omega
            have hw1 : IntKind.i64.wrap ((J : Int) + 1) = (J : Int) + 1 := by rw [IntKind.wrap_i64]; omega
            go_wp2
            refine wp_region_pure [1, 2, 3, 5, 6, 7, 8] [0, 4, 9, 10] (by kernel_rfl) (by kernel_rfl) (panicsBy_cons (fun _ _ _ _ h => h) (panicsBy_cons (fun _ _ _ _ h => h) (panicsBy_cons (fun _ _ _ _ h => h) (panicsBy_cons (fun _ _ _ _ h => h) (panicsBy_cons (fun _ _ _ _ h => h) (panicsBy_cons (fun _ _ _ _ h => h) (panicsBy_cons (fun _ _ _ _ h => h) panicsBy_nil))))))) ?_
            simp only [opsAt, List.filterMap_cons, List.filterMap_nil, List.getElem?_toArray, List.getElem?_cons_zero, List.getElem?_cons_succ]
            refine wpPure_cons (v := ?_) (by rfl) ?_ ?_
            rotate_left
            · (intro w; go_simp <;> with_reducible rfl)
            simp only [Act.put, List.setIfInBounds_toArray, List.set_cons_zero, List.set_cons_succ]
            refine wpPure_cons (v := ?_) (by rfl) ?_ ?_
            rotate_left
            · (intro w; go_simp <;> with_reducible rfl)
            simp only [Act.put, List.setIfInBounds_toArray, List.set_cons_zero, List.set_cons_succ]
            refine wpPure_cons (v := ?_) (by rfl) ?_ ?_
            rotate_left
            · (intro w; go_simp <;> with_reducible rfl)
            simp only [Act.put, List.setIfInBounds_toArray, List.set_cons_zero, List.set_cons_succ]
            refine wpPure_cons (v := ?_) (by rfl) ?_ ?_
            rotate_left
            · (intro w; go_simp <;> with_reducible rfl)
            simp only [Act.put, List.setIfInBounds_toArray, List.set_cons_zero, List.set_cons_succ]
            refine wpPure_cons (v := ?_) (by rfl) ?_ ?_
            rotate_left
            · (intro w; go_simp <;> with_reducible rfl)
            simp only [Act.put, List.setIfInBounds_toArray, List.set_cons_zero, List.set_cons_succ]
            refine wpPure_cons (v := ?_) (by rfl) ?_ ?_
            rotate_left
            · (intro w; go_simp <;> with_reducible rfl)
            simp only [Act.put, List.setIfInBounds_toArray, List.set_cons_zero, List.set_cons_succ]
            refine wpPure_cons (v := ?_) (by rfl) ?_ ?_
            rotate_left
            · (intro w; go_simp <;> with_reducible rfl)
            simp only [Act.put, List.setIfInBounds_toArray, List.set_cons_zero, List.set_cons_succ]
            refine wpPure_nil ?_
            replace R2 := R2.drew
            generalize W2.drew = V at *
            generalize hAd : (if km = J + 1 then some (⟨g, 0, none⟩ : Addr) else some ⟨g, J + 1, none⟩) = Ad
            have HAd := Lib.hid hAd
            clear hAd
            have hO0 := R2.new (emptyI V) ((Below.refl _ _).alloc (Nat.le_refl _) _) (fun g hg => by cases hg; exact Nat.le_refl _)
            have hsrc1 : Reads encI (V.alloc (.cells #[] 3)) (.slice (some ⟨g, 0, none⟩) J km) (s.T.take J) := ((R2.own.take (n := J) (by omega)).reads).keep ((Below.refl _ _).alloc (Nat.le_refl _) _)
            have hlen1 : ([] : List Int).length + (s.T.take J).length ≤ 1000000 := by simp; omega
            refine wpList_build0 rfl rfl ?_
            simp only [Act.put, List.setIfInBounds_toArray, List.set_cons_zero, List.set_cons_succ]
            refine appendI rfl (.tmp 91) (.tmp 94) rfl _ _ [] (s.T.take J) rfl hO0.own rfl hsrc1 hlen1 ?_
            intro v3 W3 hown3 hgr3 hat3
            simp only [Act.put, List.setIfInBounds_toArray, List.set_cons_zero, List.set_cons_succ]
            have R3 := hO0.app hown3 hgr3 hat3
            have hb3 : Below V.heap.size V W3 := ((Below.refl _ _).alloc (Nat.le_refl _) _).grown hgr3 (by simp) (fun k hk => by cases hk; exact Nat.le_refl _)
            have hnew3 : ∀ g', v3.ownBlock = some g' → V.heap.size ≤ g' := fun g' hg => hat3.elim (fun e => by rw [e] at hg; cases hg; exact Nat.le_refl _) (fun e => by rw [e] at hg; cases hg; simp)
            have hsrc2 : Reads encI W3 (.slice Ad (s.T.length - (J + 1)) (km - (J + 1))) (s.T.drop (J + 1)) := (ownsDrop (R2.own) hJl hc1 rfl Ad HAd.out.symm).keep hb3
            have hlen2 : ([] ++ s.T.take J).length + (s.T.drop (J + 1)).length ≤ 1000000 := by simp; omega
            refine appendI rfl (.tmp 95) (.tmp 99) rfl _ _ ([] ++ s.T.take J) (s.T.drop (J + 1)) rfl R3.own rfl hsrc2 hlen2 ?_
            intro v4 W4 hown4 hgr4 hat4
            simp only [Act.put, List.setIfInBounds_toArray, List.set_cons_zero, List.set_cons_succ]
            have R4 := R3.app hown4 hgr4 hat4
            rw [List.nil_append, HE.out, ← HT1.out] at R4
            clear hO0 hsrc1 hlen1 hown3 hgr3 hat3 R3 hb3 hnew3 hsrc2 hlen2 hown4 hgr4 hat4 R2
            refine wpList_assign (.tmp 100) rfl rfl ?_
            simp only [Act.put, Act.eval, List.setIfInBounds_toArray, List.set_cons_zero, List.set_cons_succ]
            refine wpList_nil ?_
            go_wp2
            exact ⟨⟨k + 1, s1, by go_num, by rw [hm1]; exact hsm.out, ⟨by omega, ok1, _, R4⟩⟩, by simp [intOf]; omega⟩
          · by_cases h3 : X.tmod 3 = 0
            · have h3b : (X.tmod 3 == 0) = true := by rw [beq_iff_eq]; exact h3
              have hT0 : s.T.length = 0 := by
                rcases Nat.eq_zero_or_pos s.T.length with h | h
                · exact h
                · exact absurd ⟨h3, h⟩ hgive
              clear h3 hgive
              rw [hT0] at R ⊢
              have HT0 := Lib.hid hT0
              clear hT0 hsl
              have hsl : s.T.length ≤ 20000 := by rw [HT0.out]; decide
              by_cases hf : s.T.length = s.most
              · have hfm : ((0 : Int) == most) = true := by rw [beq_iff_eq, ← hsm.out]; have := HT0.out; omega
                have HF := Lib.hid hf
                clear hf
                go_wp2_with fail
                refine (takeFull R.a ok HF.out).mono ?_
                rintro e W1 ⟨rfl, F1, hA1, hK1, hW1⟩
                have R1 := R.step hA1 hK1 hW1
                clear R hA1 hK1 hW1
                go_wp2
                exact ⟨⟨k + 1, s, by go_num, hsm.out, ⟨by omega, ok, _, R1⟩⟩, by simp [intOf]; omega⟩
              · have hfm : ((0 : Int) == most) = false := by rw [beq_eq_false_iff_ne, ← hsm.out]; have := HT0.out; omega
                have HF := Lib.hid hf
                clear hf
                go_wp2_with fail
                refine (takeRoom R.a ok HF.out).mono ?_
                rintro e W1 ⟨rfl, F1, hA1, hK1, hW1⟩
                have R1 := R.step hA1 hK1 hW1
                obtain ⟨_, hnT, hT1, hm1, hN0, hN1⟩ := take_room ok HF.out
                have ok1 := ok.take
                have hin1 : s.takeN ∈ s.take.T := by rw [hT1]; simp
                have HT1 := Lib.hid hT1
                have HM1 := Lib.hid hm1
                have hN2 : s.takeN < most := by rw [← hsm.out]; exact hN1
                clear R hA1 hK1 hW1 hT1 hm1 hN1
                generalize s.takeN = N at *
                generalize s.take = s1 at *
                have HnT := Lib.hid hnT
                have hN3 : ¬ N < 0 := by omega
                have hN4 : ¬ most ≤ N := by omega
                clear hnT
                go_wp2
                go_loop [13] (fun i => i = .int .i64 0) (fun _ => 0)
                case atStart => exact rfl
                case round =>
                  obtain rfl := hrel
                  go_wp2_with fail
                  refine (hasYes R1.a ok1 hin1).mono ?_
                  rintro e wx ⟨rfl, rfl⟩
                  have hAl := R1.keep ((Below.refl W1.heap.size W1).alloc (Nat.le_refl _) (.cells #[.int .i64 N] 3))
                  have hsrc := oneI W1 N W1.heap.size rfl
                  have hlen1 : s.T.length + [N].length ≤ 1000000 := by simp; omega
                  go_wp2_with (at_builtin; refine appendI rfl (.tmp 140) (.tmp 142) rfl _ _ s.T [N] rfl hAl.own rfl hsrc hlen1 ?_; intro v4 W4 hown4 hgr4 hat4)
                  have R4 := hAl.app hown4 hgr4 hat4
                  rw [← HT1.out] at R4
                  exact ⟨⟨k + 1, s1, by go_num, by rw [HM1.out]; exact hsm.out, ⟨by omega, ok1, _, R4⟩⟩, by simp [intOf]; omega⟩
            · have h3b : (X.tmod 3 == 0) = false := by rw [beq_eq_false_iff_ne]; exact h3
              clear h3 hgive
              by_cases hf : s.T.length = s.most
              · have hfm : ((s.T.length : Int) == most) = true := by rw [beq_iff_eq, ← hsm.out]; omega
                have HF := Lib.hid hf
                clear hf
                go_wp2_with fail
                refine (takeFull R.a ok HF.out).mono ?_
                rintro e W1 ⟨rfl, F1, hA1, hK1, hW1⟩
                have R1 := R.step hA1 hK1 hW1
                clear R hA1 hK1 hW1
                go_wp2
                exact ⟨⟨k + 1, s, by go_num, hsm.out, ⟨by omega, ok, _, R1⟩⟩, by simp [intOf]; omega⟩
              · have hfm : ((s.T.length : Int) == most) = false := by rw [beq_eq_false_iff_ne, ← hsm.out]; omega
                have HF := Lib.hid hf
                clear hf
                go_wp2_with fail
                refine (takeRoom R.a ok HF.out).mono ?_
                rintro e W1 ⟨rfl, F1, hA1, hK1, hW1⟩
                have R1 := R.step hA1 hK1 hW1
                obtain ⟨_, hnT, hT1, hm1, hN0, hN1⟩ := take_room ok HF.out
                have ok1 := ok.take
                have hin1 : s.takeN ∈ s.take.T := by rw [hT1]; simp
                have HT1 := Lib.hid hT1
                have HM1 := Lib.hid hm1
                have hN2 : s.takeN < most := by rw [← hsm.out]; exact hN1
                clear R hA1 hK1 hW1 hT1 hm1 hN1
                generalize s.takeN = N at *
                generalize s.take = s1 at *
                have HnT := Lib.hid hnT
                have hN3 : ¬ N < 0 := by omega
                have hN4 : ¬ most ≤ N := by omega
                clear hnT
                go_wp2
                go_loop [13] (fun i => ∃ j : Nat, j ≤ s.T.length ∧ i = .int .i64 j) (fun i => s.T.length - (intOf i).toNat)
                case atStart => exact ⟨0, Nat.zero_le _, rfl⟩
                case round =>
                  obtain ⟨j, hj, rfl⟩ := hrel
                  by_cases hjl : j < s.T.length
                  · have hj0 : (0 : Int) ≤ (j : Int) := by omega
                    have hj1 : (j : Int) < (s.T.length : Int) := by omega
                    obtain ⟨g, kc, e7, hc1, hc2⟩ := R1.own.some (by omega)
                    injection e7 with e7 _ e8
                    subst e7 e8
                    have cj := R1.own.intAt j hjl
                    have hne : (s.T[j] == N) = false := by rw [beq_eq_false_iff_ne]; exact fun e => HnT.out (e ▸ List.getElem_mem hjl)
                    generalize s.T[j] = Y at *
                    go_wp2
                    exact ⟨⟨j + 1, by omega, by go_num⟩, by simp [intOf]; omega⟩
                  · have hjI : ¬ (j : Int) < (s.T.length : Int) := by omega
                    go_wp2_with fail
                    refine (hasYes R1.a ok1 hin1).mono ?_
                    rintro e wx ⟨rfl, rfl⟩
                    have hAl := R1.keep ((Below.refl W1.heap.size W1).alloc (Nat.le_refl _) (.cells #[.int .i64 N] 3))
                    have hsrc := oneI W1 N W1.heap.size rfl
                    have hlen1 : s.T.length + [N].length ≤ 1000000 := by simp; omega
                    go_wp2_with (at_builtin; refine appendI rfl (.tmp 140) (.tmp 142) rfl _ _ s.T [N] rfl hAl.own rfl hsrc hlen1 ?_; intro v4 W4 hown4 hgr4 hat4)
                    have R4 := hAl.app hown4 hgr4 hat4
                    rw [← HT1.out] at R4
                    exact ⟨⟨k + 1, s1, by go_num, by rw [HM1.out]; exact hsm.out, ⟨by omega, ok1, _, R4⟩⟩, by simp [intOf]; omega⟩
        · go_wp2_with fail
          refine (arenaManyS R.a ok).mono ?_
          rintro e W1 ⟨rfl, hb1⟩
          go_wp2
          go_ret
          exact ⟨rfl, R.below.trans (hb1.mono R.below.size)⟩
    · have hl3 : 300 < (l.length : Int) := by omega
      clear hA hFA
      go_wp2
      go_ret
      refine ⟨?_, hb1.trans (hb2.mono hb1.size)⟩
      show Ending.returned (.bool (!decide (most < 0) && !decide (20000 < most))) = _
      rw [show decide (most < 0) = false from decide_eq_false (by omega), show decide (20000 < most) = false from decide_eq_false (by omega)]
      rfl
  · by_cases h0 : most < 0
    · go_wp2_with fail
      refine (arenaNo most _ (.inl h0)).mono ?_
      rintro e w2 ⟨rfl, rfl⟩
      go_wp2
      go_ret
      exact ⟨rfl, hb1⟩
    · have h1 : 20000 < most := by omega
      go_wp2_with fail
      refine (arenaNo most _ (.inr h1)).mono ?_
      rintro e w2 ⟨rfl, rfl⟩
      go_wp2
      go_ret
      exact ⟨rfl, hb1⟩

end Go.Proofs.Ytdefocofdlbjeaa
