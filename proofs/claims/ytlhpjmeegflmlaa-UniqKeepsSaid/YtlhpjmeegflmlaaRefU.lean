/-
  Walks of the document's layer 5: Get, Put, Drop.
-/
import Derived.Test.YtlhpjmeegflmlaaUniqS
namespace Go.Proofs.Ytlhpjmeegflmlaa
open Go Go.RowKit

/-- Pairs, and what stands for each. -/
def encE : Enc Try.prog Ent where
  slice := 27
  elem := 49
  size := 3
  bytes := 24
  cells e := [.int .i64 e.1.1, .int .i64 e.1.2, .int .i64 e.2]
  zero := .agg #[.int .i64 0, .int .i64 0, .int .i64 0]
  und := Try.underlying27
  info := info_of _ _ _ _ _ (by kernel_rfl)
  zsize := rfl
  pos := by decide
  few := by decide
  len _ := rfl
  one e u h := by
    simp only [List.mem_cons, List.not_mem_nil, or_false] at h
    rcases h with rfl | rfl | rfl <;> rfl

theorem Reads.entAt {w : World} {a : Option Addr} {cap : Nat} {l : List Ent} (h : Reads encE w (.slice a l.length cap) l) (i : Nat) (hi : i < l.length) : ∃ ad, a = some ad ∧ w.cell? (ad.add (i * 3)) = some (.int .i64 l[i].1.1) ∧ w.cell? ⟨(ad.add (i * 3)).block, (ad.add (i * 3)).off + 1, none⟩ = some (.int .i64 l[i].1.2) ∧ w.cell? ⟨(ad.add (i * 3)).block, (ad.add (i * 3)).off + 2, none⟩ = some (.int .i64 l[i].2) := by
  obtain ⟨ad, rfl, H⟩ := h.at i hi
  have h0 := H 0 (by decide)
  have h1 := H 1 (by decide)
  have h2 := H 2 (by decide)
  refine ⟨ad, rfl, by simpa [encE] using h0, ?_, ?_⟩
  · simp only [encE] at h1
    rw [← Addr.add_add, Addr.add, if_neg (by omega)] at h1
    simpa using h1
  · simp only [encE] at h2
    rw [← Addr.add_add, Addr.add, if_neg (by omega)] at h2
    simpa using h2

theorem appendE {ops : Array Oper} {rest : List Oper} {o : Oper} {a : Act} {w : World} {Q : Exit → Act → World → Prop} (hgd : o.guard = none) (s x : Operand)
    (ho : o.op = .call { callee := .builtin .append, args := #[s, x], argTypes := #[27, 27] })
    (v y : Value) (l k : List Ent) (hs : a.eval s = v) (hown : Owns encE w v l) (hx : a.eval x = y) (hsrc : Reads encE w y k) (hn : l.length + k.length ≤ 1000000)
    (h : ∀ v' w', Owns encE w' v' (l ++ k) → w.grownBy w' v.ownBlock → (v'.ownBlock = v.ownBlock ∨ v'.ownBlock = some w.heap.size) → wpList Try.prog ops Q rest (a.put o.dst v') w') : wpList Try.prog ops Q (o :: rest) a w :=
  wpList_append_owns encE hgd s x ho v y l k hs hown hx hsrc hn h

theorem oneE (w : World) (k1 k2 x : Int) (b : Nat) (hb : b = w.heap.size := by rfl) : Reads encE (w.alloc (.cells #[.int .i64 k1, .int .i64 k2, .int .i64 x] 49)) (.slice (some ⟨b, 0, none⟩) 1 1) [((k1, k2), x)] := Reads.one encE w ((k1, k2), x) _ rfl b hb

/-- At block b stands the document's table. -/
structure RefUR (w : World) (b : Nat) (v : Value) (slots : Int) (L : List Ent) : Prop where
  row : w.heap[b]? = some (.cells #[v, .int .i64 slots] 29 (0, 0))
  own : Owns encE w v L
  apart : v.ownBlock ≠ some b

section
variable {w w' : World} {b : Nat} {v v' : Value} {slots : Int} {L : List Ent}

theorem RefUR.lt (h : RefUR w b v slots L) : ∀ k, foot1 b v k → k < w.heap.size := by
  rintro k (rfl | hk)
  · exact row_lt' h.row
  · exact h.own.lt k hk
theorem RefUR.block (h : RefUR w b v slots L) (hb : ∀ k, foot1 b v k → w'.heap[k]? = w.heap[k]?) : RefUR w' b v slots L :=
  ⟨(hb b (.inl rfl)).trans h.row, h.own.block fun g hg => hb g (.inr hg), h.apart⟩
theorem RefUR.keep (h : RefUR w b v slots L) {F : Nat → Prop} (hb : Keeps F w w') (hF : ∀ k, foot1 b v k → ¬ F k) : RefUR w' b v slots L :=
  h.block fun k hk => hb.block k (h.lt k hk) (hF k hk)
theorem RefUR.below (h : RefUR w b v slots L) (hb : Below w.heap.size w w') : RefUR w' b v slots L := h.keep (Keeps.of_below hb noBlock) (fun _ _ h => h)
theorem RefUR.alloc (h : RefUR w b v slots L) (o : Obj) : RefUR (w.alloc o) b v slots L := h.below ((Below.refl _ _).alloc (Nat.le_refl _) _)
theorem RefUR.cells (h : RefUR w b v slots L) : w.cell? ⟨b, 0, none⟩ = some v ∧ w.cell? ⟨b, 1, none⟩ = some (.int .i64 slots) :=
  ⟨by rw [cell_of_row _ _ _ _ _ _ h.row]; rfl, by rw [cell_of_row _ _ _ _ _ _ h.row]; rfl⟩
theorem RefUR.free (h : RefUR w b v slots L) (j : Nat) : w.frozen? ⟨b, j, none⟩ = false := frozen_of_row _ _ _ _ _ h.row
theorem RefUR.setSlots (h : RefUR w b v slots L) (n : Int) : RefUR (w.setCell ⟨b, 1, none⟩ (.int .i64 n)) b v n L :=
  ⟨heap_setCell_same w b 1 _ _ _ h.row, h.own.block fun g hg => Below.heap_setCell _ _ _ _ (fun e => h.apart (by rw [hg, e])), h.apart⟩
theorem RefUR.setList (h : RefUR w b v slots L) {l : List Ent} (ho : Owns encE w v' l) (h1 : v'.ownBlock ≠ some b) : RefUR (w.setCell ⟨b, 0, none⟩ v') b v' slots l :=
  ⟨heap_setCell_same w b 0 _ _ _ h.row, ho.block fun g hg => Below.heap_setCell _ _ _ _ (fun e => h1 (by rw [hg, e])), h1⟩

theorem RefUR.app (h : RefUR w b v slots L) {l : List Ent} (ho : Owns encE w' v' l) (hg : w.grownBy w' v.ownBlock) (hat : v'.ownBlock = v.ownBlock ∨ v'.ownBlock = some w.heap.size) :
    w'.cell? ⟨b, 0, none⟩ = some v ∧ w'.frozen? ⟨b, 0, none⟩ = false ∧ RefUR (w'.setCell ⟨b, 0, none⟩ v') b v' slots l ∧ Keeps (foot1 b v) w (w'.setCell ⟨b, 0, none⟩ v') ∧ Within w (foot1 b v) (foot1 b v') := by
  have hrow : w'.heap[b]? = some (.cells #[v, .int .i64 slots] 29 (0, 0)) := (hg.block b (row_lt' h.row) (fun e => h.apart e.symm)).trans h.row
  have hb1 : v'.ownBlock ≠ some b := fun e => by
    rcases hat with hat | hat
    · exact h.apart (hat ▸ e)
    · have := row_lt' h.row; rw [hat] at e; injection e; omega
  refine ⟨by rw [cell_of_row _ _ _ _ _ _ hrow]; rfl, frozen_of_row _ _ _ _ _ hrow, ⟨heap_setCell_same w' b 0 _ _ v' hrow, ho.block fun g hg => Below.heap_setCell _ _ _ _ (fun e => hb1 (by rw [hg, e])), hb1⟩,
    (Keeps.of_grown hg (fun k hk => .inr hk)).and (Keeps.of_setCell _ _ ⟨b, 0, none⟩ _ (.inl rfl)), ?_⟩
  rintro k (rfl | hk)
  · exact .inl (.inl rfl)
  · rcases hat with hat | hat
    · exact .inl (.inr (hat ▸ hk))
    · rw [hat] at hk; injection hk with hk; exact .inr (by omega)
end

theorem none_before_succ {L : List Ent} {k1 k2 : Int} {i : Nat} (hi : i < L.length) (h : ∀ e ∈ L.take i, e.1 ≠ (k1, k2)) (hn : L[i].1 ≠ (k1, k2)) : ∀ e ∈ L.take (i + 1), e.1 ≠ (k1, k2) := by
  intro e he
  rw [List.take_succ_eq_append_getElem hi, List.mem_append] at he
  rcases he with he | he
  · exact h e he
  · rw [List.mem_singleton.1 he]; exact hn

set_option maxRecDepth 100000 in
set_option maxHeartbeats 1000000 in
theorem refUGet {w : World} {b : Nat} {v : Value} {slots : Int} {L : List Ent} {n : Nat} (h : RefUR w b v slots L) (ap : Apart L) (hl : L.length ≤ 100000) (k1 k2 : Int) :
    Calls Try.prog 9 #[.pointer (some ⟨b, 0, none⟩), .int .i64 k1, .int .i64 k2] w fun e w' => e = .returned (.tuple #[.int .i64 (TS.get ⟨L, n⟩ (k1, k2)).1, .bool (TS.get ⟨L, n⟩ (k1, k2)).2]) ∧ w = w' := by
  obtain ⟨a, cap, hv, _⟩ := h.own.form
  subst hv
  have hr := h.own.reads
  obtain ⟨c0, c1⟩ := h.cells
  clear h
  go_enter Try.func9, Try.ntmps9
  go_wp2
  go_loop [8] (fun i => ∃ k : Nat, k ≤ L.length ∧ i = .int .i64 k ∧ Hid (∀ e ∈ L.take k, e.1 ≠ (k1, k2))) (fun i => L.length - (intOf i).toNat)
  case atStart => exact ⟨0, Nat.zero_le _, rfl, by simp [Hid]⟩
  case round =>
    obtain ⟨k, hk, rfl, hn⟩ := hrel
    by_cases hlt : k < L.length
    · obtain ⟨ad, rfl, q0, q1, q2⟩ := hr.entAt k hlt
      have hk0 : (0 : Int) ≤ (k : Int) := by omega
      have hk1 : (k : Int) < (L.length : Int) := by omega
      have hstep := none_before_succ hlt hn.out
      have hyes : L[k].1 = (k1, k2) → TS.get ⟨L, n⟩ (k1, k2) = (L[k].2, true) := fun e => by
        have := TS.get_yes (s := ⟨L, n⟩) ap (List.getElem_mem hlt)
        rwa [e] at this
      generalize L[k] = x at *
      obtain ⟨⟨e1, e2⟩, e3⟩ := x
      simp only at q0 q1 q2 hyes hstep
      by_cases h1 : e1 = k1
      · have hb1 : (e1 == k1) = true := by rw [beq_iff_eq]; exact h1
        by_cases h2 : e2 = k2
        · have hb2 : (e2 != k2) = false := by simpa using h2
          have HY := Lib.hid (hyes (by rw [h1, h2]))
          clear hyes hstep h1 h2 hr
          go_wp2
          go_ret2
          exact ⟨by rw [HY.out]; rfl, rfl⟩
        · have hb2 : (e2 == k2) = false := by rw [beq_eq_false_iff_ne]; exact h2
          have HN := Lib.hid (hstep (fun e => h2 (by injection e)))
          clear hyes hstep h1 h2 hr
          go_wp2
          exact ⟨⟨k + 1, by omega, by go_num, HN⟩, by simp [intOf]; omega⟩
      · have hb1 : (e1 == k1) = false := by rw [beq_eq_false_iff_ne]; exact h1
        have HN := Lib.hid (hstep (fun e => h1 (by injection e)))
        clear hyes hstep h1 hr
        go_wp2
        exact ⟨⟨k + 1, by omega, by go_num, HN⟩, by simp [intOf]; omega⟩
    · have HN : Hid (TS.get ⟨L, n⟩ (k1, k2) = (0, false)) := Lib.hid (TS.get_no (by rw [List.take_of_length_le (by omega)] at hn; exact hn.out))
      clear hr
      go_wp2
      go_ret2
      exact ⟨by rw [HN.out]; rfl, rfl⟩


theorem drop_step {L : List Ent} {k1 k2 : Int} {i : Nat} (hi : i < L.length) :
    (L[i].1 = (k1, k2) → (L.take (i + 1)).filter (fun e => e.1 != (k1, k2)) = (L.take i).filter (fun e => e.1 != (k1, k2))) ∧
    (L[i].1 ≠ (k1, k2) → (L.take (i + 1)).filter (fun e => e.1 != (k1, k2)) = (L.take i).filter (fun e => e.1 != (k1, k2)) ++ [L[i]]) := by
  rw [List.take_succ_eq_append_getElem hi, List.filter_append]
  constructor
  · intro e; simp [e]
  · intro e; simp [e]

/-- What was gathered since. -/
structure WRelE (w : World) (out : List Ent) (v : Value) (wr : World) : Prop where
  own : Owns encE wr v out
  new : ∀ g, v.ownBlock = some g → w.heap.size ≤ g
  below : Below w.heap.size w wr

theorem WRelE.app {w wr w2 : World} {out : List Ent} {v v' : Value} {x1 x2 x3 : Int} {e : Ent} (R : WRelE w out v wr) (hown : Owns encE w2 v' (out ++ [e])) (hgr : (wr.alloc (.cells #[.int .i64 x1, .int .i64 x2, .int .i64 x3] 49)).grownBy w2 v.ownBlock)
    (hat : v'.ownBlock = v.ownBlock ∨ v'.ownBlock = some (wr.alloc (.cells #[.int .i64 x1, .int .i64 x2, .int .i64 x3] 49)).heap.size) : WRelE w (out ++ [e]) v' w2 := by
  refine ⟨hown, fun g hg => ?_, ?_⟩
  · rcases hat with hat | hat
    · exact R.new g (hat ▸ hg)
    · rw [hat] at hg; injection hg with hg; have := R.below.size; simp at hg; omega
  · exact (R.below.alloc R.below.size _).grown hgr (by have := R.below.size; simp; omega) R.new

set_option maxRecDepth 100000 in
set_option maxHeartbeats 2000000 in
theorem refUDrop {w : World} {b : Nat} {v : Value} {slots : Int} {L : List Ent} (h : RefUR w b v slots L) (hl : L.length ≤ 100000) (k1 k2 : Int) :
    Calls Try.prog 11 #[.pointer (some ⟨b, 0, none⟩), .int .i64 k1, .int .i64 k2] w fun e w' => e = .returned (.bool (decide ((L.filter (fun e => e.1 != (k1, k2))).length < L.length))) ∧ ∃ v', RefUR w' b v' slots (L.filter (fun e => e.1 != (k1, k2))) ∧ Keeps (foot1 b v) w w' ∧ Within w (foot1 b v) (foot1 b v') := by
  have hbw := row_lt' h.row
  have hR := fun W (hW : Below w.heap.size w W) => h.below hW
  obtain ⟨a, cap, hv, _⟩ := h.own.form
  subst hv
  clear h
  go_enter Try.func11, Try.ntmps11
  go_wp2
  go_loopw [7, 8] (fun vo i wr => ∃ k : Nat, k ≤ L.length ∧ i = .int .i64 k ∧ WRelE w ((L.take k).filter (fun e => e.1 != (k1, k2))) vo wr) (fun _ i _ => L.length - (intOf i).toNat)
  case atStart => exact ⟨0, Nat.zero_le _, rfl, Owns.nil _ _, (fun g h => by cases h), Below.refl _ _⟩
  case round =>
    obtain ⟨k, hk, rfl, R⟩ := hrel
    have hr := hR _ R.below
    obtain ⟨c0, c1⟩ := hr.cells
    by_cases hlt : k < L.length
    · obtain ⟨ad, rfl, q0, q1, q2⟩ := hr.own.reads.entAt k hlt
      have hk0 : (0 : Int) ≤ (k : Int) := by omega
      have hk1 : (k : Int) < (L.length : Int) := by omega
      obtain ⟨hy, hno⟩ := drop_step (k1 := k1) (k2 := k2) hlt
      have hlen := List.length_filter_le (fun e : Ent => e.1 != (k1, k2)) (L.take k)
      rw [List.length_take] at hlen
      generalize L[k] = x at *
      obtain ⟨⟨e1, e2⟩, e3⟩ := x
      simp only at q0 q1 q2 hy hno
      have hA := R.own.alloc (.cells #[.int .i64 e1, .int .i64 e2, .int .i64 e3] 49)
      have hsrc := oneE wr e1 e2 e3 wr.heap.size rfl
      have hln : ((L.take k).filter (fun e => e.1 != (k1, k2))).length + [((e1, e2), e3)].length ≤ 1000000 := by simp only [List.length_singleton]; omega
      replace R := Lib.hid R
      clear hr hlen
      by_cases h1 : e1 = k1
      · have hb1 : (e1 == k1) = true := by rw [beq_iff_eq]; exact h1
        have hb1' : (e1 != k1) = false := by simpa using h1
        by_cases h2 : e2 = k2
        · have hb2 : (e2 != k2) = false := by simpa using h2
          have HY := Lib.hid (hy (by rw [h1, h2]))
          clear hy hno h1 h2 hA hsrc hln
          go_wp2
          exact ⟨⟨k + 1, by omega, by go_num, by rw [HY.out]; exact R.out⟩, by simp [intOf]; omega⟩
        · have hb2 : (e2 != k2) = true := by simpa using h2
          have HN := Lib.hid (hno (fun e => h2 (by injection e)))
          clear hy hno h1 h2
          go_wp2_with (at_builtin; refine appendE rfl (.tmp 41) (.tmp 49) rfl _ _ ((L.take k).filter (fun e => e.1 != (k1, k2))) [((e1, e2), e3)] rfl hA rfl hsrc hln ?_; intro v' w2 hown hgr hat)
          exact ⟨⟨k + 1, by omega, by go_num, by rw [HN.out]; exact R.out.app hown hgr hat⟩, by simp [intOf]; omega⟩
      · have hb1 : (e1 != k1) = true := by simpa using h1
        have HN := Lib.hid (hno (fun e => h1 (by injection e)))
        clear hy hno h1
        go_wp2_with (at_builtin; refine appendE rfl (.tmp 41) (.tmp 49) rfl _ _ ((L.take k).filter (fun e => e.1 != (k1, k2))) [((e1, e2), e3)] rfl hA rfl hsrc hln ?_; intro v' w2 hown hgr hat)
        exact ⟨⟨k + 1, by omega, by go_num, by rw [HN.out]; exact R.out.app hown hgr hat⟩, by simp [intOf]; omega⟩
    · rw [List.take_of_length_le (by omega)] at R
      obtain ⟨a', k', e', _⟩ := R.own.form
      subst e'
      have h2 := hr.setList R.own (fun e => by have := R.new _ e; omega)
      have hK := (Keeps.of_below R.below (foot1 b (.slice a L.length cap))).and (Keeps.of_setCell _ wr ⟨b, 0, none⟩ (.slice a' (L.filter (fun e => e.1 != (k1, k2))).length k') (.inl rfl))
      have f0 := hr.free 0
      have hlen := List.length_filter_le (fun e : Ent => e.1 != (k1, k2)) L
      have hn := Lib.hid R.new
      replace h2 := Lib.hid h2
      replace hK := Lib.hid hK
      clear R hr
      generalize hL2 : L.filter (fun e => e.1 != (k1, k2)) = L2 at *
      replace hL2 := Lib.hid hL2
      go_wp2
      go_ret
      rw [hL2.out]
      refine ⟨rfl, _, h2.out, hK.out, ?_⟩
      rintro i (rfl | hi)
      · exact .inl (.inl rfl)
      · exact .inr (hn.out i hi)

set_option maxRecDepth 100000 in
set_option maxHeartbeats 1000000 in
theorem refUPutNo {w : World} {b : Nat} {v : Value} {n : Nat} {L : List Ent} (h : RefUR w b v n L) (ap : Apart L) (hl : L.length ≤ 100000) (k1 k2 x : Int) (hg : (TS.get ⟨L, n⟩ (k1, k2)).2 = true) :
    Calls Try.prog 13 #[.pointer (some ⟨b, 0, none⟩), .int .i64 k1, .int .i64 k2, .int .i64 x] w fun e w' => e = .returned (.bool false) ∧ w = w' := by
  have hG := refUGet (n := n) h ap hl k1 k2
  rw [hg] at hG
  generalize (TS.get ⟨L, n⟩ (k1, k2)).1 = y at *
  clear h hg
  go_enter Try.func13, Try.ntmps13
  go_wp2_with fail
  refine hG.mono ?_
  rintro e w1 ⟨rfl, rfl⟩
  clear hG
  go_wp2
  go_ret
  exact ⟨rfl, rfl⟩

set_option maxRecDepth 100000 in
set_option maxHeartbeats 2000000 in
theorem refUPutYes {w : World} {b : Nat} {v : Value} {n : Nat} {L : List Ent} (h : RefUR w b v n L) (ap : Apart L) (hl : L.length ≤ 100000) (hn : n ≤ 1000000) (k1 k2 x : Int) (hg : (TS.get ⟨L, n⟩ (k1, k2)).2 = false) {n' : Nat} (hn' : n' = if L.length + 1 > n / 2 then 2 * n else n) :
    Calls Try.prog 13 #[.pointer (some ⟨b, 0, none⟩), .int .i64 k1, .int .i64 k2, .int .i64 x] w fun e w' => e = .returned (.bool true) ∧ ∃ v', RefUR w' b v' (n' : Int) (L ++ [((k1, k2), x)]) ∧ Keeps (foot1 b v) w w' ∧ Within w (foot1 b v) (foot1 b v') := by
  replace hn' := Lib.hid hn'
  have hG := refUGet (n := n) h ap hl k1 k2
  rw [hg] at hG
  generalize (TS.get ⟨L, n⟩ (k1, k2)).1 = y at *
  have hA := h.alloc (.cells #[.int .i64 k1, .int .i64 k2, .int .i64 x] 49)
  have hkA := Keeps.of_alloc (foot1 b v) w (.cells #[.int .i64 k1, .int .i64 k2, .int .i64 x] 49)
  have hsrc := oneE w k1 k2 x w.heap.size rfl
  have hln : L.length + [((k1, k2), x)].length ≤ 1000000 := by simp only [List.length_singleton]; omega
  have hlen : (L ++ [((k1, k2), x)]).length = L.length + 1 := by simp
  obtain ⟨a, cap, hv, _⟩ := h.own.form
  subst hv
  obtain ⟨c0, c1⟩ := h.cells
  clear h hg
  go_enter Try.func13, Try.ntmps13
  go_wp2_with fail
  refine hG.mono ?_
  rintro e w1 ⟨rfl, rfl⟩
  clear hG
  go_wp2_with (at_builtin; refine appendE rfl (.tmp 23) (.tmp 28) rfl _ _ L [((k1, k2), x)] rfl hA.own rfl hsrc hln ?_; intro v' w2 hown hgr hat; obtain ⟨q1, z1, hR, hK, hW⟩ := hA.app hown hgr hat; obtain ⟨a', k', e', _⟩ := hown.form; rw [hlen] at e'; subst e'; clear hown hgr hat)
  generalize w2.setCell ⟨b, 0, none⟩ (.slice a' (L.length + 1) k') = W at *
  clear q1 z1 hA hsrc c0 c1
  obtain ⟨c0, c1⟩ := hR.cells
  have f1 := hR.free 1
  have hq0 : (0 : Int) ≤ (n : Int) / 2 := by omega
  have hq1 : (n : Int) / 2 ≤ 1000000 := by omega
  have hn0 : (0 : Int) ≤ (n : Int) := by omega
  have hn1 : (n : Int) ≤ 1000000 := by omega
  have hKA := Lib.hid (hkA.and hK)
  have hWA : Hid (Within w (foot1 b (.slice a L.length cap)) (foot1 b (.slice a' (L.length + 1) k'))) := Lib.hid fun k hk => (hW k hk).imp id (fun e => Nat.le_trans hkA.size e)
  have HR := fun q => hR.below (below_drewN (n := q) (Below.refl _ _))
  replace HR := Lib.hid HR
  clear hR hK hW hkA
  by_cases hd : L.length + 1 > n / 2
  · have hd1 : (n : Int) / 2 < (L.length : Int) + 1 := by omega
    replace hn' := Lib.hid (hn'.out.trans (if_pos hd))
    clear hd
    go_quiet (fail)
    have HS := Lib.hid ((HR.out nq).setSlots ((2 * n : Nat) : Int))
    have HK := Lib.hid ((hKA.out.and (Keeps.of_below (below_drewN (n := nq) (Below.refl _ _)) _)).and (Keeps.of_setCell _ (W.drewN nq) ⟨b, 1, none⟩ (.int .i64 ((2 * n : Nat) : Int)) (.inl rfl)))
    have he : ((2 * n : Nat) : Int) = 2 * (n : Int) := by omega
    go_wp2
    go_ret
    rw [hn'.out, ← he]
    exact ⟨rfl, _, HS.out, HK.out, hWA.out⟩
  · have hd1 : ¬ (n : Int) / 2 < (L.length : Int) + 1 := by omega
    replace hn' := Lib.hid (hn'.out.trans (if_neg hd))
    clear hd
    go_quiet (fail)
    go_wp2
    go_ret
    rw [hn'.out]
    exact ⟨rfl, _, HR.out _, hKA.out.and (Keeps.of_below (below_drewN (Below.refl _ _)) _), hWA.out⟩

end Go.Proofs.Ytlhpjmeegflmlaa
