/-
  Texts of this proof, one behind the other: ReadN, RefR, RefW, SweepT.
-/
import Derived.Test.YtmbonbicokbihaaGreatG10
import Derived.Test.YtmbonbicokbihaaGreatG9
import Derived.Test.YtmbonbicokbihaaGreatG14
import Derived.Test.YtmbonbicokbihaaGreatG17
import Derived.Test.YtmbonbicokbihaaGreatG18
/-
  Nodes of bowerlaw00: nodes of a model's store, by any numbers.
-/
namespace Go.Proofs.YtmbonbicokbihaaGreat
open Go Go.RowKit

/-- Nodes by any numbers. -/
def MS.picks (s : MS) (l : List Int) : List Int := l.map fun n => s.pick n (decide (n < 0))
theorem MS.Base.picks_le {s : MS} (ok : s.Base) {l : List Int} (h : ∀ n ∈ l, n ≤ 9223372036854775807) : ∀ n ∈ s.picks l, n ≤ 9223372036854775807 := by
  intro n hn
  obtain ⟨m, hm, rfl⟩ := List.mem_map.1 hn
  exact ok.pick_le (h m hm)
theorem MS.Base.picks_ge {s : MS} (ok : s.Base) {l : List Int} (h : ∀ n ∈ l, -9223372036854775808 ≤ n) : ∀ n ∈ s.picks l, -9223372036854775808 ≤ n := by
  intro n hn
  obtain ⟨m, hm, rfl⟩ := List.mem_map.1 hn
  exact ok.pick_ge (h m hm)
theorem MS.picks_step {s : MS} {l : List Int} {k : Nat} (hk : k < l.length) : s.picks (l.take (k + 1)) = s.picks (l.take k) ++ [s.pick l[k] (decide (l[k] < 0))] := by
  unfold MS.picks
  rw [List.take_succ_eq_append_getElem hk, List.map_append]
  rfl
theorem MS.picks_length (s : MS) (l : List Int) : (s.picks l).length = l.length := by simp [MS.picks]

set_option maxRecDepth 100000 in
set_option maxHeartbeats 2000000 in
theorem lawNodes {w : World} {b : Nat} {F : Nat → Prop} {s : MS} (h : RefSAt w b F s) (ok : s.Base) (l : List Int) (v : Value) (hv : Reads encI w v l) (hl : l.length ≤ 100000) (hwf : ∀ n ∈ l, (Lit.int .i64 n).wf = true) :
    Calls Tryz.prog 7 #[.pointer (some ⟨b, 0, none⟩), v] w fun e w' => ∃ v', e = .returned v' ∧ WRel w (s.picks l) v' w' := by
  obtain ⟨a, cap, rfl⟩ := hv.form
  have HP := fun wr (hb : Below w.heap.size w wr) (n : Int) (hn : (Lit.int .i64 n).wf = true) => lawNode (h.below hb) ok n (decide (n < 0)) hn
  clear h
  go_enter Tryz.func7, Tryz.ntmps7
  go_wp2
  go_loopw [5, 6] (fun vo i wr => ∃ k : Nat, k ≤ l.length ∧ i = .int .i64 k ∧ WRel w (s.picks (l.take k)) vo wr) (fun _ i _ => l.length - (intOf i).toNat)
  case atStart => exact ⟨0, Nat.zero_le _, rfl, Owns.nil _ _, (fun g h => by cases h), Below.refl _ _⟩
  case round =>
    obtain ⟨k, hk, rfl, R⟩ := hrel
    by_cases hlt : k < l.length
    · obtain ⟨ad, rfl, _⟩ := (hv.keep R.below).intAt k hlt
      have hc : ∀ u : Sub wr, u.1.cell? (ad.add k) = some (.int .i64 l[k]) := fun u => by
        obtain ⟨ad', e, h⟩ := (hv.keep (R.below.trans (u.2.mono R.below.size))).intAt k hlt
        cases e
        exact h
      have HS := MS.picks_step (s := s) hlt
      have hln := MS.picks_length s (l.take k)
      rw [List.length_take] at hln
      have hw := hwf _ (List.getElem_mem hlt)
      have HN := fun u : Sub wr => HP u.1 (R.below.trans (u.2.mono R.below.size)) _ hw
      generalize l[k] = x at *
      generalize s.pick x (decide (x < 0)) = y at *
      generalize s.picks (l.take k) = out at *
      replace HS := Lib.hid HS
      have hk0 : (0 : Int) ≤ (k : Int) := by omega
      have hk1 : (k : Int) < (l.length : Int) := by omega
      clear hv HP hwf hw
      go_wp2
      refine wp_region_move_tail (C := fun w' => ∃ u : Sub wr, w' = u.1) 11 (.tmp 5) rfl rfl (by kernel_rfl) (by kernel_rfl) (fun _ _ _ _ h => h) (InSub.drew wr) ?_
      simp only [List.take_succ_cons, List.take_zero, List.drop_succ_cons, List.drop_zero, Act.put, Act.eval, List.setIfInBounds_toArray, List.set_cons_zero, List.set_cons_succ]
      iterate 10 (go_big_quiet_step (fail))
      go_big_quiet_step (exact subBelow (HN _))
      refine wpQuiet_nil ?_
      intro w' hw'
      obtain ⟨u, rfl⟩ := hw'
      have hb5 := R.below.trans (u.2.mono R.below.size)
      have hO := R.own.block (w' := u.1) fun g hg => u.2.block g (R.own.lt g hg)
      have hnew := R.new
      clear HN hc
      generalize u.1 = w5 at *
      have hA := hO.alloc (.cells #[.int .i64 y] 3)
      have hsrc := oneI w5 y w5.heap.size rfl
      have hl2 : out.length + [y].length ≤ 1000000 := by simp; omega
      go_wp2_with (at_builtin; refine appendI rfl (.tmp 13) (.tmp 25) rfl _ _ out [y] rfl hA rfl hsrc hl2 ?_; intro v' w2 hown hgr hat)
      refine ⟨⟨k + 1, by omega, by go_num, by rw [HS.out]; exact hown, fun g hg => ?_, ?_⟩, by simp [intOf]; omega⟩
      · rcases hat with hat | hat
        · exact hnew g (hat ▸ hg)
        · rw [hat] at hg; injection hg with hg; have := hb5.size; simp at hg; omega
      · exact (hb5.alloc hb5.size _).grown hgr (by have := hb5.size; simp; omega) hnew
    · clear hv HP hwf
      go_wp2
      go_ret
      refine ⟨_, rfl, ?_⟩
      rw [List.take_of_length_le (by omega)] at R
      exact R

end Go.Proofs.YtmbonbicokbihaaGreat

/-
  The document's store: Reach. Nodes of bowerlaw00.
-/
namespace Go.Proofs.YtmbonbicokbihaaGreat
open Go Go.RowKit

theorem Owns.free' {P : Program} {α : Type} {E : Enc P α} {w : World} {v : Value} {l : List α} (h : Owns E w v l) {g : Nat} (hg : v.ownBlock = Option.some g) (j : Nat) : w.frozen? ⟨g, j, none⟩ = false := by
  obtain ⟨a, c, rfl, _, _, _, H⟩ := h.form
  cases a with
  | none => cases hg
  | some ad =>
    obtain ⟨g', rfl, _, hf, _⟩ := H ad rfl
    cases hg
    exact hf j
/-- A flag read, by its length told otherwise. -/
theorem flagCell {w : World} {g n c : Nat} {l : List Bool} (h : Owns encB w (.slice (some ⟨g, 0, none⟩) n c) l) (i : Nat) (hi : i < l.length) : w.cell? ⟨g, i, none⟩ = some (.bool (l.getD i false)) := by
  obtain ⟨a, c', hv, _, _, _, H⟩ := h.form
  injection hv with ha _ hc
  obtain ⟨g', e, _, _, hcell⟩ := H ⟨g, 0, none⟩ ha.symm
  cases e
  have := hcell i hi 0 (by decide)
  rw [List.getD, List.getElem?_eq_getElem hi]
  simpa [encB] using this
theorem flagSet {w : World} {g n c : Nat} {l : List Bool} (h : Owns encB w (.slice (some ⟨g, 0, none⟩) n c) l) (hn : n = l.length) {i : Nat} (hi : i < l.length) (x : Bool) : Owns encB (w.setCell ⟨g, i, none⟩ (.bool x)) (.slice (some ⟨g, 0, none⟩) n c) (l.set i x) := by
  subst hn
  exact h.put rfl rfl hi

set_option maxRecDepth 100000 in
set_option maxHeartbeats 4000000 in
theorem refSReach {w : World} {b : Nat} {F : Nat → Prop} {s : MS} (h : RefSAt w b F s) (ok : s.Ok) (roots : List Int) (v : Value) (hv : Reads encI w v roots) (hrl : roots.length ≤ 100000) (hwf : ∀ r ∈ roots, r ≤ 9223372036854775807) :
    Calls Tryz.prog 27 #[.pointer (some ⟨b, 0, none⟩), v] w fun e w' => ∃ v', e = .returned v' ∧ WRel w (s.reach roots) v' w' := by
  have hfew := ok.toBase.few
  obtain ⟨bA, FA, vN, rfl, hR⟩ := h
  have cl := hR.cells.2
  obtain ⟨aN, cN, rfl⟩ := hR.form
  have hHN := fun W (hb : Below w.heap.size w W) (n : Int) (hn : n ≤ 9223372036854775807) => refSNode (w := W) ⟨bA, FA, .slice aN s.N.length cN, rfl, hR.below hb⟩ ok.toBase n hn
  have hm : (Instr.makeSlice 93 (.int .i64 ((s.N.length : Int) + 2)) (.int .i64 ((s.N.length : Int) + 2))).run Tryz.prog w = .ok (.slice (some ⟨w.heap.size, 0, none⟩) (s.N.length + 2) (s.N.length + 2)) (w.alloc (.cells (madeCells encB.zero.cells ((s.N.length + 2) * encB.size)) encB.elem)) := run_made encB (s.N.length + 2) (by omega) w
  have hOS := owns_made encB false rfl (s.N.length + 2) (by omega) w
  have hbS : Below w.heap.size w (w.alloc (.cells (madeCells encB.zero.cells ((s.N.length + 2) * encB.size)) encB.elem)) := by go_grown
  have hSl : (w.alloc (.cells (madeCells encB.zero.cells ((s.N.length + 2) * encB.size)) encB.elem)).heap.size = w.heap.size + 1 := by simp
  have hlN : cN = cN := rfl
  clear hR hlN
  generalize w.alloc (.cells (madeCells encB.zero.cells ((s.N.length + 2) * encB.size)) encB.elem) = W1 at *
  have hO0 : Owns encI (W1.alloc (.cells #[] 3)) (.slice (some ⟨W1.heap.size, 0, none⟩) 0 0) [] := World.ownsRow_lit W1 #[] 0 (Nat.zero_le _) (by unfold maxLen; omega) rfl
  have hb1 : Below w.heap.size w (W1.alloc (.cells #[] 3)) := hbS.alloc hbS.size _
  have hOS1 := hOS.alloc (.cells #[] 3)
  have hr1 := hv.keep hb1
  have hln0 : ([] : List Int).length + roots.length ≤ 1000000 := by simp; omega
  rw [hSl] at hO0
  clear hbS hOS
  go_enter Tryz.func27, Tryz.ntmps27
  go_wp2_with (at_builtin; refine appendI rfl (.tmp 19) (.tmp 20) rfl (.slice (some ⟨w.heap.size + 1, 0, none⟩) 0 0) v [] roots rfl hO0 rfl hr1 hln0 ?_; intro vw w2 hown hgr hat)
  rw [List.nil_append] at hown
  have hown0 : (Value.slice (some ⟨w.heap.size + 1, 0, none⟩) 0 0).ownBlock = some (w.heap.size + 1) := rfl
  rw [hown0] at hgr hat
  have hat' : ∀ g, vw.ownBlock = some g → w.heap.size + 1 ≤ g := fun g hg => by
    rcases hat with hat | hat <;> rw [hat] at hg <;> injection hg with hg
    · omega
    · simp at hg; omega
  have hOS2 := hOS1.block (w' := w2) fun g hg => hgr.block g (hOS1.lt g hg) (fun e => by
    have hg' : some w.heap.size = some g := hg
    injection hg' with hg'
    injection e with e
    omega)
  have hb2 := hb1.grown hgr (by simp; omega) (fun g hg => by injection hg with hg; omega)
  have hS2 := hOS2.lt w.heap.size rfl
  clear hO0 hb1 hOS1 hr1 hln0 hgr hat hm hSl hown0
  have hwk0 : ∀ m ∈ roots, m ≤ 9223372036854775807 := hwf
  replace hown := Lib.hid hown
  replace hOS2 := Lib.hid hOS2
  replace hwk0 := Lib.hid hwk0
  replace hat' := Lib.hid hat'
  have hI0 := RInv.start s roots
  go_wp2
  go_loopw [6, 7] (fun vo i wr => ∃ (k : Nat) (seen : List Bool) (work : List Int), RInv s roots seen work k ∧ k ≤ work.length ∧ i = .int .i64 k ∧ Owns encB wr (.slice (some ⟨w.heap.size, 0, none⟩) (s.N.length + 2) (s.N.length + 2)) seen ∧ Owns encI wr vo work ∧ (∀ g, vo.ownBlock = some g → w.heap.size + 1 ≤ g) ∧ Below w.heap.size w wr ∧ Hid (∀ m ∈ work, m ≤ 9223372036854775807)) (fun _ i _ => roots.length + 2 * (s.N.length + 2) - (intOf i).toNat)
  case atStart => exact ⟨0, _, roots, hI0, Nat.zero_le _, rfl, hOS2.out, hown.out, hat'.out, hb2, hwk0⟩
  case round =>
    clear hI0 hown hOS2 hat' hb2 hwk0 hS2
    obtain ⟨k, seen, work, I, hk, rfl, hOS, hOW, hnew, hb, hwk⟩ := hrel
    obtain ⟨aW, cW, eW, _⟩ := hOW.form
    subst eW
    have hbd := I.bound
    have hSl := I.len
    by_cases hlt : k < work.length
    · obtain ⟨gW, rfl⟩ : ∃ gW, aW = some ⟨gW, 0, none⟩ := by
        obtain ⟨g, c, e, _⟩ := hOW.some (by omega)
        injection e with e _ _
        exact ⟨g, e⟩
      have hgW := hnew gW rfl
      have hc := hOW.intAt k hlt
      have hnle := hwk.out _ (List.getElem_mem hlt)
      have hold := I.old hlt
      have hnewI := I.new ok.toBase hlt
      have hk0 : (0 : Int) ≤ (k : Int) := by omega
      have hk1 : (k : Int) < (work.length : Int) := by omega
      generalize hn : work[k] = n at *
      have HN := hHN wr hb n hnle
      unfold nodeV nv at HN
      cases hh : s.has n
      · simp only [hh, Bool.false_eq_true, if_false] at HN
        have hnext := Lib.hid (hold (fun e => by rw [hh] at e; cases e))
        clear hold hnewI hh hn
        go_wp2_with fail
        refine HN.mono ?_
        rintro e w3 ⟨rfl, hb3⟩
        have hb4 := hb3.alloc hb3.size (.cells #[.int .i64 0, .int .i64 0, .int .i64 0] 50)
        have hOS4 := hOS.block (w' := w3.alloc (.cells #[.int .i64 0, .int .i64 0, .int .i64 0] 50)) fun g hg => hb4.block g (hOS.lt g hg)
        have hOW4 := hOW.block (w' := w3.alloc (.cells #[.int .i64 0, .int .i64 0, .int .i64 0] 50)) fun g hg => hb4.block g (hOW.lt g hg)
        replace hOS4 := Lib.hid hOS4
        replace hOW4 := Lib.hid hOW4
        clear HN hc hOS hOW
        go_wp2
        exact ⟨⟨k + 1, seen, work, hnext.out, by omega, by go_num, hOS4.out, hOW4.out, hnew, hb.trans (hb4.mono hb.size), hwk⟩, by simp [intOf]; omega⟩
      · simp only [hh, if_true] at HN
        have hle := ok.toBase.has_le hh
        obtain ⟨r1, r2, _⟩ := ok.toBase.range hh
        have hnl : n.toNat < seen.length := by rw [hSl]; omega
        have hn0 : (0 : Int) ≤ n := by omega
        have hn1 : n < (s.N.length : Int) + 2 := by omega
        have blo := ok.toBase.behind_le (ok.lo n hh)
        have bhi := ok.toBase.behind_le (ok.hi n hh)
        generalize hx : s.nd n = x at *
        obtain ⟨x0, x1, x2⟩ := x
        dsimp only at HN blo bhi hnewI
        cases hs : seen.getD n.toNat false
        · have hnext := Lib.hid (hnewI hh hs)
          clear hold hnewI
          go_wp2_with fail
          refine HN.mono ?_
          rintro e w3 ⟨rfl, hb3⟩
          have hb4 := hb3.alloc hb3.size (.cells #[.int .i64 x0, .int .i64 x1, .int .i64 x2] 50)
          have hOS4 := hOS.block (w' := w3.alloc (.cells #[.int .i64 x0, .int .i64 x1, .int .i64 x2] 50)) fun g hg => hb4.block g (hOS.lt g hg)
          have hOW4 := hOW.block (w' := w3.alloc (.cells #[.int .i64 x0, .int .i64 x1, .int .i64 x2] 50)) fun g hg => hb4.block g (hOW.lt g hg)
          have hX := HoldsN.new w3 ⟨x0, x1, x2⟩
          have hXb : w.heap.size < w3.heap.size := by have := hOS.lt w.heap.size rfl; have := hb3.size; omega
          have hWw := hOW.lt gW rfl
          have hsz3 := hb3.size
          have q1 := flagCell hOS4 n.toNat hnl
          rw [hs] at q1
          have q2 := hOW4.intAt k hlt
          rw [hn] at q2
          obtain ⟨z0, z1, z2⟩ := hX.cells
          have y1 := hOS4.free' rfl n.toNat
          dsimp only at z0 z1 z2
          -- marked
          have hOS5 := flagSet hOS4 (by rw [hSl]) hnl true
          have hOW5 := hOW4.block (w' := (w3.alloc (.cells #[.int .i64 x0, .int .i64 x1, .int .i64 x2] 50)).setCell ⟨w.heap.size, n.toNat, none⟩ (.bool true)) fun g hg => Below.heap_setCell _ _ _ _ (fun e => by have hg' : some gW = some g := hg; injection hg' with hg'; have e' : g = w.heap.size := e; omega)
          have hX5 : HoldsN ((w3.alloc (.cells #[.int .i64 x0, .int .i64 x1, .int .i64 x2] 50)).setCell ⟨w.heap.size, n.toNat, none⟩ (.bool true)) w3.heap.size ⟨x0, x1, x2⟩ := by
            unfold HoldsN
            rw [Below.heap_setCell _ _ _ _ (fun e => by have e' : w3.heap.size = w.heap.size := e; omega)]
            exact hX
          have hb5 : Below w.heap.size w ((w3.alloc (.cells #[.int .i64 x0, .int .i64 x1, .int .i64 x2] 50)).setCell ⟨w.heap.size, n.toNat, none⟩ (.bool true)) := (hb.trans (hb4.mono hb.size)).setCell (Nat.le_refl _) _
          rw [World.setCell_alloc_past _ _ _ _ hXb] at hOS5 hOW5 hX5 hb5
          obtain ⟨e0, e1, e2⟩ := hX5.cells
          have q2' := hOW5.intAt k hlt
          rw [hn] at q2'
          dsimp only at e0 e1 e2
          replace hOS5 := Lib.hid hOS5
          replace hOW5 := Lib.hid hOW5
          replace hb5 := Lib.hid hb5
          clear HN hc hOS hOW hOS4 hOW4 hX hX5
          have hln : work.length + [x1, x2].length ≤ 1000000 := by simp; omega
          have hs5 : ((w3.setCell ⟨w.heap.size, n.toNat, none⟩ (.bool true)).alloc (.cells #[.int .i64 x0, .int .i64 x1, .int .i64 x2] 50)).heap.size = w3.heap.size + 1 := by simp [World.setCell]
          have hL : Owns encI (((w3.setCell ⟨w.heap.size, n.toNat, none⟩ (.bool true)).alloc (.cells #[.int .i64 x0, .int .i64 x1, .int .i64 x2] 50)).alloc (.cells #[.int .i64 x1, .int .i64 x2] 3)) (.slice (some ⟨((w3.setCell ⟨w.heap.size, n.toNat, none⟩ (.bool true)).alloc (.cells #[.int .i64 x0, .int .i64 x1, .int .i64 x2] 50)).heap.size, 0, none⟩) 2 2) [x1, x2] := World.ownsRow_lit _ #[.int .i64 x1, .int .i64 x2] 2 (Nat.zero_le _) (by unfold maxLen; omega) rfl
          rw [hs5] at hL
          have hsrc := hL.reads
          have hA := hOW5.out.alloc (.cells #[.int .i64 x1, .int .i64 x2] 3)
          have hOS6 := hOS5.out.alloc (.cells #[.int .i64 x1, .int .i64 x2] 3)
          have hb6 := hb5.out.alloc hb5.out.size (.cells #[.int .i64 x1, .int .i64 x2] 3)
          replace hOS6 := Lib.hid hOS6
          replace hb6 := Lib.hid hb6
          go_wp2_with (at_builtin; refine appendI rfl (.tmp 54) (.tmp 59) rfl (.slice (some ⟨gW, 0, none⟩) work.length cW) (.slice (some ⟨w3.heap.size + 1, 0, none⟩) 2 2) work [x1, x2] rfl hA rfl hsrc hln ?_; intro v' w7 hown hgr hat)
          have hown0 : (Value.slice (some ⟨gW, 0, none⟩) work.length cW).ownBlock = some gW := rfl
          rw [hown0] at hgr hat
          have hnew7 : ∀ g, v'.ownBlock = some g → w.heap.size + 1 ≤ g := fun g hg => by
            rcases hat with hat | hat <;> rw [hat] at hg <;> injection hg with hg
            · omega
            · simp [World.setCell] at hg; omega
          have hOS7 := hOS6.out.block (w' := w7) fun g hg => hgr.block g (hOS6.out.lt g hg) (fun e => by
            have hg' : some w.heap.size = some g := hg
            injection hg' with hg'
            injection e with e
            omega)
          have hb7 := hb6.out.grown hgr (by simp [World.setCell]; omega) (fun g hg => by injection hg with hg; omega)
          exact ⟨⟨k + 1, _, _, hnext.out, by simp; omega, by go_num, hOS7, hown, hnew7, hb7, Lib.hid (fun m hm => by
            rcases List.mem_append.1 hm with hm | hm
            · exact hwk.out m hm
            · simp only [List.mem_cons, List.not_mem_nil, or_false] at hm
              rcases hm with rfl | rfl <;> omega)⟩, by simp [intOf]; omega⟩
        · have hnext := Lib.hid (hold (fun _ => hs))
          clear hold hnewI
          go_wp2_with fail
          refine HN.mono ?_
          rintro e w3 ⟨rfl, hb3⟩
          have hb4 := hb3.alloc hb3.size (.cells #[.int .i64 x0, .int .i64 x1, .int .i64 x2] 50)
          have hOS4 := hOS.block (w' := w3.alloc (.cells #[.int .i64 x0, .int .i64 x1, .int .i64 x2] 50)) fun g hg => hb4.block g (hOS.lt g hg)
          have hOW4 := hOW.block (w' := w3.alloc (.cells #[.int .i64 x0, .int .i64 x1, .int .i64 x2] 50)) fun g hg => hb4.block g (hOW.lt g hg)
          have q1 := flagCell hOS4 n.toNat hnl
          rw [hs] at q1
          have q2 := hOW4.intAt k hlt
          rw [hn] at q2
          replace hOS4 := Lib.hid hOS4
          replace hOW4 := Lib.hid hOW4
          clear HN hc hOS hOW
          go_wp2
          exact ⟨⟨k + 1, seen, work, hnext.out, by omega, by go_num, hOS4.out, hOW4.out, hnew, hb.trans (hb4.mono hb.size), hwk⟩, by simp [intOf]; omega⟩
    · have hge : work.length ≤ k := by omega
      have hres := I.reach hge
      have hsz := hOS.lt w.heap.size rfl
      have hgetk : ∀ j : Nat, j < s.N.length → ∀ V, Below wr.heap.size wr V → V.cell? ⟨w.heap.size, j + 2, none⟩ = some (.bool (seen.getD ((j : Int) + 2).toNat false)) := fun j hj V hV => by
        have := flagCell (hOS.block (w' := V) fun g hg => hV.block g (hOS.lt g hg)) (j + 2) (by omega)
        rw [show ((j : Int) + 2).toNat = j + 2 by omega]
        exact this
      clear hwk hnew hOW hHN cl hlt hbd
      obtain ⟨V1, hV1⟩ : ∃ V1, V1 = wr := ⟨_, rfl⟩
      subst hV1
      have hdk : decide (k < work.length) = false := decide_eq_false (by omega)
      go_wp2
      try simp only [hdk]
      clear hge hdk
      go_loopw [10, 11] (fun vo i wz => ∃ j : Nat, j ≤ s.N.length ∧ i = .int .i64 ((j : Int) + 2) ∧ WRel V1 ((numsTo j).filter (fun n => seen.getD n.toNat false)) vo wz) (fun _ i _ => s.N.length + 2 - (intOf i).toNat)
      case atStart => exact ⟨0, Nat.zero_le _, rfl, Owns.nil _ _, (fun g h => by cases h), Below.refl _ _⟩
      case round =>
        obtain ⟨j, hj, rfl, R⟩ := hrel
        obtain ⟨aR, cR, eR, _⟩ := R.own.form
        subst eR
        by_cases hlt : j < s.N.length
        · have hstep := numsTo_filter (fun n => seen.getD n.toNat false) j
          have hl := numsTo_filter_length (fun n => seen.getD n.toNat false) j
          have hji : (j : Int) < (s.N.length : Int) := by omega
          have q := hgetk j hlt _ R.below
          clear hgetk hres
          cases hh : seen.getD ((j : Int) + 2).toNat false
          · rw [hh] at hstep q
            simp only [Bool.false_eq_true, if_false, List.append_nil] at hstep
            have HS := Lib.hid hstep
            clear hstep hh
            go_wp2
            exact ⟨⟨j + 1, by omega, by go_num, by rw [HS.out]; exact R⟩, by simp [intOf]; omega⟩
          · rw [hh] at hstep q
            simp only [if_true] at hstep
            have HS := Lib.hid hstep
            clear hstep hh
            have hA := R.own.alloc (.cells #[.int .i64 ((j : Int) + 2)] 3)
            have hsrc := oneI wr ((j : Int) + 2) wr.heap.size rfl
            have hln : ((numsTo j).filter (fun n => seen.getD n.toNat false)).length + [(j : Int) + 2].length ≤ 1000000 := by simp at hl ⊢; omega
            go_wp2_with (at_builtin; refine appendI rfl (.tmp 71) (.tmp 73) rfl (.slice aR ((numsTo j).filter (fun n => seen.getD n.toNat false)).length cR) (.slice (some ⟨wr.heap.size, 0, none⟩) 1 1) ((numsTo j).filter (fun n => seen.getD n.toNat false)) [(j : Int) + 2] rfl hA rfl hsrc hln ?_; intro v' w2 hown hgr hat)
            have hNN : ∀ g, v'.ownBlock = some g → V1.heap.size ≤ g := fun g hg => by
              rcases hat with hat | hat
              · exact R.new g (hat ▸ hg)
              · rw [hat] at hg; injection hg with hg; have := R.below.size; simp at hg; omega
            have hBB := (R.below.alloc R.below.size (.cells #[.int .i64 ((j : Int) + 2)] 3)).grown hgr (by have := R.below.size; simp; omega) R.new
            exact ⟨⟨j + 1, by omega, by go_num, by rw [HS.out]; exact hown, hNN, hBB⟩, by simp [intOf]; omega⟩
        · obtain rfl : j = s.N.length := by omega
          clear hgetk
          go_wp2
          go_ret
          refine ⟨_, rfl, ?_⟩
          have hres' : (numsTo s.N.length).filter (fun n => seen.getD n.toNat false) = s.reach roots := hres
          have hO := R.own
          have hN := R.new
          have hB := R.below
          show WRel w (s.reach roots) (.slice aR ((numsTo s.N.length).filter (fun n => seen.getD n.toNat false)).length cR) _
          rw [← hres']
          exact ⟨hO, fun g hg => Nat.le_trans hb.size (hN g hg), hb.trans (hB.mono hb.size)⟩

end Go.Proofs.YtmbonbicokbihaaGreat

/-
  The document's store: Sweep.
-/
namespace Go.Proofs.YtmbonbicokbihaaGreat
open Go Go.RowKit

theorem sw1_ok {K : List Int} {r : Int × MS} (h : r.2.Ok) (v n : Int) : (MS.sw1 K v r n).2.Ok := by
  unfold MS.sw1; split
  · exact h.freed n
  · exact h
theorem foldl_take_succ {α β : Type} (f : β → α → β) (b : β) (l : List α) (k : Nat) (h : k < l.length) : (l.take (k + 1)).foldl f b = f ((l.take k).foldl f b) l[k] := by
  rw [List.take_add_one, List.getElem?_eq_getElem h, List.foldl_append]; rfl
theorem SwI.count_le {s : MS} {K : List Int} {r : Int × MS} (h : SwI s K r) : r.1 ≤ s.all.length ∧ 0 ≤ r.2.all.length := ⟨by have := h.cnt; omega, Nat.zero_le _⟩

/-- Within a level: the state behind the first k of its numbers. -/
def swPart (K : List Int) (r : Int × MS) (v : Int) (k : Nat) : Int × MS := (r.2.all.take k).foldl (MS.sw1 K v) r
theorem swPart_zero (K : List Int) (r : Int × MS) (v : Int) : swPart K r v 0 = r := rfl
theorem swPart_succ (K : List Int) (r : Int × MS) (v : Int) (k : Nat) (h : k < r.2.all.length) : swPart K r v (k + 1) = MS.sw1 K v (swPart K r v k) r.2.all[k] := foldl_take_succ _ _ _ k h
theorem swPart_all (K : List Int) (r : Int × MS) (l : Nat) : swPart K r (r.2.o l) r.2.all.length = MS.swLevel K r l := by unfold swPart MS.swLevel; rw [List.take_length]
/-- What is so there. -/
theorem SwI.part {s : MS} {K : List Int} {r : Int × MS} (h : SwI s K r) (hc : SwClosed s K) {l : Nat} (hl : l < 8) (hd : SwDone s K r l) (k : Nat) (hk : k ≤ r.2.all.length) :
    SwI s K (swPart K r (s.o l) k) ∧ SwDone s K (swPart K r (s.o l) k) l ∧ (∀ j (hj : j < r.2.all.length), k ≤ j → (swPart K r (s.o l) k).2.has r.2.all[j] = true) := by
  have hN := r.2.all_nodup
  obtain ⟨t1, t2, _, t4, _⟩ := SwI.level hc hl (r.2.all.take k) r h hd (hN.sublist (List.take_sublist _ _)) (fun n hn => h.ok.toBase.mem_all.1 (List.mem_of_mem_take hn))
  refine ⟨t1, t2, fun j hj hkj => t4 _ (h.ok.toBase.mem_all.1 (List.getElem_mem hj)) fun hm => ?_⟩
  obtain ⟨i, hi, e⟩ := List.mem_iff_getElem.1 hm
  rw [List.length_take] at hi
  rw [List.getElem_take] at e
  have := (List.getElem_inj hN).1 e
  omega

set_option maxRecDepth 100000 in
set_option maxHeartbeats 8000000 in
theorem refSSweep {w : World} {b : Nat} {F : Nat → Prop} {s : MS} (h : RefSAt w b F s) (ok : s.Ok) (roots : List Int) (v : Value) (hv : Reads encI w v roots) (hrl : roots.length ≤ 100000) (hwf : ∀ r ∈ roots, r ≤ 9223372036854775807) :
    Calls Tryz.prog 9 #[.pointer (some ⟨b, 0, none⟩), v] w fun e w' => e = .returned (.int .i64 (s.sweep roots).1) ∧ ∃ F', RefSAt w' b F' (s.sweep roots).2 ∧ Keeps F w w' ∧ Within w F F' := by
  have HR := refSReach h ok roots v hv hrl hwf
  have hcl := ok.reach_closed roots
  have hKl : (s.reach roots).length ≤ 20000 := met_few ok.toBase (List.Pairwise.imp (fun h e => by omega) (s.reach_sorted roots)) (fun m hm => (ok.toBase.reach_iff.1 hm).has)
  have hal : (s.all.length : Int) ≤ 20000 := by have := met_few ok.toBase s.all_nodup (fun m hm => ok.toBase.mem_all.1 hm); omega
  have hupto := fun l hl => SwI.upto (K := s.reach roots) ok hcl l hl
  simp only [MS.sweep_eq]
  generalize s.reach roots = K at *
  clear hv hwf hrl
  go_enter Tryz.func9, Tryz.ntmps9
  go_wp2_with fail
  refine HR.mono ?_
  rintro e w1 ⟨vK, rfl, RK⟩
  clear HR
  have hFlt := h.lt
  have h1 := h.below RK.below
  have hKF : ∀ g, vK.ownBlock = some g → ¬ F g := fun g hg hf => by have := RK.new g hg; have := hFlt g hf; omega
  obtain ⟨aK, cK, rfl, _⟩ := RK.own.form
  have HK1 := Keeps.of_below RK.below F
  go_wp2
  go_loopw [6, 7] (fun vf i wr => ∃ (l : Nat) (F1 : Nat → Prop) (r : Int × MS), Hid (r = MS.swTo K (0, s) l) ∧ l ≤ 8 ∧ i = .int .i64 l ∧ vf = .int .i64 r.1 ∧ RefSAt wr b F1 r.2 ∧ Keeps F w1 wr ∧ Within w1 F F1) (fun _ i _ => 8 - (intOf i).toNat)
  case atStart => exact ⟨0, F, (0, s), rfl, Nat.zero_le _, rfl, rfl, h1, Keeps.refl _ _, Within.refl _ _⟩
  case round =>
    clear h1
    obtain ⟨l, F1, r, hr, hl, rfl, rfl, h1, K1, W1⟩ := hrel
    by_cases hlt : l < 8
    · obtain ⟨hI, hD⟩ := hupto l hl
      have hsucc := MS.swTo_succ K (0, s) l
      rw [← hr.out] at hI hD hsucc
      have hAll := refSAll h1 hI.ok.toBase
      have hral : (r.2.all.length : Int) ≤ 20000 := by have := met_few hI.ok.toBase r.2.all_nodup (fun m hm => hI.ok.toBase.mem_all.1 hm); omega
      have hl0 : (0 : Int) ≤ (l : Int) := by omega
      have hl8 : (l : Int) < 8 := by omega
      rw [← swPart_all, hI.o] at hsucc
      have hpart := fun k hk => hI.part hcl hlt hD k hk
      replace hsucc := Lib.hid hsucc
      clear hupto
      go_wp2_with fail
      refine hAll.mono ?_
      rintro e w2 ⟨vA, rfl, RA⟩
      clear hAll
      have h2 := h1.below RA.below
      have hF1lt := h1.lt
      have hAF : ∀ g, vA.ownBlock = some g → ¬ F1 g := fun g hg hf => by have := RA.new g hg; have := hF1lt g hf; omega
      obtain ⟨aA, cA, rfl, _⟩ := RA.own.form
      have K2 := K1.and (Keeps.of_below RA.below F)
      have W2 : Within w1 F F1 := W1
      have hK1b := RK.own.keep K1 hKF
      have hK2b := hK1b.block (w' := w2) fun g hg => RA.below.block g (hK1b.lt g hg)
      have hKF1 : ∀ g, (Value.slice aK K.length cK).ownBlock = some g → ¬ F1 g := fun g hg hf => (W1 g hf).elim (hKF g hg) (fun h => by have := (RK.own.lt g hg); omega)
      clear K1 hK1b h1
      replace h2 := Lib.hid h2
      go_wp2
      go_loopw [6, 9] (fun vf i wr => ∃ (k : Nat) (F2 : Nat → Prop) (p : Int × MS), Hid (p = swPart K r (s.o l) k) ∧ k ≤ r.2.all.length ∧ i = .int .i64 k ∧ vf = .int .i64 p.1 ∧ RefSAt wr b F2 p.2 ∧ Keeps F1 w2 wr ∧ Within w2 F1 F2) (fun _ i _ => r.2.all.length - (intOf i).toNat)
      case atStart => exact ⟨0, F1, r, rfl, Nat.zero_le _, rfl, rfl, h2.out, Keeps.refl _ _, Within.refl _ _⟩
      case round =>
        clear h2
        obtain ⟨k, F2, p, hp, hk, rfl, rfl, h3, K3, W3⟩ := hrel
        by_cases hltk : k < r.2.all.length
        · obtain ⟨pI, pD, pH⟩ := hpart k hk
          have hps := swPart_succ K r (s.o l) k hltk
          have hn := pH k hltk (Nat.le_refl _)
          rw [← hp.out] at pI pD hps hn
          clear hp pH hpart
          have hAr := (RA.own.keep K3 hAF).reads
          obtain ⟨ad, rfl, _⟩ := hAr.intAt k hltk
          have hAt : ∀ V, Below wr.heap.size wr V → V.cell? (ad.add k) = some (.int .i64 r.2.all[k]) := fun V hV => by
            obtain ⟨ad', e', hc'⟩ := (hAr.keep hV).intAt k hltk
            cases e'
            exact hc'
          have hKr := (hK2b.keep K3 hKF1).reads
          have hk0 : (0 : Int) ≤ (k : Int) := by omega
          have hk1 : (k : Int) < (r.2.all.length : Int) := by omega
          have hcnt := pI.count_le.1
          have hcnt0 : 0 ≤ p.1 := by have := pI.cnt; have := List.Nodup.length_le_of_subset (l₁ := p.2.all) (l₂ := s.all) (MS.all_nodup _) (fun m hm => ok.toBase.mem_all.2 (pI.has m (pI.ok.toBase.mem_all.1 hm))); omega
          have hfree := fun hvv hnk => (pI.free hcl pD hlt hn hvv hnk).1
          have hFr := fun V (hV : RefSAt V b F2 p.2) => refSFree hV pI.ok.toBase r.2.all[k]
          have hpo := pI.o
          have hpok := pI.ok
          clear pI pD
          generalize r.2.all[k] = n at *
          have hle := hpok.toBase.has_le hn
          obtain ⟨p1, S⟩ := p
          dsimp only at hcnt hcnt0 hfree hFr hpo hpok hn h3 hps
          have hIn := fun (u : Sub wr) => refSIn K n (.slice aK K.length cK) u.1 (hKr.keep u.2) (by omega)
          have h3' := h3
          obtain ⟨bA, FA, vN, rfl, hR⟩ := h3
          obtain ⟨g, cN, e5, g2, i0, i1, _, _, _⟩ := hR.node hpok.toBase hn
          subst e5
          have hNd : ∀ V, Below wr.heap.size wr V → V.cell? ⟨b, 1, none⟩ = some (.slice (some ⟨g, 0, none⟩) S.N.length cN) ∧ V.cell? ⟨g, (n - 2).toNat * 3, none⟩ = some (.int .i64 (S.nd n).var) ∧ V.cell? ⟨b, 2 + l, none⟩ = some (.int .i64 (s.o l)) := fun V hV => by
            obtain ⟨g', c', e', _, _, _, q0, _, _⟩ := (hR.below hV).node hpok.toBase hn
            cases e'
            exact ⟨(hR.below hV).cells.2, q0, by rw [← hpo]; exact (hR.below hV).place l hlt⟩
          have cN1 := fun u : Sub wr => (hNd _ u.2).1
          have q1 := fun u : Sub wr => (hNd _ u.2).2.1
          have o1 := fun u : Sub wr => (hNd _ u.2).2.2
          have cA1 := fun u : Sub wr => hAt _ u.2
          replace hps := Lib.hid hps
          unfold MS.sw1 at hps
          dsimp only at hps
          have hnext : ∀ (u : Sub wr), RefSAt u.1 b (footS b FA (.slice (some ⟨g, 0, none⟩) S.N.length cN)) S := fun u => h3'.below u.2
          have K3' := fun (u : Sub wr) => K3.and (Keeps.of_below u.2 F1)
          clear hR h3' hAr hKr hNd K3 hK2b hD
          by_cases hv : (S.nd n).var = s.o l
          · have hvb : ((S.nd n).var == s.o l) = true := by rw [beq_iff_eq]; exact hv
            by_cases hk' : n ∈ K
            · have hkb : K.contains n = true := by rw [List.contains_eq_mem]; exact decide_eq_true hk'
              have hp2 : Hid ((p1, S) = swPart K r (s.o l) (k + 1)) := by rw [hps.out, if_neg (fun h => h.2 hk')]; exact rfl
              simp only [hkb] at hIn
              clear hps hfree hFr hkb hv hk'
              go_wp2
              refine wp_region_quiet_all (C := fun w' => ∃ u : Sub wr, w' = u.1) (by kernel_rfl) (by kernel_rfl) (InSub.drew wr) ?_
              iterate 25 (go_big_quiet_step (fail))
              go_big_quiet_step (exact subSame (hIn _))
              iterate 2 (go_big_quiet_step (fail))
              refine wpQuiet_nil ?_
              clear cN1 q1 o1 cA1 hIn
              intro w' hw'
              obtain ⟨u, rfl⟩ := hw'
              have hnx := hnext u
              have hkk := K3' u
              generalize u.1 = W4 at *
              clear hnext K3'
              go_wp2
              exact ⟨⟨k + 1, _, (p1, S), hp2, by omega, by go_num, rfl, hnx, hkk, W3⟩, by simp [intOf]; omega⟩
            · have hkb : K.contains n = false := by rw [List.contains_eq_mem]; exact decide_eq_false hk'
              have hp2 : Hid ((p1 + 1, (S.free n).2) = swPart K r (s.o l) (k + 1)) := by rw [hps.out, if_pos ⟨hv, hk'⟩]; exact rfl
              simp only [hkb] at hIn
              have hf0 := hfree (by rw [hpo]; exact hv) hk'
              clear hps hfree hkb hv hk'
              go_wp2
              refine wp_region_quiet_all (C := fun w' => ∃ u : Sub wr, w' = u.1) (by kernel_rfl) (by kernel_rfl) (InSub.drew wr) ?_
              iterate 25 (go_big_quiet_step (fail))
              go_big_quiet_step (exact subSame (hIn _))
              iterate 2 (go_big_quiet_step (fail))
              refine wpQuiet_nil ?_
              clear cN1 q1 o1 hIn
              intro w' hw'
              obtain ⟨u, rfl⟩ := hw'
              have hnx := hnext u
              have hkk := K3' u
              have cA2 := cA1 u
              generalize u.1 = W4 at *
              clear hnext K3' cA1
              have hF4 := hFr _ hnx (by omega)
              rw [hf0] at hF4
              clear hFr
              go_wp2_with fail
              refine hF4.mono ?_
              rintro e w5 ⟨rfl, F5, h5, K5, W5⟩
              clear hF4
              go_wp2
              exact ⟨⟨k + 1, F5, (p1 + 1, (S.free n).2), hp2, by omega, by go_num, by go_num, h5, hkk.trans K5 W3, W3.trans W5 hkk.size⟩, by simp [intOf]; omega⟩
          · have hvb : ((S.nd n).var == s.o l) = false := by rw [beq_eq_false_iff_ne]; exact hv
            have hp2 : Hid ((p1, S) = swPart K r (s.o l) (k + 1)) := by rw [hps.out, if_neg (fun h => hv h.1)]; exact rfl
            clear hps hfree hFr hv hIn
            go_wp2
            refine wp_region_quiet_all (C := fun w' => ∃ u : Sub wr, w' = u.1) (by kernel_rfl) (by kernel_rfl) (InSub.drew wr) ?_
            iterate 20 (go_big_quiet_step (fail))
            iterate 7 (go_big_quiet_skip)
            go_big_quiet_step (fail)
            refine wpQuiet_nil ?_
            clear cN1 q1 o1 cA1
            intro w' hw'
            obtain ⟨u, rfl⟩ := hw'
            have hnx := hnext u
            have hkk := K3' u
            generalize u.1 = W4 at *
            clear hnext K3'
            go_wp2
            exact ⟨⟨k + 1, _, (p1, S), hp2, by omega, by go_num, rfl, hnx, hkk, W3⟩, by simp [intOf]; omega⟩
        · obtain rfl : k = r.2.all.length := by omega
          have hfin : Hid (p = MS.swTo K (0, s) (l + 1)) := by rw [hp.out]; exact hsucc.out.symm
          clear hp hpart hsucc
          go_wp2
          exact ⟨⟨l + 1, F2, p, hfin, by omega, by go_num, rfl, h3, K2.trans K3 W2, W2.trans W3 K2.size⟩, by simp [intOf]; omega⟩
    · obtain rfl : l = 8 := by omega
      have hfin : r = MS.swTo K (0, s) 8 := hr.out
      replace hfin := Lib.hid hfin
      clear hupto hr
      go_wp2
      go_ret
      exact ⟨by rw [← hfin.out]; rfl, F1, by rw [← hfin.out]; exact h1, HK1.trans K1 (Within.refl _ _), fun k hk => (W1 k hk).imp id (fun h => Nat.le_trans RK.below.size h)⟩

end Go.Proofs.YtmbonbicokbihaaGreat

/-
  The document's example of layer 12, and SweepTells, over the contracts.
-/
namespace Go.Proofs.YtmbonbicokbihaaGreat
open Go Go.RowKit

set_option maxRecDepth 100000 in
set_option maxHeartbeats 8000000 in
theorem sweepTells' {StAt : World → Nat → (Nat → Prop) → MS → Prop} (H : StoreC StAt) (C : SweepC StAt)
    (most : Int) (l : List D7) (roots : List Int) (more : List D7) (v vr vm : Value) (w : World) (hv : Reads encD7 w v l) (_hl : l.length ≤ maxLen) (hwf : ∀ d ∈ l, d.good)
    (hr : Reads encI w vr roots) (_hrl : roots.length ≤ maxLen) (hrw : ∀ r ∈ roots, (Lit.int .i64 r).wf = true) (hm : Reads encD7 w vm more) (_hml : more.length ≤ maxLen) (hmw : ∀ d ∈ more, d.good) :
    Calls Tryz.prog 3 #[.int .i64 most, v, vr, vm] w fun e w' => e = .returned (.bool true) ∧ Below w.heap.size w w' := by
  obtain ⟨a, cap, rfl⟩ := hv.form
  obtain ⟨ar, cr, rfl⟩ := hr.form
  obtain ⟨am, cm, rfl⟩ := hm.form
  go_enter Tryz.func3, Tryz.ntmps3
  go_wp2_with fail
  refine (up12 H C _).mono ?_
  rintro e w1 ⟨rfl, hb1⟩
  by_cases hmost : 0 ≤ most ∧ most ≤ 20000
  · obtain ⟨h0, h1⟩ := hmost
    go_wp2_with fail
    refine (lawBegin H most _ h0 h1).mono ?_
    rintro e w2 ⟨bA, bM, FA, FM, rfl, P⟩
    have ok := MS.none_ok most.toNat (by omega)
    generalize MS.none most.toNat = s at *
    by_cases hlen : l.length ≤ 100
    · have hl3 : ¬ 100 < (l.length : Int) := by omega
      by_cases hr50 : roots.length ≤ 50
      · have hr3 : ¬ 50 < (roots.length : Int) := by omega
        by_cases hm50 : more.length ≤ 50
        · have hm3 : ¬ 50 < (more.length : Int) := by omega
          replace hv := Lib.hid hv
          replace hr := Lib.hid hr
          replace hm := Lib.hid hm
          replace P := Lib.hid P
          replace ok := Lib.hid ok
          go_wp2
          go_loopw [12] (fun i wr => ∃ (j : Nat) (s : MS) (FA FM : Nat → Prop), j ≤ l.length ∧ i = .int .i64 j ∧ s.Ok ∧ P2 StAt w1 bA bM FA FM s s wr) (fun i _ => l.length - (intOf i).toNat)
          case atStart => exact ⟨0, s, _, _, Nat.zero_le _, rfl, ok.out, P.out⟩
          case round =>
            clear P ok
            obtain ⟨j, s, FA, FM, hj, rfl, ok, P⟩ := hrel
            by_cases hlt : j < l.length
            · have hk0 : (0 : Int) ≤ (j : Int) := by omega
              have hk1 : (j : Int) < (l.length : Int) := by omega
              obtain ⟨ad, rfl, q0, q1, q2, q3, q4⟩ := deedAt7 (hv.out.keep (hb1.trans (P.below.mono hb1.size))) j hlt
              have hwk := hwf _ (List.getElem_mem hlt)
              generalize l[j] = d at *
              obtain ⟨What, A, B, Cc, raw'⟩ := d
              obtain ⟨g0, g1, g2, g3⟩ := hwk
              dsimp only at q0 q1 q2 q3 q4 g0 g1 g2 g3
              have HD := lawDo H P ok What A B Cc raw' g0 g1 g2 g3
              clear P
              go_wp2_with fail
              refine HD.mono ?_
              rintro e w3 ⟨rfl, S, FA1, FM1, ok1, P1⟩
              clear HD ok q0 q1 q2 q3 q4
              go_wp2
              exact ⟨⟨j + 1, S, FA1, FM1, by omega, by go_num, ok1, P1⟩, by simp [intOf]; omega⟩
            · obtain rfl : j = l.length := by omega
              have hb := hb1.trans (P.below.mono hb1.size)
              have hrr := hr.out.keep hb
              clear hv hwf hr
              have HN := lawNodes P.m ok.toBase roots _ hrr (by omega) hrw
              have hp1 := ok.toBase.picks_le (l := roots) (fun n hn => le_of_wf (hrw n hn))
              have hp2 := ok.toBase.picks_ge (l := roots) (fun n hn => ge_of_wf (hrw n hn))
              have hpl := MS.picks_length s roots
              have hrp : ∀ r ∈ s.picks roots, r ≤ 9223372036854775807 ∧ -9223372036854775808 ≤ r := fun r hr => ⟨hp1 r hr, hp2 r hr⟩
              have hpl2 : (s.picks roots).length ≤ 100000 := by omega
              generalize s.picks roots = some at *
              have hltA := H.lt P.a
              have hltM := P.m.lt
              replace P := Lib.hid P
              clear hrr
              go_wp2_with fail
              refine HN.mono ?_
              rintro e w3 ⟨vs, rfl, RS⟩
              clear HN
              have P3 := P.out.keep H RS.below
              have hnA : ∀ g, vs.ownBlock = Option.some g → ¬ FA g := fun g hg hf => by have := RS.new g hg; have := hltA g hf; omega
              have hnM : ∀ g, vs.ownBlock = Option.some g → ¬ FM g := fun g hg hf => by have := RS.new g hg; have := hltM g hf; omega
              have hC := C.sweep P3.a ok some vs (RootsAt.of_owns RS.own hnA) hpl2 hrp
              have hownA := fun W (hk : Keeps FA w3 W) => RS.own.keep hk hnA
              have okS := (ok.swept some).1.ok
              have hD := fun W F (hV : RefSAt W bM F s) (hrd : Reads encI W vs some) => refSSweep hV ok some vs hrd hpl2 hp1
              have hcnt := (ok.swept some).2
              generalize s.sweep some = z at *
              obtain ⟨z1, S⟩ := z
              dsimp only at *
              clear P
              replace P3 := Lib.hid P3
              go_wp2_with fail
              refine hC.mono ?_
              rintro e w4 ⟨rfl, FA4, hA4, hK4, hW4⟩
              have P4 := P3.out.code H hA4 hK4 hW4
              have hD4 := hD _ _ P4.m (hownA _ hK4).reads
              clear hC hD hA4 hK4 hW4 P3 hownA
              replace P4 := Lib.hid P4
              go_wp2_with fail
              refine hD4.mono ?_
              rintro e w5 ⟨rfl, FM5, hM5, hK5, hW5⟩
              have P5 := P4.out.ref H hM5 hK5 hW5
              clear hD4 hM5 hK5 hW5 P4
              have hSm := lawSame H P5 okS
              replace P5 := Lib.hid P5
              go_wp2_with fail
              refine hSm.mono ?_
              rintro e w6 ⟨rfl, hb6⟩
              have P6 := P5.out.keep H hb6
              clear hSm hb6 P5
              replace P6 := Lib.hid P6
              go_wp2
              go_loopw [14] (fun i wr => ∃ (j : Nat) (s : MS) (FA FM : Nat → Prop), j ≤ more.length ∧ i = .int .i64 j ∧ s.Ok ∧ P2 StAt w1 bA bM FA FM s s wr) (fun i _ => more.length - (intOf i).toNat)
              case atStart => exact ⟨0, S, _, _, Nat.zero_le _, rfl, okS, P6.out⟩
              case round =>
                clear P6 okS hnA hnM RS hcnt
                obtain ⟨j, s, FA, FM, hj, rfl, ok, P⟩ := hrel
                by_cases hlt : j < more.length
                · have hk0 : (0 : Int) ≤ (j : Int) := by omega
                  have hk1 : (j : Int) < (more.length : Int) := by omega
                  obtain ⟨ad, rfl, q0, q1, q2, q3, q4⟩ := deedAt7 (hm.out.keep (hb1.trans (P.below.mono hb1.size))) j hlt
                  have hwk := hmw _ (List.getElem_mem hlt)
                  generalize more[j] = d at *
                  obtain ⟨What, A, B, Cc, raw'⟩ := d
                  obtain ⟨g0, g1, g2, g3⟩ := hwk
                  dsimp only at q0 q1 q2 q3 q4 g0 g1 g2 g3
                  have HD := lawDo H P ok What A B Cc raw' g0 g1 g2 g3
                  clear P
                  go_wp2_with fail
                  refine HD.mono ?_
                  rintro e w7 ⟨rfl, S', FA1, FM1, ok1, P1⟩
                  clear HD ok q0 q1 q2 q3 q4
                  have hSm := lawSame H P1 ok1
                  replace P1 := Lib.hid P1
                  go_wp2_with fail
                  refine hSm.mono ?_
                  rintro e w8 ⟨rfl, hb8⟩
                  have P8 := P1.out.keep H hb8
                  clear hSm hb8 P1
                  go_wp2
                  exact ⟨⟨j + 1, S', FA1, FM1, by omega, by go_num, ok1, P8⟩, by simp [intOf]; omega⟩
                · obtain rfl : j = more.length := by omega
                  go_wp2
                  go_ret
                  exact ⟨rfl, hb1.trans (P.below.mono hb1.size)⟩
        · have hm3 : 50 < (more.length : Int) := by omega
          go_wp2
          go_ret
          exact ⟨rfl, hb1.trans (P.below.mono hb1.size)⟩
      · have hr3 : 50 < (roots.length : Int) := by omega
        go_wp2
        go_ret
        exact ⟨rfl, hb1.trans (P.below.mono hb1.size)⟩
    · have hl3 : 100 < (l.length : Int) := by omega
      go_wp2
      go_ret
      exact ⟨rfl, hb1.trans (P.below.mono hb1.size)⟩
  · have hm : most < 0 ∨ 20000 < most := by omega
    go_wp2_with fail
    refine (lawBegin_no H most _ hm).mono ?_
    rintro e w2 ⟨rfl, hb2⟩
    have hb := hb1.trans (hb2.mono hb1.size)
    go_wp2
    go_ret
    exact ⟨rfl, hb⟩

end Go.Proofs.YtmbonbicokbihaaGreat
