/-
  Texts of this proof, one behind the other: WireG.
-/
import Derived.Test.YtnnkkedflfmaoaaG6
import Derived.Laws.Bits64b
/-
  Walks of package wire: get.
-/
namespace Go.Proofs.Ytnnkkedflfmaoaa
open Go Go.RowKit

theorem NF.put_self (n : NF) (i : Nat) : n.put i (n i) = n := by
  funext j
  unfold NF.put
  split
  · rename_i h; rw [h]
  · rfl
theorem NF.put_put (n : NF) (i a b : Nat) : (n.put i a).put i b = n.put i b := by
  funext j
  unfold NF.put
  split <;> rfl

/-- A slice reads as it did where nothing of its block turned, or nothing is in it. -/
theorem Reads.stay' {P : Program} {α : Type} {E : Enc P α} {w w' : World} {v : Value} {l : List α} (h : Reads E w v l) {F : Nat → Prop} (hK : Keeps F w w') (hF : l ≠ [] → ∀ ad n c, v = .slice (some ad) n c → ¬ F ad.block) : Reads E w' v l := by
  by_cases hl : l = []
  · subst hl
    rcases h with h | ⟨ad, cap, rfl, _⟩
    · exact .inl h
    · exact .inr ⟨ad, cap, rfl, fun j u hj => by simp [Enc.all] at hj⟩
  · exact h.stay hK (hF hl)

/-- Where a slice that reads as something stands. -/
theorem Reads.old {P : Program} {α : Type} {E : Enc P α} {w : World} {v : Value} {l : List α} (h : Reads E w v l) (hl : l ≠ []) : ∀ a n c, v = .slice (some a) n c → a.block < w.heap.size := by
  intro a n c e
  rcases h with ⟨rfl, _⟩ | ⟨ad, cap, rfl, hc⟩
  · cases e
  · injection e with e1 _ _
    injection e1 with e1
    subst e1
    have hp : 0 < (E.all l).length := by
      rw [E.all_length]
      exact Nat.mul_pos (List.length_pos_iff.2 hl) E.pos
    have := block_lt_of_cell (hc 0 _ (List.getElem?_eq_getElem hp))
    rwa [add_block] at this

/-- Where get stands: what it tells (zero, till the end) and what it gathers. -/
structure GetR (w : World) (b4 b6 : Nat) (m : NF) (l : List Nat) (v : Value) (wr : World) : Prop where
  zero : HoldsN7 wr b4 NF.zero
  nums : HoldsN7 wr b6 m
  rest : RC encY wr v l
  old : l ≠ [] → ∀ a n c, v = .slice (some a) n c → a.block < w.heap.size
  low4 : w.heap.size ≤ b4
  low6 : w.heap.size ≤ b6
  ne : b4 ≠ b6
  below : Below w.heap.size w wr

section
variable {w wr w' : World} {b4 b6 bp : Nat} {m : NF} {l : List Nat} {v : Value} {p : Prt}
theorem GetR.sub (h : GetR w b4 b6 m l v wr) (hb : Below wr.heap.size wr w') : GetR w b4 b6 m l v w' :=
  ⟨h.zero.below hb, h.nums.below hb, h.rest.keep hb, h.old, h.low4, h.low6, h.ne, h.below.trans (hb.mono h.below.size)⟩
theorem GetR.set (h : GetR w b4 b6 m l v wr) {i : Nat} (hi : i < 7) (x : Nat) : GetR w b4 b6 (m.put i x) l v (wr.setCell ⟨b6, i, none⟩ (.int .u64 x)) := by
  have hK : Keeps (only b6) wr (wr.setCell ⟨b6, i, none⟩ (.int .u64 x)) := Keeps.of_setCell _ _ _ _ rfl
  refine ⟨h.zero.keep hK (fun e => h.ne e), h.nums.set hi x, ⟨h.rest.reads.stay' hK fun hl ad n c e hb => ?_, h.rest.room⟩, h.old, h.low4, h.low6, h.ne, h.below.trans (hK.below h.below.size fun k hk => by rw [hk]; exact h.low6)⟩
  have := h.old hl ad n c e
  have := h.low6
  unfold only at hb
  omega
end

theorem HoldsN7.congr {w : World} {b : Nat} {n n' : NF} (h : HoldsN7 w b n) (e : ∀ i, i < 7 → n i = n' i) : HoldsN7 w b n' := by
  obtain ⟨cs, hr, hs, hc⟩ := h
  exact ⟨cs, hr, hs, fun i hi => by rw [← e i hi]; exact hc i hi⟩
theorem HoldsN7.set7 {w : World} {b : Nat} {n : NF} (h : HoldsN7 w b n) (m : NF) :
    HoldsN7 (((((((w.setCell ⟨b, 0, none⟩ (.int .u64 (m 0))).setCell ⟨b, 1, none⟩ (.int .u64 (m 1))).setCell ⟨b, 2, none⟩ (.int .u64 (m 2))).setCell ⟨b, 3, none⟩ (.int .u64 (m 3))).setCell ⟨b, 4, none⟩ (.int .u64 (m 4))).setCell ⟨b, 5, none⟩ (.int .u64 (m 5))).setCell ⟨b, 6, none⟩ (.int .u64 (m 6))) b m :=
  HoldsN7.congr (((((((h.set (i := 0) (by decide) (m 0)).set (i := 1) (by decide) (m 1)).set (i := 2) (by decide) (m 2)).set (i := 3) (by decide) (m 3)).set (i := 4) (by decide) (m 4)).set (i := 5) (by decide) (m 5)).set (i := 6) (by decide) (m 6)) (fun i hi => by
    rcases (by omega : i = 0 ∨ i = 1 ∨ i = 2 ∨ i = 3 ∨ i = 4 ∨ i = 5 ∨ i = 6) with rfl | rfl | rfl | rfl | rfl | rfl | rfl <;> rfl)
theorem below_set7 {B b : Nat} {a w : World} {x0 x1 x2 x3 x4 x5 x6 : Value} (h : Below B a w) (hb : B ≤ b) :
    Below B a (((((((w.setCell ⟨b, 0, none⟩ x0).setCell ⟨b, 1, none⟩ x1).setCell ⟨b, 2, none⟩ x2).setCell ⟨b, 3, none⟩ x3).setCell ⟨b, 4, none⟩ x4).setCell ⟨b, 5, none⟩ x5).setCell ⟨b, 6, none⟩ x6) :=
  ((((((h.setCell hb _).setCell hb _).setCell hb _).setCell hb _).setCell hb _).setCell hb _).setCell hb _
theorem HoldsN7.row {w : World} {b : Nat} {n : NF} (h : HoldsN7 w b n) : w.heap[b]? = some (.cells #[.int .u64 (n 0), .int .u64 (n 1), .int .u64 (n 2), .int .u64 (n 3), .int .u64 (n 4), .int .u64 (n 5), .int .u64 (n 6)] 54 (0, 0)) := by
  obtain ⟨cs, hr, hs, hc⟩ := h
  rw [hr]
  congr 2
  apply Array.ext_getElem?
  intro i
  rcases Nat.lt_or_ge i 7 with h | h
  · rw [hc i h]
    rcases (by omega : i = 0 ∨ i = 1 ∨ i = 2 ∨ i = 3 ∨ i = 4 ∨ i = 5 ∨ i = 6) with rfl | rfl | rfl | rfl | rfl | rfl | rfl <;> rfl
  · rw [Array.getElem?_eq_none (by omega), Array.getElem?_eq_none (by simpa using h)]
theorem ret_n7 {fn : Func} {p q : Tmp} {tmps : Array Value} {w : World} {b : Nat} {n : NF} {u : Value} (h : fn.results = #[.cell p 54, .tmp q]) (hp : tmps.getD p undef = .pointer (some ⟨b, 0, none⟩)) (hq : tmps.getD q undef = u)
    (hh : HoldsN7 w b n) : (results fn tmps).run Try.prog w = .ok (.tuple #[n7 n, u]) w := by
  rw [results_cell_tmp h, hp, hq]
  simp only [asAddr, Sem.run_pure, Result.andThen_ok]
  rw [run_loadVar_row w b _ _ _ _ _ hh.row Try.underlying54 rfl (by kernel_rfl)]
  rfl

/-- What get tells. -/
def GetPost (o : Option NF) (w : World) (r x : Value) (w' : World) : Prop :=
  (match o with
  | some n => r = n7 n ∧ x = .nilIface
  | none => r = n7 NF.zero ∧ x = .iface 59 (.int .i64 7)) ∧ Below w.heap.size w w'

theorem or_byte (v x : Nat) (hx : x < 256) : bits BinOp.or IntKind.u64 (IntKind.u64.wrap ((v : Int) * 256)) (x : Int) = (((256 * v + x) % 18446744073709551616 : Nat) : Int) := by
  have e : IntKind.u64.wrap ((v : Int) * 256) = ((v * 256 % 18446744073709551616 : Nat) : Int) := by simp [IntKind.wrap, IntKind.bits, IntKind.signed]
  rw [e, bits_or_u64_nat _ _ (Nat.mod_lt _ (by decide)) (by omega)]
  congr 1
  have h1 : v * 256 % 18446744073709551616 = 2 ^ 8 * (v % 72057594037927936) := by omega
  rw [h1, ← Nat.two_pow_add_eq_or_of_lt (by omega)]
  omega

set_option maxRecDepth 100000 in
set_option maxHeartbeats 16000000 in
theorem wireGet (f : List Prt) (v y : Value) (bs : List Nat) (w : World) (hv : RC encP w v f) (hf : Form f) (hl : f.length ≤ 10) (hy : RC encY w y bs) (hyl : bs.length ≤ 1000000) (hyb : ∀ x ∈ bs, x < 256) :
    Calls Try.prog 25 #[v, y] w fun e w' => ∃ r x, e = .returned (.tuple #[r, x]) ∧ GetPost (getN f bs) w r x w' := by
  obtain ⟨a, cap, rfl, hcap⟩ := hv.form
  have HV := Lib.hid hv.reads
  have hold := Lib.hid (fun h => hy.reads.old h)
  generalize hO : getN f bs = O
  replace hO := Lib.hid hO
  obtain ⟨ay, cy, rfl, hcy⟩ := hy.form
  have HY := Lib.hid hy
  clear hv hcap hy
  go_enter Try.func25, Try.ntmps25
  go_wp2
  go_loopw [1, 13] (fun vb i wr => ∃ (k : Nat) (m : NF) (l : List Nat), i = .int .i64 k ∧ k ≤ f.length ∧ Hid (getGo (f.drop k) m l = getGo f NF.zero bs) ∧ l.length ≤ bs.length ∧ Hid (∀ x ∈ l, x < 256) ∧ GetR w w.heap.size (w.heap.size + 1) m l vb wr) (fun _ i _ => f.length - (intOf i).toNat)
  case atStart =>
    refine ⟨0, NF.zero, bs, rfl, by omega, rfl, Nat.le_refl _, hyb, ?_⟩
    have hbV : Below w.heap.size w ((w.alloc (.cells #[.int .u64 0, .int .u64 0, .int .u64 0, .int .u64 0, .int .u64 0, .int .u64 0, .int .u64 0] 54)).alloc (.cells #[.int .u64 0, .int .u64 0, .int .u64 0, .int .u64 0, .int .u64 0, .int .u64 0, .int .u64 0] 54)) := by go_grown
    refine ⟨(HoldsN7.made w NF.zero).below ((Below.refl _ _).alloc (Nat.le_refl _) _), ?_, HY.out.keep hbV, hold.out, Nat.le_refl _, Nat.le_succ _, by omega, hbV⟩
    have := HoldsN7.made (w.alloc (.cells #[.int .u64 0, .int .u64 0, .int .u64 0, .int .u64 0, .int .u64 0, .int .u64 0, .int .u64 0] 54)) NF.zero
    rw [show (w.alloc (.cells #[.int .u64 0, .int .u64 0, .int .u64 0, .int .u64 0, .int .u64 0, .int .u64 0, .int .u64 0] 54)).heap.size = w.heap.size + 1 by simp] at this
    exact this
  case round =>
    obtain ⟨k, m, l, rfl, hk, hg, ha, hlb, R⟩ := hrel
    by_cases hlt : k < f.length
    · have hk0 : (0 : Int) ≤ (k : Int) := by omega
      have hk1 : (k : Int) < (f.length : Int) := by omega
      obtain ⟨ad, rfl, q0, q1, q2, q3⟩ := (HV.out.keep R.below).partAt k hlt
      have hp7 := hf.few _ (List.getElem_mem hlt)
      have hp8 := hf.wide _ (List.getElem_mem hlt)
      have hdr := Lib.hid (List.drop_eq_getElem_cons hlt)
      generalize f[k] = p at *
      obtain ⟨al, cl, rfl, hcl⟩ := R.rest.form
      have hbV : Below wr.heap.size wr (wr.alloc (.cells #[.int .i64 p.pl, .int .i64 p.wide, .int .u64 p.lo, .int .u64 p.hi] 66)) := by go_grown
      have hI := R.sub hbV
      have hP : HoldsP (wr.alloc (.cells #[.int .i64 p.pl, .int .i64 p.wide, .int .u64 p.lo, .int .u64 p.hi] 66)) wr.heap.size p := HoldsP.new wr p _ rfl
      have hlowp := R.below.size
      have hne4 := R.zero.lt
      have hne6 := R.nums.lt
      clear R hbV
      have hI := Lib.hid hI
      go_upto_region 5 with (fail)
      generalize wr.alloc (.cells #[.int .i64 p.pl, .int .i64 p.wide, .int .u64 p.lo, .int .u64 p.hi] 66) = V at *
      generalize hbp : wr.heap.size = bp at *
      clear hbp
      obtain ⟨c0, c1, c2, c3⟩ := hP.cells
      by_cases hw : l.length < p.wide
      · have hw' : (l.length : Int) < (p.wide : Int) := by omega
        have HO := Lib.hid (show O = none by rw [← hO.out, getN, ← hg, hdr.out, getGo, if_pos hw]; rfl)
        have z0 := hI.out.zero.cell 0 (by decide)
        have z1 := hI.out.zero.cell 1 (by decide)
        have z2 := hI.out.zero.cell 2 (by decide)
        have z3 := hI.out.zero.cell 3 (by decide)
        have z4 := hI.out.zero.cell 4 (by decide)
        have z5 := hI.out.zero.cell 5 (by decide)
        have z6 := hI.out.zero.cell 6 (by decide)
        have zf := hI.out.zero.free
        clear hg hdr hw q0 q1 q2 q3
        go_wp2
        exact bodyPost_ret (ret_n7 Try.results25 rfl rfl (hI.out.zero.set7 NF.zero)) rfl ⟨_, _, rfl, by rw [HO.out]; exact ⟨⟨rfl, rfl⟩, below_set7 hI.out.below (Nat.le_refl _)⟩⟩
      · have hw' : ¬ (l.length : Int) < (p.wide : Int) := by omega
        have hw2 : (p.wide : Int) ≤ (cl : Int) := by omega
        have hP := Lib.hid hP
        clear q0 q1 q2 q3
        go_wp2
        go_loopw [29] (fun i wi => ∃ j : Nat, j ≤ p.wide ∧ i = .int .i64 j ∧ GetR w w.heap.size (w.heap.size + 1) (m.put p.pl (numInto (m p.pl) (l.take j))) l (.slice al l.length cl) wi ∧ HoldsP wi bp p) (fun i _ => p.wide - (intOf i).toNat)
        case atStart => exact ⟨0, by omega, rfl, by rw [List.take_zero, numInto_nil, NF.put_self]; exact hI.out, hP.out⟩
        case round =>
          obtain ⟨j, hj, rfl, R, hP⟩ := hrel
          by_cases hjl : j < p.wide
          · have hjll : j < l.length := by omega
            obtain ⟨ay2, rfl, b0⟩ := R.rest.reads.byteAt j hjll
            have hx := hlb _ (List.getElem_mem hjll)
            have htk := List.take_succ_eq_append_getElem hjll
            generalize l[j] = x at *
            have hval : numInto (m p.pl) (l.take (j + 1)) = (256 * numInto (m p.pl) (l.take j) + x) % 18446744073709551616 := by rw [htk, numInto_snoc]
            have hor := or_byte (numInto (m p.pl) (l.take j)) x hx
            rw [← hval] at hor
            have cn : ∀ u : Sub wr, u.1.cell? ⟨w.heap.size + 1, p.pl, none⟩ = some (.int .u64 (numInto (m p.pl) (l.take j))) := fun u => by rw [(R.nums.below u.2).cell _ hp7, NF.put_same]
            have cf : ∀ u : Sub wr, u.1.frozen? ⟨w.heap.size + 1, p.pl, none⟩ = false := fun u => (R.nums.below u.2).free _
            have d0 : ∀ u : Sub wr, u.1.cell? ⟨bp, 0, none⟩ = some (.int .i64 p.pl) := fun u => (hP.below u.2).cells.1
            have hset : ∀ u : Sub wr, GetR w w.heap.size (w.heap.size + 1) (m.put p.pl (numInto (m p.pl) (l.take (j + 1)))) l (.slice (some ay2) l.length cl) (u.1.setCell ⟨w.heap.size + 1, p.pl, none⟩ (.int .u64 (numInto (m p.pl) (l.take (j + 1))))) := fun u => by
              have := (R.sub u.2).set hp7 (numInto (m p.pl) (l.take (j + 1)))
              rwa [NF.put_put] at this
            have hPset : ∀ u : Sub wr, HoldsP (u.1.setCell ⟨w.heap.size + 1, p.pl, none⟩ (.int .u64 (numInto (m p.pl) (l.take (j + 1))))) bp p := fun u => by
              have hK : Keeps (only (w.heap.size + 1)) u.1 (u.1.setCell ⟨w.heap.size + 1, p.pl, none⟩ (.int .u64 (numInto (m p.pl) (l.take (j + 1))))) := Keeps.of_setCell _ _ _ _ rfl
              exact (hP.below u.2).keep hK (fun e => by unfold only at e; omega)
            have hset := Lib.hid hset
            have hPset := Lib.hid hPset
            have hpl0 : (0 : Int) ≤ (p.pl : Int) := by omega
            have hpl1 : (p.pl : Int) < 7 := by omega
            have hj0 : (0 : Int) ≤ (j : Int) := by omega
            have hj1 : (j : Int) < (p.wide : Int) := by omega
            clear R hval htk
            replace hP := Lib.hid hP
            generalize hzz : numInto (m p.pl) (l.take (j + 1)) = z at *
            replace hzz := Lib.hid hzz
            generalize numInto (m p.pl) (l.take j) = y at *
            go_wp2
            refine wp_region_quiet_tail (C := fun w' => ∃ u : Sub wr, w' = u.1) 11 (by kernel_rfl) (by kernel_rfl) (InSub.drew wr) ?_
            simp only [List.take_succ_cons, List.take_zero, List.drop_succ_cons, List.drop_zero]
            iterate 11 (go_big_quiet_step (fail))
            refine wpQuiet_nil ?_
            intro w' hw'
            obtain ⟨u, rfl⟩ := hw'
            have e1 := cn u
            have e2 := cf u
            go_wp2
            exact ⟨⟨j + 1, by omega, by go_num, by rw [hzz.out]; exact hset.out u, hPset.out u⟩, by simp [intOf]; omega⟩
          · obtain rfl : j = p.wide := by omega
            have hzz : (m.put p.pl (numInto (m p.pl) (l.take p.wide))) p.pl = numInto (m p.pl) (l.take p.wide) := NF.put_same _ _ _
            have c1 : ∀ u : Sub wr, u.1.cell? ⟨bp, 0, none⟩ = some (.int .i64 p.pl) := fun u => (hP.below u.2).cells.1
            have c2 : ∀ u : Sub wr, u.1.cell? ⟨bp, 1, none⟩ = some (.int .i64 p.wide) := fun u => (hP.below u.2).cells.2.1
            have c3 : ∀ u : Sub wr, u.1.cell? ⟨bp, 2, none⟩ = some (.int .u64 p.lo) := fun u => (hP.below u.2).cells.2.2.1
            have c4 : ∀ u : Sub wr, u.1.cell? ⟨bp, 3, none⟩ = some (.int .u64 p.hi) := fun u => (hP.below u.2).cells.2.2.2
            have cn : ∀ u : Sub wr, u.1.cell? ⟨w.heap.size + 1, p.pl, none⟩ = some (.int .u64 (numInto (m p.pl) (l.take p.wide))) := fun u => by rw [(R.nums.below u.2).cell _ hp7, hzz]
            have hM : ∀ u : Sub wr, Calls Try.prog 28 #[.agg #[.int .i64 p.pl, .int .i64 p.wide, .int .u64 p.lo, .int .u64 p.hi], .int .u64 (numInto (m p.pl) (l.take p.wide))] u.1 fun e w'' => e = .returned (.bool (p.ok (numInto (m p.pl) (l.take p.wide)))) ∧ ∃ x : Sub wr, w'' = x.1 := fun u => subBelow (wireMay p _ u.1)
            have hpl0 : (0 : Int) ≤ (p.pl : Int) := by omega
            have hpl1 : (p.pl : Int) < 7 := by omega
            have hlw : p.wide ≤ l.length := by omega
            have hlw' : (p.wide : Int) ≤ (l.length : Int) := by omega
            have hw0 : (0 : Int) ≤ (p.wide : Int) := by omega
            have HR := Lib.hid R
            clear R hP hzz
            by_cases hok : p.ok (numInto (m p.pl) (l.take p.wide)) = true
            · rw [hok] at hM
              have HG := Lib.hid (show getGo (f.drop (k + 1)) (m.put p.pl (numInto (m p.pl) (l.take p.wide))) (l.drop p.wide) = getGo f NF.zero bs by rw [← hg, hdr.out, getGo, if_neg hw, if_pos hok])
              clear hg hdr hok
              have hlb2 : Hid (∀ x ∈ l.drop p.wide, x < 256) := fun x hx => hlb x (List.mem_of_mem_drop hx)
              have htail := fun u : Sub wr => (HR.out.sub u.2).rest.tail rfl hlw (s := 1) rfl
              have hR2 : ∀ u : Sub wr, GetR w w.heap.size (w.heap.size + 1) (m.put p.pl (numInto (m p.pl) (l.take p.wide))) (l.drop p.wide) (sliced al p.wide l.length cl 1) u.1 := fun u => by
                have S := HR.out.sub u.2
                refine ⟨S.zero, S.nums, htail u, fun hd a n c e => ?_, S.low4, S.low6, S.ne, S.below⟩
                have hln : l ≠ [] := fun h => hd (by rw [h, List.drop_nil])
                cases al with
                | none => unfold sliced at e; split at e <;> cases e
                | some aa =>
                  have h1 := S.old hln aa _ _ rfl
                  unfold sliced at e
                  split at e
                  · injection e with e _ _; injection e with e; subst e; exact h1
                  · injection e with e _ _; injection e with e; rw [← e, add_block]; exact h1
              rw [show sliced al p.wide l.length cl 1 = .slice (if cl = p.wide then al else Option.map (fun x => x.add p.wide) al) (l.length - p.wide) (cl - p.wide) by unfold sliced; rw [Nat.mul_one]] at hR2
              have hR2 := Lib.hid hR2
              have hlb2 := Lib.hid hlb2
              clear htail hlb HR
              generalize numInto (m p.pl) (l.take p.wide) = z at *
              go_wp2
              refine wp_region_quiet_all (C := fun w' => ∃ u : Sub wr, w' = u.1) (by kernel_rfl) (by kernel_rfl) (InSub.drew wr) ?_
              iterate 5 (go_big_quiet_step (fail))
              go_big_quiet_step (exact hM _)
              go_big_quiet_step (fail)
              refine wpQuiet_nil ?_
              intro w' hw'
              obtain ⟨u, rfl⟩ := hw'
              have d1 := c2 u
              go_wp2
              exact ⟨⟨k + 1, _, _, by go_num, by omega, HG.out, by rw [List.length_drop]; omega, hlb2.out, hR2.out u⟩, by simp [intOf]; omega⟩
            · rw [Bool.eq_false_iff.2 hok] at hM
              have HO := Lib.hid (show O = none by rw [← hO.out, getN, ← hg, hdr.out, getGo, if_neg hw, if_neg hok]; rfl)
              clear hg hdr hok
              generalize numInto (m p.pl) (l.take p.wide) = z at *
              go_wp2
              refine wp_region_quiet_all (C := fun w' => ∃ u : Sub wr, w' = u.1) (by kernel_rfl) (by kernel_rfl) (InSub.drew wr) ?_
              iterate 5 (go_big_quiet_step (fail))
              go_big_quiet_step (exact hM _)
              go_big_quiet_step (fail)
              refine wpQuiet_nil ?_
              intro w' hw'
              obtain ⟨u, rfl⟩ := hw'
              have hZ := HR.out.sub u.2
              have z0 := hZ.zero.cell 0 (by decide)
              have z1 := hZ.zero.cell 1 (by decide)
              have z2 := hZ.zero.cell 2 (by decide)
              have z3 := hZ.zero.cell 3 (by decide)
              have z4 := hZ.zero.cell 4 (by decide)
              have z5 := hZ.zero.cell 5 (by decide)
              have z6 := hZ.zero.cell 6 (by decide)
              have zf := hZ.zero.free
              have hZ := Lib.hid hZ
              clear c1 c2 c3 c4 cn hM
              go_wp2
              exact bodyPost_ret (ret_n7 Try.results25 rfl rfl (hZ.out.zero.set7 NF.zero)) rfl ⟨_, _, rfl, by rw [HO.out]; exact ⟨⟨rfl, rfl⟩, below_set7 hZ.out.below (Nat.le_refl _)⟩⟩
    · obtain rfl : k = f.length := by omega
      rw [List.drop_length, getGo] at hg
      obtain ⟨al, cl, rfl, hcl⟩ := R.rest.form
      have z0 := R.zero.cell 0 (by decide)
      have z1 := R.zero.cell 1 (by decide)
      have z2 := R.zero.cell 2 (by decide)
      have z3 := R.zero.cell 3 (by decide)
      have z4 := R.zero.cell 4 (by decide)
      have z5 := R.zero.cell 5 (by decide)
      have z6 := R.zero.cell 6 (by decide)
      have zf := R.zero.free
      have n0 := R.nums.cell 0 (by decide)
      have n1 := R.nums.cell 1 (by decide)
      have n2 := R.nums.cell 2 (by decide)
      have n3 := R.nums.cell 3 (by decide)
      have n4 := R.nums.cell 4 (by decide)
      have n5 := R.nums.cell 5 (by decide)
      have n6 := R.nums.cell 6 (by decide)
      by_cases hll : 0 < l.length
      · have hl0 : (0 : Int) < (l.length : Int) := by omega
        have HO := Lib.hid (show O = none by rw [← hO.out, getN, ← hg]; exact if_neg (fun h : l = [] => by rw [h] at hll; exact absurd hll (by decide)))
        have HR := Lib.hid R
        clear hg R n0 n1 n2 n3 n4 n5 n6
        go_wp2
        exact bodyPost_ret (ret_n7 Try.results25 rfl rfl (HR.out.zero.set7 NF.zero)) rfl ⟨_, _, rfl, by rw [HO.out]; exact ⟨⟨rfl, rfl⟩, below_set7 HR.out.below (Nat.le_refl _)⟩⟩
      · obtain rfl : l = [] := List.length_eq_zero_iff.1 (by omega)
        have HO := Lib.hid (show O = some m by rw [← hO.out, getN, ← hg]; rfl)
        have HR := Lib.hid R
        clear hg R
        go_wp2
        exact bodyPost_ret (ret_n7 Try.results25 rfl rfl (HR.out.zero.set7 m)) rfl ⟨_, _, rfl, by rw [HO.out]; exact ⟨⟨rfl, rfl⟩, below_set7 HR.out.below (Nat.le_refl _)⟩⟩

end Go.Proofs.Ytnnkkedflfmaoaa
