/-
  UniqKeeps: its mathematics, and the walk.
-/
import Derived.Test.YtlhpjmeegflmlaaUp5
namespace Go.Proofs.Ytlhpjmeegflmlaa
open Go Go.RowKit

/-- The pair of a number. -/
def keyK (f st : Int) (j : Nat) : Int × Int := (f + (j : Int) * st, (j : Int) % 7)
def entK (f st : Int) (j : Nat) : Ent := (keyK f st j, (j : Int))
/-- Does it stay? -/
def stayK (m : Int) (j : Nat) : Bool := !((j : Int) % m == 1)
/-- What was put. -/
def putK (f st : Int) (k : Nat) : List Ent := (List.range k).map (entK f st)
/-- What is left of n, where the first k were looked at. -/
def dropK (f st m : Int) (n k : Nat) : List Ent := ((List.range n).filter (fun j => !(decide (j < k)) || stayK m j)).map (entK f st)
/-- How many of the first k stay. -/
def leftK (m : Int) (k : Nat) : Nat := ((List.range k).filter (stayK m)).length

theorem keyK_inj {f st : Int} (hs : st ≠ 0) {i j : Nat} (h : keyK f st i = keyK f st j) : i = j := by
  have h1 : f + (i : Int) * st = f + (j : Int) * st := congrArg Prod.fst h
  have h2 : (i : Int) * st = (j : Int) * st := by omega
  have := Int.eq_of_mul_eq_mul_right hs h2
  omega
theorem putK_succ (f st : Int) (k : Nat) : putK f st (k + 1) = putK f st k ++ [entK f st k] := by
  unfold putK; rw [List.range_succ, List.map_append]; rfl
theorem putK_new {f st : Int} (hs : st ≠ 0) (k : Nat) : ∀ e ∈ putK f st k, e.1 ≠ keyK f st k := by
  intro e he hk
  obtain ⟨j, hj, rfl⟩ := List.mem_map.1 he
  have := keyK_inj hs hk
  have := List.mem_range.1 hj
  omega
theorem putK_length (f st : Int) (k : Nat) : (putK f st k).length = k := by simp [putK]
theorem dropK_zero (f st m : Int) (n : Nat) : dropK f st m n 0 = putK f st n := by
  unfold dropK putK
  rw [List.filter_eq_self.2 (by intro j _; simp)]
theorem dropK_stay {f st m : Int} {n k : Nat} (h : stayK m k = true) : dropK f st m n (k + 1) = dropK f st m n k := by
  unfold dropK
  congr 1
  refine List.filter_congr fun j _ => ?_
  by_cases hj : j = k
  · subst hj; simp [h]
  · rw [show decide (j < k + 1) = decide (j < k) by rw [decide_eq_decide]; omega]
theorem dropK_drop {f st m : Int} (hs : st ≠ 0) {n k : Nat} (h : stayK m k = false) : dropK f st m n (k + 1) = (dropK f st m n k).filter (fun e => e.1 != keyK f st k) := by
  unfold dropK
  rw [List.filter_map, List.filter_filter]
  congr 1
  refine List.filter_congr fun j _ => ?_
  by_cases hj : j = k
  · subst hj; simp [h, entK]
  · have h1 : (keyK f st j != keyK f st k) = true := by
      rw [bne_iff_ne]; exact fun e => hj (keyK_inj hs e)
    rw [show decide (j < k + 1) = decide (j < k) by rw [decide_eq_decide]; omega]
    simp [entK, h1]
theorem dropK_mem {f st m : Int} (hs : st ≠ 0) {n k i : Nat} (hi : i < n) : (entK f st i ∈ dropK f st m n k ↔ (i < k → stayK m i = true)) ∧ ((∃ e ∈ dropK f st m n k, e.1 = keyK f st i) → entK f st i ∈ dropK f st m n k) := by
  constructor
  · unfold dropK
    constructor
    · intro h hk
      obtain ⟨j, hj, he⟩ := List.mem_map.1 h
      have : j = i := keyK_inj hs (congrArg Prod.fst he)
      subst this
      have h1 := (List.mem_filter.1 hj).2
      simpa [hk] using h1
    · intro h
      refine List.mem_map.2 ⟨i, List.mem_filter.2 ⟨List.mem_range.2 hi, ?_⟩, rfl⟩
      by_cases hk : i < k
      · simp [h hk]
      · simp [hk]
  · rintro ⟨e, he, hk⟩
    unfold dropK at he ⊢
    obtain ⟨j, hj, rfl⟩ := List.mem_map.1 he
    have : j = i := keyK_inj hs hk
    subst this
    exact he
theorem leftK_succ (m : Int) (k : Nat) : leftK m (k + 1) = leftK m k + if stayK m k then 1 else 0 := by
  unfold leftK
  rw [List.range_succ, List.filter_append, List.length_append]
  congr 1
  cases h : stayK m k <;> simp [h]
theorem leftK_le (m : Int) (k : Nat) : leftK m k ≤ k := by
  unfold leftK
  exact Nat.le_trans (List.length_filter_le _ _) (by simp)
theorem dropK_length (f st m : Int) (n : Nat) : (dropK f st m n n).length = leftK m n := by
  unfold dropK leftK
  rw [List.length_map]
  congr 1
  refine List.filter_congr fun j hj => ?_
  have := List.mem_range.1 hj
  simp [this]

/-- What is asked of the last loop. -/
theorem get_dropK {f st m : Int} (hs : st ≠ 0) {n i : Nat} (hi : i < n) {s : TS} (hL : s.L = dropK f st m n n) (ok : s.Ok) : s.get (keyK f st i) = if stayK m i then ((i : Int), true) else (0, false) := by
  have h1 := dropK_mem (f := f) (m := m) hs (k := n) hi
  cases h : stayK m i
  · refine TS.get_no fun e he hk => ?_
    rw [hL] at he
    have := (h1.1.1 (h1.2 ⟨e, he, hk⟩)) hi
    rw [h] at this; cases this
  · have hm : entK f st i ∈ s.L := by rw [hL]; exact h1.1.2 (fun _ => h)
    have := TS.get_yes ok.apart hm
    rw [if_pos rfl]
    exact this

theorem times_small {st : Int} (h1 : -1000000000 ≤ st) (h2 : st ≤ 1000000000) {k : Nat} (hk : k ≤ 300) : -300000000000 ≤ (k : Int) * st ∧ (k : Int) * st ≤ 300000000000 := by
  have a1 : (k : Int) * st ≤ (k : Int) * 1000000000 := Int.mul_le_mul_of_nonneg_left (by omega) (by omega)
  have a2 : (k : Int) * -1000000000 ≤ (k : Int) * st := Int.mul_le_mul_of_nonneg_left (by omega) (by omega)
  omega

/-- The table at a loop's head. -/
structure KU (w : World) (b : Nat) (L : List Ent) (m : Nat) (W : World) : Prop where
  ex : ∃ s : TS, s.L = L ∧ s.Ok ∧ s.Few m ∧ UpU w b s W

theorem KU.keep {w W W' : World} {b : Nat} {L : List Ent} {m : Nat} (h : KU w b L m W) (hb : Below W.heap.size W W') : KU w b L m W' := by
  obtain ⟨s, hL, ok, few, ⟨F, hA, hF⟩, hb1⟩ := h.ex
  exact ⟨s, hL, ok, few, ⟨F, hA.below hb, hF⟩, hb1.trans (hb.mono hb1.size)⟩

section
variable {w W : World} {b m : Nat} {L : List Ent}
theorem KU.put (h : KU w b L m W) (hm : m ≤ 1000) (k1 k2 x : Int) (hno : ∀ e ∈ L, e.1 ≠ (k1, k2)) :
    Calls Try.prog 12 #[.pointer (some ⟨b, 0, none⟩), .int .i64 k1, .int .i64 k2, .int .i64 x] W fun e W' => e = .returned (.bool true) ∧ KU w b (L ++ [((k1, k2), x)]) (m + 1) W' := by
  obtain ⟨s, rfl, ok, few, ⟨F, hA, hF⟩, hb⟩ := h.ex
  have h1 := few.slots
  have hg := TS.get_no (s := s) hno
  refine (uniqPutS hA ok (by omega) k1 k2 x).mono fun e W' ⟨he, F', hA', hK, hW⟩ => ⟨?_, ⟨_, ?_, ok.put _, few.put _, UpU.step hb hF hA' hK hW⟩⟩
  · rw [he]; simp [TS.putB, hg]
  · rw [TS.put_yes (e := ((k1, k2), x)) (by rw [hg])]
theorem KU.drop (h : KU w b L m W) (hm : m ≤ 1000) {k1 k2 x : Int} (hin : ((k1, k2), x) ∈ L) :
    Calls Try.prog 10 #[.pointer (some ⟨b, 0, none⟩), .int .i64 k1, .int .i64 k2] W fun e W' => e = .returned (.bool true) ∧ KU w b (L.filter (fun e => e.1 != (k1, k2))) m W' := by
  obtain ⟨s, rfl, ok, few, ⟨F, hA, hF⟩, hb⟩ := h.ex
  have h1 := few.slots
  have hg := TS.get_yes ok.apart hin
  refine (uniqDropS hA ok (by omega) k1 k2).mono fun e W' ⟨he, F', hA', hK, hW⟩ => ⟨?_, ⟨_, rfl, ok.drop _, few.drop _, UpU.step hb hF hA' hK hW⟩⟩
  rw [he]; unfold TS.dropB; rw [hg]
theorem KU.get (h : KU w b L m W) (hm : m ≤ 1000) {k1 k2 : Int} {r : Int × Bool} (hr : ∀ s : TS, s.L = L → s.Ok → s.get (k1, k2) = r) :
    Calls Try.prog 8 #[.pointer (some ⟨b, 0, none⟩), .int .i64 k1, .int .i64 k2] W fun e W' => e = .returned (.tuple #[.int .i64 r.1, .bool r.2]) ∧ KU w b L m W' := by
  have hk := h
  obtain ⟨s, hL, ok, few, ⟨F, hA, hF⟩, hb⟩ := h.ex
  have h1 := few.slots
  have := hr s hL ok
  subst this
  exact (uniqGetS hA ok (by omega) k1 k2).mono fun e W' ⟨he, hb⟩ => ⟨he, hk.keep hb⟩
theorem KU.many (h : KU w b L m W) : Calls Try.prog 14 #[.pointer (some ⟨b, 0, none⟩)] W fun e W' => e = .returned (.int .i64 L.length) ∧ W = W' := by
  obtain ⟨s, rfl, ok, few, ⟨F, hA, hF⟩, hb⟩ := h.ex
  exact uniqManyS hA
theorem KU.slots (h : KU w b L m W) (hm : m ≤ 1000) : ∃ n : Nat, 2 * L.length ≤ n ∧ n ≤ 10000 ∧ Calls Try.prog 15 #[.pointer (some ⟨b, 0, none⟩)] W fun e W' => e = .returned (.int .i64 n) ∧ W = W' := by
  obtain ⟨s, rfl, ok, few, ⟨F, hA, hF⟩, hb⟩ := h.ex
  have h1 := few.slots
  exact ⟨s.slots, ok.half, by omega, uniqSlotsS hA ok (by omega)⟩
theorem KU.below (h : KU w b L m W) : Below w.heap.size w W := by
  obtain ⟨s, rfl, ok, few, h⟩ := h.ex
  exact h.below
end

set_option maxRecDepth 100000 in
set_option maxHeartbeats 8000000 in
theorem uniqKeeps (frm step many mod : Int) (w : World) :
    Calls Try.prog 4 #[.int .i64 frm, .int .i64 step, .int .i64 many, .int .i64 mod] w fun e w' => e = .returned (.bool true) ∧ Below w.heap.size w w' := by
  go_enter Try.func4, Try.ntmps4
  go_wp2_with fail
  refine (up05 _).mono ?_
  rintro e w1 ⟨rfl, hb1⟩
  go_wp2_with fail
  refine (uniqNewS _).mono ?_
  rintro e w2 ⟨rfl, ⟨FA, hA, hFA⟩, hb2⟩
  have hb12 : Below w.heap.size w w2 := hb1.trans (hb2.mono hb1.size)
  have K0 : KU w (w1.heap.size + 1) (putK frm step 0) 0 w2 := ⟨⟨⟨[], 8⟩, rfl, TS.Ok.new, TS.Few.new, ⟨⟨FA, hA, fun k hk => Nat.le_trans hb1.size (hFA k hk)⟩, hb12⟩⟩⟩
  clear hA hFA hb1 hb2
  generalize w1.heap.size + 1 = b at *
  replace K0 := Lib.hid K0
  by_cases c1 : many < 0
  · go_wp2
    go_ret
    exact ⟨rfl, hb12⟩
  by_cases c2 : 300 < many
  · go_wp2
    go_ret
    exact ⟨rfl, hb12⟩
  by_cases c3 : step = 0
  · have c3b : (step == 0) = true := by rw [beq_iff_eq]; exact c3
    clear c3
    go_wp2
    go_ret
    exact ⟨rfl, hb12⟩
  have c3b : (step == 0) = false := by rw [beq_eq_false_iff_ne]; exact c3
  by_cases c4 : mod < 2
  · replace c3 := Lib.hid c3
    go_wp2
    go_ret
    exact ⟨rfl, hb12⟩
  by_cases c5 : 50 < mod
  · replace c3 := Lib.hid c3
    go_wp2
    go_ret
    exact ⟨rfl, hb12⟩
  by_cases c6 : frm < -1000000000
  · replace c3 := Lib.hid c3
    go_wp2
    go_ret
    exact ⟨rfl, hb12⟩
  by_cases c7 : 1000000000 < frm
  · replace c3 := Lib.hid c3
    go_wp2
    go_ret
    exact ⟨rfl, hb12⟩
  by_cases c8 : step < -1000000000
  · replace c3 := Lib.hid c3
    go_wp2
    go_ret
    exact ⟨rfl, hb12⟩
  by_cases c9 : 1000000000 < step
  · replace c3 := Lib.hid c3
    go_wp2
    go_ret
    exact ⟨rfl, hb12⟩
  obtain ⟨n, rfl⟩ := Int.eq_ofNat_of_zero_le (show 0 ≤ many by omega)
  have hn : n ≤ 300 := by omega
  replace c3 := Lib.hid c3
  go_wp2
  go_loopw [11] (fun i wr => ∃ k : Nat, k ≤ n ∧ i = .int .i64 k ∧ KU w b (putK frm step k) k wr) (fun i _ => n - (intOf i).toNat)
  case atStart => exact ⟨0, Nat.zero_le _, rfl, K0.out⟩
  case round =>
    clear K0
    obtain ⟨k, hk, rfl, K⟩ := hrel
    by_cases hlt : k < n
    · obtain ⟨m1, m2⟩ := times_small (by omega) (by omega) (show k ≤ 300 by omega)
      have hP := K.put (by omega) (frm + (k : Int) * step) ((k : Int) % 7) k (fun e he => putK_new c3.out k e he)
      replace hP := Lib.hid hP
      have hS := Lib.hid (putK_succ frm step k)
      clear K
      go_wp2_with fail
      refine hP.out.mono ?_
      clear hP
      rintro e W1 ⟨rfl, K⟩
      go_wp2
      exact ⟨⟨k + 1, by omega, by go_num, by rw [hS.out]; exact K⟩, by simp [intOf]; omega⟩
    · have hkn : k = n := by omega
      subst hkn
      rw [← dropK_zero frm step mod] at K
      replace K := Lib.hid K
      clear c1 c2 hlt hk
      go_wp2
      go_loopw [12] (fun i wr => ∃ j : Nat, j ≤ k ∧ i = .int .i64 j ∧ KU w b (dropK frm step mod k j) k wr) (fun i _ => k - (intOf i).toNat)
      case atStart => exact ⟨0, Nat.zero_le _, rfl, K.out⟩
      case round =>
        clear K
        obtain ⟨j, hj, rfl, K⟩ := hrel
        by_cases hlt : j < k
        · obtain ⟨m1, m2⟩ := times_small (by omega) (by omega) (show j ≤ 300 by omega)
          have hlt1 : (j : Int) < (k : Int) := by omega
          by_cases hst : stayK mod j = true
          · have hb : ¬ (j : Int) % mod = 1 := by simpa [stayK] using hst
            have hm1 := Int.emod_nonneg (j : Int) (show mod ≠ 0 by omega)
            have hm2 := Int.emod_lt_of_pos (j : Int) (show 0 < mod by omega)
            have hS := Lib.hid (dropK_stay (f := frm) (st := step) (n := k) hst)
            clear hst
            replace K := Lib.hid K
            have hz : (mod == 0) = false := by rw [beq_eq_false_iff_ne]; omega
            go_wp2
            exact ⟨⟨j + 1, by omega, by go_num, by rw [hS.out]; exact K.out⟩, by simp [intOf]; omega⟩
          · have hst : stayK mod j = false := by simpa using hst
            have hb : (j : Int) % mod = 1 := by simpa [stayK] using hst
            have hm1 := Int.emod_nonneg (j : Int) (show mod ≠ 0 by omega)
            have hm2 := Int.emod_lt_of_pos (j : Int) (show 0 < mod by omega)
            have hS := Lib.hid (dropK_drop (f := frm) c3.out (n := k) hst)
            have hin := ((dropK_mem (f := frm) (m := mod) c3.out (k := j) hlt).1).2 (fun h => by omega)
            have hD := Lib.hid (K.drop (by omega) hin)
            clear hst hin K
            have hz : (mod == 0) = false := by rw [beq_eq_false_iff_ne]; omega
            go_wp2_with fail
            refine hD.out.mono ?_
            clear hD
            rintro e W1 ⟨rfl, K⟩
            replace K := Lib.hid K
            go_wp2
            exact ⟨⟨j + 1, by omega, by go_num, by rw [hS.out]; exact K.out⟩, by simp [intOf]; omega⟩
        · have hjk : j = k := by omega
          subst hjk
          have hlen := dropK_length frm step mod j
          replace hlen := Lib.hid hlen
          replace K := Lib.hid K
          clear hlt hj
          go_wp2
          go_loopw [13, 14] (fun lf i wr => ∃ p : Nat, p ≤ j ∧ i = .int .i64 p ∧ lf = .int .i64 (leftK mod p) ∧ KU w b (dropK frm step mod j j) j wr) (fun _ i _ => j - (intOf i).toNat)
          case atStart => exact ⟨0, Nat.zero_le _, rfl, rfl, K.out⟩
          case round =>
            clear K
            obtain ⟨p, hp, rfl, rfl, K⟩ := hrel
            have hle := leftK_le mod p
            by_cases hlt : p < j
            · obtain ⟨m1, m2⟩ := times_small (by omega) (by omega) (show p ≤ 300 by omega)
              have hlt1 : (p : Int) < (j : Int) := by omega
              have hls := leftK_succ mod p
              have hl0 : (leftK mod p : Int) ≤ 300 := by omega
              have hm1 := Int.emod_nonneg (p : Int) (show mod ≠ 0 by omega)
              have hm2 := Int.emod_lt_of_pos (p : Int) (show 0 < mod by omega)
              have hz : (mod == 0) = false := by rw [beq_eq_false_iff_ne]; omega
              have hG := K.get (by omega) (fun s hL ok => get_dropK (f := frm) (m := mod) c3.out hlt hL ok)
              by_cases hst : stayK mod p = true
              · have hb : ¬ (p : Int) % mod = 1 := by simpa [stayK] using hst
                have hbn : ((p : Int) % mod != 1) = true := by simpa using hb
                have hbe : ((p : Int) % mod == 1) = false := by simpa using hb
                rw [if_pos hst] at hG hls
                replace hG := Lib.hid hG
                replace hls := Lib.hid hls
                clear hst K
                go_wp2_with fail
                refine hG.out.mono ?_
                clear hG
                rintro e W1 ⟨rfl, K⟩
                replace K := Lib.hid K
                go_wp2
                exact ⟨⟨p + 1, by omega, by go_num, by rw [hls.out]; go_num, K.out⟩, by simp [intOf]; omega⟩
              · have hst : stayK mod p = false := by simpa using hst
                have hb : (p : Int) % mod = 1 := by simpa [stayK] using hst
                rw [if_neg (by simp [hst])] at hG hls
                replace hG := Lib.hid hG
                replace hls := Lib.hid hls
                clear hst K
                go_wp2_with fail
                refine hG.out.mono ?_
                clear hG
                rintro e W1 ⟨rfl, K⟩
                replace K := Lib.hid K
                go_wp2
                exact ⟨⟨p + 1, by omega, by go_num, by rw [hls.out]; go_num, K.out⟩, by simp [intOf]; omega⟩
            · have hpj : p = j := by omega
              subst hpj
              have hMany := K.many
              rw [hlen.out] at hMany
              obtain ⟨q, hq1, hq2, hSlots⟩ := K.slots (by omega)
              rw [hlen.out] at hq1
              have hbb := Lib.hid K.below
              replace hMany := Lib.hid hMany
              replace hSlots := Lib.hid hSlots
              clear K
              generalize leftK mod p = lf at *
              have hq3 : 2 * (lf : Int) ≤ (q : Int) := by omega
              go_wp2_with fail
              refine hMany.out.mono ?_
              rintro e W1 ⟨rfl, rfl⟩
              go_wp2_with fail
              refine hSlots.out.mono ?_
              rintro e W1 ⟨rfl, rfl⟩
              go_wp2
              go_ret
              exact ⟨rfl, hbb.out⟩

end Go.Proofs.Ytlhpjmeegflmlaa
