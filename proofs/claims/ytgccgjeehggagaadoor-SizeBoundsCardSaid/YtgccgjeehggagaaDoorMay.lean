/-
  Walk of the law's own may.
-/
import Derived.Test.YtgccgjeehggagaaDoorUp3
import Derived.Test.YtgccgjeehggagaaDoorMath3g
namespace Go.Proofs.YtgccgjeehggagaaDoor
open Go Go.RowKit Go.Maps

/-- How often v stands at the first i places. -/
def cntTo (o : Nat → Int) (v : Nat) : Nat → Nat
  | 0 => 0
  | i + 1 => cntTo o v i + (if o i = (v : Int) then 1 else 0)

theorem cntTo_le (o : Nat → Int) (v i : Nat) : cntTo o v i ≤ i := by
  induction i with
  | zero => exact Nat.le_refl _
  | succ i ih => simp only [cntTo]; split <;> omega

/-- Does each variable stand there once? -/
def mayB (o : Nat → Int) : Bool := (List.range 8).all fun v => cntTo o v 8 == 1

theorem mayB_true {o : Nat → Int} (h : ∀ v, v < 8 → cntTo o v 8 = 1) : mayB o = true := List.all_eq_true.2 fun v hv => by rw [h v (List.mem_range.1 hv)]; rfl
theorem mayB_false {o : Nat → Int} {v : Nat} (hv : v < 8) (h : cntTo o v 8 ≠ 1) : mayB o = false := by
  cases e : mayB o
  · rfl
  · have := List.all_eq_true.1 e v (List.mem_range.2 hv)
    exact absurd (eq_of_beq this) h

theorem cntTo_pos {o : Nat → Int} {v : Nat} : ∀ i, cntTo o v i ≠ 0 → ∃ j, j < i ∧ o j = (v : Int) := by
  intro i
  induction i with
  | zero => intro h; exact absurd rfl h
  | succ i ih =>
    intro h
    by_cases e : o i = (v : Int)
    · exact ⟨i, Nat.lt_succ_self _, e⟩
    · simp only [cntTo, if_neg e] at h
      obtain ⟨j, hj, e⟩ := ih h
      exact ⟨j, by omega, e⟩

theorem full_of_may {o : Nat → Int} (h : mayB o = true) : Full o := fun v hv => by
  have := eq_of_beq (List.all_eq_true.1 h v (List.mem_range.2 hv))
  exact cntTo_pos 8 (by omega)

set_option maxRecDepth 100000 in
set_option maxHeartbeats 1000000 in
theorem lawMay (o : Nat → Int) (w : World) : Calls Tryd.prog 12 #[ov o] w fun e w' => e = .returned (.bool (mayB o)) ∧ Below w.heap.size w w' := by
  simp only [ov]
  go_enter Tryd.func12, Tryd.ntmps12
  go_wp2
  have h0 := HoldsO.new w o w.heap.size rfl
  have hb : Below w.heap.size w (w.alloc (.cells #[.int .i64 (o 0), .int .i64 (o 1), .int .i64 (o 2), .int .i64 (o 3), .int .i64 (o 4), .int .i64 (o 5), .int .i64 (o 6), .int .i64 (o 7)] 23)) := by go_grown
  generalize w.alloc (.cells #[.int .i64 (o 0), .int .i64 (o 1), .int .i64 (o 2), .int .i64 (o 3), .int .i64 (o 4), .int .i64 (o 5), .int .i64 (o 6), .int .i64 (o 7)] 23) = W at *
  go_loop [3] (fun x => ∃ v : Nat, v ≤ 8 ∧ x = .int .i64 v ∧ Hid (∀ u, u < v → cntTo o u 8 = 1)) (fun x => 8 - (intOf x).toNat)
  case atStart => exact ⟨0, Nat.zero_le _, rfl, fun u hu => absurd hu (Nat.not_lt_zero _)⟩
  case round =>
    obtain ⟨v, hv, rfl, hall⟩ := hrel
    by_cases hlt : v < 8
    · go_wp2
      go_loop [4, 5] (fun n i => ∃ j : Nat, j ≤ 8 ∧ i = .int .i64 j ∧ n = .int .i64 (cntTo o v j)) (fun _ i => 8 - (intOf i).toNat)
      case atStart => exact ⟨0, Nat.zero_le _, rfl, rfl⟩
      case round =>
        obtain ⟨j, hj, rfl, rfl⟩ := hrel
        have hle := cntTo_le o v j
        by_cases hj8 : j < 8
        · have hc := h0.cell j hj8
          have hj0 : (0 : Int) ≤ (j : Int) := by omega
          have hj1 : (j : Int) < 8 := by omega
          have Hs := Lib.hid (show cntTo o v (j + 1) = cntTo o v j + (if o j = (v : Int) then 1 else 0) from rfl)
          generalize cntTo o v j = y at *
          by_cases he : o j = (v : Int)
          · rw [if_pos he] at Hs
            have hB : (o j == (v : Int)) = true := by rw [beq_iff_eq]; exact he
            clear he
            go_wp2
            go_round
            case rel => exact ⟨j + 1, by omega, by go_num, by rw [Hs.out]; go_num⟩
            case measure => simp [intOf]; omega
          · rw [if_neg he] at Hs
            have hB : (o j == (v : Int)) = false := by rw [beq_eq_false_iff_ne]; exact he
            clear he
            go_wp2
            go_round
            case rel => exact ⟨j + 1, by omega, by go_num, by rw [Hs.out]; rfl⟩
            case measure => simp [intOf]; omega
        · obtain rfl : j = 8 := by omega
          by_cases he : cntTo o v 8 = 1
          · have Hc := Lib.hid he
            rw [he]
            clear he
            go_wp2
            go_round
            case rel =>
              exact ⟨v + 1, by omega, by go_num, fun u hu => by
                rcases Nat.lt_or_ge u v with h | h
                · exact hall.out u h
                · obtain rfl : u = v := by omega
                  exact Hc.out⟩
            case measure => simp [intOf]; omega
          · have Hm := Lib.hid (mayB_false hlt he)
            have hB : (((cntTo o v 8 : Nat) : Int) == 1) = false := by rw [beq_eq_false_iff_ne]; omega
            clear he
            generalize cntTo o v 8 = y at *
            go_wp2
            go_ret
            exact ⟨ret_bool Hm.out.symm, hb⟩
    · obtain rfl : v = 8 := by omega
      have Hm := Lib.hid (mayB_true hall.out)
      go_wp2
      go_ret
      exact ⟨ret_bool Hm.out.symm, hb⟩

end Go.Proofs.YtgccgjeehggagaaDoor
