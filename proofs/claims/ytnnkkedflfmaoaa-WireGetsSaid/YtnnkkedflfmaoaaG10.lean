/-
  Texts of this proof, one behind the other: WireF.
-/
import Derived.Test.YtnnkkedflfmaoaaG6
import Derived.Deep.CutRange
import Derived.Laws.BytesArg
/-
  Walks of the document's layer 18, the small ones: form, most, has, wide, Num, High.
-/
namespace Go.Proofs.Ytnnkkedflfmaoaa
open Go Go.RowKit

/-- Letters as a string. -/
def strB (l : List Nat) : ByteArray := ⟨(l.map UInt8.ofNat).toArray⟩
theorem strB_size (l : List Nat) : (strB l).size = l.length := by simp [strB, ByteArray.size]
theorem strB_toList (l : List Nat) : (strB l).toList = l.map UInt8.ofNat := by rw [ByteArray.toList_eq]; simp [strB]
theorem strB_inj {l k : List Nat} (hl : ∀ x ∈ l, x < 256) (hk : ∀ x ∈ k, x < 256) (h : (strB l).toList = (strB k).toList) : l = k := by
  rw [strB_toList, strB_toList] at h
  have e : ∀ m : List Nat, (∀ x ∈ m, x < 256) → (m.map UInt8.ofNat).map UInt8.toNat = m := by
    intro m hm
    rw [List.map_map]
    conv => rhs; rw [← List.map_id m]
    refine List.map_congr_left fun x hx => ?_
    simp [Nat.mod_eq_of_lt (hm x hx)]
  rw [← e l hl, h, e k hk]
theorem strB_at {P : Program} (t : TypeId) (ht : P.underlying t = some .string) (l : List Nat) (hl : ∀ x ∈ l, x < 256) (k : Nat) (hk : k < l.length) (W : World) : (Instr.index t (.string (strB l)) (.int .i64 (k : Int))).run P W = .ok (.int .u8 l[k]) W := by
  have hs := strB_size l
  rw [run_index_string W t (strB l) .i64 k ht, dif_pos ⟨by omega, by omega⟩]
  congr 2
  have hx := hl _ (List.getElem_mem hk)
  have e : (strB l)[(k : Int).toNat]'(by rw [hs]; simpa using hk) = UInt8.ofNat l[k] := by
    show ((l.map UInt8.ofNat).toArray)[(k : Int).toNat]'_ = _
    simp
  rw [e]
  simp [Nat.mod_eq_of_lt hx]

set_option maxRecDepth 100000 in
set_option maxHeartbeats 4000000 in
theorem refMost (op : Int) (w : World) : Calls Try.prog 21 #[.int .i64 op] w fun e w' => e = .returned (.int .i64 (mostN op.toNat)) ∧ w = w' := by
  by_cases ho : op = 1 ∨ op = 5 ∨ op = 11 ∨ op = 12 ∨ op = 13 ∨ op = 14 ∨ op = 15
  · rcases ho with rfl | rfl | rfl | rfl | rfl | rfl | rfl
    all_goals go_enter Try.func21, Try.ntmps21
    all_goals go_wp2
    all_goals go_ret
    all_goals exact ⟨rfl, rfl⟩
  · have e : mostN op.toNat = 0 := by
      rcases Int.lt_or_le op 1 with h | h
      · rw [show op.toNat = 0 by omega]; rfl
      · obtain ⟨n, rfl⟩ : ∃ n : Nat, op = n := ⟨op.toNat, by omega⟩
        rw [Int.toNat_natCast]
        unfold mostN
        split <;> first | rfl | (exfalso; omega)
    rw [e]
    have n1 : (op == 1) = false := by rw [beq_eq_false_iff_ne]; omega
    have n5 : (op == 5) = false := by rw [beq_eq_false_iff_ne]; omega
    have n15 : (op == 15) = false := by rw [beq_eq_false_iff_ne]; omega
    by_cases h : 11 ≤ op
    · have h2 : ¬ op ≤ 14 := by omega
      clear ho e
      go_enter Try.func21, Try.ntmps21
      go_wp2
      go_ret
      exact ⟨rfl, rfl⟩
    · clear ho e
      go_enter Try.func21, Try.ntmps21
      go_wp2
      go_ret
      exact ⟨rfl, rfl⟩

set_option maxRecDepth 100000 in
set_option maxHeartbeats 4000000 in
theorem refWide (c : Nat) (w : World) : Calls Try.prog 26 #[.int .u8 c] w fun e w' => e = .returned (.int .i64 (chP c).wide) ∧ w = w' := by
  by_cases ho : c = 65 ∨ c = 66 ∨ c = 67 ∨ c = 78
  · rcases ho with rfl | rfl | rfl | rfl
    all_goals go_enter Try.func26, Try.ntmps26
    all_goals go_wp2
    all_goals go_ret
    all_goals exact ⟨rfl, rfl⟩
  · have e : (chP c).wide = 1 := by
      unfold chP
      rw [if_neg (by omega), if_neg (by omega), if_neg (by omega)]
      split
      · rfl
      · rw [if_neg (by omega)]
    rw [e]
    have n1 : ((c : Int) == 65) = false := by rw [beq_eq_false_iff_ne]; omega
    have n2 : ((c : Int) == 66) = false := by rw [beq_eq_false_iff_ne]; omega
    have n3 : ((c : Int) == 67) = false := by rw [beq_eq_false_iff_ne]; omega
    have n4 : ((c : Int) == 78) = false := by rw [beq_eq_false_iff_ne]; omega
    clear ho e
    go_enter Try.func26, Try.ntmps26
    go_wp2
    go_ret
    exact ⟨rfl, rfl⟩

set_option maxRecDepth 100000 in
set_option maxHeartbeats 4000000 in
theorem refHas (l : List Nat) (c : Nat) (w : World) (hl : ∀ x ∈ l, x < 256) (hn : l.length ≤ 1000) :
    Calls Try.prog 22 #[.string (strB l), .int .u8 c] w fun e w' => e = .returned (.bool (decide (c ∈ l))) ∧ w = w' := by
  have hsz := strB_size l
  have hix := fun k hk W => strB_at (P := Try.prog) 9 Try.underlying9 l hl k hk W
  generalize hD : decide (c ∈ l) = D
  replace hD := Lib.hid hD
  generalize strB l = s at *
  go_enter Try.func22, Try.ntmps22
  go_wp2
  go_loopw [5] (fun i wr => ∃ k : Nat, i = .int .i64 k ∧ k ≤ l.length ∧ Hid (c ∉ l.take k) ∧ w = wr) (fun i _ => l.length - (intOf i).toNat)
  case atStart => exact ⟨0, rfl, by omega, (fun h => by simp at h), rfl⟩
  case round =>
    obtain ⟨k, rfl, hk, hno, rfl⟩ := hrel
    by_cases hlt : k < l.length
    · have h1 := fun W => hix k hlt W
      have htk := List.take_succ_eq_append_getElem hlt
      have hk1 : (k : Int) < (l.length : Int) := by omega
      have hmem := List.getElem_mem hlt
      clear hix
      generalize l[k] = x at *
      by_cases hx : x = c
      · subst hx
        have HD := Lib.hid (hD.out.symm.trans (decide_eq_true hmem))
        clear hmem htk hno hl
        go_wp2
        go_ret
        exact ⟨by rw [HD.out]; rfl, rfl⟩
      · have hx' : ((x : Int) == (c : Int)) = false := by rw [beq_eq_false_iff_ne]; omega
        have hno2 : Hid (c ∉ l.take (k + 1)) := by
          rw [htk]
          intro h
          rcases List.mem_append.1 h with h | h
          · exact hno h
          · exact hx (List.mem_singleton.1 h).symm
        replace hno2 := Lib.hid hno2
        clear hmem htk hno hl
        go_wp2
        exact ⟨⟨k + 1, by go_num, by omega, hno2.out, (by trivial)⟩, by simp [intOf]; omega⟩
    · obtain rfl : k = l.length := by omega
      have HD := Lib.hid (hD.out.symm.trans (decide_eq_false (by have := hno; rwa [List.take_length] at this)))
      clear hno hix hl
      go_wp2
      go_ret
      exact ⟨by rw [HD.out]; rfl, rfl⟩

set_option maxRecDepth 100000 in
set_option maxHeartbeats 4000000 in
theorem refNum (l : List Nat) (v : Value) (w : World) (hv : Reads encY w v l) (hl : ∀ x ∈ l, x < 256) (hn : l.length ≤ 1000000) :
    Calls Try.prog 27 #[v] w fun e w' => e = .returned (.int .u64 (numB l)) ∧ w = w' := by
  obtain ⟨a, cap, rfl⟩ := hv.form
  generalize hD : numB l = D
  replace hD := Lib.hid hD
  have HV := Lib.hid hv
  clear hv
  go_enter Try.func27, Try.ntmps27
  go_wp2
  go_loopw [3, 4] (fun vn i wr => ∃ (k m : Nat), i = .int .i64 k ∧ vn = .int .u64 m ∧ k ≤ l.length ∧ Hid (m = numB (l.take k)) ∧ w = wr) (fun _ i _ => l.length - (intOf i).toNat)
  case atStart => exact ⟨0, 0, rfl, rfl, by omega, rfl, rfl⟩
  case round =>
    obtain ⟨k, m, rfl, rfl, hk, hm, rfl⟩ := hrel
    by_cases hlt : k < l.length
    · obtain ⟨ad, rfl, b0⟩ := HV.out.byteAt k hlt
      have htk := List.take_succ_eq_append_getElem hlt
      have hx := hl _ (List.getElem_mem hlt)
      have hk1 : (k : Int) < (l.length : Int) := by omega
      have hm2 : Hid ((256 * m + l[k]) % 18446744073709551616 = numB (l.take (k + 1))) := by
        rw [htk, numB, numInto_snoc, hm]
        rfl
      generalize l[k] = x at *
      replace hm2 := Lib.hid hm2
      have hx' : (x : Int) < 256 := by omega
      clear htk hm hl
      go_wp2
      exact ⟨⟨k + 1, (256 * m + x) % 18446744073709551616, by go_num, congrArg (Value.int .u64) (by rw [IntKind.wrap_u64, IntKind.wrap_u64]; omega), by omega, hm2.out, (by trivial)⟩, by simp [intOf]; omega⟩
    · obtain rfl : k = l.length := by omega
      have HD := Lib.hid (show m = D by have := hm; rw [List.take_length] at this; exact this.trans hD.out)
      clear hm hl
      go_wp2
      go_ret
      exact ⟨by rw [HD.out]; rfl, rfl⟩

set_option maxRecDepth 100000 in
set_option maxHeartbeats 16000000 in
theorem refForm (op : Int) (w : World) : Calls Try.prog 20 #[.int .i64 op] w fun e w' => e = .returned (.string (strB (formB op.toNat))) ∧ Below w.heap.size w w' := by
  have c0 : (w.alloc (.cells #[.string ⟨#[63]⟩, .string ⟨#[78]⟩, .string ⟨#[]⟩, .string ⟨#[65]⟩, .string ⟨#[98]⟩, .string ⟨#[110]⟩, .string ⟨#[65]⟩, .string ⟨#[65, 66]⟩, .string ⟨#[65, 66]⟩, .string ⟨#[65, 66]⟩, .string ⟨#[65, 66, 67]⟩, .string ⟨#[65, 110, 98]⟩, .string ⟨#[65, 110, 66]⟩, .string ⟨#[65, 110]⟩, .string ⟨#[65, 110]⟩, .string ⟨#[65, 110]⟩, .string ⟨#[65]⟩, .string ⟨#[65]⟩, .string ⟨#[65]⟩, .string ⟨#[65, 66]⟩, .string ⟨#[65]⟩, .string ⟨#[]⟩] 9)).cell? ⟨w.heap.size, 0, none⟩ = some (.string ⟨#[63]⟩) := (cell_of_row _ _ _ _ _ _ (heap_alloc_new _ _)).trans rfl
  have c1 : (w.alloc (.cells #[.string ⟨#[63]⟩, .string ⟨#[78]⟩, .string ⟨#[]⟩, .string ⟨#[65]⟩, .string ⟨#[98]⟩, .string ⟨#[110]⟩, .string ⟨#[65]⟩, .string ⟨#[65, 66]⟩, .string ⟨#[65, 66]⟩, .string ⟨#[65, 66]⟩, .string ⟨#[65, 66, 67]⟩, .string ⟨#[65, 110, 98]⟩, .string ⟨#[65, 110, 66]⟩, .string ⟨#[65, 110]⟩, .string ⟨#[65, 110]⟩, .string ⟨#[65, 110]⟩, .string ⟨#[65]⟩, .string ⟨#[65]⟩, .string ⟨#[65]⟩, .string ⟨#[65, 66]⟩, .string ⟨#[65]⟩, .string ⟨#[]⟩] 9)).cell? ⟨w.heap.size, 1, none⟩ = some (.string ⟨#[78]⟩) := (cell_of_row _ _ _ _ _ _ (heap_alloc_new _ _)).trans rfl
  have c2 : (w.alloc (.cells #[.string ⟨#[63]⟩, .string ⟨#[78]⟩, .string ⟨#[]⟩, .string ⟨#[65]⟩, .string ⟨#[98]⟩, .string ⟨#[110]⟩, .string ⟨#[65]⟩, .string ⟨#[65, 66]⟩, .string ⟨#[65, 66]⟩, .string ⟨#[65, 66]⟩, .string ⟨#[65, 66, 67]⟩, .string ⟨#[65, 110, 98]⟩, .string ⟨#[65, 110, 66]⟩, .string ⟨#[65, 110]⟩, .string ⟨#[65, 110]⟩, .string ⟨#[65, 110]⟩, .string ⟨#[65]⟩, .string ⟨#[65]⟩, .string ⟨#[65]⟩, .string ⟨#[65, 66]⟩, .string ⟨#[65]⟩, .string ⟨#[]⟩] 9)).cell? ⟨w.heap.size, 2, none⟩ = some (.string ⟨#[]⟩) := (cell_of_row _ _ _ _ _ _ (heap_alloc_new _ _)).trans rfl
  have c3 : (w.alloc (.cells #[.string ⟨#[63]⟩, .string ⟨#[78]⟩, .string ⟨#[]⟩, .string ⟨#[65]⟩, .string ⟨#[98]⟩, .string ⟨#[110]⟩, .string ⟨#[65]⟩, .string ⟨#[65, 66]⟩, .string ⟨#[65, 66]⟩, .string ⟨#[65, 66]⟩, .string ⟨#[65, 66, 67]⟩, .string ⟨#[65, 110, 98]⟩, .string ⟨#[65, 110, 66]⟩, .string ⟨#[65, 110]⟩, .string ⟨#[65, 110]⟩, .string ⟨#[65, 110]⟩, .string ⟨#[65]⟩, .string ⟨#[65]⟩, .string ⟨#[65]⟩, .string ⟨#[65, 66]⟩, .string ⟨#[65]⟩, .string ⟨#[]⟩] 9)).cell? ⟨w.heap.size, 3, none⟩ = some (.string ⟨#[65]⟩) := (cell_of_row _ _ _ _ _ _ (heap_alloc_new _ _)).trans rfl
  have c4 : (w.alloc (.cells #[.string ⟨#[63]⟩, .string ⟨#[78]⟩, .string ⟨#[]⟩, .string ⟨#[65]⟩, .string ⟨#[98]⟩, .string ⟨#[110]⟩, .string ⟨#[65]⟩, .string ⟨#[65, 66]⟩, .string ⟨#[65, 66]⟩, .string ⟨#[65, 66]⟩, .string ⟨#[65, 66, 67]⟩, .string ⟨#[65, 110, 98]⟩, .string ⟨#[65, 110, 66]⟩, .string ⟨#[65, 110]⟩, .string ⟨#[65, 110]⟩, .string ⟨#[65, 110]⟩, .string ⟨#[65]⟩, .string ⟨#[65]⟩, .string ⟨#[65]⟩, .string ⟨#[65, 66]⟩, .string ⟨#[65]⟩, .string ⟨#[]⟩] 9)).cell? ⟨w.heap.size, 4, none⟩ = some (.string ⟨#[98]⟩) := (cell_of_row _ _ _ _ _ _ (heap_alloc_new _ _)).trans rfl
  have c5 : (w.alloc (.cells #[.string ⟨#[63]⟩, .string ⟨#[78]⟩, .string ⟨#[]⟩, .string ⟨#[65]⟩, .string ⟨#[98]⟩, .string ⟨#[110]⟩, .string ⟨#[65]⟩, .string ⟨#[65, 66]⟩, .string ⟨#[65, 66]⟩, .string ⟨#[65, 66]⟩, .string ⟨#[65, 66, 67]⟩, .string ⟨#[65, 110, 98]⟩, .string ⟨#[65, 110, 66]⟩, .string ⟨#[65, 110]⟩, .string ⟨#[65, 110]⟩, .string ⟨#[65, 110]⟩, .string ⟨#[65]⟩, .string ⟨#[65]⟩, .string ⟨#[65]⟩, .string ⟨#[65, 66]⟩, .string ⟨#[65]⟩, .string ⟨#[]⟩] 9)).cell? ⟨w.heap.size, 5, none⟩ = some (.string ⟨#[110]⟩) := (cell_of_row _ _ _ _ _ _ (heap_alloc_new _ _)).trans rfl
  have c6 : (w.alloc (.cells #[.string ⟨#[63]⟩, .string ⟨#[78]⟩, .string ⟨#[]⟩, .string ⟨#[65]⟩, .string ⟨#[98]⟩, .string ⟨#[110]⟩, .string ⟨#[65]⟩, .string ⟨#[65, 66]⟩, .string ⟨#[65, 66]⟩, .string ⟨#[65, 66]⟩, .string ⟨#[65, 66, 67]⟩, .string ⟨#[65, 110, 98]⟩, .string ⟨#[65, 110, 66]⟩, .string ⟨#[65, 110]⟩, .string ⟨#[65, 110]⟩, .string ⟨#[65, 110]⟩, .string ⟨#[65]⟩, .string ⟨#[65]⟩, .string ⟨#[65]⟩, .string ⟨#[65, 66]⟩, .string ⟨#[65]⟩, .string ⟨#[]⟩] 9)).cell? ⟨w.heap.size, 6, none⟩ = some (.string ⟨#[65]⟩) := (cell_of_row _ _ _ _ _ _ (heap_alloc_new _ _)).trans rfl
  have c7 : (w.alloc (.cells #[.string ⟨#[63]⟩, .string ⟨#[78]⟩, .string ⟨#[]⟩, .string ⟨#[65]⟩, .string ⟨#[98]⟩, .string ⟨#[110]⟩, .string ⟨#[65]⟩, .string ⟨#[65, 66]⟩, .string ⟨#[65, 66]⟩, .string ⟨#[65, 66]⟩, .string ⟨#[65, 66, 67]⟩, .string ⟨#[65, 110, 98]⟩, .string ⟨#[65, 110, 66]⟩, .string ⟨#[65, 110]⟩, .string ⟨#[65, 110]⟩, .string ⟨#[65, 110]⟩, .string ⟨#[65]⟩, .string ⟨#[65]⟩, .string ⟨#[65]⟩, .string ⟨#[65, 66]⟩, .string ⟨#[65]⟩, .string ⟨#[]⟩] 9)).cell? ⟨w.heap.size, 7, none⟩ = some (.string ⟨#[65, 66]⟩) := (cell_of_row _ _ _ _ _ _ (heap_alloc_new _ _)).trans rfl
  have c8 : (w.alloc (.cells #[.string ⟨#[63]⟩, .string ⟨#[78]⟩, .string ⟨#[]⟩, .string ⟨#[65]⟩, .string ⟨#[98]⟩, .string ⟨#[110]⟩, .string ⟨#[65]⟩, .string ⟨#[65, 66]⟩, .string ⟨#[65, 66]⟩, .string ⟨#[65, 66]⟩, .string ⟨#[65, 66, 67]⟩, .string ⟨#[65, 110, 98]⟩, .string ⟨#[65, 110, 66]⟩, .string ⟨#[65, 110]⟩, .string ⟨#[65, 110]⟩, .string ⟨#[65, 110]⟩, .string ⟨#[65]⟩, .string ⟨#[65]⟩, .string ⟨#[65]⟩, .string ⟨#[65, 66]⟩, .string ⟨#[65]⟩, .string ⟨#[]⟩] 9)).cell? ⟨w.heap.size, 8, none⟩ = some (.string ⟨#[65, 66]⟩) := (cell_of_row _ _ _ _ _ _ (heap_alloc_new _ _)).trans rfl
  have c9 : (w.alloc (.cells #[.string ⟨#[63]⟩, .string ⟨#[78]⟩, .string ⟨#[]⟩, .string ⟨#[65]⟩, .string ⟨#[98]⟩, .string ⟨#[110]⟩, .string ⟨#[65]⟩, .string ⟨#[65, 66]⟩, .string ⟨#[65, 66]⟩, .string ⟨#[65, 66]⟩, .string ⟨#[65, 66, 67]⟩, .string ⟨#[65, 110, 98]⟩, .string ⟨#[65, 110, 66]⟩, .string ⟨#[65, 110]⟩, .string ⟨#[65, 110]⟩, .string ⟨#[65, 110]⟩, .string ⟨#[65]⟩, .string ⟨#[65]⟩, .string ⟨#[65]⟩, .string ⟨#[65, 66]⟩, .string ⟨#[65]⟩, .string ⟨#[]⟩] 9)).cell? ⟨w.heap.size, 9, none⟩ = some (.string ⟨#[65, 66]⟩) := (cell_of_row _ _ _ _ _ _ (heap_alloc_new _ _)).trans rfl
  have c10 : (w.alloc (.cells #[.string ⟨#[63]⟩, .string ⟨#[78]⟩, .string ⟨#[]⟩, .string ⟨#[65]⟩, .string ⟨#[98]⟩, .string ⟨#[110]⟩, .string ⟨#[65]⟩, .string ⟨#[65, 66]⟩, .string ⟨#[65, 66]⟩, .string ⟨#[65, 66]⟩, .string ⟨#[65, 66, 67]⟩, .string ⟨#[65, 110, 98]⟩, .string ⟨#[65, 110, 66]⟩, .string ⟨#[65, 110]⟩, .string ⟨#[65, 110]⟩, .string ⟨#[65, 110]⟩, .string ⟨#[65]⟩, .string ⟨#[65]⟩, .string ⟨#[65]⟩, .string ⟨#[65, 66]⟩, .string ⟨#[65]⟩, .string ⟨#[]⟩] 9)).cell? ⟨w.heap.size, 10, none⟩ = some (.string ⟨#[65, 66, 67]⟩) := (cell_of_row _ _ _ _ _ _ (heap_alloc_new _ _)).trans rfl
  have c11 : (w.alloc (.cells #[.string ⟨#[63]⟩, .string ⟨#[78]⟩, .string ⟨#[]⟩, .string ⟨#[65]⟩, .string ⟨#[98]⟩, .string ⟨#[110]⟩, .string ⟨#[65]⟩, .string ⟨#[65, 66]⟩, .string ⟨#[65, 66]⟩, .string ⟨#[65, 66]⟩, .string ⟨#[65, 66, 67]⟩, .string ⟨#[65, 110, 98]⟩, .string ⟨#[65, 110, 66]⟩, .string ⟨#[65, 110]⟩, .string ⟨#[65, 110]⟩, .string ⟨#[65, 110]⟩, .string ⟨#[65]⟩, .string ⟨#[65]⟩, .string ⟨#[65]⟩, .string ⟨#[65, 66]⟩, .string ⟨#[65]⟩, .string ⟨#[]⟩] 9)).cell? ⟨w.heap.size, 11, none⟩ = some (.string ⟨#[65, 110, 98]⟩) := (cell_of_row _ _ _ _ _ _ (heap_alloc_new _ _)).trans rfl
  have c12 : (w.alloc (.cells #[.string ⟨#[63]⟩, .string ⟨#[78]⟩, .string ⟨#[]⟩, .string ⟨#[65]⟩, .string ⟨#[98]⟩, .string ⟨#[110]⟩, .string ⟨#[65]⟩, .string ⟨#[65, 66]⟩, .string ⟨#[65, 66]⟩, .string ⟨#[65, 66]⟩, .string ⟨#[65, 66, 67]⟩, .string ⟨#[65, 110, 98]⟩, .string ⟨#[65, 110, 66]⟩, .string ⟨#[65, 110]⟩, .string ⟨#[65, 110]⟩, .string ⟨#[65, 110]⟩, .string ⟨#[65]⟩, .string ⟨#[65]⟩, .string ⟨#[65]⟩, .string ⟨#[65, 66]⟩, .string ⟨#[65]⟩, .string ⟨#[]⟩] 9)).cell? ⟨w.heap.size, 12, none⟩ = some (.string ⟨#[65, 110, 66]⟩) := (cell_of_row _ _ _ _ _ _ (heap_alloc_new _ _)).trans rfl
  have c13 : (w.alloc (.cells #[.string ⟨#[63]⟩, .string ⟨#[78]⟩, .string ⟨#[]⟩, .string ⟨#[65]⟩, .string ⟨#[98]⟩, .string ⟨#[110]⟩, .string ⟨#[65]⟩, .string ⟨#[65, 66]⟩, .string ⟨#[65, 66]⟩, .string ⟨#[65, 66]⟩, .string ⟨#[65, 66, 67]⟩, .string ⟨#[65, 110, 98]⟩, .string ⟨#[65, 110, 66]⟩, .string ⟨#[65, 110]⟩, .string ⟨#[65, 110]⟩, .string ⟨#[65, 110]⟩, .string ⟨#[65]⟩, .string ⟨#[65]⟩, .string ⟨#[65]⟩, .string ⟨#[65, 66]⟩, .string ⟨#[65]⟩, .string ⟨#[]⟩] 9)).cell? ⟨w.heap.size, 13, none⟩ = some (.string ⟨#[65, 110]⟩) := (cell_of_row _ _ _ _ _ _ (heap_alloc_new _ _)).trans rfl
  have c14 : (w.alloc (.cells #[.string ⟨#[63]⟩, .string ⟨#[78]⟩, .string ⟨#[]⟩, .string ⟨#[65]⟩, .string ⟨#[98]⟩, .string ⟨#[110]⟩, .string ⟨#[65]⟩, .string ⟨#[65, 66]⟩, .string ⟨#[65, 66]⟩, .string ⟨#[65, 66]⟩, .string ⟨#[65, 66, 67]⟩, .string ⟨#[65, 110, 98]⟩, .string ⟨#[65, 110, 66]⟩, .string ⟨#[65, 110]⟩, .string ⟨#[65, 110]⟩, .string ⟨#[65, 110]⟩, .string ⟨#[65]⟩, .string ⟨#[65]⟩, .string ⟨#[65]⟩, .string ⟨#[65, 66]⟩, .string ⟨#[65]⟩, .string ⟨#[]⟩] 9)).cell? ⟨w.heap.size, 14, none⟩ = some (.string ⟨#[65, 110]⟩) := (cell_of_row _ _ _ _ _ _ (heap_alloc_new _ _)).trans rfl
  have c15 : (w.alloc (.cells #[.string ⟨#[63]⟩, .string ⟨#[78]⟩, .string ⟨#[]⟩, .string ⟨#[65]⟩, .string ⟨#[98]⟩, .string ⟨#[110]⟩, .string ⟨#[65]⟩, .string ⟨#[65, 66]⟩, .string ⟨#[65, 66]⟩, .string ⟨#[65, 66]⟩, .string ⟨#[65, 66, 67]⟩, .string ⟨#[65, 110, 98]⟩, .string ⟨#[65, 110, 66]⟩, .string ⟨#[65, 110]⟩, .string ⟨#[65, 110]⟩, .string ⟨#[65, 110]⟩, .string ⟨#[65]⟩, .string ⟨#[65]⟩, .string ⟨#[65]⟩, .string ⟨#[65, 66]⟩, .string ⟨#[65]⟩, .string ⟨#[]⟩] 9)).cell? ⟨w.heap.size, 15, none⟩ = some (.string ⟨#[65, 110]⟩) := (cell_of_row _ _ _ _ _ _ (heap_alloc_new _ _)).trans rfl
  have c16 : (w.alloc (.cells #[.string ⟨#[63]⟩, .string ⟨#[78]⟩, .string ⟨#[]⟩, .string ⟨#[65]⟩, .string ⟨#[98]⟩, .string ⟨#[110]⟩, .string ⟨#[65]⟩, .string ⟨#[65, 66]⟩, .string ⟨#[65, 66]⟩, .string ⟨#[65, 66]⟩, .string ⟨#[65, 66, 67]⟩, .string ⟨#[65, 110, 98]⟩, .string ⟨#[65, 110, 66]⟩, .string ⟨#[65, 110]⟩, .string ⟨#[65, 110]⟩, .string ⟨#[65, 110]⟩, .string ⟨#[65]⟩, .string ⟨#[65]⟩, .string ⟨#[65]⟩, .string ⟨#[65, 66]⟩, .string ⟨#[65]⟩, .string ⟨#[]⟩] 9)).cell? ⟨w.heap.size, 16, none⟩ = some (.string ⟨#[65]⟩) := (cell_of_row _ _ _ _ _ _ (heap_alloc_new _ _)).trans rfl
  have c17 : (w.alloc (.cells #[.string ⟨#[63]⟩, .string ⟨#[78]⟩, .string ⟨#[]⟩, .string ⟨#[65]⟩, .string ⟨#[98]⟩, .string ⟨#[110]⟩, .string ⟨#[65]⟩, .string ⟨#[65, 66]⟩, .string ⟨#[65, 66]⟩, .string ⟨#[65, 66]⟩, .string ⟨#[65, 66, 67]⟩, .string ⟨#[65, 110, 98]⟩, .string ⟨#[65, 110, 66]⟩, .string ⟨#[65, 110]⟩, .string ⟨#[65, 110]⟩, .string ⟨#[65, 110]⟩, .string ⟨#[65]⟩, .string ⟨#[65]⟩, .string ⟨#[65]⟩, .string ⟨#[65, 66]⟩, .string ⟨#[65]⟩, .string ⟨#[]⟩] 9)).cell? ⟨w.heap.size, 17, none⟩ = some (.string ⟨#[65]⟩) := (cell_of_row _ _ _ _ _ _ (heap_alloc_new _ _)).trans rfl
  have c18 : (w.alloc (.cells #[.string ⟨#[63]⟩, .string ⟨#[78]⟩, .string ⟨#[]⟩, .string ⟨#[65]⟩, .string ⟨#[98]⟩, .string ⟨#[110]⟩, .string ⟨#[65]⟩, .string ⟨#[65, 66]⟩, .string ⟨#[65, 66]⟩, .string ⟨#[65, 66]⟩, .string ⟨#[65, 66, 67]⟩, .string ⟨#[65, 110, 98]⟩, .string ⟨#[65, 110, 66]⟩, .string ⟨#[65, 110]⟩, .string ⟨#[65, 110]⟩, .string ⟨#[65, 110]⟩, .string ⟨#[65]⟩, .string ⟨#[65]⟩, .string ⟨#[65]⟩, .string ⟨#[65, 66]⟩, .string ⟨#[65]⟩, .string ⟨#[]⟩] 9)).cell? ⟨w.heap.size, 18, none⟩ = some (.string ⟨#[65]⟩) := (cell_of_row _ _ _ _ _ _ (heap_alloc_new _ _)).trans rfl
  have c19 : (w.alloc (.cells #[.string ⟨#[63]⟩, .string ⟨#[78]⟩, .string ⟨#[]⟩, .string ⟨#[65]⟩, .string ⟨#[98]⟩, .string ⟨#[110]⟩, .string ⟨#[65]⟩, .string ⟨#[65, 66]⟩, .string ⟨#[65, 66]⟩, .string ⟨#[65, 66]⟩, .string ⟨#[65, 66, 67]⟩, .string ⟨#[65, 110, 98]⟩, .string ⟨#[65, 110, 66]⟩, .string ⟨#[65, 110]⟩, .string ⟨#[65, 110]⟩, .string ⟨#[65, 110]⟩, .string ⟨#[65]⟩, .string ⟨#[65]⟩, .string ⟨#[65]⟩, .string ⟨#[65, 66]⟩, .string ⟨#[65]⟩, .string ⟨#[]⟩] 9)).cell? ⟨w.heap.size, 19, none⟩ = some (.string ⟨#[65, 66]⟩) := (cell_of_row _ _ _ _ _ _ (heap_alloc_new _ _)).trans rfl
  have c20 : (w.alloc (.cells #[.string ⟨#[63]⟩, .string ⟨#[78]⟩, .string ⟨#[]⟩, .string ⟨#[65]⟩, .string ⟨#[98]⟩, .string ⟨#[110]⟩, .string ⟨#[65]⟩, .string ⟨#[65, 66]⟩, .string ⟨#[65, 66]⟩, .string ⟨#[65, 66]⟩, .string ⟨#[65, 66, 67]⟩, .string ⟨#[65, 110, 98]⟩, .string ⟨#[65, 110, 66]⟩, .string ⟨#[65, 110]⟩, .string ⟨#[65, 110]⟩, .string ⟨#[65, 110]⟩, .string ⟨#[65]⟩, .string ⟨#[65]⟩, .string ⟨#[65]⟩, .string ⟨#[65, 66]⟩, .string ⟨#[65]⟩, .string ⟨#[]⟩] 9)).cell? ⟨w.heap.size, 20, none⟩ = some (.string ⟨#[65]⟩) := (cell_of_row _ _ _ _ _ _ (heap_alloc_new _ _)).trans rfl
  have c21 : (w.alloc (.cells #[.string ⟨#[63]⟩, .string ⟨#[78]⟩, .string ⟨#[]⟩, .string ⟨#[65]⟩, .string ⟨#[98]⟩, .string ⟨#[110]⟩, .string ⟨#[65]⟩, .string ⟨#[65, 66]⟩, .string ⟨#[65, 66]⟩, .string ⟨#[65, 66]⟩, .string ⟨#[65, 66, 67]⟩, .string ⟨#[65, 110, 98]⟩, .string ⟨#[65, 110, 66]⟩, .string ⟨#[65, 110]⟩, .string ⟨#[65, 110]⟩, .string ⟨#[65, 110]⟩, .string ⟨#[65]⟩, .string ⟨#[65]⟩, .string ⟨#[65]⟩, .string ⟨#[65, 66]⟩, .string ⟨#[65]⟩, .string ⟨#[]⟩] 9)).cell? ⟨w.heap.size, 21, none⟩ = some (.string ⟨#[]⟩) := (cell_of_row _ _ _ _ _ _ (heap_alloc_new _ _)).trans rfl
  have hV : Below w.heap.size w (w.alloc (.cells #[.string ⟨#[63]⟩, .string ⟨#[78]⟩, .string ⟨#[]⟩, .string ⟨#[65]⟩, .string ⟨#[98]⟩, .string ⟨#[110]⟩, .string ⟨#[65]⟩, .string ⟨#[65, 66]⟩, .string ⟨#[65, 66]⟩, .string ⟨#[65, 66]⟩, .string ⟨#[65, 66, 67]⟩, .string ⟨#[65, 110, 98]⟩, .string ⟨#[65, 110, 66]⟩, .string ⟨#[65, 110]⟩, .string ⟨#[65, 110]⟩, .string ⟨#[65, 110]⟩, .string ⟨#[65]⟩, .string ⟨#[65]⟩, .string ⟨#[65]⟩, .string ⟨#[65, 66]⟩, .string ⟨#[65]⟩, .string ⟨#[]⟩] 9)) := by go_grown
  go_enter Try.func20, Try.ntmps20
  go_upto_region 2 with (fail)
  generalize w.alloc (.cells #[.string ⟨#[63]⟩, .string ⟨#[78]⟩, .string ⟨#[]⟩, .string ⟨#[65]⟩, .string ⟨#[98]⟩, .string ⟨#[110]⟩, .string ⟨#[65]⟩, .string ⟨#[65, 66]⟩, .string ⟨#[65, 66]⟩, .string ⟨#[65, 66]⟩, .string ⟨#[65, 66, 67]⟩, .string ⟨#[65, 110, 98]⟩, .string ⟨#[65, 110, 66]⟩, .string ⟨#[65, 110]⟩, .string ⟨#[65, 110]⟩, .string ⟨#[65, 110]⟩, .string ⟨#[65]⟩, .string ⟨#[65]⟩, .string ⟨#[65]⟩, .string ⟨#[65, 66]⟩, .string ⟨#[65]⟩, .string ⟨#[]⟩] 9) = V at *
  by_cases ho : 1 ≤ op ∧ op ≤ 21
  · rcases (by omega : op = 1 ∨ op = 2 ∨ op = 3 ∨ op = 4 ∨ op = 5 ∨ op = 6 ∨ op = 7 ∨ op = 8 ∨ op = 9 ∨ op = 10 ∨ op = 11 ∨ op = 12 ∨ op = 13 ∨ op = 14 ∨ op = 15 ∨ op = 16 ∨ op = 17 ∨ op = 18 ∨ op = 19 ∨ op = 20 ∨ op = 21) with rfl | rfl | rfl | rfl | rfl | rfl | rfl | rfl | rfl | rfl | rfl | rfl | rfl | rfl | rfl | rfl | rfl | rfl | rfl | rfl | rfl
    all_goals clear ho
    all_goals go_wp2
    all_goals go_ret
    all_goals exact ⟨rfl, hV⟩
  · have e0 : strB (formB op.toNat) = ⟨#[63]⟩ := by
      rcases Int.lt_or_le op 1 with h | h
      · rw [show op.toNat = 0 by omega]; rfl
      · rw [formB_over _ (by omega)]; rfl
    have HE := Lib.hid e0
    clear e0
    by_cases h : op < 1
    · go_wp2
      go_ret
      exact ⟨by rw [HE.out]; rfl, hV⟩
    · have h2 : 21 < op := by omega
      go_wp2
      go_ret
      exact ⟨by rw [HE.out]; rfl, hV⟩

set_option maxRecDepth 100000 in
set_option maxHeartbeats 16000000 in
theorem refHigh (v n : Nat) (w : World) (hn : n ≤ 8) (hv : v < 18446744073709551616) :
    Calls Try.prog 23 #[.int .u64 v, .int .i64 n] w fun e w' => ∃ r, e = .returned r ∧ NRel encY w (highB n v) r w' := by
  go_enter Try.func23, Try.ntmps23
  go_wp2
  go_loopw [0, 5, 6] (fun vv vo i wr => ∃ k : Nat, i = .int .i64 k ∧ k ≤ n ∧ vv = .int .u64 ((v / 256 ^ k : Nat) : Int) ∧ NRel encY w (highB k v) vo wr) (fun _ _ i _ => n - (intOf i).toNat)
  case atStart => exact ⟨0, rfl, by omega, by simp, NRel.start _ (Below.refl _ _)⟩
  case round =>
    obtain ⟨k, rfl, hk, rfl, R⟩ := hrel
    by_cases hlt : k < n
    · have hk1 : (k : Int) < (n : Int) := by omega
      have hd : v / 256 ^ (k + 1) = v / 256 ^ k / 256 := by rw [Nat.pow_succ, Nat.div_div_eq_div_mul]
      have hh : highB (k + 1) v = [v / 256 ^ k % 256] ++ highB k v := rfl
      have hc : v / 256 ^ k < 18446744073709551616 := Nat.lt_of_le_of_lt (Nat.div_le_self _ _) hv
      have HH := Lib.hid hh
      have HD := Lib.hid hd
      clear hh hd
      generalize v / 256 ^ k = c at *
      have eV : ((c % 256 : Nat) : Int) = (c : Int) % 256 := by omega
      have hown : Owns encY (wr.alloc (.cells #[.int .u8 ((c : Int) % 256)] 5)) (.slice (some ⟨wr.heap.size, 0, none⟩) 1 1) [c % 256] := by
        rw [← eV]
        exact Owns.made encY wr [c % 256] _ rfl 1 rfl (by decide)
      have hb : Below wr.heap.size wr (wr.alloc (.cells #[.int .u8 ((c : Int) % 256)] 5)) := by go_grown
      have hsrc := (R.later hb).own.reads
      have hlen : [c % 256].length + (highB k v).length ≤ 1000000 := by rw [highB_length, List.length_singleton]; omega
      have R1 : NRel encY w [c % 256] _ _ := ⟨hown, (fun g hg => by cases hg; exact R.below.size), R.below.trans (hb.mono R.below.size)⟩
      have R1 := Lib.hid R1
      clear eV
      go_wp2_with (at_builtin; refine appendY rfl (.tmp 15) (.tmp 16) rfl _ _ [c % 256] (highB k v) rfl hown rfl hsrc hlen ?_; intro v' w2 hown hgr hat)
      exact ⟨⟨k + 1, by go_num, by omega, by rw [HD.out]; rfl, by rw [HH.out]; exact R1.out.grow hown hgr hat⟩, by simp [intOf]; omega⟩
    · obtain rfl : k = n := by omega
      go_wp2
      go_ret
      exact ⟨_, rfl, R⟩

end Go.Proofs.Ytnnkkedflfmaoaa
