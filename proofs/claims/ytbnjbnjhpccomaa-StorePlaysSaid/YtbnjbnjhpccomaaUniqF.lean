/-
  Walks of package uniq: find, New, Get.
-/
import Derived.Test.YtbnjbnjhpccomaaUniqB
import Derived.Test.YtbnjbnjhpccomaaTame
import Derived.BigQuiet
import Derived.Deep.QuietTactic
namespace Go.Proofs.Ytbnjbnjhpccomaa
open Go Go.RowKit

theorem run_neq_pair (a b : Int × Int) (w : World) : (binOp .neq 94 (pairV a) (pairV b)).run Try.prog w = .ok (.bool (!(a == b))) w := by
  have hq : ∀ (w : World) (a b : Int), (Op.equalIn 9999 3 (.int .i64 a) (.int .i64 b)).run Try.prog w = .ok (a == b) w := fun w a b => run_equalIn_int w 9998 _ _ _ _ _ Try.underlying3
  obtain ⟨a1, a2⟩ := a
  obtain ⟨b1, b2⟩ := b
  unfold pairV
  rw [run_neq_struct, run_equalIn_agg w 9999 _ _ _ (by kernel_rfl) (by kernel_rfl)]
  by_cases h : a1 = b1
  · by_cases k : a2 = b2
    · simp [Op.eqFields, part, go_sem, hq, h, k]
    · simp [Op.eqFields, part, go_sem, hq, h, k]
  · simp [Op.eqFields, part, go_sem, hq, h]

theorem run_neq_cells (a1 a2 b1 b2 : Int) (c : Bool) (hc : (!((a1, a2) == (b1, b2))) = c) (w : World) : (binOp .neq 94 (.agg #[.int .i64 a1, .int .i64 a2]) (.agg #[.int .i64 b1, .int .i64 b2])).run Try.prog w = .ok (.bool c) w := by
  rw [← hc]; exact run_neq_pair (a1, a2) (b1, b2) w

set_option maxRecDepth 100000 in
set_option maxHeartbeats 1000000 in
theorem uniqFind' {w : World} {b : Nat} {v : Value} {many : Int} {T : List (Option Ent)} (h : UniqR w b v many T) (hl : Places T.length) (k1 k2 : Int) {c N0 : Nat} (hN0 : homeN T.length (k1, k2) = N0) (hlt : N0 < T.length) (hc : c < T.length)
    (before : ∀ d, d < c → ∃ e : Ent, T[onBy T.length N0 d]? = some (some e) ∧ e.1 ≠ (k1, k2)) (stop : T[onBy T.length N0 c]? = some none ∨ ∃ e : Ent, T[onBy T.length N0 c]? = some (some e) ∧ e.1 = (k1, k2)) :
    Calls Try.prog 54 #[.pointer (some ⟨b, 0, none⟩), .agg #[.int .i64 k1, .int .i64 k2]] w fun e w' => e = .returned (.int .i64 (onBy T.length N0 c)) ∧ Below w.heap.size w w' := by
  have h8 := hl.least
  have hM := hl.most
  obtain ⟨g, cap, rfl, hq1, hq2⟩ := h.form (by omega)
  clear hq1 hq2
  have hHome : ∀ W, UniqR W b (.slice (some ⟨g, 0, none⟩) T.length cap) many T → Calls Try.prog 68 #[.pointer (some ⟨b, 0, none⟩), .agg #[.int .i64 k1, .int .i64 k2]] W fun e w' => e = .returned (.int .i64 N0) ∧ Below W.heap.size W w' := fun W hW => by
    have := uniqHome hW hl (k1, k2)
    rwa [hN0] at this
  clear hN0
  go_enter Try.func54, Try.ntmps54
  go_wp2_with fail
  have hp := PairAt.new w k1 k2
  have hb : Below w.heap.size w (w.alloc (.cells #[.int .i64 k1, .int .i64 k2] 94)) := by go_grown
  replace h := h.below hb
  generalize w.alloc (.cells #[.int .i64 k1, .int .i64 k2] 94) = W at *
  refine (hHome W h).mono ?_
  clear hHome
  rintro e w1 ⟨rfl, hb1⟩
  replace hp := hp.keep hb1
  replace h := h.below hb1
  replace hb := hb.trans (hb1.mono hb.size)
  clear hb1
  go_wp2_with fail
  go_loopw [5] (fun i wr => ∃ d : Nat, d ≤ c ∧ i = .int .i64 (onBy T.length N0 d) ∧ UniqR wr b (.slice (some ⟨g, 0, none⟩) T.length cap) many T ∧ PairAt wr w.heap.size (k1, k2) ∧ Below w.heap.size w wr) (fun i _ => dist T.length (intOf i).toNat (onBy T.length N0 c))
  case atStart => exact ⟨0, Nat.zero_le _, by rw [onBy_zero hlt], h, hp, hb⟩
  case round =>
    obtain ⟨d, hd, rfl, h, hp, hb⟩ := hrel
    have hdn : d < T.length := by omega
    have hin := onBy_lt hlt (Nat.le_of_lt hdn)
    by_cases hdc : d < c
    · obtain ⟨e, he, hek⟩ := before d hdc
      clear before stop
      have hnx : onBy T.length (onBy T.length N0 d) 1 = onBy T.length N0 (d + 1) := onBy_succ hlt (by omega)
      have hms : dist T.length (onBy T.length N0 d) (onBy T.length N0 c) = c - d := by
        have := dist_on (p := onBy T.length N0 c) (c := d) hlt (onBy_lt hlt (Nat.le_of_lt hc)) (by rw [dist_onBy hlt hc]; exact hd) rfl
        rw [dist_onBy hlt hc] at this
        omega
      have hms2 : dist T.length (onBy T.length N0 (d + 1)) (onBy T.length N0 c) = c - (d + 1) := by
        have := dist_on (p := onBy T.length N0 c) (c := d + 1) hlt (onBy_lt hlt (Nat.le_of_lt hc)) (by rw [dist_onBy hlt hc]; exact hdc) rfl
        rw [dist_onBy hlt hc] at this
        omega
      have hAf : ∀ n, Calls Try.prog 69 #[.pointer (some ⟨b, 0, none⟩), .int .i64 (onBy T.length N0 d)] (wr.drewN n) fun e w' => e = .returned (.int .i64 (onBy T.length N0 (d + 1))) ∧ wr.drewN n = w' := fun n => by
        rw [← hnx]; exact uniqAfter (h.below (below_drewN (Below.refl _ _))) hl _ hin
      obtain ⟨⟨e1, e2⟩, e3⟩ := e
      obtain ⟨q0, q1, q2, q3⟩ := placeAt h.places _ _ he
      obtain ⟨c0, c1⟩ := h.cells
      obtain ⟨p0, p1⟩ := hp.cells
      simp only [entCells, List.getElem?_cons_zero, List.getElem?_cons_succ] at q0 q1 q2
      have hq := run_neq_cells e1 e2 k1 k2 true (by simpa using hek)
      have hback : ∀ n, ∃ d' : Nat, d' ≤ c ∧ Value.int .i64 (onBy T.length N0 (d + 1)) = .int .i64 (onBy T.length N0 d') ∧ UniqR (wr.drewN n) b (.slice (some ⟨g, 0, none⟩) T.length cap) many T ∧ PairAt (wr.drewN n) w.heap.size (k1, k2) ∧ Below w.heap.size w (wr.drewN n) := fun n =>
        ⟨d + 1, hdc, rfl, h.below (below_drewN (Below.refl _ _)), hp.keep (below_drewN (Below.refl _ _)), below_drewN hb⟩
      have hless : dist T.length (onBy T.length N0 (d + 1)) (onBy T.length N0 c) < dist T.length (onBy T.length N0 d) (onBy T.length N0 c) := by omega
      have HB := Lib.hid hback
      have HL := Lib.hid hless
      clear h hp q3 hek he hnx hms hms2 hback hless
      have hinI : (onBy T.length N0 d : Int) < (T.length : Int) := by omega
      have hin0 : (0 : Int) ≤ (onBy T.length N0 d : Int) := by omega
      go_wp2
      go_quiet (fail)
      clear c0 c1 p0 p1 q0 q1 q2 hq
      go_wp2_with fail
      refine (hAf _).mono ?_
      rintro e w2 ⟨rfl, rfl⟩
      go_wp2
      exact ⟨HB.out _, HL.out⟩
    · have hdc : d = c := by omega
      subst hdc
      clear before
      rcases stop with he | ⟨e, he, hek⟩
      · obtain ⟨q0, q1, q2, q3⟩ := placeAt h.places _ _ he
        obtain ⟨c0, c1⟩ := h.cells
        obtain ⟨p0, p1⟩ := hp.cells
        simp only [entCells, List.getElem?_cons_zero] at q0
        clear h hp q1 q2 q3 he
        generalize hN : onBy T.length N0 d = N at *
        have HN := Lib.hid hN
        have hinI : (N : Int) < (T.length : Int) := by omega
        have hin0 : (0 : Int) ≤ (N : Int) := by omega
        clear hN hin
        go_wp2
        go_quiet (fail)
        go_wp2
        go_ret
        exact ⟨by rw [HN.out]; rfl, below_drewN hb⟩
      · obtain ⟨⟨e1, e2⟩, e3⟩ := e
        obtain ⟨q0, q1, q2, q3⟩ := placeAt h.places _ _ he
        obtain ⟨c0, c1⟩ := h.cells
        obtain ⟨p0, p1⟩ := hp.cells
        simp only [entCells, List.getElem?_cons_zero, List.getElem?_cons_succ] at q0 q1 q2
        have hq := run_neq_cells e1 e2 k1 k2 false (by simpa using hek)
        clear h hp q3 hek he
        generalize hN : onBy T.length N0 d = N at *
        have HN := Lib.hid hN
        have hinI : (N : Int) < (T.length : Int) := by omega
        have hin0 : (0 : Int) ≤ (N : Int) := by omega
        clear hN hin
        go_wp2
        go_quiet (fail)
        go_wp2
        go_ret
        exact ⟨by rw [HN.out]; rfl, below_drewN hb⟩

/-- Where a pair is. -/
theorem uniqFind {w : World} {b : Nat} {v : Value} {many : Int} {T : List (Option Ent)} (h : UniqR w b v many T) (hl : Places T.length) (k : Int × Int) {c : Nat} (F : Found T.length (homeN T.length) T k c) :
    Calls Try.prog 54 #[.pointer (some ⟨b, 0, none⟩), pairV k] w fun e w' => e = .returned (.int .i64 (onBy T.length (homeN T.length k) c)) ∧ Below w.heap.size w w' := by
  obtain ⟨k1, k2⟩ := k
  have h8 := hl.least
  exact uniqFind' h hl k1 k2 rfl (homeN_lt (by omega) _) F.lt F.before F.stop

end Go.Proofs.Ytbnjbnjhpccomaa
