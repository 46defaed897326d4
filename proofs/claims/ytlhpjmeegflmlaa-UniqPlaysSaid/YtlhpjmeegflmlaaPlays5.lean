/-
  UniqPlays: the walk.
-/
import Derived.Test.YtlhpjmeegflmlaaUp5
import Derived.Deep.RegionHeld3
namespace Go.Proofs.Ytlhpjmeegflmlaa
open Go Go.RowKit

/-- Both tables, apart from each other and from all that stood in w0. -/
structure PU (w0 : World) (bA bM : Nat) (FA FM : Nat → Prop) (sA sM : TS) (W : World) : Prop where
  a : UniqAt W bA FA sA
  m : RefUAt W bM FM sM
  apart : ∀ k, FA k → ¬ FM k
  lowA : ∀ k, FA k → w0.heap.size ≤ k
  lowM : ∀ k, FM k → w0.heap.size ≤ k
  below : Below w0.heap.size w0 W

section
variable {w0 W W' : World} {bA bM : Nat} {FA FM FA' FM' : Nat → Prop} {sA sM s' : TS}

theorem PU.keep (h : PU w0 bA bM FA FM sA sM W) (hb : Below W.heap.size W W') : PU w0 bA bM FA FM sA sM W' :=
  ⟨h.a.below hb, h.m.below hb, h.apart, h.lowA, h.lowM, h.below.trans (hb.mono h.below.size)⟩
theorem PU.table (h : PU w0 bA bM FA FM sA sM W) (hA : UniqAt W' bA FA' s') (hK : Keeps FA W W') (hW : Within W FA FA') : PU w0 bA bM FA' FM s' sM W' :=
  ⟨hA, h.m.keep hK (fun k h1 h2 => h.apart k h2 h1), fun k h1 h2 => (hW k h1).elim (fun h3 => h.apart k h3 h2) (fun h3 => by have := h.m.lt k h2; omega),
    fun k h1 => (hW k h1).elim (h.lowA k) (fun h3 => Nat.le_trans h.below.size h3), h.lowM, h.below.trans (hK.below h.below.size h.lowA)⟩
theorem PU.ref (h : PU w0 bA bM FA FM sA sM W) (hM : RefUAt W' bM FM' s') (hK : Keeps FM W W') (hW : Within W FM FM') : PU w0 bA bM FA FM' sA s' W' :=
  ⟨h.a.keep hK (fun k h1 h2 => h.apart k h1 h2), hM, fun k h1 h2 => (hW k h2).elim (fun h3 => h.apart k h1 h3) (fun h3 => by have := h.a.lt k h1; omega),
    h.lowA, fun k h1 => (hW k h1).elim (h.lowM k) (fun h3 => Nat.le_trans h.below.size h3), h.below.trans (hK.below h.below.size h.lowM)⟩
theorem PU.sub (h : PU w0 bA bM FA FM sA sM W) (u : Sub W) : PU w0 bA bM FA FM sA sM u.1 := h.keep u.2
end

/-- A deed of this layer. -/
structure DU where
  what : Int
  lo : Int
  hi : Int
  n : Int
/-- It is one of machine numbers. -/
def DU.wf (d : DU) : Prop := (Lit.int .i64 d.what).wf = true

def encU : Enc Try.prog DU where
  slice := 22
  elem := 31
  size := 4
  bytes := 32
  cells d := [.int .i64 d.what, .int .i64 d.lo, .int .i64 d.hi, .int .i64 d.n]
  zero := .agg #[.int .i64 0, .int .i64 0, .int .i64 0, .int .i64 0]
  und := Try.underlying22
  info := info_of _ _ _ _ _ (by kernel_rfl)
  zsize := rfl
  pos := by decide
  few := by decide
  len _ := rfl
  one d u h := by
    simp only [List.mem_cons, List.not_mem_nil, or_false] at h
    rcases h with rfl | rfl | rfl | rfl <;> rfl

theorem Reads.duAt {w : World} {a : Option Addr} {cap : Nat} {l : List DU} (h : Reads encU w (.slice a l.length cap) l) (i : Nat) (hi : i < l.length) : ∃ ad, a = some ad ∧ w.cell? (ad.add (i * 4)) = some (.int .i64 l[i].what) ∧ w.cell? ⟨(ad.add (i * 4)).block, (ad.add (i * 4)).off + 1, none⟩ = some (.int .i64 l[i].lo) ∧ w.cell? ⟨(ad.add (i * 4)).block, (ad.add (i * 4)).off + 2, none⟩ = some (.int .i64 l[i].hi) ∧ w.cell? ⟨(ad.add (i * 4)).block, (ad.add (i * 4)).off + 3, none⟩ = some (.int .i64 l[i].n) := by
  obtain ⟨ad, rfl, H⟩ := h.at i hi
  have h0 := H 0 (by decide)
  have h1 := H 1 (by decide)
  have h2 := H 2 (by decide)
  have h3 := H 3 (by decide)
  refine ⟨ad, rfl, by simpa [encU] using h0, ?_, ?_, ?_⟩
  · simp only [encU] at h1
    rw [← Addr.add_add, Addr.add, if_neg (by omega)] at h1
    simpa using h1
  · simp only [encU] at h2
    rw [← Addr.add_add, Addr.add, if_neg (by omega)] at h2
    simpa using h2
  · simp only [encU] at h3
    rw [← Addr.add_add, Addr.add, if_neg (by omega)] at h3
    simpa using h3

/-- Block p is a variable that holds a deed's pair and number. -/
def DuAt (w : World) (p : Nat) (d : DU) : Prop := w.heap[p]? = some (.cells #[.int .i64 d.what, .int .i64 d.lo, .int .i64 d.hi, .int .i64 d.n] 31 (0, 0))
section
variable {w w' : World} {p : Nat} {d : DU}
theorem DuAt.keep (h : DuAt w p d) {F : Nat → Prop} (hb : Keeps F w w') (hF : ¬ F p) : DuAt w' p d := (hb.block p (row_lt' h) hF).trans h
theorem DuAt.below (h : DuAt w p d) (hb : Below w.heap.size w w') : DuAt w' p d := h.keep (Keeps.of_below hb noBlock) (fun h => h)
theorem DuAt.cells (h : DuAt w p d) : w.cell? ⟨p, 0, none⟩ = some (.int .i64 d.what) ∧ w.cell? ⟨p, 1, none⟩ = some (.int .i64 d.lo) ∧ w.cell? ⟨p, 2, none⟩ = some (.int .i64 d.hi) ∧ w.cell? ⟨p, 3, none⟩ = some (.int .i64 d.n) := by
  refine ⟨?_, ?_, ?_, ?_⟩ <;> (rw [cell_of_row _ _ _ _ _ _ h]; rfl)
theorem DuAt.new (w : World) (a b c e : Int) : DuAt (w.alloc (.cells #[.int .i64 a, .int .i64 b, .int .i64 c, .int .i64 e] 31)) w.heap.size ⟨a, b, c, e⟩ := heap_alloc_new _ _
end

/-- With a variable beside them that holds a deed. -/
structure PUX (w0 : World) (bA bM : Nat) (FA FM : Nat → Prop) (sA sM : TS) (B : Nat) (d : DU) (W : World) : Prop where
  pu : PU w0 bA bM FA FM sA sM W
  x : DuAt W B d
  xa : ¬ FA B
  xm : ¬ FM B
section
variable {w0 W W' : World} {bA bM B : Nat} {FA FM FA' FM' : Nat → Prop} {sA sM s' : TS} {d : DU}
theorem PUX.keep (h : PUX w0 bA bM FA FM sA sM B d W) (hb : Below W.heap.size W W') : PUX w0 bA bM FA FM sA sM B d W' := ⟨h.pu.keep hb, h.x.below hb, h.xa, h.xm⟩
theorem PUX.table (h : PUX w0 bA bM FA FM sA sM B d W) (hA : UniqAt W' bA FA' s') (hK : Keeps FA W W') (hW : Within W FA FA') : PUX w0 bA bM FA' FM s' sM B d W' :=
  ⟨h.pu.table hA hK hW, h.x.keep hK h.xa, fun e => (hW B e).elim h.xa (fun h3 => by have := row_lt' h.x; omega), h.xm⟩
theorem PUX.ref (h : PUX w0 bA bM FA FM sA sM B d W) (hM : RefUAt W' bM FM' s') (hK : Keeps FM W W') (hW : Within W FM FM') : PUX w0 bA bM FA FM' sA s' B d W' :=
  ⟨h.pu.ref hM hK hW, h.x.keep hK h.xm, h.xa, fun e => (hW B e).elim h.xm (fun h3 => by have := row_lt' h.x; omega)⟩
theorem PUX.S (h : PUX w0 bA bM FA FM sA sM B d W) : W.cell? ⟨B, 1, none⟩ = some (.int .i64 d.lo) ∧ W.cell? ⟨B, 2, none⟩ = some (.int .i64 d.hi) ∧ W.cell? ⟨B, 3, none⟩ = some (.int .i64 d.n) := h.x.cells.2
theorem PU.withX {wr : World} (h : PU w0 bA bM FA FM sA sM wr) (a b c e : Int) : PUX w0 bA bM FA FM sA sM wr.heap.size ⟨a, b, c, e⟩ (wr.alloc (.cells #[.int .i64 a, .int .i64 b, .int .i64 c, .int .i64 e] 31)) :=
  ⟨h.keep ((Below.refl _ _).alloc (Nat.le_refl _) _), DuAt.new wr a b c e, fun e => by have := h.a.lt _ e; omega, fun e => by have := h.m.lt _ e; omega⟩
end

/-- At the loop's head. -/
structure LU (w : World) (n : Nat) (k : Nat) (bA bM : Nat) (s : TS) (W : World) : Prop where
  le : k ≤ n
  ok : s.Ok
  few : s.Few k
  ex : ∃ FA FM, PU w bA bM FA FM s s W

set_option maxRecDepth 100000 in
set_option maxHeartbeats 8000000 in
theorem uniqPlays (l : List DU) (v : Value) (w : World) (hv : Reads encU w v l) (_hl : l.length ≤ maxLen) (hwf : ∀ d ∈ l, d.wf) :
    Calls Try.prog 3 #[v] w fun e w' => e = .returned (.bool true) ∧ Below w.heap.size w w' := by
  obtain ⟨a, cap, rfl⟩ := hv.form
  go_enter Try.func3, Try.ntmps3
  go_wp2_with fail
  refine (up05 _).mono ?_
  rintro e w1 ⟨rfl, hb1⟩
  go_wp2_with fail
  refine (uniqNewS _).mono ?_
  rintro e w2 ⟨rfl, ⟨FA, hA, hFA⟩, hb2⟩
  by_cases hlen : l.length ≤ 400
  · have hl3 : ¬ 400 < (l.length : Int) := by omega
    have hb12 : Below w.heap.size w w2 := hb1.trans (hb2.mono hb1.size)
    have R0 : PU w (w1.heap.size + 1) w2.heap.size FA (foot1 w2.heap.size (.slice none 0 0)) ⟨[], 8⟩ ⟨[], 8⟩ (w2.alloc (.cells #[.slice none 0 0, .int .i64 8] 29)) := by
      refine ⟨hA.below ((Below.refl _ _).alloc (Nat.le_refl _) _), ⟨_, rfl, ⟨heap_alloc_new _ _, Owns.nil _ _, (fun h => by cases h)⟩⟩, ?_, fun k hk => Nat.le_trans hb1.size (hFA k hk), ?_, hb12.alloc hb12.size _⟩
      · rintro k hk (rfl | h)
        · have := hA.lt _ hk; omega
        · cases h
      · rintro k (rfl | h)
        · exact hb12.size
        · cases h
    have HV := Lib.hid hv
    have L0 := Lib.hid (show LU w l.length 0 (w1.heap.size + 1) w2.heap.size ⟨[], 8⟩ _ from ⟨Nat.zero_le _, TS.Ok.new, TS.Few.new, _, _, R0⟩)
    clear R0 hA hFA hv hb1 hb2 hb12
    generalize w1.heap.size + 1 = bA at *
    go_wp2
    generalize w2.heap.size = bM at *
    go_loopw [6] (fun i wr => ∃ (k : Nat) (s : TS), i = .int .i64 k ∧ LU w l.length k bA bM s wr) (fun i _ => l.length - (intOf i).toNat)
    case atStart => exact ⟨0, _, rfl, L0.out⟩
    case round =>
      clear L0
      obtain ⟨k, s, rfl, hk, ok, few, FA, FM, R⟩ := hrel
      by_cases hlt : k < l.length
      · have hk0 : (0 : Int) ≤ (k : Int) := by omega
        have hk1 : (k : Int) < (l.length : Int) := by omega
        obtain ⟨ad, rfl, q0, q1, q2, q3⟩ := (HV.out.keep R.below).duAt k hlt
        have hwk := hwf _ (List.getElem_mem hlt)
        generalize l[k] = d at *
        obtain ⟨What, Lo, Hi, N⟩ := d
        simp only [DU.wf] at q0 q1 q2 q3 hwk
        replace R := R.withX What Lo Hi N
        have hx0 := R.x.cells.1
        go_wp2_with fail
        refine (lawPick What 4 _ (by decide) (by decide) hwk).mono ?_
        rintro e wx ⟨rfl, rfl⟩
        clear q0 q1 q2 q3
        generalize wr.alloc (.cells #[.int .i64 What, .int .i64 Lo, .int .i64 Hi, .int .i64 N] 31) = W at *
        generalize wr.heap.size = B at *
        have hf1 := few.many
        have hf2 := few.slots
        rcases (by omega : What % 4 = 2 ∨ What % 4 = 3 ∨ (What % 4 = 0 ∨ What % 4 = 1)) with hp | hp | hp
        · rw [hp]
          obtain ⟨x1, x2, x3⟩ := R.S
          simp only at x1 x2 x3
          have okd := ok
          have fewd := few
          go_wp2_with fail
          refine (uniqGetS R.pu.a ok (by omega) Lo Hi).mono ?_
          rintro e W1 ⟨rfl, hbG⟩
          replace R := R.keep hbG
          clear hbG x1 x2 x3
          obtain ⟨x1, x2, x3⟩ := R.S
          simp only at x1 x2 x3
          go_wp2_with fail
          refine (refUGetS R.pu.m ok (by omega) Lo Hi).mono ?_
          rintro e W2 ⟨rfl, rfl⟩
          clear x1 x2 x3
          generalize (s.get (Lo, Hi)).1 = g1 at *
          generalize (s.get (Lo, Hi)).2 = g2 at *
          have R2 := Lib.hid R
          clear R
          generalize s = S at *
          go_wp2
          -- the look behind the deed
          have hb1 := fewd.many
          have hb2 := fewd.slots
          have hMany : ∀ u : Sub W1, Calls Try.prog 14 #[.pointer (some ⟨bA, 0, none⟩)] u.1 (fun e w'' => e = .returned (.int .i64 S.L.length) ∧ ∃ x : Sub W1, w'' = x.1) := fun u => subSame (uniqManyS (R2.out.keep u.2).pu.a)
          have hSlots : ∀ u : Sub W1, Calls Try.prog 15 #[.pointer (some ⟨bA, 0, none⟩)] u.1 (fun e w'' => e = .returned (.int .i64 S.slots) ∧ ∃ x : Sub W1, w'' = x.1) := fun u => subSame (uniqSlotsS (R2.out.keep u.2).pu.a okd (by omega))
          obtain ⟨vm, _, hRR⟩ := R2.out.pu.m
          have cT : ∀ u : Sub W1, u.1.cell? ⟨bM, 0, none⟩ = some vm := fun u => (hRR.below u.2).cells.1
          have cS : ∀ u : Sub W1, u.1.cell? ⟨bM, 1, none⟩ = some (.int .i64 S.slots) := fun u => (hRR.below u.2).cells.2
          obtain ⟨am, km, em, _⟩ := hRR.own.form
          subst em
          clear hRR
          refine wp_region_quiet_all (C := fun w' => ∃ u : Sub W1, w' = u.1) (by kernel_rfl) (by kernel_rfl) (InSub.drew W1) ?_
          go_big_quiet_step (fail)
          go_big_quiet_step (exact hMany _)
          iterate 8 (go_big_quiet_step (fail))
          go_big_quiet_step (exact hSlots _)
          iterate 6 (go_big_quiet_step (fail))
          refine wpQuiet_nil ?_
          clear cT cS hMany hSlots
          intro w' hw'
          obtain ⟨u, rfl⟩ := hw'
          have R3 := R2.out.pu.sub u
          clear R2
          generalize u.1 = W3 at *
          go_wp2
          exact ⟨⟨k + 1, S, by go_num, ⟨by omega, okd, fewd.mono (by omega), _, _, R3⟩⟩, by simp [intOf]; omega⟩
        · rw [hp]
          replace R := R.keep (Below.refl W.heap.size W).drew
          go_wp2
          have hS0 := R.S
          simp only at hS0
          have okd := ok.drop (Lo, Hi)
          have fewd := few.drop (Lo, Hi)
          replace HV := Lib.hid HV
          replace R := Lib.hid R
          go_region_held3 (fun w' => w'.cell? ⟨B, 1, none⟩ = some (.int .i64 Lo) ∧ w'.cell? ⟨B, 2, none⟩ = some (.int .i64 Hi) ∧ w'.cell? ⟨B, 3, none⟩ = some (.int .i64 N)) (first | assumption)
            (first
              | (go_at_call 10; refine (uniqDropS R.out.pu.a ok (by omega) Lo Hi).mono ?_; rintro e W1 ⟨rfl, FA1, hA1, hK1, hW1⟩; have R1 := Lib.hid (R.out.table hA1 hK1 hW1); have hS1 := R1.out.S; simp only at hS1; clear hA1 hK1 hW1)
              | (go_at_call 11; refine (refUDropS R1.out.pu.m ok (by omega) Lo Hi).mono ?_; rintro e W2 ⟨rfl, FM1, hM1, hK1, hW1⟩; have R2 := Lib.hid (R1.out.ref hM1 hK1 hW1); have hS2 := R2.out.S; simp only at hS2; clear hM1 hK1 hW1))
          generalize s.drop (Lo, Hi) = S at *
          go_wp2
          -- the look behind the deed
          have hb1 := fewd.many
          have hb2 := fewd.slots
          have hMany : ∀ u : Sub W2, Calls Try.prog 14 #[.pointer (some ⟨bA, 0, none⟩)] u.1 (fun e w'' => e = .returned (.int .i64 S.L.length) ∧ ∃ x : Sub W2, w'' = x.1) := fun u => subSame (uniqManyS (R2.out.keep u.2).pu.a)
          have hSlots : ∀ u : Sub W2, Calls Try.prog 15 #[.pointer (some ⟨bA, 0, none⟩)] u.1 (fun e w'' => e = .returned (.int .i64 S.slots) ∧ ∃ x : Sub W2, w'' = x.1) := fun u => subSame (uniqSlotsS (R2.out.keep u.2).pu.a okd (by omega))
          obtain ⟨vm, _, hRR⟩ := R2.out.pu.m
          have cT : ∀ u : Sub W2, u.1.cell? ⟨bM, 0, none⟩ = some vm := fun u => (hRR.below u.2).cells.1
          have cS : ∀ u : Sub W2, u.1.cell? ⟨bM, 1, none⟩ = some (.int .i64 S.slots) := fun u => (hRR.below u.2).cells.2
          obtain ⟨am, km, em, _⟩ := hRR.own.form
          subst em
          clear hRR
          refine wp_region_quiet_all (C := fun w' => ∃ u : Sub W2, w' = u.1) (by kernel_rfl) (by kernel_rfl) (InSub.drew W2) ?_
          go_big_quiet_step (fail)
          go_big_quiet_step (exact hMany _)
          iterate 8 (go_big_quiet_step (fail))
          go_big_quiet_step (exact hSlots _)
          iterate 6 (go_big_quiet_step (fail))
          refine wpQuiet_nil ?_
          clear cT cS hMany hSlots
          intro w' hw'
          obtain ⟨u, rfl⟩ := hw'
          have R3 := R2.out.pu.sub u
          clear R2
          generalize u.1 = W3 at *
          go_wp2
          exact ⟨⟨k + 1, S, by go_num, ⟨by omega, okd, fewd.mono (by omega), _, _, R3⟩⟩, by simp [intOf]; omega⟩
        · have hp2 : (What % 4 == 2) = false := by rw [beq_eq_false_iff_ne]; omega
          have hp3 : (What % 4 == 3) = false := by rw [beq_eq_false_iff_ne]; omega
          clear hp
          generalize What % 4 = P at *
          replace R := R.keep (Below.refl W.heap.size W).drew
          go_wp2
          have hS0 := R.S
          simp only at hS0
          have okd := ok.put ((Lo, Hi), N)
          have fewd := few.put ((Lo, Hi), N)
          replace HV := Lib.hid HV
          replace R := Lib.hid R
          go_region_held3 (fun w' => w'.cell? ⟨B, 1, none⟩ = some (.int .i64 Lo) ∧ w'.cell? ⟨B, 2, none⟩ = some (.int .i64 Hi) ∧ w'.cell? ⟨B, 3, none⟩ = some (.int .i64 N)) (first | assumption)
            (first
              | (go_at_call 12; refine (uniqPutS R.out.pu.a ok (by omega) Lo Hi N).mono ?_; rintro e W1 ⟨rfl, FA1, hA1, hK1, hW1⟩; have R1 := Lib.hid (R.out.table hA1 hK1 hW1); have hS1 := R1.out.S; simp only at hS1; clear hA1 hK1 hW1)
              | (go_at_call 13; refine (refUPutS R1.out.pu.m ok (by omega) (by omega) Lo Hi N).mono ?_; rintro e W2 ⟨rfl, FM1, hM1, hK1, hW1⟩; have R2 := Lib.hid (R1.out.ref hM1 hK1 hW1); have hS2 := R2.out.S; simp only at hS2; clear hM1 hK1 hW1))
          generalize s.put ((Lo, Hi), N) = S at *
          go_wp2
          -- the look behind the deed
          have hb1 := fewd.many
          have hb2 := fewd.slots
          have hMany : ∀ u : Sub W2, Calls Try.prog 14 #[.pointer (some ⟨bA, 0, none⟩)] u.1 (fun e w'' => e = .returned (.int .i64 S.L.length) ∧ ∃ x : Sub W2, w'' = x.1) := fun u => subSame (uniqManyS (R2.out.keep u.2).pu.a)
          have hSlots : ∀ u : Sub W2, Calls Try.prog 15 #[.pointer (some ⟨bA, 0, none⟩)] u.1 (fun e w'' => e = .returned (.int .i64 S.slots) ∧ ∃ x : Sub W2, w'' = x.1) := fun u => subSame (uniqSlotsS (R2.out.keep u.2).pu.a okd (by omega))
          obtain ⟨vm, _, hRR⟩ := R2.out.pu.m
          have cT : ∀ u : Sub W2, u.1.cell? ⟨bM, 0, none⟩ = some vm := fun u => (hRR.below u.2).cells.1
          have cS : ∀ u : Sub W2, u.1.cell? ⟨bM, 1, none⟩ = some (.int .i64 S.slots) := fun u => (hRR.below u.2).cells.2
          obtain ⟨am, km, em, _⟩ := hRR.own.form
          subst em
          clear hRR
          refine wp_region_quiet_all (C := fun w' => ∃ u : Sub W2, w' = u.1) (by kernel_rfl) (by kernel_rfl) (InSub.drew W2) ?_
          go_big_quiet_step (fail)
          go_big_quiet_step (exact hMany _)
          iterate 8 (go_big_quiet_step (fail))
          go_big_quiet_step (exact hSlots _)
          iterate 6 (go_big_quiet_step (fail))
          refine wpQuiet_nil ?_
          clear cT cS hMany hSlots
          intro w' hw'
          obtain ⟨u, rfl⟩ := hw'
          have R3 := R2.out.pu.sub u
          clear R2
          generalize u.1 = W3 at *
          go_wp2
          exact ⟨⟨k + 1, S, by go_num, ⟨by omega, okd, fewd, _, _, R3⟩⟩, by simp [intOf]; omega⟩
      · go_wp2
        go_ret
        exact ⟨rfl, R.below⟩
  · have hl3 : 400 < (l.length : Int) := by omega
    clear hA hFA
    go_wp2
    go_ret
    have hb12 : Below w.heap.size w w2 := hb1.trans (hb2.mono hb1.size)
    exact ⟨rfl, hb12.alloc hb12.size _⟩

end Go.Proofs.Ytlhpjmeegflmlaa
