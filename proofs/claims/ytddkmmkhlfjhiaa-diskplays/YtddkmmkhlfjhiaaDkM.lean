/- What the law DiskTorn goes through. -/
import Derived.Test.YtddkmmkhlfjhiaaDkL
import Derived.BigQuiet
namespace Go.Proofs.Ytddkmmkhlfjhiaa
open Go.ChangeShapes Go.WideShapes Go.ChangeAt Go.RowKit Go.Maps
set_option linter.unusedVariables false

theorem below_drewN {B : Nat} {w w' : World} (h : Below B w w') (n : Nat) : Below B w (w'.drewN n) := ⟨h.os, h.tape, h.output, h.size, h.block⟩

theorem write_calm {d : Dk} {i : Nat} {l : List Int} (hd : d.down = false) (hl : d.left = 0) (hi : i < d.n) (hb : l.length ≤ 64) : writeE d i l = 0 ∧ writeD d i l = { d with pend := d.pend ++ [⟨i, secL l⟩], ops := d.ops + 1 } := by
  have hc : closedE d (i : Int) = 0 := closedE_zero.2 ⟨hd, by omega, by omega⟩
  constructor
  · rw [writeE, if_pos hc, if_neg (by omega), workE, if_neg (by omega)]
  · rw [writeD, if_pos ⟨hc, hb⟩, workD]
    simp [pushD, hl]
theorem flush_calm {d : Dk} (hd : d.down = false) (hl : d.left = 0) : flushE d = 0 ∧ flushD d = { d with sure := layAll (fun _ => 64) 0 d.pend d.sure, pend := [], ops := d.ops + 1 } := by
  constructor
  · simp [flushE, hd, workE, hl]
  · simp [flushD, hd, hl, settleD, workD]

/-! The disks that DiskTorn goes through. -/
def t1 (s : Nat) (o : List Int) : Dk := writeD (newD 32) s o
def t2 (s : Nat) (o : List Int) : Dk := flushD (t1 s o)
def t3 (s : Nat) (o f : List Int) : Dk := writeD (t2 s o) s f
def t4 (s : Nat) (o f : List Int) (k : Int) : Dk := crashD (t3 s o f) [k]

theorem t1_is {s : Nat} {o : List Int} (hs : s < 32) (ho : o.length ≤ 64) : writeE (newD 32) s o = 0 ∧ t1 s o = ⟨32, fun _ => zeros, [⟨s, secL o⟩], 0, false, 1⟩ := by
  obtain ⟨h1, h2⟩ := write_calm (d := newD 32) (i := s) (l := o) rfl rfl hs ho
  exact ⟨h1, by rw [t1, h2]; rfl⟩
theorem t2_is {s : Nat} {o : List Int} (hs : s < 32) (ho : o.length ≤ 64) : flushE (t1 s o) = 0 ∧ t2 s o = ⟨32, updS (fun _ => zeros) s (secL o), [], 0, false, 2⟩ := by
  rw [t2, (t1_is hs ho).2]
  obtain ⟨h1, h2⟩ := flush_calm (d := ⟨32, fun _ => zeros, [⟨s, secL o⟩], 0, false, 1⟩) rfl rfl
  refine ⟨h1, ?_⟩
  rw [h2]
  simp [layAll, over_all (secL_len ho) zeros_len]
theorem t3_is {s : Nat} {o f : List Int} (hs : s < 32) (ho : o.length ≤ 64) (hf : f.length ≤ 64) : writeE (t2 s o) s f = 0 ∧ t3 s o f = ⟨32, updS (fun _ => zeros) s (secL o), [⟨s, secL f⟩], 0, false, 3⟩ := by
  rw [t3, (t2_is hs ho).2]
  obtain ⟨h1, h2⟩ := write_calm (d := ⟨32, updS (fun _ => zeros) s (secL o), [], 0, false, 2⟩) (i := s) (l := f) rfl rfl hs hf
  exact ⟨h1, by rw [h2]; rfl⟩
theorem t4_is {s : Nat} {o f : List Int} {k : Int} (hs : s < 32) (ho : o.length ≤ 64) (hf : f.length ≤ 64) : t4 s o f k = ⟨32, updS (updS (fun _ => zeros) s (secL o)) s (over (keepN [k] 0) (secL f) (secL o)), [], 0, false, 3⟩ := by
  rw [t4, (t3_is hs ho hf).2]
  simp [crashD, settleD, layAll, updS]
theorem t2_read {s : Nat} {o : List Int} (hs : s < 32) (ho : o.length ≤ 64) : closedE (t2 s o) s = 0 ∧ readL (t2 s o) s = secL o := by
  rw [(t2_is hs ho).2]
  have hc : closedE ⟨32, updS (fun _ => zeros) s (secL o), [], 0, false, 2⟩ (s : Int) = 0 := closedE_zero.2 ⟨rfl, by omega, by show (s : Int) < ((32 : Nat) : Int); omega⟩
  exact ⟨hc, by rw [readL, if_pos hc]; simp [lastB, updS]⟩
theorem t3_read {s : Nat} {o f : List Int} (hs : s < 32) (ho : o.length ≤ 64) (hf : f.length ≤ 64) : closedE (t3 s o f) s = 0 ∧ readL (t3 s o f) s = secL f := by
  rw [(t3_is hs ho hf).2]
  have hc : closedE ⟨32, updS (fun _ => zeros) s (secL o), [⟨s, secL f⟩], 0, false, 3⟩ (s : Int) = 0 := closedE_zero.2 ⟨rfl, by omega, by show (s : Int) < ((32 : Nat) : Int); omega⟩
  exact ⟨hc, by rw [readL, if_pos hc]; simp [lastB]⟩
theorem t4_read {s : Nat} {o f : List Int} {k : Int} (hs : s < 32) (ho : o.length ≤ 64) (hf : f.length ≤ 64) : closedE (t4 s o f k) s = 0 ∧ readL (t4 s o f k) s = over (keepN [k] 0) (secL f) (secL o) := by
  rw [t4_is hs ho hf]
  have hc : closedE ⟨32, updS (updS (fun _ => zeros) s (secL o)) s (over (keepN [k] 0) (secL f) (secL o)), [], 0, false, 3⟩ (s : Int) = 0 := closedE_zero.2 ⟨rfl, by omega, by show (s : Int) < ((32 : Nat) : Int); omega⟩
  exact ⟨hc, by rw [readL, if_pos hc]; simp [lastB, updS]⟩

theorem over_at {k i : Nat} {b s : List Int} (hb : b.length = 64) (hk : k ≤ 64) : (over k b s).getD i 0 = if i < k then b.getD i 0 else s.getD i 0 := by
  have hl : (b.take k).length = k := by rw [List.length_take]; omega
  unfold over
  by_cases h : i < k
  · rw [if_pos h, List.getD_eq_getElem?_getD, List.getElem?_append_left (by omega), List.getElem?_take, if_pos h, List.getD_eq_getElem?_getD]
  · rw [if_neg h, List.getD_eq_getElem?_getD, List.getElem?_append_right (by omega), List.getElem?_drop, hl, Nat.add_sub_cancel' (by omega), List.getD_eq_getElem?_getD]

theorem keep1 (k : Int) (i : Nat) (hi : i < 64) : i < keepN [k] 0 ↔ (i : Int) < k := by
  unfold keepN
  simp only [List.getD_cons_zero]
  omega

theorem torn_big (n : Int) (oa fa : Option Addr) (oc fc ln lf : Nat) (k : Int) (w : World) (h : 64 < ln ∨ 64 < lf) :
    Calls Try.prog 6 #[.int .u8 n, .agg #[.slice oa ln oc, .slice fa lf fc, .int .i64 k]] w fun r w' => r = .returned (.bool true) ∧ Below w.heap.size w w' := by
  rcases Decidable.em (64 < ln) with h1 | h1
  · clear h
    go_enter Try.func6, Try.ntmps6
    go_wp2_with fail
    refine (alive_any _).mono ?_
    rintro e w1 ⟨rfl, b1⟩
    have B1 : Hid (Below w.heap.size w w1) := ((Below.refl _ w).alloc (Nat.le_refl _) _).trans (b1.mono (by simp))
    have c0 : w1.cell? ⟨w.heap.size, 0, none⟩ = some (.slice oa ln oc) := (b1.cell (p := ⟨w.heap.size, 0, none⟩) (by simp)).trans (by rw [cell_of_row _ _ _ _ _ _ (Go.heap_alloc_new w _)]; rfl)
    have c1 : w1.cell? ⟨w.heap.size, 1, none⟩ = some (.slice fa lf fc) := (b1.cell (p := ⟨w.heap.size, 1, none⟩) (by simp)).trans (by rw [cell_of_row _ _ _ _ _ _ (Go.heap_alloc_new w _)]; rfl)
    have c2 : w1.cell? ⟨w.heap.size, 2, none⟩ = some (.int .i64 k) := (b1.cell (p := ⟨w.heap.size, 2, none⟩) (by simp)).trans (by rw [cell_of_row _ _ _ _ _ _ (Go.heap_alloc_new w _)]; rfl)
    clear b1
    go_wp2_with fail
    go_quiet (fail)
    go_wp2
    go_ret
    exact ⟨rfl, below_drewN B1.out _⟩
  · have h2 : 64 < lf := by omega
    clear h
    go_enter Try.func6, Try.ntmps6
    go_wp2_with fail
    refine (alive_any _).mono ?_
    rintro e w1 ⟨rfl, b1⟩
    have B1 : Hid (Below w.heap.size w w1) := ((Below.refl _ w).alloc (Nat.le_refl _) _).trans (b1.mono (by simp))
    have c0 : w1.cell? ⟨w.heap.size, 0, none⟩ = some (.slice oa ln oc) := (b1.cell (p := ⟨w.heap.size, 0, none⟩) (by simp)).trans (by rw [cell_of_row _ _ _ _ _ _ (Go.heap_alloc_new w _)]; rfl)
    have c1 : w1.cell? ⟨w.heap.size, 1, none⟩ = some (.slice fa lf fc) := (b1.cell (p := ⟨w.heap.size, 1, none⟩) (by simp)).trans (by rw [cell_of_row _ _ _ _ _ _ (Go.heap_alloc_new w _)]; rfl)
    have c2 : w1.cell? ⟨w.heap.size, 2, none⟩ = some (.int .i64 k) := (b1.cell (p := ⟨w.heap.size, 2, none⟩) (by simp)).trans (by rw [cell_of_row _ _ _ _ _ _ (Go.heap_alloc_new w _)]; rfl)
    clear b1
    go_wp2_with fail
    go_quiet (fail)
    go_wp2
    go_ret
    exact ⟨rfl, below_drewN B1.out _⟩

set_option maxHeartbeats 8000000 in
theorem torn_fit (m : Nat) (oa fa : Option Addr) (oc fc : Nat) (o f : List Int) (k : Int) (w : World) (hm : m < 256) (hk : -9223372036854775808 ≤ k ∧ k ≤ 9223372036854775807) (hO : IsB w oa o) (hF : IsB w fa f) (ho : o.length ≤ 64) (hf : f.length ≤ 64) :
    Calls Try.prog 6 #[.int .u8 (m : Nat), .agg #[.slice oa o.length oc, .slice fa f.length fc, .int .i64 k]] w fun r w' => r = .returned (.bool true) ∧ Below w.heap.size w w' := by
  have HO : Hid (IsB w oa o) := hO
  have HF : Hid (IsB w fa f) := hF
  obtain ⟨s, hs⟩ : ∃ s, m % 32 = s := ⟨_, rfl⟩
  have hs32 : s < 32 := by omega
  have tm : (m : Int).tmod 32 = (s : Nat) := by rw [Int.tmod_eq_emod_of_nonneg (by omega), ← hs]; omega
  have E1 := t1_is hs32 ho
  have E2 := t2_is hs32 ho
  have E3 := t3_is hs32 ho hf
  have X1 : Hid (writeE (newD 32) s o = 0) := E1.1
  have X2 : Hid (flushE (t1 s o) = 0) := E2.1
  have X3 : Hid (writeE (t2 s o) s f = 0) := E3.1
  have O1 : Hid ((t1 s o).ops ≤ 1000000000) := by show (t1 s o).ops ≤ _; rw [E1.2]; simp
  have O2 : Hid ((t2 s o).ops ≤ 1000000000) := by show (t2 s o).ops ≤ _; rw [E2.2]; simp
  have A2 : Hid (closedE (t2 s o) s = 0 ∧ readL (t2 s o) s = secL o) := t2_read hs32 ho
  have A3 : Hid (closedE (t3 s o f) s = 0 ∧ readL (t3 s o f) s = secL f) := t3_read hs32 ho hf
  have A4 : Hid (closedE (t4 s o f k) s = 0 ∧ readL (t4 s o f k) s = over (keepN [k] 0) (secL f) (secL o)) := t4_read hs32 ho hf
  have LO : Hid ((secL o).length = 64) := secL_len ho
  have LF : Hid ((secL f).length = 64) := secL_len hf
  have HK : Hid (-9223372036854775808 ≤ k ∧ k ≤ 9223372036854775807) := hk
  clear E1 E2 E3 hO hF hs hk
  go_enter Try.func6, Try.ntmps6
  go_wp2_with fail
  refine (alive_any _).mono ?_
  rintro e w1 ⟨rfl, b1⟩
  have B1 : Hid (Below w.heap.size w w1) := ((Below.refl _ w).alloc (Nat.le_refl _) _).trans (b1.mono (by simp))
  have c0 : w1.cell? ⟨w.heap.size, 0, none⟩ = some (.slice oa o.length oc) := (b1.cell (p := ⟨w.heap.size, 0, none⟩) (by simp)).trans (by rw [cell_of_row _ _ _ _ _ _ (Go.heap_alloc_new w _)]; rfl)
  have c1 : w1.cell? ⟨w.heap.size, 1, none⟩ = some (.slice fa f.length fc) := (b1.cell (p := ⟨w.heap.size, 1, none⟩) (by simp)).trans (by rw [cell_of_row _ _ _ _ _ _ (Go.heap_alloc_new w _)]; rfl)
  have c2 : w1.cell? ⟨w.heap.size, 2, none⟩ = some (.int .i64 k) := (b1.cell (p := ⟨w.heap.size, 2, none⟩) (by simp)).trans (by rw [cell_of_row _ _ _ _ _ _ (Go.heap_alloc_new w _)]; rfl)
  clear b1
  go_wp2_with fail
  go_quiet (fail)
  have B1' := below_drewN B1.out nq
  generalize World.drewN w1 nq = w1' at B1' ⊢
  clear c0 c1 c2 B1
  have B1 : Hid (Below w.heap.size w w1') := B1'
  have z1 := B1'.size
  clear B1'
  go_wp2_with fail
  refine (new_fit 32 w1' (by decide) (by decide)).mono ?_
  rintro e w2 ⟨rfl, hw2⟩
  have I2 : Hid (IsD w2 w.heap.size (w1'.heap.size + 2) 0 (newD 32)) := by show IsD _ _ _ _ _; rw [← hw2]; exact newW_is w1' _ 32 z1 (by decide)
  have B2 : Hid (Below w.heap.size w w2) := by show Below _ _ _; rw [← hw2]; exact B1.out.trans ((newW_below w1' 32).mono z1)
  have z2 := B2.out.size
  obtain ⟨b, hb⟩ : ∃ b, w1'.heap.size + 2 = b := ⟨_, rfl⟩
  rw [hb] at I2 ⊢
  clear hw2 B1 hb
  go_wp2_with fail
  refine (write_any w.heap.size b 0 (newD 32) s _ _ _ o _ I2.out z2 rfl (HO.out.keep B2.out) (by decide) (by decide)).mono ?_
  rw [X1.out]
  rintro e w3 ⟨rfl, i3, t3'⟩
  have I3 : Hid (IsD w3 w.heap.size b 1 (t1 s o)) := i3
  have B3 : Hid (Below w.heap.size w w3) := B2.out.trans (t3'.below z2)
  have z3 := B3.out.size
  clear i3 t3' I2 B2 z2
  go_wp2_with fail
  refine (flush_any w.heap.size b 1 (t1 s o) _ I3.out z3 (by decide) O1.out).mono ?_
  rw [X2.out]
  rintro e w4 ⟨rfl, i4, t4'⟩
  have I4 : Hid (IsD w4 w.heap.size b 1 (t2 s o)) := i4
  have B4 : Hid (Below w.heap.size w w4) := B3.out.trans (t4'.below z3)
  have z4 := B4.out.size
  clear i4 t4' I3 B3 z3
  go_wp2_with fail
  refine (read_open w.heap.size b 1 (t2 s o) s _ I4.out A2.out.1).mono ?_
  rw [A2.out.2]
  rintro e w5 ⟨rfl, r5, b5⟩
  obtain ⟨ga, hga⟩ : ∃ ga, w4.heap.size = ga := ⟨_, rfl⟩
  rw [hga] at r5 ⊢
  have R5 : Hid (RowB w5 ga 71 (secL o)) := r5
  have I5 : Hid (IsD w5 w.heap.size b 1 (t2 s o)) := I4.out.keep b5
  have B5 : Hid (Below w.heap.size w w5) := B4.out.trans (b5.mono z4)
  have z5 := B5.out.size
  clear r5 b5 I4 B4 z4 hga
  go_wp2_with fail
  refine (write_any w.heap.size b 1 (t2 s o) s _ _ _ f _ I5.out z5 rfl (HF.out.keep B5.out) (by decide) O2.out).mono ?_
  rw [X3.out]
  rintro e w6 ⟨rfl, i6, t6⟩
  have I6 : Hid (IsD w6 w.heap.size b 2 (t3 s o f)) := i6
  have B6 : Hid (Below w.heap.size w w6) := B5.out.trans (t6.below z5)
  have R6 : Hid (RowB w6 ga 71 (secL o)) := R5.out.turn t6 rfl
  have z6 := B6.out.size
  clear i6 t6 I5 B5 z5 R5
  go_wp2_with fail
  refine (read_open w.heap.size b 2 (t3 s o f) s _ I6.out A3.out.1).mono ?_
  rw [A3.out.2]
  rintro e w7 ⟨rfl, r7, b7⟩
  obtain ⟨gb, hgb⟩ : ∃ gb, w6.heap.size = gb := ⟨_, rfl⟩
  rw [hgb] at r7 ⊢
  have R7 : Hid (RowB w7 gb 71 (secL f)) := r7
  have Q7 : Hid (RowB w7 ga 71 (secL o)) := R6.out.keep b7
  have I7 : Hid (IsD w7 w.heap.size b 2 (t3 s o f)) := I6.out.keep b7
  have B7 : Hid (Below w.heap.size w w7) := B6.out.trans (b7.mono z6)
  have z7 := B7.out.size
  clear r7 b7 I6 B6 z6 R6 hgb
  go_wp2_with fail
  have I8 : Hid (IsD (w7.alloc (.cells #[.int .i64 k] 3)) w.heap.size b 2 (t3 s o f)) := I7.out.keep ((Below.refl _ _).alloc (Nat.le_refl _) _)
  refine (crash_any w.heap.size b 2 (t3 s o f) _ 1 1 [k] _ I8.out (by simp; omega) (by decide) rfl (by simp) (isI_new w7 k HK.out _)).mono ?_
  rintro e w8 ⟨rfl, i8, t8⟩
  have I9 : Hid (IsD w8 w.heap.size b 2 (t4 s o f k)) := i8
  have B8 : Hid (Below w.heap.size w w8) := (B7.out.alloc z7 _).trans (t8.below (by simp; omega))
  have R8 : Hid (RowB w8 gb 71 (secL f)) := (R7.out.keep ((Below.refl _ _).alloc (Nat.le_refl _) _)).turn t8 rfl
  have Q8 : Hid (RowB w8 ga 71 (secL o)) := (Q7.out.keep ((Below.refl _ _).alloc (Nat.le_refl _) _)).turn t8 rfl
  have z8 := B8.out.size
  clear i8 t8 I8 I7 B7 z7 R7 Q7
  go_wp2_with fail
  refine (read_open w.heap.size b 2 (t4 s o f k) s _ I9.out A4.out.1).mono ?_
  rw [A4.out.2]
  rintro e w9 ⟨rfl, r9, b9⟩
  obtain ⟨gc, hgc⟩ : ∃ gc, w8.heap.size = gc := ⟨_, rfl⟩
  rw [hgc] at r9 ⊢
  have P9 : Hid (RowB w9 gc 71 (over (keepN [k] 0) (secL f) (secL o))) := r9
  have R9 : Hid (RowB w9 gb 71 (secL f)) := R8.out.keep b9
  have Q9 : Hid (RowB w9 ga 71 (secL o)) := Q8.out.keep b9
  have B9 : Hid (Below w.heap.size w w9) := B8.out.trans (b9.mono z8)
  clear r9 b9 I9 B8 z8 R8 Q8 hgc
  go_wp2
  go_loopw [17] (fun iv wr => ∃ i q : Nat, i ≤ 64 ∧ iv = .int .i64 (i : Nat) ∧ wr = w9.drewN q) (fun iv _ => 64 - (intOf iv).toNat)
  case atStart => exact ⟨0, 0, by omega, rfl, rfl⟩
  case round =>
    obtain ⟨i, q, hi, rfl, rfl⟩ := hrel
    by_cases h64 : i < 64
    · have KI := keep1 k i h64
      have hov := over_at (k := keepN [k] 0) (i := i) (b := secL f) (s := secL o) LF.out (keepN_le _ _)
      have pc := P9.out.cell i (by rw [over_len LF.out LO.out]; exact h64)
      have pb := R9.out.cell i (by rw [LF.out]; exact h64)
      have pa := Q9.out.cell i (by rw [LO.out]; exact h64)
      rw [hov] at pc
      obtain ⟨xb, hxb⟩ : ∃ xb, (secL f).getD i 0 = xb := ⟨_, rfl⟩
      obtain ⟨xa, hxa⟩ : ∃ xa, (secL o).getD i 0 = xa := ⟨_, rfl⟩
      rw [hxb, hxa] at pc
      rw [hxb] at pb
      rw [hxa] at pa
      by_cases hik : (i : Int) < k
      · rw [if_pos (KI.2 hik)] at pc
        clear KI hov hxb hxa pa
        have dk : decide ((i : Int) < k) = true := by simpa using hik
        have dk2 : decide (k ≤ (i : Int)) = false := by simpa using hik
        go_wp2_with fail
        go_quiet (fail)
        go_wp2
        go_roundw
        case rel => exact ⟨i + 1, _, by omega, by go_num, rfl⟩
        case measure => simp [intOf]; omega
      · rw [if_neg (fun h => hik (KI.1 h))] at pc
        clear KI hov hxb hxa pb
        have dk : decide ((i : Int) < k) = false := by simpa using hik
        have dk2 : decide (k ≤ (i : Int)) = true := by simp; omega
        have dk3 : k ≤ (i : Int) := by omega
        go_wp2_with fail
        go_quiet (fail)
        go_wp2
        go_roundw
        case rel => exact ⟨i + 1, _, by omega, by go_num, rfl⟩
        case measure => simp [intOf]; omega
    · obtain rfl : i = 64 := by omega
      go_wp2
      go_ret
      exact ⟨rfl, below_drewN B9.out _⟩
end Go.Proofs.Ytddkmmkhlfjhiaa
