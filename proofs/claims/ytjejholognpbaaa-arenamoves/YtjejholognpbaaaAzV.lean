/- What the law ArenaMoves goes through. -/
import Derived.Test.YtjejholognpbaaaAzA
import Derived.Test.YtjejholognpbaaaArJ
namespace Go.Proofs.Ytjejholognpbaaa
open Go.RowKit
set_option linter.unusedVariables false

/-- What lies at a place behind a move. -/
theorem move_at {l : List Int} {f t k i : Nat} (hf : f + k ≤ l.length) (ht : t + k ≤ l.length) (hi : i < l.length) :
    (overR l t ((l.drop f).take k)).getD i 0 = if t ≤ i ∧ i < t + k then l.getD (f + i - t) 0 else l.getD i 0 := by
  have hk : ((l.drop f).take k).length = k := by simp; omega
  unfold overR
  rw [hk]
  simp only [List.getD_eq_getElem?_getD]
  by_cases h1 : i < t
  · rw [if_neg (by omega), List.append_assoc, List.getElem?_append_left (by simp; omega), List.getElem?_take, if_pos h1]
  · by_cases h2 : i < t + k
    · rw [if_pos ⟨by omega, h2⟩, List.getElem?_append_left (by simp; omega), List.getElem?_append_right (by simp; omega), List.getElem?_take, List.getElem?_drop]
      have e : (l.take t).length = t := by simp; omega
      rw [e, if_pos (by omega), show f + (i - t) = f + i - t from by omega]
    · rw [if_neg (by omega), List.getElem?_append_right (by simp; omega), List.getElem?_drop]
      have e : (l.take t ++ (l.drop f).take k).length = t + k := by simp; omega
      rw [e, show t + k + (i - (t + k)) = i from by omega]

theorem Got.row {B : Nat} {w : World} {a : Option Addr} {l : List Int} (h : Got B w a l) (hl : 0 < l.length) : ∃ g, a = some ⟨g, 0, none⟩ ∧ B ≤ g ∧ RowB w g l := by
  rcases h with rfl | h
  · simp at hl
  · exact h

theorem moves_long (a : Option Addr) (cap : Nat) (l : List Int) (x y z : Nat) (w : World) (hl : 1024 < l.length) (hm : l.length ≤ maxLen) :
    Calls Try.prog 7 #[.slice a l.length cap, .agg #[.int .u16 (x : Nat), .int .u16 (y : Nat), .int .u16 (z : Nat)]] w fun e w' => e = .returned (.bool true) ∧ Below w.heap.size w w' := by
  unfold maxLen at hm
  have hl' : (1024 : Int) < (l.length : Int) := by omega
  have B0 : Hid (Below w.heap.size w (w.alloc (.cells #[.int .u16 (x : Nat), .int .u16 (y : Nat), .int .u16 (z : Nat)] 53))) := (Below.refl _ w).alloc (Nat.le_refl _) _
  go_enter Try.func7, Try.ntmps7
  go_wp2_with (go_at_call 9; refine (alive_any _).mono ?_; rintro e w1 ⟨rfl, b1⟩; have B1 : Hid (Below w.heap.size w w1) := B0.out.trans (b1.mono (by simp)); clear b1)
  go_ret
  exact ⟨rfl, B1.out⟩

set_option maxHeartbeats 4000000 in
theorem moves_fit (a : Option Addr) (cap : Nat) (l : List Int) (x y z : Nat) (w : World) (hB : IsB w a l) (hl : l.length ≤ 1024) (hx : x < 65536) (hy : y < 65536) (hz : z < 65536) :
    Calls Try.prog 7 #[.slice a l.length cap, .agg #[.int .u16 (x : Nat), .int .u16 (y : Nat), .int .u16 (z : Nat)]] w fun e w' => e = .returned (.bool true) ∧ Below w.heap.size w w' := by
  have HB : Hid (IsB w a l) := hB
  obtain ⟨D, hD⟩ : ∃ D, w.alloc (.cells #[.int .u16 (x : Nat), .int .u16 (y : Nat), .int .u16 (z : Nat)] 53) = D := ⟨_, rfl⟩
  have BD : Hid (Below w.heap.size w D) := by show Below _ _ _; rw [← hD]; exact (Below.refl _ w).alloc (Nat.le_refl _) _
  have SD : Hid (D.heap.size = w.heap.size + 1) := by show _ = _; rw [← hD]; simp
  have QD : D.heap[w.heap.size]? = some (.cells #[.int .u16 (x : Nat), .int .u16 (y : Nat), .int .u16 (z : Nat)] 53 (0, 0)) := by rw [← hD]; exact Go.heap_alloc_new w _
  have q0 : D.cell? ⟨w.heap.size, 0, none⟩ = some (.int .u16 (x : Nat)) := cell_of_row _ _ 0 _ _ _ QD
  have q1 : D.cell? ⟨w.heap.size, 1, none⟩ = some (.int .u16 (y : Nat)) := cell_of_row _ _ 1 _ _ _ QD
  have q2 : D.cell? ⟨w.heap.size, 2, none⟩ = some (.int .u16 (z : Nat)) := cell_of_row _ _ 2 _ _ _ QD
  have Q0 : Hid (D.cell? ⟨w.heap.size, 0, none⟩ = some (.int .u16 (x : Nat)) ∧ D.cell? ⟨w.heap.size, 1, none⟩ = some (.int .u16 (y : Nat)) ∧ D.cell? ⟨w.heap.size, 2, none⟩ = some (.int .u16 (z : Nat))) := ⟨q0, q1, q2⟩
  obtain ⟨Z, hZ⟩ : ∃ Z : List Int, List.replicate (4 * 256) 0 = Z := ⟨_, rfl⟩
  have EZ : Hid (List.replicate (4 * 256) 0 = Z) := hZ
  have ZL : Z.length = 1024 := by rw [← hZ]; exact List.length_replicate
  have ZA : AllB Z := by rw [← hZ]; exact AllB.zeros _
  have E1 : Hid (errR Z.length (256 - 256) (l.length : Nat) = 0) := by show _ = _; rw [ZL]; exact errR_in (by unfold inR; omega)
  obtain ⟨L, hL⟩ : ∃ L, writeR Z (256 - 256) l = L := ⟨_, rfl⟩
  have EL : Hid (writeR Z (256 - 256) l = L) := hL
  have LL : L.length = 1024 := by rw [← hL, writeR_len, ZL]
  have HLL : Hid (L.length = 1024) := LL
  have LA : AllB L := by rw [← hL]; exact ZA.write hB.all _
  have HLA : Hid (AllB L) := LA
  obtain ⟨f, hf⟩ : ∃ f, x % 1024 = f := ⟨_, rfl⟩
  obtain ⟨t, ht⟩ : ∃ f, y % 1024 = f := ⟨_, rfl⟩
  obtain ⟨k, hk⟩ : ∃ f, z % 1024 = f := ⟨_, rfl⟩
  have hf1 : f < 1024 := by omega
  have ht1 : t < 1024 := by omega
  have hk1 : k < 1024 := by omega
  have ef : (x : Int) % 1024 = (f : Int) := by omega
  have et : (y : Int) % 1024 = (t : Int) := by omega
  have ek : (z : Int) % 1024 = (k : Int) := by omega
  have f256 : Fits 256 := by unfold Fits; omega
  have FF : Hid (Fits (256 + (f : Int)) ∧ Fits (256 + (t : Int)) ∧ Fits (k : Int)) := by refine ⟨?_, ?_, ?_⟩ <;> (unfold Fits; omega)
  have HML : Hid (l.length ≤ maxLen) := by show _ ≤ _; unfold maxLen; omega
  have l1024 : (l.length : Int) ≤ 1024 := by omega
  clear QD hZ hL hB ZA LA ZL LL
  by_cases hin : f + k ≤ 1024 ∧ t + k ≤ 1024
  · obtain ⟨i1, i2⟩ := hin
    have IN1 : inR L.length (256 + (f : Int) - 256) (k : Int) := by rw [HLL.out]; unfold inR; omega
    have IN2 : inR L.length (256 + (t : Int) - 256) (k : Int) := by rw [HLL.out]; unfold inR; omega
    have EM : Hid (moveE L.length (256 + (f : Int) - 256) (256 + (t : Int) - 256) (k : Int) = 0) := if_pos ⟨IN1, IN2⟩
    obtain ⟨N, hN⟩ : ∃ N, moveR L (256 + (f : Int) - 256) (256 + (t : Int) - 256) (k : Int) = N := ⟨_, rfl⟩
    have EN : Hid (moveR L (256 + (f : Int) - 256) (256 + (t : Int) - 256) (k : Int) = N) := hN
    have NL : Hid (N.length = 1024) := by show _ = _; rw [← hN, moveR_len, HLL.out]
    have NA : Hid (AllB N) := by show AllB _; rw [← hN]; exact HLA.out.move _ _ _
    have NAT : Hid (∀ i, i < 1024 → N.getD i 0 = if t ≤ i ∧ i < t + k then L.getD (f + i - t) 0 else L.getD i 0) := fun i hi => by
      have hl' := HLL.out
      rw [← hN, moveR, if_pos ⟨IN1, IN2⟩, readR_in IN1, show (256 + (f : Int) - 256).toNat = f from by omega, show (256 + (t : Int) - 256).toNat = t from by omega, Int.toNat_natCast]
      exact move_at (by omega) (by omega) (by omega)
    have j1 : (f : Int) + (k : Int) ≤ 1024 := by omega
    have j2 : (t : Int) + (k : Int) ≤ 1024 := by omega
    clear hN IN1 IN2
    go_enter Try.func7, Try.ntmps7
    go_wp2_with fail
    refine (alive_any _).mono ?_
    rintro e w1 ⟨rfl, b1⟩
    have B1 : Hid (Below D.heap.size D w1) := b1
    clear b1
    go_wp2_with fail
    refine (new_any 256 4 _ (by decide) (by decide) (by decide)).mono ?_
    rw [EZ.out]
    rintro e w2 ⟨rfl, i2', b2, s2⟩
    obtain ⟨pb, hpb⟩ : ∃ pb, w1.heap.size + 1 = pb := ⟨_, rfl⟩
    obtain ⟨pg, hpg⟩ : ∃ pg, w1.heap.size = pg := ⟨_, rfl⟩
    have I2 : Hid (IsA w2 pb pg 256 Z) := by show IsA _ _ _ _ _; rw [← hpb, ← hpg]; exact i2'
    have B2 : Hid (Below D.heap.size D w2) := B1.out.trans (b2.mono B1.out.size)
    have GE : Hid (D.heap.size ≤ pg) := by show _ ≤ _; rw [← hpg]; exact B1.out.size
    rw [hpb]
    clear i2' b2 s2 hpb hpg
    go_wp2_with fail
    refine (write_any pb pg 256 256 Z l a _ cap _ I2.out f256 rfl ((HB.out.keep BD.out).keep B2.out) HML.out).mono ?_
    rw [E1.out, EL.out]
    rintro e w3 ⟨rfl, i3, t3⟩
    have I3 : Hid (IsA w3 pb pg 256 L) := i3
    have B3 : Hid (Below D.heap.size D w3) := B2.out.trans (t3.below GE.out B2.out.size)
    clear i3 t3
    go_wp2_with fail
    refine (bytes_any pb pg 256 L _ I3.out).mono ?_
    rw [HLL.out]
    rintro e w4 ⟨a4, rfl, g4, b4⟩
    obtain ⟨h4, rfl, hh4, r4⟩ := g4.row (by have := HLL.out; omega)
    have I4 : Hid (IsA w4 pb pg 256 L) := I3.out.keep b4
    have B4 : Hid (Below D.heap.size D w4) := B3.out.trans (b4.mono B3.out.size)
    have R4 : Hid (RowB w4 h4 L) := r4
    have G4 : Hid (h4 ≠ pg) := by have := I3.out.row.lt; show _ ≠ _; omega
    have p0 := bcellK B4.out Q0.out.1
    have p1 := bcellK B4.out Q0.out.2.1
    have p2 := bcellK B4.out Q0.out.2.2
    clear g4 b4 r4 hh4
    go_wp2_with fail
    go_quiet (fail)
    go_wp2_with fail
    refine (move_any pb pg 256 _ _ _ L _ (I4.out.drewN nq) FF.out.1 FF.out.2.1 FF.out.2.2).mono ?_
    rw [EM.out, EN.out]
    rintro e w5 ⟨rfl, i5, t5⟩
    have I5 : Hid (IsA w5 pb pg 256 N) := i5
    have B5 : Hid (Below D.heap.size D w5) := (below_drewN B4.out nq).trans (t5.below GE.out B4.out.size)
    have R5 : Hid (RowB w5 h4 L) := t5.row R4.out G4.out
    clear i5 t5
    go_wp2_with fail
    refine (bytes_any pb pg 256 N _ I5.out).mono ?_
    rw [NL.out]
    rintro e w6 ⟨a6, rfl, g6, b6⟩
    obtain ⟨h6, rfl, hh6, r6⟩ := g6.row (by have := NL.out; omega)
    have R6 : Hid (RowB w6 h4 L) := R5.out.keep b6
    have S6 : Hid (RowB w6 h6 N) := r6
    have B6 : Hid (Below D.heap.size D w6) := B5.out.trans (b6.mono B5.out.size)
    clear g6 b6 r6 hh6
    go_wp2
    go_loop [13] (fun iv => ∃ i : Nat, i ≤ 1024 ∧ iv = .int .i64 (i : Nat)) (fun iv => 1024 - (intOf iv).toNat)
    case atStart => exact ⟨0, Nat.zero_le _, rfl⟩
    case round =>
      obtain ⟨i, hi, rfl⟩ := hrel
      by_cases hlt : i < 1024
      · have hlt' : (i : Int) < 1024 := by omega
        have ci := R6.out.cell i (by rw [HLL.out]; exact hlt)
        have ni := S6.out.cell i (by rw [NL.out]; exact hlt)
        rw [NAT.out i hlt] at ni
        by_cases h1 : t ≤ i
        · by_cases h2 : i < t + k
          · rw [if_pos ⟨h1, h2⟩] at ni
            have cj := R6.out.cell (f + i - t) (by rw [HLL.out]; omega)
            obtain ⟨V, hV⟩ : ∃ V, L.getD (f + i - t) 0 = V := ⟨_, rfl⟩
            obtain ⟨U, hU⟩ : ∃ V, L.getD i 0 = V := ⟨_, rfl⟩
            rw [hV] at ni cj
            rw [hU] at ci
            have s1 : (t : Int) ≤ (i : Int) := by omega
            have s2 : (i : Int) < (t : Int) + (k : Int) := by omega
            obtain ⟨j, hj⟩ : ∃ j, f + i - t = j := ⟨_, rfl⟩
            rw [hj] at cj
            have s3 : (f : Int) + (i : Int) - (t : Int) = (j : Int) := by omega
            have s4 : (j : Int) < 1024 := by omega
            clear hV hU hj
            go_wp2
            go_round
            case rel => exact ⟨i + 1, by omega, by go_num⟩
            case measure => simp [intOf]; omega
          · rw [if_neg (by omega)] at ni
            obtain ⟨U, hU⟩ : ∃ V, L.getD i 0 = V := ⟨_, rfl⟩
            rw [hU] at ci ni
            have s1 : (t : Int) ≤ (i : Int) := by omega
            have s2 : ¬ ((i : Int) < (t : Int) + (k : Int)) := by omega
            clear hU
            go_wp2
            go_round
            case rel => exact ⟨i + 1, by omega, by go_num⟩
            case measure => simp [intOf]; omega
        · rw [if_neg (by omega)] at ni
          obtain ⟨U, hU⟩ : ∃ V, L.getD i 0 = V := ⟨_, rfl⟩
          rw [hU] at ci ni
          have s1 : ¬ ((t : Int) ≤ (i : Int)) := by omega
          clear hU
          go_wp2
          go_round
          case rel => exact ⟨i + 1, by omega, by go_num⟩
          case measure => simp [intOf]; omega
      · obtain rfl : i = 1024 := by omega
        go_wp2
        go_ret
        exact ⟨rfl, BD.out.trans (B6.out.mono BD.out.size)⟩
  · have NIN : ¬ (inR L.length (256 + (f : Int) - 256) (k : Int) ∧ inR L.length (256 + (t : Int) - 256) (k : Int)) := by rw [HLL.out]; unfold inR; omega
    have EM : Hid (moveE L.length (256 + (f : Int) - 256) (256 + (t : Int) - 256) (k : Int) = 10) := if_neg NIN
    have EN : Hid (moveR L (256 + (f : Int) - 256) (256 + (t : Int) - 256) (k : Int) = L) := if_neg NIN
    have DD : 1024 < (f : Int) + (k : Int) ∨ (¬ (1024 < (f : Int) + (k : Int)) ∧ 1024 < (t : Int) + (k : Int)) := by omega
    clear NIN hin
    rcases DD with d1 | ⟨d1, d2⟩
    all_goals
      go_enter Try.func7, Try.ntmps7
      go_wp2_with fail
      refine (alive_any _).mono ?_
      rintro e w1 ⟨rfl, b1⟩
      have B1 : Hid (Below D.heap.size D w1) := b1
      clear b1
      go_wp2_with fail
      refine (new_any 256 4 _ (by decide) (by decide) (by decide)).mono ?_
      rw [EZ.out]
      rintro e w2 ⟨rfl, i2', b2, s2⟩
      obtain ⟨pb, hpb⟩ : ∃ pb, w1.heap.size + 1 = pb := ⟨_, rfl⟩
      obtain ⟨pg, hpg⟩ : ∃ pg, w1.heap.size = pg := ⟨_, rfl⟩
      have I2 : Hid (IsA w2 pb pg 256 Z) := by show IsA _ _ _ _ _; rw [← hpb, ← hpg]; exact i2'
      have B2 : Hid (Below D.heap.size D w2) := B1.out.trans (b2.mono B1.out.size)
      have GE : Hid (D.heap.size ≤ pg) := by show _ ≤ _; rw [← hpg]; exact B1.out.size
      rw [hpb]
      clear i2' b2 s2 hpb hpg
      go_wp2_with fail
      refine (write_any pb pg 256 256 Z l a _ cap _ I2.out f256 rfl ((HB.out.keep BD.out).keep B2.out) HML.out).mono ?_
      rw [E1.out, EL.out]
      rintro e w3 ⟨rfl, i3, t3⟩
      have I3 : Hid (IsA w3 pb pg 256 L) := i3
      have B3 : Hid (Below D.heap.size D w3) := B2.out.trans (t3.below GE.out B2.out.size)
      clear i3 t3
      go_wp2_with fail
      refine (bytes_any pb pg 256 L _ I3.out).mono ?_
      rw [HLL.out]
      rintro e w4 ⟨a4, rfl, g4, b4⟩
      obtain ⟨h4, rfl, hh4, r4⟩ := g4.row (by have := HLL.out; omega)
      have I4 : Hid (IsA w4 pb pg 256 L) := I3.out.keep b4
      have B4 : Hid (Below D.heap.size D w4) := B3.out.trans (b4.mono B3.out.size)
      have R4 : Hid (RowB w4 h4 L) := r4
      have G4 : Hid (h4 ≠ pg) := by have := I3.out.row.lt; show _ ≠ _; omega
      have p0 := bcellK B4.out Q0.out.1
      have p1 := bcellK B4.out Q0.out.2.1
      have p2 := bcellK B4.out Q0.out.2.2
      clear g4 b4 r4 hh4
      go_wp2_with fail
      go_quiet (fail)
      go_wp2_with fail
      refine (move_any pb pg 256 _ _ _ L _ (I4.out.drewN nq) FF.out.1 FF.out.2.1 FF.out.2.2).mono ?_
      rw [EM.out, EN.out]
      rintro e w5 ⟨rfl, i5, t5⟩
      have I5 : Hid (IsA w5 pb pg 256 L) := i5
      have B5 : Hid (Below D.heap.size D w5) := (below_drewN B4.out nq).trans (t5.below GE.out B4.out.size)
      have R5 : Hid (RowB w5 h4 L) := t5.row R4.out G4.out
      clear i5 t5
      go_wp2_with fail
      refine (bytes_any pb pg 256 L _ I5.out).mono ?_
      rw [HLL.out]
      rintro e w6 ⟨a6, rfl, g6, b6⟩
      have R6 : Hid (IsB w6 (some ⟨h4, 0, none⟩) L) := (R5.out.keep b6).isB HLA.out
      have S6 : Hid (IsB w6 a6 L) := g6.isB HLA.out
      have B6 : Hid (Below D.heap.size D w6) := B5.out.trans (b6.mono B5.out.size)
      clear g6 b6
      go_wp2_with (go_at_call 15; refine (same_true _ _ _ _ _ _ L _ R6.out S6.out HLL.out.symm HLL.out.symm).mono ?_; rintro e w' ⟨rfl, rfl⟩)
      go_ret
      exact ⟨rfl, BD.out.trans (B6.out.mono BD.out.size)⟩

theorem arenaMoves_any (a : Option Addr) (cap : Nat) (l : List Int) (x y z : Nat) (w : World) (hB : IsB w a l) (hm : l.length ≤ maxLen) (hx : x < 65536) (hy : y < 65536) (hz : z < 65536) :
    Calls Try.prog 7 #[.slice a l.length cap, .agg #[.int .u16 (x : Nat), .int .u16 (y : Nat), .int .u16 (z : Nat)]] w fun e w' => e = .returned (.bool true) ∧ Below w.heap.size w w' := by
  by_cases hl : l.length ≤ 1024
  · exact moves_fit a cap l x y z w hB hl hx hy hz
  · exact moves_long a cap l x y z w (by omega) hm
end Go.Proofs.Ytjejholognpbaaa
