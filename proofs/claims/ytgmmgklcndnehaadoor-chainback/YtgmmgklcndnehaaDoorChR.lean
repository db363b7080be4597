/- Layer 19: the walk of ChainBack. -/
import Derived.Test.YtgmmgklcndnehaaDoorChQ
namespace Go.Proofs.YtgmmgklcndnehaaDoor
open Go.RowKit Go.Maps
set_option linter.unusedVariables false
set_option maxRecDepth 4000

theorem back_in {b : List Int} (s : Nat) (hB : AllB b) (h2 : b.length ≤ 1680) : ChIn (wrD (newD 32) (wrC b (stepL s (cntC b.length))) (cntC b.length)) b (stepL s (cntC b.length)) := by
  have c30 : cntC b.length ≤ 30 := by unfold cntC; omega
  have q := ChIn.wrote (d := newD 32) (b := b) (l := stepL s (cntC b.length)) rfl rfl (stepL_len _ _) (stepL_ap c30) (fun x hx => by have := stepL_rng x hx; show x ≤ ((32 : Nat) : Int) - 2; omega) hB
  rw [stepL_len] at q
  exact q
set_option maxRecDepth 20000 in
set_option maxHeartbeats 4000000 in
theorem back_out (a : Option Addr) (cap : Nat) (b : List Int) (s : Nat) (w : World) (hT : ErrT w) (h : ¬ (1 ≤ b.length ∧ b.length ≤ 1680)) (hm : b.length ≤ maxLen) :
    Calls Tryd.prog 5 #[.slice a b.length cap, .int .u8 (s : Nat)] w fun e w' => e = .returned (.bool true) ∧ Below w.heap.size w w' := by
  by_cases h1 : (b.length : Int) < 1
  · go_enter Tryd.func5, Tryd.ntmps5
    go_wp2_with (go_at_call 8; refine (alive19 _ hT).mono ?_; rintro e w1 ⟨rfl, b1⟩)
    go_ret
    exact ⟨rfl, b1⟩
  · have h2 : (1680 : Int) < (b.length : Int) := by omega
    go_enter Tryd.func5, Tryd.ntmps5
    go_wp2_with (go_at_call 8; refine (alive19 _ hT).mono ?_; rintro e w1 ⟨rfl, b1⟩)
    go_ret
    exact ⟨rfl, b1⟩

set_option maxRecDepth 20000 in
set_option maxHeartbeats 8000000 in
theorem back_one (a : Option Addr) (cap : Nat) (b : List Int) (s : Nat) (w : World) (hT : ErrT w) (hB : IsB w a b) (hbc : b.length ≤ cap) (hcm : cap ≤ maxLen) (h1 : 1 ≤ b.length) (h2 : b.length ≤ 1680) (hs : s < 256) (hc1 : cntC b.length = 1) :
    Calls Tryd.prog 5 #[.slice a b.length cap, .int .u8 (s : Nat)] w fun e w' => e = .returned (.bool true) ∧ Below w.heap.size w w' := by
  have IN := back_in s hB.1 h2
  obtain ⟨N, hN⟩ : ∃ N, w.heap.size = N := ⟨_, rfl⟩
  have HN : Hid (w.heap.size = N) := hN
  have HBB : Hid (∀ w', Below N w w' → IsB w' a b) := fun w' bb => hB.keep (by rw [hN]; exact bb)
  have MT : Hid (∀ w2, Below N w w2 → N ≤ w2.heap.size) := fun w2 bb => by rw [← hN]; exact bb.size
  obtain ⟨C, hC⟩ : ∃ C, cntC b.length = C := ⟨_, rfl⟩
  obtain ⟨L, hL⟩ : ∃ L, stepL s C = L := ⟨_, rfl⟩
  have LC : Hid (L.length = C) := by show _ = _; rw [← hL, stepL_len]
  have RNG : Hid (∀ x ∈ L, -9223372036854775808 ≤ x ∧ x ≤ 9223372036854775807) := fun x hx => by rw [← hL] at hx; have := stepL_rng x hx; omega
  obtain ⟨d, hd⟩ : ∃ d, wrD (newD 32) (wrC b L) C = d := ⟨_, rfl⟩
  rw [hC, hL, hd] at IN
  have c1 : 1 ≤ C := by rw [← hC]; unfold cntC; omega
  have c30 : C ≤ 30 := by rw [← hC]; unfold cntC; omega
  obtain ⟨s0, hs0⟩ : ∃ x, L.getD 0 0 = x := ⟨_, rfl⟩
  obtain ⟨s9, hs9⟩ : ∃ x, L.getD (C - 1) 0 = x := ⟨_, rfl⟩
  have HS0 : Hid (L.getD 0 0 = s0) := hs0
  have HS9 : Hid (L.getD (C - 1) 0 = s9) := hs9
  have e0 : L.getD 0 0 = L[0]'(by rw [LC.out]; omega) := getD_at _
  have e9 : L.getD (C - 1) 0 = L[C - 1]'(by rw [LC.out]; omega) := getD_at _
  have q0 : -9223372036854775808 ≤ s0 ∧ s0 ≤ 9223372036854775807 := by rw [← hs0, e0]; exact RNG.out _ (List.getElem_mem _)
  have q9 : -9223372036854775808 ≤ s9 ∧ s9 ≤ 9223372036854775807 := by rw [← hs9, e9]; exact RNG.out _ (List.getElem_mem _)
  have LD : Hid (∀ w', Below N w w' → Calls Tryd.prog 27 #[.slice a b.length cap, .int .u8 (s : Nat)] w' fun e w2 => ∃ as0 cs B, e = .returned (.tuple #[.pointer (some ⟨B + 2, 0, none⟩), .slice as0 C cs, .bool true]) ∧ IsD w2 B (B + 2) C d ∧ OwnsI w2 B as0 L cs ∧ Below w'.heap.size w' w2) := fun w' bb => by
    refine (laid_any a cap b s w' (HBB.out w' bb) hbc hcm h1 h2 hs).mono ?_
    rintro e w2 ⟨as0, cs, r1, r2, r3, r4⟩
    rw [hC] at r1 r2 r3
    rw [hL, hd] at r2
    rw [hL] at r3
    exact ⟨as0, cs, _, r1, r2, r3, r4⟩
  have RD1 : Hid (∀ w' B, IsD w' B (B + 2) C d → Calls Tryd.prog 24 #[.pointer (some ⟨B + 2, 0, none⟩), .int .i64 s0, .int .i64 (b.length : Nat)] w' fun e w2 => ∃ ab cb as0 cs, e = .returned (.tuple #[.slice ab b.length cb, .slice as0 C cs, .nilIface]) ∧ IsB w2 ab b ∧ IsI w2 as0 L ∧ Below w'.heap.size w' w2) := fun w' B hD => by
    have q := hread_any B (B + 2) C d s0 (b.length : Nat) w' hD q0
    rw [← hs0, IN.read h1 (by omega)] at q
    rw [← hs0]
    refine Calls.mono q ?_
    rintro e w2 ⟨ab, cb, as0, cs, ev, rfl, r1, r2, r3, r4⟩
    rcases r3 with ⟨rfl, _, _⟩ | ⟨r3, _⟩
    · exact ⟨ab, cb, as0, cs, by simp only [LC.out], ownsB_isB hB.1 r1, ownsI_isI RNG.out r2, r4⟩
    · exact absurd r3 (by show ¬ (1 : Int) ≤ 0; decide)
  have RD2 : Hid (∀ w' B, IsD w' B (B + 2) C d → Calls Tryd.prog 24 #[.pointer (some ⟨B + 2, 0, none⟩), .int .i64 s0, .int .i64 ((b.length : Int) + 56)] w' fun e w2 => ∃ ab cb as0 cs t x, e = .returned (.tuple #[.slice ab 0 cb, .slice as0 0 cs, .iface t x]) ∧ Below w'.heap.size w' w2) := fun w' B hD => by
    have q := hread_any B (B + 2) C d s0 ((b.length + 56 : Nat) : Int) w' hD q0
    rw [← hs0, IN.more h1 (by omega)] at q
    rw [← hs0]
    refine Calls.mono q ?_
    rintro e w2 ⟨ab, cb, as0, cs, ev, rfl, r1, r2, r3, r4⟩
    obtain ⟨t, x, rfl⟩ := err_eqn ev 4 0 w2 r3 (by decide)
    exact ⟨ab, cb, as0, cs, t, x, rfl, r4⟩
  have RD3 : Hid (∀ w' B, IsD w' B (B + 2) C d → Calls Tryd.prog 24 #[.pointer (some ⟨B + 2, 0, none⟩), .int .i64 s9, .int .i64 (b.length : Nat)] w' fun e w2 => ∃ ab nb cb as0 ns cs, e = .returned (.tuple #[.slice ab nb cb, .slice as0 ns cs, .nilIface]) ∧ Below w'.heap.size w' w2) := fun w' B hD => by
    have q := hread_any B (B + 2) C d s9 (b.length : Nat) w' hD q9
    have e1 : C - 1 = 0 := by omega
    rw [← hs9, e1, IN.read (by omega) (by omega)] at q
    rw [← hs9, e1]
    refine Calls.mono q ?_
    rintro e w2 ⟨ab, cb, as0, cs, ev, rfl, r1, r2, r3, r4⟩
    rcases r3 with ⟨rfl, _, _⟩ | ⟨r3, _⟩
    · exact ⟨ab, _, cb, as0, _, cs, rfl, r4⟩
    · exact absurd r3 (by show ¬ (1 : Int) ≤ 0; decide)
  have cc : ((C : Int) == 1) = true := by rw [beq_iff_eq]; omega
  have wa : IntKind.i64.wrap ((b.length : Int) + 56) = (b.length : Int) + 56 := by rw [IntKind.wrap_i64]; omega
  obtain ⟨K9, hK9⟩ : ∃ K9, C - 1 = K9 := ⟨_, rfl⟩
  have HK9 : Hid (C - 1 = K9) := hK9
  have wc : IntKind.i64.wrap ((C : Int) - 1) = (K9 : Int) := by rw [IntKind.wrap_i64]; omega
  have kc : (K9 : Int) < (C : Int) := by omega
  have kc2 : K9 < C := by omega
  have g1 : ¬ (b.length : Int) < 1 := by omega
  have g2 : ¬ (1680 : Int) < (b.length : Int) := by omega
  have HTT : Hid (ErrT w) := hT
  clear hK9 hN hB hC hL hd hs0 hs9 e0 e9 IN h1 h2 hT
  go_enter Tryd.func5, Tryd.ntmps5
  go_wp2_with (first
    | (go_at_call 8; refine (alive19 _ HTT.out).mono ?_; rw [HN.out]; rintro e w1 ⟨rfl, b1⟩; have B1 : Hid (Below N w w1) := b1; clear b1)
    | (go_at_call 27; refine (LD.out _ B1.out).mono ?_; rintro e w2 ⟨al, cl, B, rfl, dl, ol, b2⟩; have D2 : Hid (IsD w2 B (B + 2) C d) := dl; have B2 : Hid (Below N w w2) := B1.out.trans (b2.mono (MT.out _ B1.out)); have I2 : Hid (IsI w2 al L) := ownsI_isI RNG.out ol; clear dl ol b2; obtain ⟨gl, ol, rfl, zl, k0, _⟩ := I2.out.at' (k := 0) (by rw [LC.out]; omega); obtain ⟨gl', ol', el, _, k9, _⟩ := I2.out.at' (k := C - 1) (by rw [LC.out]; omega); cases el; rw [Nat.add_zero] at k0; rw [← getD_at (l := L) (i := 0) (by rw [LC.out]; omega), HS0.out] at k0; rw [← getD_at (l := L) (i := C - 1) (by rw [LC.out]; omega), HS9.out, HK9.out] at k9)
    | (have _ := B4; go_at_call 24; refine (RD3.out _ _ D4.out).mono ?_; rintro e w5 ⟨a5, n5, c5, i5, m5, j5, rfl, b5⟩; have B5 : Hid (Below w4.heap.size w4 w5) := b5; clear b5)
    | (have _ := B3; go_at_call 24; refine (RD2.out _ _ D3.out).mono ?_; rintro e w4 ⟨a4, c4, i4, j4, t4, x4, rfl, b4⟩; have B4 : Hid (Below w3.heap.size w3 w4) := b4; have D4 : Hid (IsD w4 B (B + 2) C d) := D3.out.keep b4; have k99 := (b4.cell (p := ⟨gl, ol + K9, none⟩) (Nat.lt_of_lt_of_le zl B3.out.size)).trans k9; clear b4)
    | (go_at_call 24; refine (RD1.out _ _ D2.out).mono ?_; rintro e w3 ⟨a3, c3, i3, j3, rfl, ib, ii, b3⟩; have B3 : Hid (Below w2.heap.size w2 w3) := b3; have D3 : Hid (IsD w3 B (B + 2) C d) := D2.out.keep b3; have IB3 : Hid (IsB w3 a3 b) := ib; have II3 : Hid (IsI w3 i3 L) := ii; replace k0 := (b3.cell (p := ⟨gl, ol, none⟩) zl).trans k0; replace k9 := (b3.cell (p := ⟨gl, ol + K9, none⟩) zl).trans k9; clear b3 ib ii)
    | (go_at_call 16; refine (same_true _ _ _ _ _ _ b _ ((IB3.out.keep B4.out).keep B5.out) (HBB.out _ (((B2.out.trans (B3.out.mono (MT.out _ B2.out))).trans (B4.out.mono (Nat.le_trans (MT.out _ B2.out) B3.out.size))).trans (B5.out.mono (Nat.le_trans (Nat.le_trans (MT.out _ B2.out) B3.out.size) B4.out.size)))) rfl rfl).mono ?_; rintro e w' ⟨rfl, rfl⟩)
    | (go_at_call 17; refine (ints_same _ _ _ _ _ _ L _ ((II3.out.keep B4.out).keep B5.out) (((I2.out.keep B3.out).keep B4.out).keep B5.out) LC.out.symm LC.out.symm (by rw [LC.out]; unfold maxLen; omega)).mono ?_; rintro e w6 ⟨rfl, b6⟩; have B6 : Hid (Below w5.heap.size w5 w6) := b6; clear b6))
  go_ret
  refine ⟨rfl, ?_⟩
  have n2 := MT.out _ B2.out
  have n3 := Nat.le_trans n2 B3.out.size
  have n4 := Nat.le_trans n3 B4.out.size
  have n5 := Nat.le_trans n4 B5.out.size
  rw [HN.out]
  exact (((B2.out.trans (B3.out.mono n2)).trans (B4.out.mono n3)).trans (B5.out.mono n4)).trans (B6.out.mono n5)

set_option maxRecDepth 20000 in
set_option maxHeartbeats 8000000 in
theorem back_more (a : Option Addr) (cap : Nat) (b : List Int) (s : Nat) (w : World) (hT : ErrT w) (hB : IsB w a b) (hbc : b.length ≤ cap) (hcm : cap ≤ maxLen) (h1 : 1 ≤ b.length) (h2 : b.length ≤ 1680) (hs : s < 256) (hc1 : 2 ≤ cntC b.length) :
    Calls Tryd.prog 5 #[.slice a b.length cap, .int .u8 (s : Nat)] w fun e w' => e = .returned (.bool true) ∧ Below w.heap.size w w' := by
  have IN := back_in s hB.1 h2
  obtain ⟨N, hN⟩ : ∃ N, w.heap.size = N := ⟨_, rfl⟩
  have HN : Hid (w.heap.size = N) := hN
  have HBB : Hid (∀ w', Below N w w' → IsB w' a b) := fun w' bb => hB.keep (by rw [hN]; exact bb)
  have MT : Hid (∀ w2, Below N w w2 → N ≤ w2.heap.size) := fun w2 bb => by rw [← hN]; exact bb.size
  obtain ⟨C, hC⟩ : ∃ C, cntC b.length = C := ⟨_, rfl⟩
  obtain ⟨L, hL⟩ : ∃ L, stepL s C = L := ⟨_, rfl⟩
  have LC : Hid (L.length = C) := by show _ = _; rw [← hL, stepL_len]
  have RNG : Hid (∀ x ∈ L, -9223372036854775808 ≤ x ∧ x ≤ 9223372036854775807) := fun x hx => by rw [← hL] at hx; have := stepL_rng x hx; omega
  obtain ⟨d, hd⟩ : ∃ d, wrD (newD 32) (wrC b L) C = d := ⟨_, rfl⟩
  rw [hC, hL, hd] at IN
  have c1 : 1 ≤ C := by rw [← hC]; unfold cntC; omega
  have c30 : C ≤ 30 := by rw [← hC]; unfold cntC; omega
  obtain ⟨s0, hs0⟩ : ∃ x, L.getD 0 0 = x := ⟨_, rfl⟩
  obtain ⟨s9, hs9⟩ : ∃ x, L.getD (C - 1) 0 = x := ⟨_, rfl⟩
  have HS0 : Hid (L.getD 0 0 = s0) := hs0
  have HS9 : Hid (L.getD (C - 1) 0 = s9) := hs9
  have e0 : L.getD 0 0 = L[0]'(by rw [LC.out]; omega) := getD_at _
  have e9 : L.getD (C - 1) 0 = L[C - 1]'(by rw [LC.out]; omega) := getD_at _
  have q0 : -9223372036854775808 ≤ s0 ∧ s0 ≤ 9223372036854775807 := by rw [← hs0, e0]; exact RNG.out _ (List.getElem_mem _)
  have q9 : -9223372036854775808 ≤ s9 ∧ s9 ≤ 9223372036854775807 := by rw [← hs9, e9]; exact RNG.out _ (List.getElem_mem _)
  have LD : Hid (∀ w', Below N w w' → Calls Tryd.prog 27 #[.slice a b.length cap, .int .u8 (s : Nat)] w' fun e w2 => ∃ as0 cs B, e = .returned (.tuple #[.pointer (some ⟨B + 2, 0, none⟩), .slice as0 C cs, .bool true]) ∧ IsD w2 B (B + 2) C d ∧ OwnsI w2 B as0 L cs ∧ Below w'.heap.size w' w2) := fun w' bb => by
    refine (laid_any a cap b s w' (HBB.out w' bb) hbc hcm h1 h2 hs).mono ?_
    rintro e w2 ⟨as0, cs, r1, r2, r3, r4⟩
    rw [hC] at r1 r2 r3
    rw [hL, hd] at r2
    rw [hL] at r3
    exact ⟨as0, cs, _, r1, r2, r3, r4⟩
  have RD1 : Hid (∀ w' B, IsD w' B (B + 2) C d → Calls Tryd.prog 24 #[.pointer (some ⟨B + 2, 0, none⟩), .int .i64 s0, .int .i64 (b.length : Nat)] w' fun e w2 => ∃ ab cb as0 cs, e = .returned (.tuple #[.slice ab b.length cb, .slice as0 C cs, .nilIface]) ∧ IsB w2 ab b ∧ IsI w2 as0 L ∧ Below w'.heap.size w' w2) := fun w' B hD => by
    have q := hread_any B (B + 2) C d s0 (b.length : Nat) w' hD q0
    rw [← hs0, IN.read h1 (by omega)] at q
    rw [← hs0]
    refine Calls.mono q ?_
    rintro e w2 ⟨ab, cb, as0, cs, ev, rfl, r1, r2, r3, r4⟩
    rcases r3 with ⟨rfl, _, _⟩ | ⟨r3, _⟩
    · exact ⟨ab, cb, as0, cs, by simp only [LC.out], ownsB_isB hB.1 r1, ownsI_isI RNG.out r2, r4⟩
    · exact absurd r3 (by show ¬ (1 : Int) ≤ 0; decide)
  have RD2 : Hid (∀ w' B, IsD w' B (B + 2) C d → Calls Tryd.prog 24 #[.pointer (some ⟨B + 2, 0, none⟩), .int .i64 s0, .int .i64 ((b.length : Int) + 56)] w' fun e w2 => ∃ ab cb as0 cs t x, e = .returned (.tuple #[.slice ab 0 cb, .slice as0 0 cs, .iface t x]) ∧ Below w'.heap.size w' w2) := fun w' B hD => by
    have q := hread_any B (B + 2) C d s0 ((b.length + 56 : Nat) : Int) w' hD q0
    rw [← hs0, IN.more h1 (by omega)] at q
    rw [← hs0]
    refine Calls.mono q ?_
    rintro e w2 ⟨ab, cb, as0, cs, ev, rfl, r1, r2, r3, r4⟩
    obtain ⟨t, x, rfl⟩ := err_eqn ev 4 0 w2 r3 (by decide)
    exact ⟨ab, cb, as0, cs, t, x, rfl, r4⟩
  have RD3 : Hid (∀ w' B, IsD w' B (B + 2) C d → Calls Tryd.prog 24 #[.pointer (some ⟨B + 2, 0, none⟩), .int .i64 s9, .int .i64 (b.length : Nat)] w' fun e w2 => ∃ ab nb cb as0 ns cs t x, e = .returned (.tuple #[.slice ab nb cb, .slice as0 ns cs, .iface t x]) ∧ Below w'.heap.size w' w2) := fun w' B hD => by
    have q := hread_any B (B + 2) C d s9 (b.length : Nat) w' hD q9
    rw [← hs9, ← LC.out, IN.tail (by rw [LC.out]; omega) (by omega)] at q
    rw [← hs9, ← LC.out]
    refine Calls.mono q ?_
    rintro e w2 ⟨ab, cb, as0, cs, ev, rfl, r1, r2, r3, r4⟩
    obtain ⟨t, x, rfl⟩ := err_eqn ev 4 0 w2 r3 (by decide)
    exact ⟨ab, _, cb, as0, _, cs, t, x, rfl, r4⟩
  have cc : ((C : Int) == 1) = false := by rw [beq_eq_false_iff_ne]; omega
  have cc2 : ¬ (C : Int) = 1 := by omega
  have wa : IntKind.i64.wrap ((b.length : Int) + 56) = (b.length : Int) + 56 := by rw [IntKind.wrap_i64]; omega
  obtain ⟨K9, hK9⟩ : ∃ K9, C - 1 = K9 := ⟨_, rfl⟩
  have HK9 : Hid (C - 1 = K9) := hK9
  have wc : IntKind.i64.wrap ((C : Int) - 1) = (K9 : Int) := by rw [IntKind.wrap_i64]; omega
  have kc : (K9 : Int) < (C : Int) := by omega
  have kc2 : K9 < C := by omega
  have g1 : ¬ (b.length : Int) < 1 := by omega
  have g2 : ¬ (1680 : Int) < (b.length : Int) := by omega
  have HTT : Hid (ErrT w) := hT
  clear hK9 hN hB hC hL hd hs0 hs9 e0 e9 IN h1 h2 hT
  go_enter Tryd.func5, Tryd.ntmps5
  go_wp2_with (first
    | (go_at_call 8; refine (alive19 _ HTT.out).mono ?_; rw [HN.out]; rintro e w1 ⟨rfl, b1⟩; have B1 : Hid (Below N w w1) := b1; clear b1)
    | (go_at_call 27; refine (LD.out _ B1.out).mono ?_; rintro e w2 ⟨al, cl, B, rfl, dl, ol, b2⟩; have D2 : Hid (IsD w2 B (B + 2) C d) := dl; have B2 : Hid (Below N w w2) := B1.out.trans (b2.mono (MT.out _ B1.out)); have I2 : Hid (IsI w2 al L) := ownsI_isI RNG.out ol; clear dl ol b2; obtain ⟨gl, ol, rfl, zl, k0, _⟩ := I2.out.at' (k := 0) (by rw [LC.out]; omega); obtain ⟨gl', ol', el, _, k9, _⟩ := I2.out.at' (k := C - 1) (by rw [LC.out]; omega); cases el; rw [Nat.add_zero] at k0; rw [← getD_at (l := L) (i := 0) (by rw [LC.out]; omega), HS0.out] at k0; rw [← getD_at (l := L) (i := C - 1) (by rw [LC.out]; omega), HS9.out, HK9.out] at k9)
    | (have _ := B4; go_at_call 24; refine (RD3.out _ _ D4.out).mono ?_; rintro e w5 ⟨a5, n5, c5, i5, m5, j5, t5, x5, rfl, b5⟩; have B5 : Hid (Below w4.heap.size w4 w5) := b5; clear b5)
    | (have _ := B3; go_at_call 24; refine (RD2.out _ _ D3.out).mono ?_; rintro e w4 ⟨a4, c4, i4, j4, t4, x4, rfl, b4⟩; have B4 : Hid (Below w3.heap.size w3 w4) := b4; have D4 : Hid (IsD w4 B (B + 2) C d) := D3.out.keep b4; have k99 := (b4.cell (p := ⟨gl, ol + K9, none⟩) (Nat.lt_of_lt_of_le zl B3.out.size)).trans k9; clear b4)
    | (go_at_call 24; refine (RD1.out _ _ D2.out).mono ?_; rintro e w3 ⟨a3, c3, i3, j3, rfl, ib, ii, b3⟩; have B3 : Hid (Below w2.heap.size w2 w3) := b3; have D3 : Hid (IsD w3 B (B + 2) C d) := D2.out.keep b3; have IB3 : Hid (IsB w3 a3 b) := ib; have II3 : Hid (IsI w3 i3 L) := ii; replace k0 := (b3.cell (p := ⟨gl, ol, none⟩) zl).trans k0; replace k9 := (b3.cell (p := ⟨gl, ol + K9, none⟩) zl).trans k9; clear b3 ib ii)
    | (go_at_call 16; refine (same_true _ _ _ _ _ _ b _ ((IB3.out.keep B4.out).keep B5.out) (HBB.out _ (((B2.out.trans (B3.out.mono (MT.out _ B2.out))).trans (B4.out.mono (Nat.le_trans (MT.out _ B2.out) B3.out.size))).trans (B5.out.mono (Nat.le_trans (Nat.le_trans (MT.out _ B2.out) B3.out.size) B4.out.size)))) rfl rfl).mono ?_; rintro e w' ⟨rfl, rfl⟩)
    | (go_at_call 17; refine (ints_same _ _ _ _ _ _ L _ ((II3.out.keep B4.out).keep B5.out) (((I2.out.keep B3.out).keep B4.out).keep B5.out) LC.out.symm LC.out.symm (by rw [LC.out]; unfold maxLen; omega)).mono ?_; rintro e w6 ⟨rfl, b6⟩; have B6 : Hid (Below w5.heap.size w5 w6) := b6; clear b6))
  go_ret
  refine ⟨rfl, ?_⟩
  have n2 := MT.out _ B2.out
  have n3 := Nat.le_trans n2 B3.out.size
  have n4 := Nat.le_trans n3 B4.out.size
  have n5 := Nat.le_trans n4 B5.out.size
  rw [HN.out]
  exact (((B2.out.trans (B3.out.mono n2)).trans (B4.out.mono n3)).trans (B5.out.mono n4)).trans (B6.out.mono n5)

/-- ChainBack. -/
theorem chainBack_any (a : Option Addr) (cap : Nat) (b : List Int) (x : Int) (w : World) (hB : IsB w a b) (hbc : b.length ≤ cap ∧ cap ≤ maxLen) (hx : ∃ m : Nat, x = m ∧ m < 256) (hT : ErrT w) :
    Calls Tryd.prog 5 #[.slice a b.length cap, .int .u8 x] w fun e w' => e = .returned (.bool true) ∧ Below w.heap.size w w' := by
  obtain ⟨s, rfl, hs⟩ := hx
  by_cases h : 1 ≤ b.length ∧ b.length ≤ 1680
  · by_cases hc : cntC b.length = 1
    · exact back_one a cap b s w hT hB hbc.1 hbc.2 h.1 h.2 hs hc
    · exact back_more a cap b s w hT hB hbc.1 hbc.2 h.1 h.2 hs (by have : 1 ≤ cntC b.length := by unfold cntC; omega
                                                                   omega)
  · exact back_out a cap b s w hT h (Nat.le_trans hbc.1 hbc.2)
end Go.Proofs.YtgmmgklcndnehaaDoor
