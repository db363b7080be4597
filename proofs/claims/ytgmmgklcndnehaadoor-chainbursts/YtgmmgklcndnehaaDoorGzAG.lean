/- Layer 19: bytes laid into a disk of 32 sectors (laid). -/
import Derived.Test.YtgmmgklcndnehaaDoorChH
namespace Go.Proofs.YtgmmgklcndnehaaDoor
open Go.RowKit Go.Maps
set_option linter.unusedVariables false
set_option maxRecDepth 4000

/-- The sectors, by steps of 7. -/
def stepL (s n : Nat) : List Int := (List.range n).map fun i => 1 + (((s + 7 * i) % 30 : Nat) : Int)
theorem stepL_len (s n : Nat) : (stepL s n).length = n := by simp [stepL]
theorem stepL_at (s n i : Nat) (h : i < (stepL s n).length) : (stepL s n)[i] = 1 + (((s + 7 * i) % 30 : Nat) : Int) := by simp [stepL]
theorem stepL_snoc (s n : Nat) : stepL s (n + 1) = stepL s n ++ [1 + (((s + 7 * n) % 30 : Nat) : Int)] := by simp [stepL, List.range_succ]
theorem stepL_ap {s n : Nat} (hn : n ≤ 30) : apC (stepL s n) = true := by
  refine apC_iff.2 ⟨fun x hx => ?_, List.pairwise_iff_getElem.2 fun i j hi hj hij e => ?_⟩
  · obtain ⟨i, hi, rfl⟩ := List.mem_iff_getElem.1 hx
    rw [stepL_at]; omega
  · rw [stepL_at, stepL_at] at e
    rw [stepL_len] at hi hj
    omega
theorem stepL_rng {s n : Nat} : ∀ x ∈ stepL s n, 1 ≤ x ∧ x ≤ 30 := fun x hx => by
  obtain ⟨i, hi, rfl⟩ := List.mem_iff_getElem.1 hx
  rw [stepL_at]; omega
theorem OwnsI.turn {w w' : World} {B base cap : Nat} {a : Option Addr} {l : List Int} (h : OwnsI w base a l cap) (t : Turn B KC w w') : OwnsI w' base a l cap := by
  obtain ⟨q1, q2 | ⟨g', c', cur, r1, r2, r3, r4⟩⟩ := h
  · exact ⟨q1, .inl q2⟩
  · exact ⟨q1, .inr ⟨g', c', cur, r1, r2, t.block g' _ r3 (.inr rfl), r4⟩⟩
theorem OwnsI.mono {w : World} {base base' cap : Nat} {a : Option Addr} {l : List Int} (h : OwnsI w base a l cap) (hb : base' ≤ base) : OwnsI w base' a l cap := by
  obtain ⟨q1, q2 | ⟨g', c', cur, r1, r2, r3⟩⟩ := h
  · exact ⟨q1, .inl q2⟩
  · exact ⟨q1, .inr ⟨g', c', cur, r1, Nat.le_trans hb r2, r3⟩⟩
theorem appI_s {w : World} {B : Nat} {as0 : Option Addr} {L : List Int} {cs : Nat} (h : OwnsI w B as0 L cs) (hB : B ≤ w.heap.size) (x : Int) (hx : -9223372036854775808 ≤ x ∧ x ≤ 9223372036854775807) (hL : L.length ≤ 100000) :
    ∃ a' c' w', (Builtin.append_ #[23, 23] 23 #[.slice as0 L.length cs, .slice (some ⟨w.heap.size, 0, none⟩) 1 1]).run Tryd.prog (w.alloc (.cells #[.int .i64 x] 3)) = .ok (.slice a' (L ++ [x]).length c') w' ∧ OwnsI w' B a' (L ++ [x]) c' ∧ Below B w w' := by
  have b0 : Below w.heap.size w (w.alloc (.cells #[.int .i64 x] 3)) := (Below.refl _ w).alloc (Nat.le_refl _) _
  have h1 := h.keep b0
  obtain ⟨a', c', w', h2, h3, g⟩ := appI_g _ B (Nat.le_trans hB b0.size) as0 L cs h1 ⟨w.heap.size, 0, none⟩ [x] 1 (one_isI w x hx) hL (by simp)
  have hk := ownI_blk h1
  exact ⟨a', c', w', h2, h3, grown_belowD (b0.mono hB) g (fun k e => (hk k e).1) (Nat.le_trans hB b0.size)⟩

/-- What laid answers. -/
def LdP (w : World) (b : List Int) (s : Nat) (e : Ending) (w' : World) : Prop :=
  ∃ as0 cs, e = .returned (.tuple #[.pointer (some ⟨w.heap.size + 2, 0, none⟩), .slice as0 (cntC b.length) cs, .bool true]) ∧ IsD w' w.heap.size (w.heap.size + 2) (cntC b.length) (wrD (newD 32) (wrC b (stepL s (cntC b.length))) (cntC b.length)) ∧ OwnsI w' w.heap.size as0 (stepL s (cntC b.length)) cs ∧ Below w.heap.size w w'

set_option maxRecDepth 20000 in
set_option maxHeartbeats 8000000 in
theorem laid_any (a : Option Addr) (cap : Nat) (b : List Int) (s : Nat) (w : World) (hB : IsB w a b) (hbc : b.length ≤ cap) (hcm : cap ≤ maxLen) (h1 : 1 ≤ b.length) (h2 : b.length ≤ 1680) (hs : s < 256) :
    Calls Tryd.prog 27 #[.slice a b.length cap, .int .u8 (s : Nat)] w (LdP w b s) := by
  have HAB : Hid (AllB b) := hB.1
  obtain ⟨N, hN⟩ : ∃ N, w.heap.size = N := ⟨_, rfl⟩
  have HN : Hid (w.heap.size = N) := hN
  obtain ⟨C, hC⟩ : ∃ C, cntC b.length = C := ⟨_, rfl⟩
  have HC : Hid (cntC b.length = C) := hC
  have c1 : 1 ≤ C := by rw [← hC]; unfold cntC; omega
  have c30 : C ≤ 30 := by rw [← hC]; unfold cntC; omega
  have NEW : Hid (Calls Tryd.prog 29 #[.int .i64 32] w fun e w' => e = .returned (.tuple #[.pointer (some ⟨N + 2, 0, none⟩), .int .i64 0]) ∧ newW w 32 = w') := by
    have q := new_fit 32 w (by decide) (by decide)
    rw [hN] at q; exact q
  obtain ⟨w1, hw1⟩ : ∃ w1, newW w 32 = w1 := ⟨_, rfl⟩
  have D1 : Hid (∀ w', Below w1.heap.size w1 w' → IsD w' N (N + 2) 0 (newD 32)) := fun w' bb => by
    have q := newW_is w N 32 (by omega) (by decide)
    rw [hN, hw1] at q; exact q.keep bb
  have B1 : Hid (Below N w w1) := by
    have q := newW_below w 32
    rw [hN, hw1] at q; exact q
  have NB1 : Hid (N ≤ w1.heap.size) := by show _ ≤ _; rw [← hN]; rw [← hN] at B1; exact B1.out.size
  rw [hw1] at NEW
  have CN : Hid (∀ w' : World, Calls Tryd.prog 14 #[.int .i64 (b.length : Nat)] w' fun e w2 => e = .returned (.int .i64 (C : Nat)) ∧ w' = w2) := fun w' => hcount_of _ _ w' (by omega) (by rw [hC])
  have LAY : Hid (∀ (w' : World) (al : Option Addr) (cl : Nat), Below N w w' → IsI w' al (stepL s C) → Calls Tryd.prog 10 #[.slice a b.length cap, .slice al C cl] w' fun e w2 => ∃ g, e = .returned (.tuple #[.slice (some ⟨g, 0, none⟩) C C, .nilIface]) ∧ WrB w2 w'.heap.size g C 0 (wrC b (stepL s C)) ∧ Below w'.heap.size w' w2) := fun w' al cl bb hI => by
    have q := hlay_any a al cap cl b (stepL s C) w' (hB.keep (by rw [hN]; exact bb)) hbc hcm hI (by rw [stepL_len]; unfold maxLen; omega)
    rw [stepL_len] at q
    have l0 : layEC b.length (stepL s C) = 0 := by unfold layEC; rw [if_neg (by omega), if_pos ⟨by rw [stepL_len, hC], stepL_ap c30⟩]
    refine Calls.mono q ?_
    rintro e w2 ⟨b2, ⟨q0, _⟩ | ⟨_, g, q1, q2⟩⟩
    · exact absurd l0 q0
    · rw [stepL_len] at q1 q2
      exact ⟨g, q1, q2, b2⟩
  have RNG : Hid (∀ n, ∀ x ∈ stepL s n, -9223372036854775808 ≤ x ∧ x ≤ 9223372036854775807) := fun n x hx => by have := stepL_rng x hx; omega
  clear hw1 hN hC hB h1 h2
  go_enter Tryd.func27, Tryd.ntmps27
  go_wp2_with (go_at_call 29; refine Calls.mono NEW.out ?_; rintro e w' ⟨rfl, rfl⟩)
  go_loopw [9, 10] (fun lv iv wr => ∃ (as0 : Option Addr) (cs k : Nat), k ≤ C ∧ lv = .slice as0 k cs ∧ iv = .int .i64 (k : Nat) ∧ OwnsI wr w1.heap.size as0 (stepL s k) cs ∧ Below w1.heap.size w1 wr) (fun _ iv _ => C - (intOf iv).toNat)
  case atStart => exact ⟨none, 0, 0, Nat.zero_le _, rfl, rfl, ownsI_nil _ _, Below.refl _ _⟩
  case round =>
    obtain ⟨as0, cs, k, hk, rfl, rfl, hO, hb⟩ := hrel
    have HO : Hid (OwnsI wr w1.heap.size as0 (stepL s k) cs) := hO
    have HB : Hid (Below w1.heap.size w1 wr) := hb
    clear hO hb
    by_cases hlt : k < C
    · have e1 : IntKind.i64.wrap (7 * (k : Int)) = 7 * (k : Int) := by rw [IntKind.wrap_i64]; omega
      have e2 : IntKind.i64.wrap ((s : Int) + 7 * (k : Int)) = (s : Int) + 7 * (k : Int) := by rw [IntKind.wrap_i64]; omega
      have e3 : ((s : Int) + 7 * (k : Int)).tmod 30 = (((s + 7 * k) % 30 : Nat) : Int) := by rw [Int.tmod_eq_emod_of_nonneg (by omega)]; omega
      obtain ⟨R, hR⟩ : ∃ R : Int, (((s + 7 * k) % 30 : Nat) : Int) = R := ⟨_, rfl⟩
      have r0 : 0 ≤ R ∧ R < 30 := by rw [← hR]; omega
      rw [hR] at e3
      have e4 : IntKind.i64.wrap R = R := by rw [IntKind.wrap_i64]; omega
      have e5 : IntKind.i64.wrap (1 + R) = 1 + R := by rw [IntKind.wrap_i64]; omega
      have e6 : IntKind.i64.wrap (s : Int) = (s : Int) := by rw [IntKind.wrap_i64]; omega
      obtain ⟨a', c', w', hrun, ho, hbl⟩ := appI_s HO.out HB.out.size (1 + R) (by omega) (by rw [stepL_len]; omega)
      have es : stepL s k ++ [1 + R] = stepL s (k + 1) := by rw [stepL_snoc, hR]
      rw [es] at hrun ho
      rw [stepL_len, stepL_len] at hrun
      have O2 : Hid (OwnsI w' w1.heap.size a' (stepL s (k + 1)) c') := ho
      have B2 : Hid (Below w1.heap.size w1 w') := HB.out.trans hbl
      clear ho hbl es hR
      go_wp2_with (first
        | (go_at_call 14; refine (CN.out _).mono ?_; rintro e w2 ⟨rfl, rfl⟩)
        | (at_builtin; refine wpList_bi rfl _ _ 23 rfl _ _ rfl rfl _ _ hrun ?_))
      go_roundw
      case rel => exact ⟨a', c', k + 1, by omega, rfl, by go_num, O2.out, B2.out⟩
      case measure => simp [intOf]; omega
    · obtain rfl : k = C := by omega
      have IL : Hid (IsI wr as0 (stepL s k)) := ownsI_isI (RNG.out k) HO.out
      have BW : Hid (Below N w wr) := B1.out.trans (HB.out.mono NB1.out)
      go_wp2_with (first
        | (go_at_call 14; refine (CN.out _).mono ?_; rintro e w2 ⟨rfl, rfl⟩)
        | (go_at_call 10; refine (LAY.out _ _ _ BW.out IL.out).mono ?_; rintro e w4 ⟨q, rfl, hW, b4⟩; have W4 : Hid (WrB w4 wr.heap.size q k 0 (wrC b (stepL s k))) := hW; have D4 : Hid (IsD w4 N (N + 2) 0 (newD 32)) := D1.out _ (HB.out.trans (b4.mono HB.out.size)); have O4 : Hid (OwnsI w4 w1.heap.size as0 (stepL s k) cs) := HO.out.keep b4; have B4 : Hid (Below N w w4) := BW.out.trans (b4.mono (by rw [← HN.out]; exact BW.out.size)); clear hW b4))
      have CC : Hid (cntC b.length = k) := HC.out
      have SL : (stepL s k).length = k := stepL_len s k
      have AP : Hid (apC (stepL s k) = true) := stepL_ap c30
      obtain ⟨WS, hWS⟩ : ∃ WS, wrC b (stepL s k) = WS := ⟨_, rfl⟩
      have HWS : Hid (wrC b (stepL s k) = WS) := hWS
      have WL : Hid (WS.length = k) := by show _ = _; rw [← hWS, wrC_len, SL]
      have WOK : Hid (∀ j (h : j < WS.length), 1 ≤ WS[j].1 ∧ WS[j].1 < 32 ∧ WS[j].2.length = 64 ∧ AllB WS[j].2) := by
        subst hWS
        intro j h
        obtain ⟨o1, o2, o3, o4⟩ := wrC_ok HAB.out AP.out h
        have := stepL_rng _ o2
        exact ⟨o1, by omega, o3, o4⟩
      rw [hWS] at W4
      clear hWS SL
      go_loopw [52] (fun iv wr => ∃ j : Nat, j ≤ k ∧ iv = .int .i64 (j : Nat) ∧ IsD wr N (N + 2) j (wrD (newD 32) WS j) ∧ (∃ M, WrB wr M q k 0 WS) ∧ OwnsI wr w1.heap.size as0 (stepL s k) cs ∧ Below N w wr) (fun iv _ => k - (intOf iv).toNat)
      case atStart => exact ⟨0, Nat.zero_le _, rfl, by rw [wrD_zero]; exact D4.out, ⟨_, W4.out⟩, O4.out, B4.out⟩
      case round =>
        obtain ⟨j, hj, rfl, hD, ⟨M, hW⟩, hO, hB⟩ := hrel
        rename World => wr2
        have HD : Hid (IsD wr2 N (N + 2) j (wrD (newD 32) WS j)) := hD
        have HW : Hid (WrB wr2 M q k 0 WS) := hW
        have HO2 : Hid (OwnsI wr2 w1.heap.size as0 (stepL s k) cs) := hO
        have HB2 : Hid (Below N w wr2) := hB
        clear hD hW hO hB
        by_cases hjl : j < k
        · have hkw : j < WS.length := by rw [WL.out]; exact hjl
          obtain ⟨c0, p, hp, c1', rp⟩ := HW.out.at j hkw (Nat.zero_le _)
          obtain ⟨o1, o2, o3, o4⟩ := WOK.out j hkw
          have BV : Hid (Below wr2.heap.size wr2 (varW wr2 WS[j].1 p)) := varW_below _ _ _
          have NW : Hid (N ≤ wr2.heap.size) := by show _ ≤ _; rw [← HN.out]; exact HB2.out.size
          have NV : Hid (N ≤ (varW wr2 WS[j].1 p).heap.size) := Nat.le_trans NW.out BV.out.size
          have WRITE : Hid (Calls Tryd.prog 30 #[.pointer (some ⟨N + 2, 0, none⟩), .int .i64 WS[j].1, .slice (some ⟨p, 0, none⟩) 64 64] (varW wr2 WS[j].1 p) fun e w' => e = .returned (.int .i64 0) ∧ IsD w' N (N + 2) (j + 1) (wrD (newD 32) WS (j + 1)) ∧ Turn N KC (varW wr2 WS[j].1 p) w') :=
            wr_step N (N + 2) j j (newD 32) WS _ p (HD.out.keep BV.out) NV.out hkw rfl rfl (Int.le_trans (by decide : (0 : Int) ≤ 1) o1) o2 o3 (rp.keep BV.out) o4 (by omega) (by show 0 + j ≤ _; omega)
          have BW : Hid (∀ w', Turn N KC (varW wr2 WS[j].1 p) w' → WrB w' M q k 0 WS ∧ OwnsI w' w1.heap.size as0 (stepL s k) cs ∧ Below N w w') := fun w' t => ⟨(HW.out.keep BV.out).turn t, (HO2.out.keep BV.out).turn t, (HB2.out.trans (BV.out.mono NW.out)).trans (t.below NV.out)⟩
          obtain ⟨sx, hs⟩ : ∃ s, WS[j].1 = s := ⟨_, rfl⟩
          rw [hs] at c0 WRITE BW
          clear rp hs o1 o2 o3 o4 BV NV
          go_wp2_with (go_at_call 30; refine Calls.mono WRITE.out ?_; rintro e w5 ⟨rfl, d5, t5⟩; obtain ⟨W5, O5, B5⟩ := BW.out _ t5; have D5 : Hid (IsD w5 N (N + 2) (j + 1) (wrD (newD 32) WS (j + 1))) := d5; have HW5 : Hid (WrB w5 M q k 0 WS) := W5; have HO5 : Hid (OwnsI w5 w1.heap.size as0 (stepL s k) cs) := O5; have HB5 : Hid (Below N w w5) := B5; clear d5 t5 W5 O5 B5)
          go_roundw
          case rel => exact ⟨j + 1, by omega, by go_num, D5.out, ⟨M, HW5.out⟩, HO5.out, HB5.out⟩
          case measure => simp [intOf]; omega
        · obtain rfl : j = k := by omega
          go_wp2
          go_ret3
          unfold LdP
          rw [HN.out, CC.out, HWS.out]
          exact ⟨as0, cs, rfl, HD.out, HO2.out.mono NB1.out, HB2.out⟩
end Go.Proofs.YtgmmgklcndnehaaDoor

/- Layer 19: the walk of ChainBack. -/
namespace Go.Proofs.YtgmmgklcndnehaaDoor
open Go.RowKit Go.Maps
set_option linter.unusedVariables false
set_option maxRecDepth 4000

end Go.Proofs.YtgmmgklcndnehaaDoor
