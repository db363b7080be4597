/- Layer 21: the walk of ManifestBursts. -/
import Derived.Test.YtofmicbhheebiaaMnJ
namespace Go.Proofs.Ytofmicbhheebiaa
open Go.RowKit
set_option linter.unusedVariables false
set_option maxRecDepth 4000

set_option maxRecDepth 20000 in
set_option maxHeartbeats 8000000 in
/-- ManifestBursts. -/
theorem bursts21 (m : Mn) (A0 M : Nat) (w : World) (hA : A0 < 65536) (hM : M < 4294967296) :
    Calls Try.prog 6 #[m.v, .agg #[.int .u16 (A0 : Nat), .int .u32 (M : Nat)]] w fun e w' => e = .returned (.bool true) ∧ Below w.heap.size w w' := by
  have MB : Hid (∀ w, Calls Try.prog 9 #[m.v] w fun e w' => ∃ (a : Option Addr) (k : Nat), e = .returned (.tuple #[.slice a k k, .int .i64 (errM m)]) ∧ k = (outM m).length ∧ IsB w' a (outM m) ∧ (okM m = true → ∃ g, a = some ⟨g, 0, none⟩ ∧ w.heap.size ≤ g ∧ RowB w' g 5 (manM m) ∧ k = 64) ∧ (okM m = false → a = none ∧ k = 0) ∧ Below w.heap.size w w') := fun w => mbytes_any m w
  cases hk : okM m
  · have e4 : errM m = 4 := if_neg (by rw [hk]; decide)
    rw [e4] at MB
    clear hk e4 hA hM
    obtain ⟨s, f, k⟩ := m
    obtain ⟨D, hD, rD, bD⟩ := box21 23 w s f k
    obtain ⟨E, hE⟩ : ∃ E, D.alloc (.cells #[.int .u16 (A0 : Nat), .int .u32 (M : Nat)] 48) = E := ⟨_, rfl⟩
    have HD : Hid _ := hD
    have HE : Hid (D.alloc (.cells #[.int .u16 (A0 : Nat), .int .u32 (M : Nat)] 48) = E) := hE
    have bE : Below D.heap.size D E := by rw [← hE]; exact (Below.refl _ _).alloc (Nat.le_refl _) _
    have RE : Hid (E.heap[w.heap.size]? = some (.cells #[.int .i64 s, .int .i64 f, .int .i64 k] 23 (0, 0))) := by show _ = _; rw [bE.block _ (Array.getElem?_eq_some_iff.1 rD).1]; exact rD
    have BE : Hid (Below w.heap.size w E) := bD.trans (bE.mono bD.size)
    have LE : Hid (w.heap.size < E.heap.size) := (Array.getElem?_eq_some_iff.1 RE.out).1
    unfold Mn.v at MB
    clear hD rD bD hE bE
    unfold Mn.v
    go_enter Try.func6, Try.ntmps6
    go_upto_region 1 with (fail)
    rw [HD.out, HE.out]
    go_wp2_with fail
    refine Calls.mono (alive21 _) ?_
    rintro e w0 ⟨rfl, b0⟩
    have B0 : Hid (Below E.heap.size E w0) := b0
    obtain ⟨y0, y1, y2⟩ := three21 (by rw [b0.block _ LE.out]; exact RE.out : w0.heap[w.heap.size]? = some (.cells #[.int .i64 s, .int .i64 f, .int .i64 k] 23 (0, 0)))
    clear b0
    go_wp2_with fail
    refine Calls.mono (MB.out _) ?_
    rintro e w1 ⟨a1, k1, rfl, _, _, _, _, b1⟩
    have B1 : Hid (Below E.heap.size E w1) := B0.out.trans (b1.mono B0.out.size)
    clear b1 y0 y1 y2
    go_wp2
    go_ret
    exact ⟨rfl, BE.out.trans (B1.out.mono BE.out.size)⟩
  · have e4 : errM m = 0 := if_pos hk
    rw [e4] at MB
    have HK : Hid (okM m = true) := hk
    have ZA : Hid (AllB (manM m)) := manM_allB m
    have ZL : Hid ((manM m).length = 64) := manM_len m
    have BM : Hid (∀ (c : List Int) (p e : Nat), AllB c → c.length = 64 → numB c = numB (manM m) ^^^ (e <<< p) → e < 4294967296 → p < 512 → (wrongM c = 0 ↔ e = 0) ∧ (c = manM m ↔ e = 0)) := fun c p e h1 h2 h3 h4 h5 => burst_man hk h1 h2 h3 h4 h5
    obtain ⟨Z, hZ⟩ : ∃ Z, manM m = Z := ⟨_, rfl⟩
    rw [hZ] at MB ZA ZL BM
    obtain ⟨aB, haB⟩ : ∃ x, A0 % 512 = x := ⟨_, rfl⟩
    have aB5 : aB < 512 := by rw [← haB]; exact Nat.mod_lt _ (by decide)
    have ta : (A0 : Int).tmod 512 = (aB : Int) := by rw [Int.tmod_eq_emod_of_nonneg (by omega)]; omega
    have wa16 : IntKind.u16.wrap (aB : Int) = (aB : Int) := by rw [IntKind.wrap_u16]; omega
    have wa64 : IntKind.i64.wrap (aB : Int) = (aB : Int) := by rw [IntKind.wrap_i64]; omega
    clear hk e4 hZ hA haB
    obtain ⟨s, f, k⟩ := m
    obtain ⟨D, hD, rD, bD⟩ := box21 23 w s f k
    obtain ⟨E, hE⟩ : ∃ E, D.alloc (.cells #[.int .u16 (A0 : Nat), .int .u32 (M : Nat)] 48) = E := ⟨_, rfl⟩
    have HD : Hid _ := hD
    have HE : Hid (D.alloc (.cells #[.int .u16 (A0 : Nat), .int .u32 (M : Nat)] 48) = E) := hE
    have bE : Below D.heap.size D E := by rw [← hE]; exact (Below.refl _ _).alloc (Nat.le_refl _) _
    have RE : Hid (E.heap[w.heap.size]? = some (.cells #[.int .i64 s, .int .i64 f, .int .i64 k] 23 (0, 0))) := by show _ = _; rw [bE.block _ (Array.getElem?_eq_some_iff.1 rD).1]; exact rD
    have hnb : D.heap.size = w.heap.size + 1 := by rw [← hD]; simp
    have SE : Hid (E.heap[w.heap.size + 1]? = some (.cells #[.int .u16 (A0 : Nat), .int .u32 (M : Nat)] 48 (0, 0))) := by show _ = _; rw [← hE, ← hnb]; exact Go.heap_alloc_new D _
    have BE : Hid (Below w.heap.size w E) := bD.trans (bE.mono bD.size)
    have LE : Hid (w.heap.size < E.heap.size) := (Array.getElem?_eq_some_iff.1 RE.out).1
    have CB : Hid (∀ w' : World, Below E.heap.size E w' → w'.cell? ⟨w.heap.size + 1, 0, none⟩ = some (.int .u16 (A0 : Nat)) ∧ w'.cell? ⟨w.heap.size + 1, 1, none⟩ = some (.int .u32 (M : Nat))) := fun w' bb => by
      have q : w'.heap[w.heap.size + 1]? = _ := (bb.block (w.heap.size + 1) (Array.getElem?_eq_some_iff.1 SE.out).1).trans SE.out
      exact ⟨cell_of_row _ _ 0 _ _ _ q, cell_of_row _ _ 1 _ _ _ q⟩
    unfold Mn.v at MB
    clear hD rD bD hE bE hnb
    unfold Mn.v
    go_enter Try.func6, Try.ntmps6
    go_upto_region 1 with (fail)
    rw [HD.out, HE.out]
    go_wp2_with fail
    refine Calls.mono (alive21 _) ?_
    rintro e w0 ⟨rfl, b0⟩
    have B0 : Hid (Below E.heap.size E w0) := b0
    obtain ⟨y0, y1, y2⟩ := three21 (by rw [b0.block _ LE.out]; exact RE.out : w0.heap[w.heap.size]? = some (.cells #[.int .i64 s, .int .i64 f, .int .i64 k] 23 (0, 0)))
    clear b0
    go_wp2_with fail
    refine Calls.mono (MB.out _) ?_
    rintro e w1 ⟨a1, k1, rfl, hk1, i1, hok1, hno1, b1⟩
    obtain ⟨g, rfl, _, r1, rfl⟩ := hok1 HK.out
    clear hk1 i1 hno1
    have R1 : Hid (RowB w1 g 5 Z) := r1
    have B1 : Hid (Below E.heap.size E w1) := B0.out.trans (b1.mono B0.out.size)
    clear b1 y0 y1 y2 r1
    go_wp2_with fail
    refine (copy_any (some ⟨g, 0, none⟩) 64 64 Z _ ZL.out.symm (R1.out.isB ZA.out) (by rw [ZL.out]; decide)).mono ?_
    rintro e w2 ⟨g2, c2, rfl, o2, b2⟩
    rw [ZL.out]
    have c64 : 64 ≤ c2 := by have := (ownsB_isL o2).1; rw [ZL.out] at this; exact this
    have T0 : Hid (Turned w1 w2 w1.heap.size g2 Z aB 0) := turned_start aB ZA.out (Nat.le_refl _) o2 b2
    obtain ⟨q0, q1⟩ := CB.out w2 (B1.out.trans (b2.mono B1.out.size))
    clear o2 b2
    go_wp2
    go_loopw [8] (fun kv wr => ∃ k : Nat, k ≤ 32 ∧ kv = .int .i64 (k : Nat) ∧ Turned w1 wr w1.heap.size g2 Z aB k) (fun kv _ => 32 - (intOf kv).toNat)
    case atStart => exact ⟨0, by omega, rfl, T0.out⟩
    case round =>
      clear q0 q1
      obtain ⟨k, hk, rfl, hT⟩ := hrel
      rename World => wr
      have T : Hid (Turned w1 wr w1.heap.size g2 Z aB k) := hT
      obtain ⟨c, e, hTB⟩ := hT
      have TB : Hid (TurnedBy w1 wr w1.heap.size g2 Z aB k c e) := hTB
      obtain ⟨q0, q1⟩ := CB.out wr (B1.out.trans (hTB.below.mono B1.out.size))
      by_cases hk32 : k < 32
      · have hk32i : (k : Int) < 32 := by omega
        obtain ⟨P, hP⟩ : ∃ P, aB + k = P := ⟨_, rfl⟩
        have eP : (aB : Int) + (k : Int) = (P : Int) := by omega
        have wP : IntKind.i64.wrap ((aB : Int) + (k : Int)) = (P : Int) := by rw [IntKind.wrap_i64]; omega
        have HP : Hid (aB + k = P) := hP
        by_cases hodd : M / 2 ^ k % 2 = 1
        · have ht : ((M : Int) / 2 ^ k).tmod 2 = 1 := by rw [shr_bit, hodd]; rfl
          clear hodd
          by_cases hin : P < 512
          · have hin2 : (P : Int) < 512 := by omega
            have hlen := hTB.len
            rw [ZL.out] at hlen
            obtain ⟨Q, hQ⟩ : ∃ Q, P / 8 = Q := ⟨_, rfl⟩
            obtain ⟨R, hR⟩ : ∃ R, P % 8 = R := ⟨_, rfl⟩
            have tq : (P : Int).tdiv 8 = (Q : Int) := by rw [Int.tdiv_eq_ediv_of_nonneg (by omega)]; omega
            have tr : (P : Int).tmod 8 = (R : Int) := by rw [Int.tmod_eq_emod_of_nonneg (by omega)]; omega
            have wQ : IntKind.i64.wrap (Q : Int) = (Q : Int) := by rw [IntKind.wrap_i64]; omega
            have wR : IntKind.i64.wrap (R : Int) = (R : Int) := by rw [IntKind.wrap_i64]; omega
            have R8 : R < 8 := by omega
            have Q64 : Q < 64 := by omega
            have Q64i : (Q : Int) < 64 := by omega
            have hq : (aB + k) / 8 < c.length := by omega
            have NX := turned_next hTB (by rw [ZL.out]; omega) hq
            obtain ⟨hcell, hfr⟩ := hTB.cell Q (by omega)
            obtain ⟨v, hv⟩ : ∃ v, c[(aB + k) / 8] = v := ⟨_, rfl⟩
            have ev : c.getD Q 0 = v := by rw [← hv, ← hQ, ← hP]; simp [List.getD, hq]
            rw [hv] at NX
            rw [show (aB + k) / 8 = Q by omega, show (aB + k) % 8 = R by omega] at NX
            rw [ev] at hcell
            have NXH : Hid (Turned w1 (wr.setCell ⟨g2, Q, none⟩ (.int .u8 (bits BinOp.xor IntKind.u8 v ((2 : Int) ^ R % 256)))) w1.heap.size g2 Z aB (k + 1)) := NX
            clear hTB hlen hQ hR hq NX hv ev hP
            go_wp2
            go_roundw
            case rel => exact ⟨k + 1, by omega, by go_num, NXH.out⟩
            case measure => simp [intOf]; omega
          · have hin2 : ¬ (P : Int) < 512 := by omega
            clear hTB hP
            go_wp2
            go_roundw
            case rel => exact ⟨k + 1, by omega, by go_num, turned_skip T.out⟩
            case measure => simp [intOf]; omega
        · have ht : ((M : Int) / 2 ^ k).tmod 2 = 0 := by rw [shr_bit, show M / 2 ^ k % 2 = 0 from by omega]; rfl
          clear hodd hTB hP
          go_wp2
          go_roundw
          case rel => exact ⟨k + 1, by omega, by go_num, turned_skip T.out⟩
          case measure => simp [intOf]; omega
      · obtain rfl : k = 32 := by omega
        have hlen := hTB.len
        rw [ZL.out] at hlen
        obtain ⟨bm1, bm2⟩ := BM.out c aB e hTB.bytes hlen hTB.num (by have := hTB.lt; exact this) aB5
        have IC : Hid (IsB wr (some ⟨g2, 0, none⟩) c) := ⟨hTB.bytes, .inr ⟨g2, 0, rfl, hTB.new.2, fun i hi => by rw [Nat.zero_add]; exact (hTB.cell i hi).1⟩⟩
        have IZ : Hid (IsB wr (some ⟨g, 0, none⟩) Z) := (R1.out.isB ZA.out).keep hTB.below
        have BR : Hid (Below E.heap.size E wr) := B1.out.trans (hTB.below.mono B1.out.size)
        have HC : Hid (c.length = 64) := hlen
        have MR : Hid (Calls Try.prog 14 #[.slice (some ⟨g2, 0, none⟩) 64 c2] wr fun e w' => e = .returned (.tuple #[(rdM c).v, .int .i64 (wrongM c)]) ∧ Below wr.heap.size wr w') := mread_any _ c2 64 c wr IC.out hlen.symm (by omega) (by rw [hlen]; decide)
        have SA : Hid (∀ w' : World, Below wr.heap.size wr w' → Calls Try.prog 11 #[.slice (some ⟨g, 0, none⟩) 64 64, .slice (some ⟨g2, 0, none⟩) 64 c2] w' fun e w2 => e = .returned (.bool (decide (Z = c))) ∧ w' = w2) := fun w' bb => same_any _ _ 64 64 64 c2 Z c w' (IZ.out.keep bb) (IC.out.keep bb) ZL.out.symm HC.out.symm
        obtain ⟨⟨rs, rf, rk⟩, hr⟩ : ∃ r, rdM c = r := ⟨_, rfl⟩
        rw [hr] at MR
        unfold Mn.v at MR
        by_cases he : e = 0
        · have z1 := bm1.2 he
          have z2 := bm2.2 he
          have dv : decide (Z = c) = true := decide_eq_true z2.symm
          rw [dv] at SA
          rw [z1] at MR
          clear hTB hr bm1 bm2 z1 z2 dv he hlen q0 q1
          go_wp2_with fail
          refine Calls.mono MR.out ?_
          rintro e w3 ⟨rfl, b3⟩
          obtain ⟨F, hF, rF, bF⟩ := box21 29 w3 rs rf rk
          have HF : Hid _ := hF
          have B3 : Hid (Below wr.heap.size wr F) := b3.trans (bF.mono b3.size)
          clear hF rF bF b3
          go_upto_region 14 with (fail)
          rw [HF.out]
          go_wp2_with (go_at_call 11; refine Calls.mono (SA.out _ B3.out) ?_; rintro e w' ⟨rfl, rfl⟩)
          go_ret
          exact ⟨rfl, BE.out.trans ((BR.out.trans (B3.out.mono BR.out.size)).mono BE.out.size)⟩
        · have dv : decide (Z = c) = false := decide_eq_false (fun q => he (bm2.1 q.symm))
          obtain ⟨W, hW⟩ : ∃ W, wrongM c = W := ⟨_, rfl⟩
          have w0 : (W == 0) = false := by rw [beq_eq_false_iff_ne, ← hW]; exact fun q => he (bm1.1 q)
          rw [dv] at SA
          rw [hW] at MR
          clear hTB hr bm1 bm2 dv he hlen q0 q1 hW
          go_wp2_with fail
          refine Calls.mono MR.out ?_
          rintro e w3 ⟨rfl, b3⟩
          obtain ⟨F, hF, rF, bF⟩ := box21 29 w3 rs rf rk
          have HF : Hid _ := hF
          have B3 : Hid (Below wr.heap.size wr F) := b3.trans (bF.mono b3.size)
          clear hF rF bF b3
          go_upto_region 14 with (fail)
          rw [HF.out]
          go_wp2_with (go_at_call 11; refine Calls.mono (SA.out _ B3.out) ?_; rintro e w' ⟨rfl, rfl⟩)
          go_ret
          exact ⟨rfl, BE.out.trans ((BR.out.trans (B3.out.mono BR.out.size)).mono BE.out.size)⟩
theorem manifestBursts_any (m : Mn) (at' bi : Int) (w : World) (ha : 0 ≤ at' ∧ at' ≤ 65535) (hb : 0 ≤ bi ∧ bi ≤ 4294967295) :
    Calls Try.prog 6 #[m.v, .agg #[.int .u16 at', .int .u32 bi]] w fun e w' => e = .returned (.bool true) ∧ Below w.heap.size w w' := by
  obtain ⟨A0, rfl⟩ : ∃ n : Nat, at' = n := ⟨at'.toNat, by omega⟩
  obtain ⟨M, rfl⟩ : ∃ n : Nat, bi = n := ⟨bi.toNat, by omega⟩
  exact bursts21 m A0 M w (by omega) (by omega)
end Go.Proofs.Ytofmicbhheebiaa
