/- Layer 21: the walk of ManifestWrites. -/
import Derived.Test.YtofmicbhheebiaaMnH
import Derived.Test.YtofmicbhheebiaaMnR
namespace Go.Proofs.Ytofmicbhheebiaa
open Go.RowKit
set_option linter.unusedVariables false
set_option maxRecDepth 4000

theorem eqlM (T : TypeId) (a b : Mn) (v : Bool) (hv : eqM a b = v) (hS : Try.prog.underlying T = some (.struct (Try.prog.fieldsOf T))) (hp : Try.prog.stoodInHeld T = false) (hf : Try.prog.fieldsOf 29 = Try.prog.fieldsOf T) (w : World) : (binOp .eql T a.v b.v).run Try.prog w = .ok (.bool v) w := by
  have e := inM T w a b hS hp hf
  rw [hv] at e
  unfold Mn.v at e ⊢
  rw [run_eql_struct, e]
  rfl

set_option maxRecDepth 20000 in
set_option maxHeartbeats 4000000 in
/-- ManifestWrites. -/
theorem manifestWrites_any (m : Mn) (sl n : Int) (w : World) :
    Calls Try.prog 3 #[m.v, .int .i64 sl, .int .i64 n] w fun e w' => e = .returned (.bool true) ∧ Below w.heap.size w w' := by
  have MB : Hid (∀ w, Calls Try.prog 9 #[m.v] w fun e w' => ∃ (a : Option Addr) (k : Nat), e = .returned (.tuple #[.slice a k k, .int .i64 (errM m)]) ∧ k = (outM m).length ∧ IsB w' a (outM m) ∧ (okM m = true → ∃ g, a = some ⟨g, 0, none⟩ ∧ w.heap.size ≤ g ∧ RowB w' g 5 (manM m) ∧ k = 64) ∧ (okM m = false → a = none ∧ k = 0) ∧ Below w.heap.size w w') := fun w => mbytes_any m w
  have QB : Hid (∀ w, Calls Try.prog 10 #[m.v] w fun e w' => ∃ a c, e = .returned (.tuple #[.slice a (outM m).length c, .int .i64 (errM m)]) ∧ OwnsB w' w.heap.size a (outM m) c ∧ Below w.heap.size w w') := fun w => qbytes_any m w
  have AO : Hid (AllB (outM m)) := outM_allB m
  have SQ : Hid (∀ w : World, Calls Try.prog 12 #[.int .i64 sl, .int .i64 n] w fun e w' => e = .returned (.int .i64 (secM sl n)) ∧ w = w') := fun w => msector_any sl n w
  have SD : Hid (∀ w : World, Calls Try.prog 13 #[.int .i64 sl, .int .i64 n] w fun e w' => e = .returned (.int .i64 (secM sl n)) ∧ w = w') := fun w => qsector_any sl n w
  obtain ⟨S, hS⟩ : ∃ S, secM sl n = S := ⟨_, rfl⟩
  rw [hS] at SQ SD
  clear hS
  have RM : Hid (okM m = true → ∀ (w : World) (g : Nat), RowB w g 5 (manM m) → Calls Try.prog 14 #[.slice (some ⟨g, 0, none⟩) 64 64] w fun e w' => e = .returned (.tuple #[m.v, .int .i64 0]) ∧ Below w.heap.size w w') := fun hok w g r => by
    have q := mread_any (some ⟨g, 0, none⟩) 64 64 (manM m) w (r.isB (manM_allB _)) (manM_len _).symm (by rw [manM_len]; decide) (by rw [manM_len]; decide)
    rw [manM_read hok, manM_right hok] at q
    exact q
  have EQ : Hid (∀ w : World, (binOp .eql 23 m.v m.v).run Try.prog w = .ok (.bool true) w) := eqlM 23 m m true (eqM_iff.2 rfl) (by kernel_rfl) (by kernel_rfl) (by kernel_rfl)
  obtain ⟨O, hO⟩ : ∃ O, outM m = O := ⟨_, rfl⟩
  have ZL : Hid (okM m = true → O.length = 64) := fun h => by rw [← hO, outM, if_pos h]; exact manM_len m
  rw [hO] at MB QB AO
  clear hO
  cases hk : okM m
  · have e4 : errM m = 4 := if_neg (by rw [hk]; decide)
    rw [e4] at MB QB
    clear RM EQ hk e4 ZL
    obtain ⟨s, f, k⟩ := m
    obtain ⟨D, hD, rD, bD⟩ := box21 23 w s f k
    have HD : Hid _ := hD
    have BD : Hid (Below w.heap.size w D) := bD
    have RD : Hid (D.heap[w.heap.size]? = some (.cells #[.int .i64 s, .int .i64 f, .int .i64 k] 23 (0, 0))) := rD
    have LD : Hid (w.heap.size < D.heap.size) := (Array.getElem?_eq_some_iff.1 rD).1
    unfold Mn.v at MB QB
    clear hD rD bD
    unfold Mn.v
    go_enter Try.func3, Try.ntmps3
    go_upto_region 1 with (fail)
    rw [HD.out]
    go_wp2_with fail
    refine Calls.mono (alive21 _) ?_
    rintro e w0 ⟨rfl, b0⟩
    have B0 : Hid (Below D.heap.size D w0) := b0
    have R0 : Hid (w0.heap[w.heap.size]? = some (.cells #[.int .i64 s, .int .i64 f, .int .i64 k] 23 (0, 0))) := by show _ = _; rw [b0.block _ LD.out]; exact RD.out
    obtain ⟨y0, y1, y2⟩ := three21 R0.out
    clear b0
    go_wp2_with fail
    refine Calls.mono (MB.out _) ?_
    rintro e w1 ⟨a1, k1, rfl, hk1, i1, _, _, b1⟩
    have I1 : Hid (IsB w1 a1 O) := i1
    have K1 : Hid (k1 = O.length) := hk1
    have B1 : Hid (Below D.heap.size D w1) := B0.out.trans (b1.mono B0.out.size)
    have R1 : Hid (w1.heap[w.heap.size]? = some (.cells #[.int .i64 s, .int .i64 f, .int .i64 k] 23 (0, 0))) := by show _ = _; rw [B1.out.block _ LD.out]; exact RD.out
    clear y0 y1 y2 i1 hk1 b1
    obtain ⟨y0, y1, y2⟩ := three21 R1.out
    go_wp2_with fail
    refine Calls.mono (QB.out _) ?_
    rintro e w2 ⟨a2, k2, rfl, o2, b2⟩
    have I2 : Hid (IsB w2 a2 O) := ownsB_isB AO.out o2
    have J2 : Hid (IsB w2 a1 O) := I1.out.keep b2
    have B2 : Hid (Below D.heap.size D w2) := B1.out.trans (b2.mono B1.out.size)
    clear y0 y1 y2 o2 b2
    go_wp2_with (first
      | (go_at_call 13; refine Calls.mono (SD.out _) ?_; rintro e w' ⟨rfl, rfl⟩)
      | (go_at_call 12; refine Calls.mono (SQ.out _) ?_; rintro e w' ⟨rfl, rfl⟩)
      | (go_at_call 11; refine (same_true a1 a2 k1 _ k1 k2 O _ J2.out I2.out K1.out rfl).mono ?_; rintro e w' ⟨rfl, rfl⟩))
    go_ret
    exact ⟨rfl, BD.out.trans (B2.out.mono BD.out.size)⟩
  · have e4 : errM m = 0 := if_pos hk
    rw [e4] at MB QB
    have RM2 := RM.out hk
    have RM3 : Hid _ := RM2
    have ZL2 := ZL.out hk
    have HK : Hid (okM m = true) := hk
    obtain ⟨Z, hZ⟩ : ∃ Z, manM m = Z := ⟨_, rfl⟩
    rw [hZ] at MB RM3
    have OK := HK.out
    clear RM RM2 hk e4 ZL ZL2 hZ
    obtain ⟨s, f, k⟩ := m
    obtain ⟨D, hD, rD, bD⟩ := box21 23 w s f k
    have HD : Hid _ := hD
    have BD : Hid (Below w.heap.size w D) := bD
    have RD : Hid (D.heap[w.heap.size]? = some (.cells #[.int .i64 s, .int .i64 f, .int .i64 k] 23 (0, 0))) := rD
    have LD : Hid (w.heap.size < D.heap.size) := (Array.getElem?_eq_some_iff.1 rD).1
    unfold Mn.v at MB QB RM3 EQ
    clear hD rD bD OK
    unfold Mn.v
    go_enter Try.func3, Try.ntmps3
    go_upto_region 1 with (fail)
    rw [HD.out]
    go_wp2_with fail
    refine Calls.mono (alive21 _) ?_
    rintro e w0 ⟨rfl, b0⟩
    have B0 : Hid (Below D.heap.size D w0) := b0
    have R0 : Hid (w0.heap[w.heap.size]? = some (.cells #[.int .i64 s, .int .i64 f, .int .i64 k] 23 (0, 0))) := by show _ = _; rw [b0.block _ LD.out]; exact RD.out
    obtain ⟨y0, y1, y2⟩ := three21 R0.out
    clear b0
    go_wp2_with fail
    refine Calls.mono (MB.out _) ?_
    rintro e w1 ⟨a1, k1, rfl, hk1, i1, hok1, _, b1⟩
    obtain ⟨g, rfl, _, r1, rfl⟩ := hok1 HK.out
    have I1 : Hid (IsB w1 (some ⟨g, 0, none⟩) O) := i1
    have Z1 : Hid (RowB w1 g 5 Z) := r1
    have K1 : Hid (64 = O.length) := hk1
    have B1 : Hid (Below D.heap.size D w1) := B0.out.trans (b1.mono B0.out.size)
    have R1 : Hid (w1.heap[w.heap.size]? = some (.cells #[.int .i64 s, .int .i64 f, .int .i64 k] 23 (0, 0))) := by show _ = _; rw [B1.out.block _ LD.out]; exact RD.out
    clear y0 y1 y2 i1 hk1 b1 r1
    obtain ⟨y0, y1, y2⟩ := three21 R1.out
    go_wp2_with fail
    refine Calls.mono (QB.out _) ?_
    rintro e w2 ⟨a2, k2, rfl, o2, b2⟩
    have I2 : Hid (IsB w2 a2 O) := ownsB_isB AO.out o2
    have J2 : Hid (IsB w2 (some ⟨g, 0, none⟩) O) := I1.out.keep b2
    have Z2 : Hid (RowB w2 g 5 Z) := Z1.out.keep b2
    have B2 : Hid (Below D.heap.size D w2) := B1.out.trans (b2.mono B1.out.size)
    clear y0 y1 y2 o2 b2
    go_wp2_with (first
      | (go_at_call 14; fail)
      | (go_at_call 13; refine Calls.mono (SD.out _) ?_; rintro e w' ⟨rfl, rfl⟩)
      | (go_at_call 12; refine Calls.mono (SQ.out _) ?_; rintro e w' ⟨rfl, rfl⟩)
      | (go_at_call 11; refine (same_true (some ⟨g, 0, none⟩) a2 64 _ 64 k2 O _ J2.out I2.out K1.out rfl).mono ?_; rintro e w' ⟨rfl, rfl⟩))
    refine Calls.mono (RM3.out _ g Z2.out) ?_
    rintro e w3 ⟨rfl, b3⟩
    obtain ⟨E, hE, rE, bE⟩ := box21 29 w3 s f k
    have HE : Hid _ := hE
    have B3 : Hid (Below D.heap.size D E) := (B2.out.trans (b3.mono B2.out.size)).trans (bE.mono (Nat.le_trans B2.out.size b3.size))
    have R3 : Hid (E.heap[w.heap.size]? = some (.cells #[.int .i64 s, .int .i64 f, .int .i64 k] 23 (0, 0))) := by show _ = _; rw [B3.out.block _ LD.out]; exact RD.out
    obtain ⟨y0, y1, y2⟩ := three21 R3.out
    obtain ⟨x0, x1, x2⟩ := three21 rE
    have NQ := EQ.out
    clear hE rE bE b3
    go_upto_region 10 with (fail)
    rw [HE.out]
    go_wp2
    go_ret
    exact ⟨rfl, BD.out.trans (B3.out.mono BD.out.size)⟩
end Go.Proofs.Ytofmicbhheebiaa
