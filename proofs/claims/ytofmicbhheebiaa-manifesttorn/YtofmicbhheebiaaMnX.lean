/- Layer 21: the walk of ManifestReads. -/
import Derived.Test.YtofmicbhheebiaaMnV
import Derived.Test.YtofmicbhheebiaaMnS
namespace Go.Proofs.Ytofmicbhheebiaa
open Go.RowKit
set_option linter.unusedVariables false
set_option maxRecDepth 4000

set_option maxRecDepth 20000 in
set_option maxHeartbeats 4000000 in
/-- ManifestReads. -/
theorem manifestReads_any (a : Option Addr) (cap : Nat) (b : List Int) (w : World) (h : IsB w a b) (hn : a = none → b = [] ∧ cap = 0) (hc : b.length ≤ cap) (hm : b.length ≤ 140737488355328) :
    Calls Try.prog 4 #[.slice a b.length cap] w fun e w' => e = .returned (.bool true) ∧ Below w.heap.size w w' := by
  have hmx : b.length ≤ maxLen := by unfold maxLen; omega
  have HI : Hid (IsB w a b) := h
  have CP : Hid (∀ w : World, IsB w a b → Calls Try.prog 15 #[.slice a b.length cap] w fun e w' => ∃ g cap', e = .returned (.slice (some ⟨g, 0, none⟩) b.length cap') ∧ OwnsB w' w.heap.size (some ⟨g, 0, none⟩) b cap' ∧ Below w.heap.size w w') := fun w q => copy_any a cap _ b w rfl q hm
  have MR : Hid (∀ (w : World) (a : Option Addr) (c : Nat), IsB w a b → b.length ≤ c → Calls Try.prog 14 #[.slice a b.length c] w fun e w' => e = .returned (.tuple #[(rdM b).v, .int .i64 (wrongM b)]) ∧ Below w.heap.size w w') := fun w a c q hq => mread_any a c _ b w q rfl hq hmx
  have QR : Hid (∀ (w : World) (a : Option Addr) (c : Nat), IsB w a b → b.length ≤ c → Calls Try.prog 16 #[.slice a b.length c] w fun e w' => e = .returned (.tuple #[(rdM b).v, .int .i64 (wrongM b)]) ∧ Below w.heap.size w w') := fun w a c q hq => qread_any a c _ b w q rfl hq hmx
  have SA : Hid (∀ (w : World) (a a' : Option Addr) (c c' : Nat), IsB w a b → IsB w a' b → Calls Try.prog 11 #[.slice a b.length c, .slice a' b.length c'] w fun e w' => e = .returned (.bool true) ∧ w = w') := fun w a a' c c' q q' => same_true a a' _ _ c c' b w q q' rfl rfl
  have AB : Hid (AllB b) := h.1
  have HC : Hid (b.length ≤ cap) := hc
  have EQ : Hid (∀ w : World, (binOp .eql 32 (rdM b).v (rdM b).v).run Try.prog w = .ok (.bool true) w) := eqlM 32 (rdM b) (rdM b) true (eqM_iff.2 rfl) (by kernel_rfl) (by kernel_rfl) (by kernel_rfl)
  obtain ⟨E, hE⟩ : ∃ e, wrongM b = e := ⟨_, rfl⟩
  rw [hE] at MR QR
  obtain ⟨⟨s, f, k⟩, hR⟩ : ∃ m, rdM b = m := ⟨_, rfl⟩
  rw [hR] at MR QR EQ
  unfold Mn.v at MR QR EQ
  obtain ⟨N, hN⟩ : ∃ n, b.length = n := ⟨_, rfl⟩
  rw [hN] at MR QR CP SA HC ⊢
  clear h hn hc hm hmx hE hR
  go_enter Try.func4, Try.ntmps4
  go_wp2_with fail
  refine Calls.mono (alive21 _) ?_
  rintro e w0 ⟨rfl, b0⟩
  have B0 : Hid (Below w.heap.size w w0) := b0
  clear b0
  go_wp2_with fail
  refine Calls.mono (CP.out _ (HI.out.keep B0.out)) ?_
  rintro e w1 ⟨g1, c1, rfl, o1, b1⟩
  have I1 : Hid (IsB w1 (some ⟨g1, 0, none⟩) b) := ownsB_isB AB.out o1
  have C1 : Hid (N ≤ c1) := by have := (ownsB_isL o1).1; rw [hN] at this; exact this
  have B1 : Hid (Below w.heap.size w w1) := B0.out.trans (b1.mono B0.out.size)
  clear o1 b1 hN
  go_wp2_with fail
  refine Calls.mono (MR.out _ _ _ I1.out C1.out) ?_
  rintro e w2 ⟨rfl, b2⟩
  obtain ⟨D, hD, rD, bD⟩ := box21 29 w2 s f k
  have HD : Hid _ := hD
  have B2 : Hid (Below w.heap.size w D) := (B1.out.trans (b2.mono B1.out.size)).trans (bD.mono (Nat.le_trans B1.out.size b2.size))
  have RD : Hid (D.heap[w2.heap.size]? = some (.cells #[.int .i64 s, .int .i64 f, .int .i64 k] 29 (0, 0))) := rD
  have I2 : Hid (IsB D (some ⟨g1, 0, none⟩) b) := (I1.out.keep b2).keep bD
  obtain ⟨n2, hn2⟩ : ∃ n, w2.heap.size = n := ⟨_, rfl⟩
  rw [hn2] at RD
  have HN2 : Hid (w2.heap.size = n2) := hn2
  clear hD rD bD b2 hn2
  go_upto_region 5 with (fail)
  rw [HD.out]
  try rw [HN2.out]
  go_wp2_with fail
  refine Calls.mono (QR.out _ _ _ (HI.out.keep B2.out) HC.out) ?_
  rintro e w3 ⟨rfl, b3⟩
  obtain ⟨F, hF, rF, bF⟩ := box21 32 w3 s f k
  have HF : Hid _ := hF
  have B3 : Hid (Below w.heap.size w F) := (B2.out.trans (b3.mono B2.out.size)).trans (bF.mono (Nat.le_trans B2.out.size b3.size))
  have I3 : Hid (IsB F (some ⟨g1, 0, none⟩) b) := (I2.out.keep b3).keep bF
  have R3 : F.heap[n2]? = some (.cells #[.int .i64 s, .int .i64 f, .int .i64 k] 29 (0, 0)) := by
    have l2 := (Array.getElem?_eq_some_iff.1 RD.out).1
    rw [bF.block _ (Nat.lt_of_lt_of_le l2 b3.size), b3.block _ l2]
    exact RD.out
  obtain ⟨y0, y1, y2⟩ := three21 R3
  obtain ⟨z0, z1, z2⟩ := three21 rF
  have NQ := EQ.out
  clear hF rF bF b3 R3
  go_upto_region 6 with (fail)
  rw [HF.out]
  go_wp2_with (go_at_call 11; refine Calls.mono (SA.out _ _ _ _ _ I3.out (HI.out.keep B3.out)) ?_; rintro e w' ⟨rfl, rfl⟩)
  go_ret
  exact ⟨rfl, B3.out⟩
end Go.Proofs.Ytofmicbhheebiaa
