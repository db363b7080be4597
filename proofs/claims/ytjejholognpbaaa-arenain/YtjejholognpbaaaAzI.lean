/- What the law ArenaIn goes through. -/
import Derived.Test.YtjejholognpbaaaAzA
namespace Go.Proofs.Ytjejholognpbaaa
open Go.RowKit
set_option linter.unusedVariables false

theorem in_q (b g : Nat) (base x k : Int) (v : Bool) (l : List Int) (w : World) (h : IsA w b g base l) (hx : Fits x) (hk : Fits k) (hv : decide (inR l.length (x - base) k) = v) :
    Calls Try.prog 20 #[.pointer (some ⟨b, 0, none⟩), .int .i64 x, .int .i64 k] w fun e w' => e = .returned (.bool v) ∧ w' = w :=
  (in_of b g base x k v l w h hx hk hv).mono fun e w' h => ⟨h.1, h.2.symm⟩

set_option maxHeartbeats 4000000 in
theorem arenaIn_any (n : Nat) (a k : Int) (w : World) (hn : n < 4294967296) (ha : -9223372036854775808 ≤ a ∧ a ≤ 9223372036854775807) (hk : -9223372036854775808 ≤ k ∧ k ≤ 9223372036854775807) :
    Calls Try.prog 4 #[.int .u32 (n : Nat), .int .i64 a, .int .i64 k] w fun e w' => e = .returned (.bool true) ∧ Below w.heap.size w w' := by
  obtain ⟨B, hB⟩ : ∃ B, baseN n = B := ⟨_, rfl⟩
  have EB : Hid (baseN n = B) := hB
  have HG : Hid (goodR B) := by show goodR _; rw [← hB]; exact baseN_good hn
  have bd := baseN_fits hn
  rw [hB] at bd
  obtain ⟨b1, b2⟩ := bd
  obtain ⟨Z, hZ⟩ : ∃ Z : List Int, List.replicate (3 * 256) 0 = Z := ⟨_, rfl⟩
  have EZ : Hid (List.replicate (3 * 256) 0 = Z) := hZ
  obtain ⟨r1, hr1⟩ : ∃ r, a.tmod 900 = r := ⟨_, rfl⟩
  obtain ⟨r2, hr2⟩ : ∃ r, k.tmod 900 = r := ⟨_, rfl⟩
  have t1 := tmod_bd a 900 (by decide)
  have t2 := tmod_bd k 900 (by decide)
  rw [hr1] at t1
  rw [hr2] at t2
  obtain ⟨v1, hv1⟩ : ∃ v, decide (inR Z.length (a - B) k) = v := ⟨_, rfl⟩
  obtain ⟨v2, hv2⟩ : ∃ v, decide (inR Z.length (B + r1 - B) r2) = v := ⟨_, rfl⟩
  have V1 : Hid (decide (inR Z.length (a - B) k) = v1) := hv1
  have V2 : Hid (decide (inR Z.length (B + r1 - B) r2) = v2) := hv2
  have FA : Hid (Fits a) := ha
  have FK : Hid (Fits k) := hk
  have FB : Hid (Fits (B + r1)) := by show Fits _; unfold Fits; omega
  have FR : Hid (Fits r2) := by show Fits _; unfold Fits; omega
  have e1 : (v1 == v1) = true := by cases v1 <;> rfl
  have e2 : (v2 == v2) = true := by cases v2 <;> rfl
  have g1 : IntKind.i64.wrap (B + r1) = B + r1 := by rw [IntKind.wrap_i64]; omega
  have g2 : IntKind.i64.wrap r1 = r1 := by rw [IntKind.wrap_i64]; omega
  have g3 : IntKind.i64.wrap r2 = r2 := by rw [IntKind.wrap_i64]; omega
  clear hB hZ hv1 hv2 ha hk
  go_enter Try.func4, Try.ntmps4
  go_wp2_with fail
  refine (alive_any _).mono ?_
  rintro e w1 ⟨rfl, b1'⟩
  have B1 : Hid (Below w.heap.size w w1) := b1'
  clear b1'
  go_wp2_with (go_at_call 11; refine (lbase_any n _ hn).mono ?_; rw [EB.out]; rintro e w' ⟨rfl, rfl⟩)
  refine (new_any B 3 _ (by decide) (by decide) HG.out).mono ?_
  rw [EZ.out]
  rintro e w2 ⟨rfl, i2, b2', s2⟩
  obtain ⟨pb, hpb⟩ : ∃ pb, w1.heap.size + 1 = pb := ⟨_, rfl⟩
  obtain ⟨pg, hpg⟩ : ∃ pg, w1.heap.size = pg := ⟨_, rfl⟩
  have i2' : IsA w2 pb pg B Z := by rw [← hpb, ← hpg]; exact i2
  have I2 : Hid (IsA w2 pb pg B Z) := i2'
  have B2 : Hid (Below w.heap.size w w2) := B1.out.trans (b2'.mono B1.out.size)
  rw [hpb]
  clear i2 i2' b2' s2 hpb hpg
  go_wp2_with (go_at_call 11; refine (lbase_any n _ hn).mono ?_; rw [EB.out]; rintro e w' ⟨rfl, rfl⟩)
  refine (rnew_any B 3 _ (by decide) (by decide) HG.out).mono ?_
  rw [EZ.out]
  rintro e w3 ⟨rfl, i3, b3, s3⟩
  obtain ⟨mb, hmb⟩ : ∃ mb, w2.heap.size + 1 = mb := ⟨_, rfl⟩
  obtain ⟨mg, hmg⟩ : ∃ mg, w2.heap.size = mg := ⟨_, rfl⟩
  have i3' : IsM w3 mb mg B Z := by rw [← hmb, ← hmg]; exact i3
  have M3 : Hid (IsM w3 mb mg B Z) := i3'
  have I3 : Hid (IsA w3 pb pg B Z) := I2.out.keep b3
  have B3 : Hid (Below w.heap.size w w3) := B2.out.trans (b3.mono B2.out.size)
  have c0 := i3'.cell0
  rw [hmb]
  clear i3 i3' b3 s3 hmb hmg
  go_wp2_with fail
  go_quiet ((first
    | (go_at_call_of 21 k; exact Calls.quiet_of (rin_of mb mg B a k v1 Z _ (M3.out.drewN _) FA.out FK.out V1.out))
    | (go_at_call_of 21 r2; exact Calls.quiet_of (rin_of mb mg B (B + r1) r2 v2 Z _ (M3.out.drewN _) FB.out FR.out V2.out))
    | (go_at_call_of 20 k; exact Calls.quiet_of_same (in_q pb pg B a k v1 Z _ (I3.out.drewN _) FA.out FK.out V1.out))
    | (go_at_call_of 20 r2; exact Calls.quiet_of_same (in_q pb pg B (B + r1) r2 v2 Z _ (I3.out.drewN _) FB.out FR.out V2.out))))
  go_wp2
  go_ret
  exact ⟨rfl, below_drewN B3.out _⟩
end Go.Proofs.Ytjejholognpbaaa
