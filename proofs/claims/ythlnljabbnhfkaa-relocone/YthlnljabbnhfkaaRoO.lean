/- The walk of RelocOne. -/
import Derived.Test.YthlnljabbnhfkaaRoR
namespace Go.Proofs.Ythlnljabbnhfkaa
open Go.RowKit
set_option linter.unusedVariables false

set_option maxRecDepth 20000 in
set_option maxHeartbeats 4000000 in
theorem relocOne_any (a : Option Addr) (cap : Nat) (l : List Int) (w : World) (hB : IsB w a l) (hnil : a = none → l = [] ∧ cap = 0) (hc : l.length ≤ cap) (hcm : cap ≤ maxLen) (hlen : l.length ≤ 140737488355328) :
    Calls Try.prog 8 #[.slice a l.length cap] w fun e w' => e = .returned (.bool true) ∧ Below w.heap.size w w' := by
  have HB : Hid (IsB w a l) := hB
  have HN : Hid (a = none → l = []) := fun h => (hnil h).1
  obtain ⟨ps, rest, er, hk⟩ : ∃ ps rest er, readT l = (ps, rest, er) := ⟨_, _, _, rfl⟩
  have HK : Hid (readT l = (ps, rest, er)) := hk
  have hG := readT_good hB.1 hk
  unfold maxLen at hcm
  clear hB hk hnil
  go_enter Try.func8, Try.ntmps8
  go_wp2_with fail
  refine (alive_any _).mono ?_
  rintro e w1 ⟨rfl, b1⟩
  have B1 : Hid (Below w.heap.size w w1) := b1
  clear b1
  go_wp2_with fail
  refine (open_any a cap l _ (HB.out.keep B1.out) hlen HN.out).mono ?_
  rintro e w2 ⟨B, rfl, hB1, hB2, r2, b2⟩
  have R2 : Hid (RdAt w2 B l 0) := r2
  have B2 : Hid (Below w.heap.size w w2) := B1.out.trans (b2.mono B1.out.size)
  have z1 := B1.out.size
  clear r2 b2
  go_wp2_with fail
  refine (oread_any B l ps rest er _ R2.out HK.out).mono ?_
  rintro e w5 ⟨a5, c5, l5, rfl, i5, n5, r5, e5, t5, f5, m5⟩
  have RD5 : Hid (RdAt w5 B l5 er) := r5
  have I5 : Hid (IsI w5 a5 ps) := i5
  have L5 : Hid (er = 0 → l5 = rest) := e5
  have B5 : Hid (Below w.heap.size w w5) := B2.out.trans (t5.below (by omega) B2.out.size)
  have M5 : Hid (ps.length ≤ maxLen) := by show _ ≤ maxLen; unfold maxLen; omega
  clear i5 n5 r5 e5 t5 f5 m5
  rcases hG with ⟨rfl, hck, hl⟩ | ⟨he, hp, _⟩
  · obtain ⟨Y, hY⟩ : ∃ Y, bytesT ps = Y := ⟨_, rfl⟩
    have hE : errT ps = 0 := (bytesT_ok hck).2
    have hYp : 1 ≤ Y.length := by
      rw [← hY, (bytesT_ok hck).1, bodyT, List.length_append]
      have := varL_pos (ps.length : Nat)
      omega
    rw [hY] at hl
    have hll : l.length = Y.length + rest.length := by rw [hl, List.length_append]
    have HT : Hid (l.take Y.length = Y) := by show _ = _; rw [hl, List.take_left]
    have HY : Hid (bytesT ps = Y) := hY
    have HE : Hid (errT ps = 0) := hE
    have AY : Hid (AllB Y) := by show AllB Y; rw [← hY]; exact bytesT_byte ps
    have HX : Hid (leftV l5 0 = (rest.length : Nat)) := by show _ = _; rw [leftV, if_pos rfl, L5.out rfl]
    obtain ⟨_, h0 | ⟨b, off, rfl, _⟩⟩ := HB.out
    · rw [h0] at hll; simp at hll; omega
    clear hY hck hl hE
    obtain ⟨N, hN⟩ : ∃ N, Y.length = N := ⟨_, rfl⟩
    have HNY : Hid (Y.length = N) := hN
    rw [hN] at hll hYp HT
    have ek : ((l.length : Int) - (rest.length : Int)) = (N : Int) := by omega
    have g2 : N ≤ cap := by omega
    have g3 : (N : Int) ≤ (cap : Int) := by omega
    have g4 : (0 : Int) ≤ (N : Int) := by omega
    have g5 : IntKind.i64.wrap (N : Int) = (N : Int) := by rw [IntKind.wrap_i64]; omega
    clear hN hll
    go_wp2_with fail
    refine (err_any B l5 0 _ RD5.out).mono ?_
    rintro e w5' ⟨rfl, rfl⟩
    go_wp2_with fail
    refine (obytes_any a5 c5 ps _ I5.out M5.out).mono ?_
    rw [HY.out, HNY.out, HE.out]
    rintro e w10 ⟨a10, c10, rfl, o10, b10⟩
    have B10 : Hid (Below w.heap.size w w10) := B5.out.trans (b10.mono B5.out.size)
    have I10 : Hid (IsB w10 a10 Y) := ownsB_isB AY.out o10
    have RD10 : Hid (RdAt w10 B l5 0) := rd_keep RD5.out b10
    have T10 : Hid (IsB w10 (some ⟨b, off, none⟩) Y) := by
      have := (HB.out.keep B10.out).take N
      rwa [HT.out] at this
    clear o10 b10
    go_wp2_with fail
    refine (left_any B l5 0 _ RD10.out).mono ?_
    rw [HX.out]
    rintro e w10' ⟨rfl, rfl⟩
    go_wp2_with fail
    refine (same_true a10 (some ⟨b, off, none⟩) _ _ c10 cap Y _ I10.out T10.out HNY.out.symm HNY.out.symm).mono ?_
    rintro e w10' ⟨rfl, rfl⟩
    go_wp2
    go_ret
    exact ⟨rfl, B10.out⟩
  · have hq : (er != 0) = true := by rw [bne_iff_ne]; omega
    subst hp
    clear he
    go_wp2_with fail
    refine (err_any B l5 er _ RD5.out).mono ?_
    rintro e w5' ⟨rfl, rfl⟩
    go_wp2
    go_ret
    exact ⟨rfl, B5.out⟩
end Go.Proofs.Ythlnljabbnhfkaa
