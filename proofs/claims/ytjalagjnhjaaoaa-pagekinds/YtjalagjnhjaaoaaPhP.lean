/- Layer 18: the walk of PageKinds. -/
import Derived.Test.YtjalagjnhjaaoaaPhM
namespace Go.Proofs.Ytjalagjnhjaaoaa
open Go.RowKit
set_option linter.unusedVariables false
set_option maxRecDepth 4000

set_option maxRecDepth 20000 in
set_option maxHeartbeats 8000000 in
/-- PageKinds. -/
theorem pageKinds_any (a : Option Addr) (cap : Nat) (l : List Kd) (i : Int) (w : World) (hW : IsK w a l) (hc : l.length ≤ cap) (hm : l.length ≤ maxLen) (hi : -9223372036854775808 ≤ i ∧ i ≤ 9223372036854775807) :
    Calls Try.prog 5 #[.slice a l.length cap, .int .i64 i] w fun e w' => e = .returned (.bool true) ∧ Below w.heap.size w w' := by
  have HW : Hid (IsK w a l) := hW
  have hmm : l.length ≤ 9223372036854775807 := hm
  obtain ⟨O, E, hO⟩ : ∃ O E, pgOutK (l.map kp) i = (O, E) := ⟨_, _, rfl⟩
  have HO : Hid (pgOutK (l.map kp) i = (O, E)) := hO
  obtain ⟨ob1, ob2⟩ := outK_byte (l.map kp) i
  rw [hO] at ob1 ob2
  simp only at ob1 ob2
  have OB : Hid (AllB O) := ob1
  clear hW hO ob1 hm
  by_cases h200 : l.length ≤ 200
  rotate_left
  · have g2 : (200 : Int) < (l.length : Int) := by omega
    go_enter Try.func5, Try.ntmps5
    go_wp2_with fail
    refine (alive18 _).mono ?_
    rintro e w1 ⟨rfl, b1⟩
    go_wp2
    go_ret
    exact ⟨rfl, b1⟩
  have g2 : ¬ (200 : Int) < (l.length : Int) := by omega
  go_enter Try.func5, Try.ntmps5
  go_wp2_with fail
  refine (alive18 _).mono ?_
  rintro e w1 ⟨rfl, b1⟩
  have B2 : Hid (Below w.heap.size w w1) := b1
  have RC : Hid (Calls Try.prog 18 #[.slice a l.length cap, .int .i64 i] w1 fun e w' => ∃ a' c', e = .returned (.tuple #[.slice a' O.length c', .int .i64 E]) ∧ OwnsB w' w1.heap.size a' O c' ∧ Below w1.heap.size w1 w') := by
    have q := pkinds_any a cap l i w1 (HW.out.keep B2.out) (by omega) hc hi
    rw [HO.out] at q
    exact q
  clear b1
  go_wp2_with fail
  refine Calls.mono RC.out ?_
  rintro e w3 ⟨a3, c3, rfl, o3, b3⟩
  have B3 : Hid (Below w.heap.size w w3) := B2.out.trans (b3.mono B2.out.size)
  have I3 : Hid (IsB w3 a3 O) := ownsB_isB OB.out o3
  have N3 : Hid (a3 = none → O = []) := fun e => by subst e; exact owns_none o3
  have RD : Hid (Calls Try.prog 19 #[.slice a l.length cap, .int .i64 i] w3 fun e w' => ∃ a' c', e = .returned (.tuple #[.slice a' O.length c', .int .i64 E]) ∧ OwnsB w' w3.heap.size a' O c' ∧ Below w3.heap.size w3 w') := by
    have q := dkinds_any a cap l i w3 (HW.out.keep B3.out) (by omega) hc hi
    rw [HO.out] at q
    exact q
  clear o3 b3 RC
  go_wp2_with fail
  refine Calls.mono RD.out ?_
  rintro e w4 ⟨a4, c4, rfl, o4, b4⟩
  have B4 : Hid (Below w.heap.size w w4) := B3.out.trans (b4.mono B3.out.size)
  have I4 : Hid (IsB w4 a4 O) := ownsB_isB OB.out o4
  have J4 : Hid (IsB w4 a3 O) := I3.out.keep b4
  clear o4 b4 RD
  go_wp2_with fail
  refine (same_true a3 a4 _ _ c3 c4 O _ J4.out I4.out rfl rfl).mono ?_
  rintro e w5 ⟨rfl, rfl⟩
  by_cases hE : E = 0
  · have HO2 := HO.out
    subst hE
    obtain ⟨j, rfl, jl, hP, hok⟩ := outK_ok HO2
    rw [List.length_map] at jl
    rw [pgk_map] at hP hok
    obtain ⟨pl1, pl2, pl3⟩ := pgk_len jl
    have BK : pgRd kdRd 16 O = ((pgAt 16 l j).map kp, 0) := by
      rw [hP]
      exact pg_back kindT (fun e => by rw [List.map_eq_nil_iff] at e; rw [e] at pl2; simp at pl2) (by rw [List.length_map]; omega) (by omega) hok
    have HBK : Hid (pgRd kdRd 16 O = ((pgAt 16 l j).map kp, 0)) := BK
    obtain ⟨gr, off, rfl⟩ : ∃ gr off, a = some ⟨gr, off, none⟩ := by
      rcases HW.out.at' with q | ⟨b, o, e, _⟩
      · rw [q] at jl; simp at jl
      · exact ⟨b, o, e⟩
    have HP : Hid (IsK w (some ⟨gr, off + 16 * j * 2, none⟩) (pgAt 16 l j)) := by
      have q := HW.out.part (16 * j) (pgAt 16 l j).length (by rw [pl1]; omega)
      have e : (l.drop (16 * j)).take (pgAt 16 l j).length = pgAt 16 l j := by
        unfold pgAt
        rw [List.length_take, List.take_eq_take_iff]
        simp
      rw [e] at q
      exact q
    obtain ⟨p, hp⟩ : ∃ p, pgAt 16 l j = p := ⟨_, rfl⟩
    rw [hp] at HP HBK pl1 pl2 pl3
    obtain ⟨P, hPl⟩ : ∃ P, p.length = P := ⟨_, rfl⟩
    have HPL : Hid (p.length = P) := hPl
    rw [hPl] at pl1 pl2 pl3
    obtain ⟨lo, hlo⟩ : ∃ lo : Nat, 16 * j = lo := ⟨_, rfl⟩
    rw [hlo] at HP jl pl1
    have w1' : IntKind.i64.wrap (16 * (j : Int)) = (lo : Int) := by rw [IntKind.wrap_i64]; omega
    obtain ⟨l32, hl32⟩ : ∃ x : Nat, lo + 16 = x := ⟨_, rfl⟩
    have w2' : IntKind.i64.wrap ((lo : Int) + 16) = (l32 : Int) := by rw [IntKind.wrap_i64]; omega
    obtain ⟨hi2, hhi, hcase⟩ : ∃ x : Nat, x = min l32 l.length ∧ ((x = l32 ∧ l32 ≤ l.length) ∨ (x = l.length ∧ ¬ l32 ≤ l.length)) := ⟨_, rfl, by omega⟩
    have ePP : P = hi2 - lo := by omega
    have SLR : ∀ w : World, (Instr.slice 39 (.slice (some ⟨gr, off, none⟩) l.length cap) (some (.int .i64 (lo : Int))) (some (.int .i64 (hi2 : Int))) none).run Try.prog w = .ok (.slice (some ⟨gr, off + lo * 2, none⟩) P (cap - lo)) w := fun w => by
      rw [sliceK_run w gr off l.length cap lo hi2 (by omega) (by omega) (by omega), ← ePP]
    clear hok BK hP hp hPl hlo pl1 ePP hhi hl32 HO2 jl
    go_wp2_with fail
    refine (preadkinds_any a3 c3 O _ J4.out (by omega) N3.out).mono ?_
    unfold RkP18
    rw [HBK.out]
    rintro e w9 ⟨a9, ks, c9, rfl, hks, o9, b9⟩
    have HKS : Hid (ks.map kp = p.map kp) := hks
    have kl : Hid (ks.length = P) := by show _ = _; rw [← HPL.out]; have := congrArg List.length hks; simpa using this
    have B9 : Hid (Below w.heap.size w w9) := B4.out.trans (b9.mono B4.out.size)
    have W9 : Hid (IsK w9 a9 ks) := o9.isK
    clear o9 b9 hks
    simp only
    rw [kl.out]
    have HS : Hid (Calls Try.prog 21 #[.slice a9 P c9, .slice (some ⟨gr, off + lo * 2, none⟩) P (cap - lo)] w9 fun e w' => e = .returned (.bool true) ∧ Below w9.heap.size w9 w') := rall18 a9 (some ⟨gr, off + lo * 2, none⟩) P P c9 (cap - lo) ks p w9 W9.out (HP.out.keep B9.out) kl.out.symm HPL.out.symm HKS.out (by rw [kl.out]; omega)
    rcases hcase with ⟨rfl, hle⟩ | ⟨rfl, hle⟩
    · have m1 : (hi2 : Int) ≤ (l.length : Int) := by omega
      have m2 : ¬ (l.length : Int) < (hi2 : Int) := by omega
      go_wp2_with fail
      refine Calls.mono HS.out ?_
      rintro e wx ⟨rfl, bx⟩
      go_wp2
      go_ret
      exact ⟨rfl, B9.out.trans (bx.mono B9.out.size)⟩
    · have m1 : ¬ (l32 : Int) ≤ (l.length : Int) := by omega
      have m2 : (l.length : Int) < (l32 : Int) := by omega
      go_wp2_with fail
      refine Calls.mono HS.out ?_
      rintro e wx ⟨rfl, bx⟩
      go_wp2
      go_ret
      exact ⟨rfl, B9.out.trans (bx.mono B9.out.size)⟩
  · have e1 : (E != 0) = true := by rw [bne_iff_ne]; exact hE
    go_wp2
    go_ret
    exact ⟨rfl, B4.out⟩
end Go.Proofs.Ytjalagjnhjaaoaa
