/- Layer 20: List of the document. -/
import Derived.Test.YtgpkiajakokjmaaRtJ
namespace Go.Proofs.Ytgpkiajakokjmaa
open Go.RowKit
set_option linter.unusedVariables false
set_option maxRecDepth 4000

theorem dcount_of (n per c : Int) (w : World) (hc : cntP n per = c) (hn : -9223372036854775808 ≤ n ∧ n ≤ 9223372036854775807) (hp : -9223372036854775808 ≤ per ∧ per ≤ 9223372036854775807) :
    Calls Try.prog 43 #[.int .i64 n, .int .i64 per] w fun e w' => e = .returned (.int .i64 c) ∧ w = w' := by
  subst hc; exact dcount_any n per w hn hp
set_option maxRecDepth 20000 in
set_option maxHeartbeats 8000000 in
/-- List of the document. -/
theorem dlist_any (k r : Int) (a : Option Addr) (cp : Nat) (ps : List Int) (w : World) (hk : -9223372036854775808 ≤ k ∧ k ≤ 10000) (hr : -9223372036854775808 ≤ r ∧ r ≤ 10000) (hI : IsI w a ps) (hl : ps.length ≤ 4398046000000) :
    Calls Try.prog 22 #[.int .i64 k, .int .i64 r, .slice a ps.length cp] w fun e w' => ∃ a' c, e = .returned (.slice a' (listE k r ps).length c) ∧ Ow w' w.heap.size a' (listE k r ps) c ∧ Below w.heap.size w w' := by
  have HI : Hid (IsI w a ps) := hI
  obtain ⟨K, hK, hK2, hK3⟩ := cnt_small (n := k) (per := 16) hk.2 (by omega)
  obtain ⟨R, hR, hR2, hR3⟩ := cnt_small (n := r) (per := 32) hr.2 (by omega)
  have eA : aheadE k r = numE 1 K ++ numE 2 R := by unfold aheadE; rw [hK2, hR2]
  have EA : Hid (listE k r ps = (numE 1 K ++ numE 2 R) ++ spanE ps) := by show _ = _; unfold listE; rw [eA]
  have C1 : Hid (∀ w, Calls Try.prog 43 #[.int .i64 k, .int .i64 16] w fun e w' => e = .returned (.int .i64 (K : Nat)) ∧ w = w') := fun w => dcount_of k 16 _ w hK (by omega) (by omega)
  have C2 : Hid (∀ w, Calls Try.prog 43 #[.int .i64 r, .int .i64 32] w fun e w' => e = .returned (.int .i64 (R : Nat)) ∧ w = w') := fun w => dcount_of r 32 _ w hR (by omega) (by omega)
  clear hI hK hK2 hR hR2 eA
  obtain ⟨N, hN⟩ : ∃ N, ps.length = N := ⟨_, rfl⟩
  have HN : Hid (ps.length = N) := hN
  rw [hN] at hl ⊢
  clear hN
  have S0 : Hid (Es w w (numE 1 0) none 0) := ⟨Ow.nil _ _, Below.refl _ _⟩
  go_enter Try.func22, Try.ntmps22
  go_wp2_with fail
  go_loopw [7, 8] (fun ov iv wr => ∃ (m : Nat) (a : Option Addr) (c : Nat), m ≤ K ∧ iv = .int .i64 (m : Nat) ∧ ov = .slice a (numE 1 m).length c ∧ Es w wr (numE 1 m) a c) (fun _ iv _ => K - (intOf iv).toNat)
  case atStart => exact ⟨0, none, 0, Nat.zero_le _, rfl, rfl, S0.out⟩
  case round =>
    clear S0
    obtain ⟨m, a1, c, hm, rfl, rfl, hS⟩ := hrel
    rename World => wr
    have HS : Hid (Es w wr (numE 1 m) a1 c) := hS
    clear hS
    by_cases hmn : m < K
    · have m0 : (m : Int) < (K : Int) := by omega
      obtain ⟨a2, c2, w2, hr2, s2⟩ := HS.out.one ⟨1, (m : Nat), 0, 0⟩ (by rw [numE_len]; omega)
      rw [← numE_more] at hr2 s2
      simp only at hr2
      have RUN : Hid _ := hr2
      have S2 : Hid (Es w w2 (numE 1 (m + 1)) a2 c2) := s2
      clear hr2 s2
      go_wp2_with (first
        | (go_at_call 43; refine (C1.out _).mono ?_; rintro e w' ⟨rfl, rfl⟩)
        | (at_builtin; refine wpList_rune rfl rfl _ _ rfl (.slice a1 (numE 1 m).length c) (.slice (some ⟨wr.heap.size, 0, none⟩) 1 1) _ _ rfl rfl RUN.out ?_))
      go_roundw
      case rel => exact ⟨m + 1, a2, c2, by omega, by go_num, rfl, S2.out⟩
      case measure => simp [intOf]; omega
    · have hm2 : K = m := by omega
      subst hm2
      have m0 : ¬ (K : Int) < (K : Int) := by omega
      have S1 : Hid (Es w wr (numE 1 K ++ numE 2 0) a1 c) := by show Es _ _ _ _ _; rw [show numE 2 0 = [] from rfl, List.append_nil]; exact HS.out
      have L1 : Hid ((numE 1 K).length = (numE 1 K ++ numE 2 0).length) := by show _ = _; rw [show numE 2 0 = [] from rfl, List.append_nil]
      go_wp2_with (go_at_call 43; refine (C1.out _).mono ?_; rintro e w' ⟨rfl, rfl⟩)
      go_loopw [7, 9] (fun ov iv wr => ∃ (m : Nat) (a : Option Addr) (c : Nat), m ≤ R ∧ iv = .int .i64 (m : Nat) ∧ ov = .slice a (numE 1 K ++ numE 2 m).length c ∧ Es w wr (numE 1 K ++ numE 2 m) a c) (fun _ iv _ => R - (intOf iv).toNat)
      case atStart => exact ⟨0, a1, c, Nat.zero_le _, rfl, by rw [← L1.out], S1.out⟩
      case round =>
        clear S1 L1 HS
        obtain ⟨m, a1, c, hm, rfl, rfl, hS⟩ := hrel
        rename World => wr
        obtain ⟨L, hL⟩ : ∃ L, numE 1 K ++ numE 2 m = L := ⟨_, rfl⟩
        have HL : Hid (numE 1 K ++ numE 2 m = L) := hL
        have LL : L.length ≤ 20000 := by rw [← hL, List.length_append, numE_len, numE_len]; omega
        rw [hL] at hS ⊢
        have HS : Hid (Es w wr L a1 c) := hS
        clear hS hL
        by_cases hmn : m < R
        · have m0 : (m : Int) < (R : Int) := by omega
          have MORE : Hid (numE 1 K ++ numE 2 (m + 1) = L ++ [⟨2, (m : Nat), 0, 0⟩]) := by show _ = _; rw [numE_more, ← List.append_assoc, HL.out]
          obtain ⟨a2, c2, w2, hr2, s2⟩ := HS.out.one ⟨2, (m : Nat), 0, 0⟩ (by omega)
          rw [← MORE.out] at hr2 s2
          simp only at hr2
          have RUN : Hid _ := hr2
          have S2 : Hid (Es w w2 (numE 1 K ++ numE 2 (m + 1)) a2 c2) := s2
          clear hr2 s2
          go_wp2_with (first
            | (go_at_call 43; refine (C2.out _).mono ?_; rintro e w' ⟨rfl, rfl⟩)
            | (at_builtin; refine wpList_rune rfl rfl _ _ rfl (.slice a1 L.length c) (.slice (some ⟨wr.heap.size, 0, none⟩) 1 1) _ _ rfl rfl RUN.out ?_))
          go_roundw
          case rel => exact ⟨m + 1, a2, c2, by omega, by go_num, by simp, S2.out⟩
          case measure => simp [intOf]; omega
        · have hm2 : R = m := by omega
          subst hm2
          have m0 : ¬ (R : Int) < (R : Int) := by omega
          have S3 : Hid (Es w wr (L ++ spanE (ps.take 0)) a1 c) := by show Es _ _ _ _ _; rw [List.take_zero]; simpa [spanE] using HS.out
          have L0 : Hid (L.length = (L ++ spanE (ps.take 0)).length) := by show _ = _; rw [List.take_zero]; simp [spanE]
          go_wp2_with (go_at_call 43; refine (C2.out _).mono ?_; rintro e w' ⟨rfl, rfl⟩)
          go_loopw [7, 36] (fun ov iv wr => ∃ (m : Nat) (a' : Option Addr) (c : Nat), m ≤ N ∧ iv = .int .i64 (m : Nat) ∧ ov = .slice a' (L ++ spanE (ps.take m)).length c ∧ Es w wr (L ++ spanE (ps.take m)) a' c) (fun _ iv _ => N - (intOf iv).toNat)
          case atStart => exact ⟨0, a1, c, Nat.zero_le _, rfl, by rw [← L0.out], S3.out⟩
          case round =>
            clear S3 L0 HS
            obtain ⟨m, a', c, hm, rfl, rfl, hS⟩ := hrel
            rename World => wr
            obtain ⟨Q, hQ⟩ : ∃ Q, L ++ spanE (ps.take m) = Q := ⟨_, rfl⟩
            have HQ : Hid (L ++ spanE (ps.take m) = Q) := hQ
            have LQ : Q.length ≤ 20000 + m := by
              rw [← hQ, List.length_append, spanE_len, List.length_take]
              omega
            rw [hQ] at hS ⊢
            have HS : Hid (Es w wr Q a' c) := hS
            clear hS hQ
            by_cases hmn : m < N
            · have m0 : (m : Int) < (N : Int) := by omega
              have hmp : m < ps.length := by rw [HN.out]; exact hmn
              obtain ⟨b, off, rfl, hcell⟩ := (HI.out.keep HS.out.low).getI m hmp
              have MORE : Hid (L ++ spanE (ps.take (m + 1)) = Q ++ [⟨3, ps.getD m 0, 0, 0⟩]) := by show _ = _; rw [spanE_take hmp, ← List.append_assoc, HQ.out]
              obtain ⟨p, hp⟩ : ∃ p, ps.getD m 0 = p := ⟨_, rfl⟩
              rw [hp] at hcell MORE
              clear hp
              obtain ⟨a4, c4, w4, hr4, s4⟩ := HS.out.one ⟨3, p, 0, 0⟩ (by omega)
              rw [← MORE.out] at hr4 s4
              simp only at hr4
              have RUN4 : Hid _ := hr4
              have S4 : Hid (Es w w4 (L ++ spanE (ps.take (m + 1))) a4 c4) := s4
              clear hr4 s4
              go_wp2_with (at_builtin; refine wpList_rune rfl rfl _ _ rfl (.slice a' Q.length c) (.slice (some ⟨wr.heap.size, 0, none⟩) 1 1) _ _ rfl rfl RUN4.out ?_)
              go_roundw
              case rel => exact ⟨m + 1, a4, c4, by omega, by go_num, by simp, S4.out⟩
              case measure => simp [intOf]; omega
            · have hm2 : N = m := by omega
              subst hm2
              have m0 : ¬ (N : Int) < (N : Int) := by omega
              have e : Hid (listE k r ps = Q) := by show _ = _; rw [EA.out, ← HQ.out, List.take_of_length_le (by rw [HN.out]; exact Nat.le_refl _), HL.out]
              go_wp2
              go_ret
              rw [e.out]
              exact ⟨a', c, rfl, HS.out.own, HS.out.low⟩
end Go.Proofs.Ytgpkiajakokjmaa
