/- Layer 20: numbered, List. -/
import Derived.Test.YtgpkiajakokjmaaRtA
import Derived.Test.YtgpkiajakokjmaaKdI
import Derived.BigQuiet
namespace Go.Proofs.Ytgpkiajakokjmaa
open Go.RowKit
set_option linter.unusedVariables false
set_option maxRecDepth 4000

/-- Entries of one's own, over a world. -/
structure Es (w wr : World) (l : List Ent) (a : Option Addr) (c : Nat) : Prop where
  own : Ow wr w.heap.size a l c
  low : Below w.heap.size w wr
theorem Es.one {w wr : World} {l : List Ent} {a : Option Addr} {c : Nat} (h : Es w wr l a c) (x : Ent) (hl : l.length + 1 ≤ 4398046511104) :
    ∃ a' c' w', (Builtin.append_ #[22, 22] 22 #[.slice a l.length c, .slice (some ⟨wr.heap.size, 0, none⟩) 1 1]).run Try.prog (wr.alloc (.cells #[.int .i64 x.t, .int .i64 x.i, .int .i64 x.f, .int .i64 x.n] 54)) = .ok (.slice a' (l ++ [x]).length c') w' ∧ Es w w' (l ++ [x]) a' c' := by
  obtain ⟨a', c', w', h1, h2, h3⟩ := appE_one w.heap.size wr h.low.size a l c h.own x hl
  exact ⟨a', c', w', h1, h2, h.low.trans h3⟩
set_option maxHeartbeats 2000000 in
/-- So many entries of a type, by their numbers. -/
theorem numbered_any (t : Int) (n : Nat) (w : World) (hn : n ≤ 1000000) :
    Calls Try.prog 41 #[.int .i64 t, .int .i64 (n : Nat)] w fun e w' => ∃ a c, e = .returned (.slice a (numE t n).length c) ∧ Ow w' w.heap.size a (numE t n) c ∧ Below w.heap.size w w' := by
  have S0 : Hid (Es w w (numE t 0) none 0) := ⟨Ow.nil _ _, Below.refl _ _⟩
  go_enter Try.func41, Try.ntmps41
  go_wp2
  go_loopw [5, 8] (fun ov iv wr => ∃ (m : Nat) (a : Option Addr) (c : Nat), m ≤ n ∧ iv = .int .i64 (m : Nat) ∧ ov = .slice a (numE t m).length c ∧ Es w wr (numE t m) a c) (fun _ iv _ => n - (intOf iv).toNat)
  case atStart => exact ⟨0, none, 0, Nat.zero_le _, rfl, rfl, S0.out⟩
  case round =>
    clear S0
    obtain ⟨m, a, c, hm, rfl, rfl, hS⟩ := hrel
    rename World => wr
    have HS : Hid (Es w wr (numE t m) a c) := hS
    clear hS
    by_cases hmn : m < n
    · have m0 : (m : Int) < (n : Int) := by omega
      obtain ⟨a2, c2, w2, hr, s2⟩ := HS.out.one ⟨t, (m : Nat), 0, 0⟩ (by rw [numE_len]; omega)
      rw [← numE_more] at hr s2
      simp only at hr
      have RUN : Hid _ := hr
      have S2 : Hid (Es w w2 (numE t (m + 1)) a2 c2) := s2
      clear hr s2
      go_wp2_with (at_builtin; refine wpList_rune rfl rfl _ _ rfl (.slice a (numE t m).length c) (.slice (some ⟨wr.heap.size, 0, none⟩) 1 1) _ _ rfl rfl RUN.out ?_)
      go_roundw
      case rel => exact ⟨m + 1, a2, c2, by omega, by go_num, rfl, S2.out⟩
      case measure => simp [intOf]; omega
    · have hm2 : n = m := by omega
      subst hm2
      have m0 : ¬ (n : Int) < (n : Int) := by omega
      go_wp2
      go_ret
      exact ⟨a, c, rfl, HS.out.own, HS.out.low⟩
theorem numbered_of (t : Int) (k : Int) (n : Nat) (w : World) (hk : k = (n : Nat)) (hn : n ≤ 1000000) :
    Calls Try.prog 41 #[.int .i64 t, .int .i64 k] w fun e w' => ∃ a c, e = .returned (.slice a (numE t n).length c) ∧ Ow w' w.heap.size a (numE t n) c ∧ Below w.heap.size w w' := by
  subst hk; exact numbered_any t n w hn
theorem pcount_of (n per c : Int) (w : World) (hc : cntP n per = c) (hn : -9223372036854775808 ≤ n ∧ n ≤ 9223372036854775807) (hp : -9223372036854775808 ≤ per ∧ per ≤ 9223372036854775807) :
    Calls Try.prog 42 #[.int .i64 n, .int .i64 per] w fun e w' => e = .returned (.int .i64 c) ∧ w = w' := by
  subst hc; exact pcount_any n per w hn hp
theorem cnt_small {n per : Int} (h : n ≤ 10000) (hp : 1 ≤ per) : ∃ m : Nat, cntP n per = (m : Nat) ∧ (cntP n per).toNat = m ∧ m ≤ 10000 := by
  have h0 := (cnt_le (n := n) (per := per)).1
  have h1 := cnt_max (n := n) (per := per) (m := 10000) h (by omega) hp
  have h2 := Int.ediv_le_self per (show (0 : Int) ≤ 10000 - 1 by omega)
  exact ⟨(cntP n per).toNat, by omega, rfl, by omega⟩
theorem IsI.getI {w : World} {a : Option Addr} {l : List Int} (h : IsI w a l) (i : Nat) (hi : i < l.length) : ∃ b off, a = some ⟨b, off, none⟩ ∧ w.cell? ⟨b, off + i, none⟩ = some (.int .i64 (l.getD i 0)) := by
  obtain ⟨_, h | ⟨b, off, e, _, hc⟩⟩ := h
  · subst h; cases hi
  · exact ⟨b, off, e, hc i hi⟩
theorem spanE_take {l : List Int} {m : Nat} (hm : m < l.length) : spanE (l.take (m + 1)) = spanE (l.take m) ++ [⟨3, l.getD m 0, 0, 0⟩] := by
  have e : l.take (m + 1) = l.take m ++ [l[m]] := by rw [List.take_add_one, List.getElem?_eq_getElem hm]; rfl
  have g : l.getD m 0 = l[m] := by simp [List.getD, hm]
  unfold spanE
  rw [e, g, List.map_append]
  rfl
theorem Es.app {w wr w2 : World} {l k : List Ent} {a a2 : Option Addr} {c c2 : Nat} (h : Es w wr l a c) (o2 : Ow w2 wr.heap.size a2 k c2) (b2 : Below wr.heap.size wr w2) (hl : l.length + k.length ≤ 4398046511104) :
    ∃ a' c' w', (Builtin.append_ #[22, 22] 22 #[.slice a l.length c, .slice a2 k.length c2]).run Try.prog w2 = .ok (.slice a' (l ++ k).length c') w' ∧ Es w w' (l ++ k) a' c' := by
  obtain ⟨a', c', w', h1, h2, h3⟩ := appW_any w.heap.size w2 (Nat.le_trans h.low.size b2.size) a l c (h.own.keep b2) a2 k c2 o2.isW (fun e => by subst e; exact o2.no) hl
  exact ⟨a', c', w', h1, h2, (h.low.trans (b2.mono h.low.size)).trans h3⟩
set_option maxRecDepth 20000 in
set_option maxHeartbeats 4000000 in
/-- The types and numbers of a root's entries. -/
theorem clist_any (k r : Int) (a : Option Addr) (cp : Nat) (ps : List Int) (w : World) (hk : -9223372036854775808 ≤ k ∧ k ≤ 10000) (hr : -9223372036854775808 ≤ r ∧ r ≤ 10000) (hI : IsI w a ps) (hl : ps.length ≤ 4398046000000) :
    Calls Try.prog 20 #[.int .i64 k, .int .i64 r, .slice a ps.length cp] w fun e w' => ∃ a' c, e = .returned (.slice a' (listE k r ps).length c) ∧ Ow w' w.heap.size a' (listE k r ps) c ∧ Below w.heap.size w w' := by
  have HI : Hid (IsI w a ps) := hI
  obtain ⟨K, hK, hK2, hK3⟩ := cnt_small (n := k) (per := 16) hk.2 (by omega)
  obtain ⟨R, hR, hR2, hR3⟩ := cnt_small (n := r) (per := 32) hr.2 (by omega)
  have eA : aheadE k r = numE 1 K ++ numE 2 R := by unfold aheadE; rw [hK2, hR2]
  have EL : Hid (∀ m, listE k r (ps.take m) = (numE 1 K ++ numE 2 R) ++ spanE (ps.take m)) := fun m => by unfold listE; rw [eA]
  have EA : Hid (listE k r ps = (numE 1 K ++ numE 2 R) ++ spanE ps) := by show _ = _; unfold listE; rw [eA]
  have C1 : Hid (∀ w, Calls Try.prog 42 #[.int .i64 k, .int .i64 16] w fun e w' => e = .returned (.int .i64 (K : Nat)) ∧ w = w') := fun w => pcount_of k 16 _ w hK (by omega) (by omega)
  have C2 : Hid (∀ w, Calls Try.prog 42 #[.int .i64 r, .int .i64 32] w fun e w' => e = .returned (.int .i64 (R : Nat)) ∧ w = w') := fun w => pcount_of r 32 _ w hR (by omega) (by omega)
  clear hI hK hK2 hR hR2 eA
  obtain ⟨N, hN⟩ : ∃ N, ps.length = N := ⟨_, rfl⟩
  have HN : Hid (ps.length = N) := hN
  rw [hN] at hl ⊢
  clear hN
  go_enter Try.func20, Try.ntmps20
  go_wp2_with fail
  refine (C1.out w).mono ?_
  rintro e w' ⟨rfl, rfl⟩
  go_wp2_with fail
  refine (numbered_any 1 K w (by omega)).mono ?_
  rintro e w1 ⟨a1, c1, rfl, o1, b1⟩
  have S1 : Hid (Es w w1 (numE 1 K) a1 c1) := ⟨o1, b1⟩
  clear o1 b1
  go_wp2_with fail
  refine (C2.out w1).mono ?_
  rintro e w' ⟨rfl, rfl⟩
  go_wp2_with fail
  refine (numbered_any 2 R w1 (by omega)).mono ?_
  rintro e w2 ⟨a2, c2, rfl, o2, b2⟩
  obtain ⟨a3, c3, w3, hr3, s3⟩ := S1.out.app o2 b2 (by rw [numE_len, numE_len]; omega)
  have RUN3 : Hid _ := hr3
  have S3 : Hid (Es w w3 ((numE 1 K ++ numE 2 R) ++ spanE (ps.take 0)) a3 c3) := by show Es _ _ _ _ _; rw [List.take_zero]; simpa [spanE] using s3
  have L0 : Hid ((numE 1 K ++ numE 2 R).length = ((numE 1 K ++ numE 2 R) ++ spanE (ps.take 0)).length) := by show _ = _; rw [List.take_zero]; simp [spanE]
  clear o2 b2 hr3 s3
  go_wp2_with (at_builtin; refine wpList_rune rfl rfl _ _ rfl (.slice a1 (numE 1 K).length c1) (.slice a2 (numE 2 R).length c2) _ _ rfl rfl RUN3.out ?_)
  go_loopw [7, 20] (fun ov iv wr => ∃ (m : Nat) (a' : Option Addr) (c : Nat), m ≤ N ∧ iv = .int .i64 (m : Nat) ∧ ov = .slice a' ((numE 1 K ++ numE 2 R) ++ spanE (ps.take m)).length c ∧ Es w wr ((numE 1 K ++ numE 2 R) ++ spanE (ps.take m)) a' c) (fun _ iv _ => N - (intOf iv).toNat)
  case atStart => exact ⟨0, a3, c3, Nat.zero_le _, rfl, by rw [← L0.out, List.length_append], S3.out⟩
  case round =>
    clear S3 RUN3 L0 S1
    obtain ⟨m, a', c, hm, rfl, rfl, hS⟩ := hrel
    rename World => wr
    obtain ⟨L, hL⟩ : ∃ L, (numE 1 K ++ numE 2 R) ++ spanE (ps.take m) = L := ⟨_, rfl⟩
    have HL : Hid ((numE 1 K ++ numE 2 R) ++ spanE (ps.take m) = L) := hL
    have LL : L.length ≤ 20000 + m := by
      rw [← hL, List.length_append, List.length_append, numE_len, numE_len, spanE_len, List.length_take]
      omega
    rw [hL] at hS ⊢
    have HS : Hid (Es w wr L a' c) := hS
    clear hS hL
    by_cases hmn : m < N
    · have m0 : (m : Int) < (N : Int) := by omega
      have hmp : m < ps.length := by rw [HN.out]; exact hmn
      obtain ⟨b, off, rfl, hcell⟩ := (HI.out.keep HS.out.low).getI m hmp
      have MORE : Hid ((numE 1 K ++ numE 2 R) ++ spanE (ps.take (m + 1)) = L ++ [⟨3, ps.getD m 0, 0, 0⟩]) := by show _ = _; rw [spanE_take hmp, ← List.append_assoc, HL.out]
      obtain ⟨p, hp⟩ : ∃ p, ps.getD m 0 = p := ⟨_, rfl⟩
      rw [hp] at hcell MORE
      clear hp
      obtain ⟨a4, c4, w4, hr4, s4⟩ := HS.out.one ⟨3, p, 0, 0⟩ (by omega)
      rw [← MORE.out] at hr4 s4
      simp only at hr4
      have RUN4 : Hid _ := hr4
      have S4 : Hid (Es w w4 ((numE 1 K ++ numE 2 R) ++ spanE (ps.take (m + 1))) a4 c4) := s4
      clear hr4 s4
      go_wp2_with (at_builtin; refine wpList_rune rfl rfl _ _ rfl (.slice a' L.length c) (.slice (some ⟨wr.heap.size, 0, none⟩) 1 1) _ _ rfl rfl RUN4.out ?_)
      go_roundw
      case rel => exact ⟨m + 1, a4, c4, by omega, by go_num, by simp, S4.out⟩
      case measure => simp [intOf]; omega
    · have hm2 : N = m := by omega
      subst hm2
      have m0 : ¬ (N : Int) < (N : Int) := by omega
      have e : listE k r ps = L := by rw [EA.out, ← HL.out, List.take_of_length_le (by rw [HN.out]; exact Nat.le_refl _)]
      have HE : Hid (listE k r ps = L) := e
      clear e
      go_wp2
      go_ret
      rw [HE.out]
      exact ⟨a', c, rfl, HS.out.own, HS.out.low⟩
end Go.Proofs.Ytgpkiajakokjmaa
