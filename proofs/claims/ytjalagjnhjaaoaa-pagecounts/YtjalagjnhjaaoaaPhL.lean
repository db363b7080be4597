/- Layer 18: what the walks share; the walks of PageCounts, PageReads and PageTells. -/
import Derived.Test.YtjalagjnhjaaoaaPhI
import Derived.Test.YtjalagjnhjaaoaaPhK
namespace Go.Proofs.Ytjalagjnhjaaoaa
open Go.RowKit
set_option linter.unusedVariables false
set_option maxRecDepth 4000

theorem rall18 (a b : Option Addr) (n n' ca cb : Nat) (xs ys : List Kd) (w : World) (hx : IsK w a xs) (hy : IsK w b ys) (hn : n = xs.length) (hn' : n' = ys.length) (h : xs.map kp = ys.map kp) (hm : xs.length ≤ 1000000) :
    Calls Try.prog 21 #[.slice a n ca, .slice b n' cb] w fun e w' => e = .returned (.bool true) ∧ Below w.heap.size w w' := by
  have hl : ys.length = xs.length := by have := congrArg List.length h; simpa using this.symm
  refine rall_true a b n n' ca cb xs ys w hx hy hn (by omega) hl (fun j h1 h2 => ?_) hm
  have q : (xs.map kp)[j]'(by simpa using h1) = (ys.map kp)[j]'(by simpa using h2) := by simp only [h]
  simp only [List.getElem_map, kp, Prod.mk.injEq] at q
  exact q
theorem below_drewN (w : World) (m : Nat) : Below w.heap.size w (w.drewN m) := ⟨rfl, rfl, rfl, Nat.le_refl _, fun _ _ => rfl⟩
theorem hsame18 (a b : Option Addr) (n n' c d : Nat) (xs : List HRw) (w : World) (h1 : IsW w a xs) (h2 : IsW w b xs) (hn : n = xs.length) (hn' : n' = xs.length) (hx : xs.length ≤ 9223372036854775807) :
    Calls Try.prog 13 #[.slice a n c, .slice b n' d] w fun e w' => e = .returned (.bool true) ∧ Below w.heap.size w w' := by
  subst hn hn'
  refine (hsame_true a b c d xs w h1 h2 hx).mono ?_
  rintro e w' ⟨rfl, m, rfl⟩
  exact ⟨rfl, below_drewN w m⟩
/-- One page of all. -/
theorem pgAt_all {α : Type} {per : Nat} {l : List α} (h : l.length ≤ per) : pgAt per l 0 = l := by
  unfold pgAt
  rw [Nat.mul_zero, List.drop_zero, List.take_of_length_le h]
theorem out_all {b : List Int} {L : List HRw} (hb : AllB b) (h : pgRd rowRd 32 b = (L, 0)) : pgOut L 0 = (b, 0) ∧ L.length ≤ 32 := by
  obtain ⟨q1, q2, q3, q4⟩ := pg_one rowT hb h
  have hl := List.length_pos_iff.2 q2
  have q3 : L.length ≤ 32 := by omega
  refine ⟨?_, q3⟩
  unfold pgOut
  have hc : (0 : Int) < cntP L.length 32 := by have := (cnt_in (n := L.length) (per := 32) (i := 0) (by decide)).2 (by omega); simpa using this
  rw [if_pos ⟨by omega, hc⟩, show (0 : Int).toNat = 0 from rfl, pgAt_all q3, if_pos (List.all_eq_true.2 q4), q1]
theorem outK_all {b : List Int} {L : List (Int × List Int)} (hb : AllB b) (h : pgRd kdRd 16 b = (L, 0)) : pgOutK L 0 = (b, 0) ∧ L.length ≤ 16 := by
  obtain ⟨q1, q2, q3, q4⟩ := pg_one kindT hb h
  have hl := List.length_pos_iff.2 q2
  have q3 : L.length ≤ 16 := by omega
  refine ⟨?_, q3⟩
  unfold pgOutK
  have hc : (0 : Int) < cntP L.length 16 := by have := (cnt_in (n := L.length) (per := 16) (i := 0) (by decide)).2 (by omega); simpa using this
  rw [if_pos ⟨by omega, hc⟩, show (0 : Int).toNat = 0 from rfl, pgAt_all q3, if_pos (List.all_eq_true.2 q4), q1]
theorem out_le {b : List Int} (hb : AllB b) : (pgRd rowRd 32 b).1.length ≤ 32 ∧ ((pgRd rowRd 32 b).2 ≠ 0 → (pgRd rowRd 32 b).1 = []) := by
  rcases h : pgRd rowRd 32 b with ⟨L, e⟩
  by_cases he : e = 0
  · subst he
    exact ⟨(out_all hb h).2, fun q => absurd rfl q⟩
  · have : L = [] := by
      unfold pgRd at h
      split at h
      · split at h
        · simp only [Prod.mk.injEq] at h; exact h.1.symm
        · split at h
          · simp only [Prod.mk.injEq] at h; exact absurd h.2.symm he
          · simp only [Prod.mk.injEq] at h; exact h.1.symm
      · simp only [Prod.mk.injEq] at h; exact h.1.symm
    subst this
    exact ⟨Nat.zero_le _, fun _ => rfl⟩
theorem outK_le {b : List Int} (hb : AllB b) : (pgRd kdRd 16 b).1.length ≤ 16 := by
  rcases h : pgRd kdRd 16 b with ⟨L, e⟩
  by_cases he : e = 0
  · subst he
    exact (outK_all hb h).2
  · have : L = [] := by
      unfold pgRd at h
      split at h
      · split at h
        · simp only [Prod.mk.injEq] at h; exact h.1.symm
        · split at h
          · simp only [Prod.mk.injEq] at h; exact absurd h.2.symm he
          · simp only [Prod.mk.injEq] at h; exact h.1.symm
      · simp only [Prod.mk.injEq] at h; exact h.1.symm
    subst this
    exact Nat.zero_le _
theorem rowK_len {w : World} {M : Nat} {a : Option Addr} {ks : List Kd} {c : Nat} (h : RowK w M a ks c) : ks.length ≤ c := by
  obtain ⟨_, ⟨h1, h2⟩ | ⟨g', c', cur, h1, hb, h2, h3, _⟩⟩ := h
  · obtain rfl := List.eq_nil_of_length_eq_zero h2; cases h1; exact Nat.zero_le _
  · cases h1; exact h3
theorem Ow.isW {w : World} {B : Nat} {a : Option Addr} {l : List HRw} {c : Nat} (h : Ow w B a l c) : IsW w a l := by
  by_cases hl : l = []
  · exact .inl hl
  · obtain ⟨g, e, _, hs, _⟩ := h.cells 0 (List.length_pos_iff.2 hl)
    refine .inr ⟨g, 0, e, hs, fun i hi => ?_⟩
    obtain ⟨g', e', _, _, c0, c1, c2, c3⟩ := h.cells i hi
    rw [e] at e'
    cases e'
    rw [Nat.zero_add]
    exact ⟨c0, c1, c2, c3⟩

set_option maxRecDepth 20000 in
set_option maxHeartbeats 2000000 in
/-- PageCounts. -/
theorem pageCounts_any (n per : Int) (w : World) (hn : -9223372036854775808 ≤ n ∧ n ≤ 9223372036854775807) (hp : -9223372036854775808 ≤ per ∧ per ≤ 9223372036854775807) :
    Calls Try.prog 8 #[.int .i64 n, .int .i64 per] w fun e w' => e = .returned (.bool true) ∧ Below w.heap.size w w' := by
  have CNT : Hid (∀ w : World, Calls Try.prog 14 #[.int .i64 n, .int .i64 per] w fun e w' => e = .returned (.int .i64 (cntP n per)) ∧ w = w') := fun w => pcount_any n per w hn hp
  by_cases h1 : n < 1
  · have e : cntP n per = 0 := if_pos (.inl h1)
    rw [e] at CNT
    clear e
    go_enter Try.func8, Try.ntmps8
    go_wp2_with (first
      | (go_at_call 9; refine (alive18 _).mono ?_; rintro e w1 ⟨rfl, b1⟩)
      | (go_at_call 14; refine (CNT.out _).mono ?_; rintro e w' ⟨rfl, rfl⟩))
    go_ret
    exact ⟨rfl, b1⟩
  · by_cases h2 : per < 1
    · have e : cntP n per = 0 := if_pos (.inr h2)
      rw [e] at CNT
      clear e
      go_enter Try.func8, Try.ntmps8
      go_wp2_with (first
        | (go_at_call 9; refine (alive18 _).mono ?_; rintro e w1 ⟨rfl, b1⟩)
        | (go_at_call 14; refine (CNT.out _).mono ?_; rintro e w' ⟨rfl, rfl⟩))
      go_ret
      exact ⟨rfl, b1⟩
    · have hC : cntP n per = (n - 1) / per + 1 := if_neg (by omega)
      have l1 := (cnt_le (n := n) (per := per)).2 (by omega)
      have d0 : 0 ≤ (n - 1).tdiv per := Int.tdiv_nonneg (by omega) (by omega)
      have eD : (n - 1).tdiv per = (n - 1) / per := Int.tdiv_eq_ediv_of_nonneg (by omega)
      have w0 : IntKind.i64.wrap (n - 1) = n - 1 := by rw [IntKind.wrap_i64]; omega
      rw [← eD] at hC
      obtain ⟨D, hD⟩ : ∃ D, (n - 1).tdiv per = D := ⟨_, rfl⟩
      rw [hD] at hC d0
      rw [hC] at l1 CNT
      obtain ⟨C, hCC⟩ : ∃ C, D + 1 = C := ⟨_, rfl⟩
      rw [hCC] at CNT l1
      have wq : IntKind.i64.wrap D = D := by rw [IntKind.wrap_i64]; omega
      have wc : IntKind.i64.wrap (C - 1) = D := by rw [IntKind.wrap_i64]; omega
      have c1 : 1 ≤ C := by omega
      have p0 : ¬ per = 0 := by omega
      have p1 : ¬ per = -1 := by omega
      clear hC eD hCC
      go_enter Try.func8, Try.ntmps8
      go_wp2_with (first
        | (go_at_call 9; refine (alive18 _).mono ?_; rintro e w1 ⟨rfl, b1⟩)
        | (go_at_call 14; refine (CNT.out _).mono ?_; rintro e w' ⟨rfl, rfl⟩))
      go_ret
      exact ⟨rfl, b1⟩

set_option maxRecDepth 20000 in
set_option maxHeartbeats 4000000 in
/-- PageReads. -/
theorem pageReads_any (a : Option Addr) (cap : Nat) (l : List Int) (w : World) (hB : IsB w a l) (hlen : l.length ≤ 140737488355328) (ha : a = none → l = []) :
    Calls Try.prog 4 #[.slice a l.length cap] w fun e w' => e = .returned (.bool true) ∧ Below w.heap.size w w' := by
  have HB : Hid (IsB w a l) := hB
  have HA : Hid (a = none → l = []) := ha
  obtain ⟨L, E, hP⟩ : ∃ L E, pgRd rowRd 32 l = (L, E) := ⟨_, _, rfl⟩
  obtain ⟨q1, q2⟩ := out_le hB.1
  rw [hP] at q1 q2
  simp only at q1 q2
  have HP : Hid (pgRd rowRd 32 l = (L, E)) := hP
  have OUT : Hid (E = 0 → pgOut L 0 = (l, 0)) := fun h => by subst h; exact (out_all hB.1 hP).1
  clear hB ha hP q2
  go_enter Try.func4, Try.ntmps4
  go_wp2_with (go_at_call 9; refine (alive18 _).mono ?_; rintro e w1 ⟨rfl, b1⟩; have B1 : Hid (Below w.heap.size w w1) := b1; clear b1)
  go_wp2_with fail
  refine (preadrows_any a cap l _ (HB.out.keep B1.out) hlen HA.out).mono ?_
  unfold RrPost
  rw [HP.out]
  rintro e w2 ⟨a2, c2, rfl, o2, b2⟩
  have O2 : Hid (Ow w2 w1.heap.size a2 L c2) := o2
  have B2 : Hid (Below w.heap.size w w2) := B1.out.trans (b2.mono B1.out.size)
  clear o2 b2
  go_wp2_with fail
  refine (dreadrows_any a cap l _ (HB.out.keep B2.out) hlen).mono ?_
  unfold RrPost
  rw [HP.out]
  rintro e w3 ⟨a3, c3, rfl, o3, b3⟩
  have W2 : Hid (IsW w3 a2 L) := (O2.out.keep b3).isW
  have W3 : Hid (IsW w3 a3 L) := o3.isW
  have B3 : Hid (Below w.heap.size w w3) := B2.out.trans (b3.mono B2.out.size)
  have LC : Hid (L.length ≤ c2) := O2.out.len.1
  clear o3 b3
  go_wp2_with fail
  refine (hsame18 a2 a3 _ _ c2 c3 L _ W2.out W3.out rfl rfl (by omega)).mono ?_
  rintro e w4 ⟨rfl, b4⟩
  have W4 : Hid (IsW w4 a2 L) := W2.out.keep b4
  have B4 : Hid (Below w.heap.size w w4) := B3.out.trans (b4.mono B3.out.size)
  clear b4
  by_cases hE : E = 0
  · have OU : Hid (pgOut L 0 = (l, 0)) := OUT.out hE
    subst hE
    have RC : Hid (Calls Try.prog 10 #[.slice a2 L.length c2, .int .i64 0] w4 fun e w' => ∃ a' c', e = .returned (.tuple #[.slice a' l.length c', .int .i64 0]) ∧ OwnsB w' w4.heap.size a' l c' ∧ Below w4.heap.size w4 w') := by
      have q := prows_any a2 c2 L 0 w4 W4.out (by omega) LC.out (by omega)
      rw [OU.out] at q
      exact q
    clear OUT
    go_wp2_with fail
    refine Calls.mono RC.out ?_
    rintro e w5 ⟨a5, c5, rfl, o5, b5⟩
    have B5 : Hid (Below w.heap.size w w5) := B4.out.trans (b5.mono B4.out.size)
    have I5 : Hid (IsB w5 a5 l) := ownsB_isB HB.out.1 o5
    clear o5 b5
    go_wp2_with fail
    refine (same_true a5 a _ _ c5 cap l _ I5.out (HB.out.keep B5.out) rfl rfl).mono ?_
    rintro e w6 ⟨rfl, rfl⟩
    go_wp2
    go_ret
    exact ⟨rfl, B5.out⟩
  · have e1 : (E != 0) = true := by rw [bne_iff_ne]; exact hE
    clear OUT
    go_wp2
    go_ret
    exact ⟨rfl, B4.out⟩

set_option maxRecDepth 20000 in
set_option maxHeartbeats 4000000 in
/-- PageTells. -/
theorem pageTells_any (a : Option Addr) (cap : Nat) (l : List Int) (w : World) (hB : IsB w a l) (hlen : l.length ≤ 140737488355328) (ha : a = none → l = []) :
    Calls Try.prog 6 #[.slice a l.length cap] w fun e w' => e = .returned (.bool true) ∧ Below w.heap.size w w' := by
  have HB : Hid (IsB w a l) := hB
  have HA : Hid (a = none → l = []) := ha
  obtain ⟨L, E, hP⟩ : ∃ L E, pgRd kdRd 16 l = (L, E) := ⟨_, _, rfl⟩
  have q1 := outK_le hB.1
  rw [hP] at q1
  simp only at q1
  have HP : Hid (pgRd kdRd 16 l = (L, E)) := hP
  have OUT : Hid (E = 0 → pgOutK L 0 = (l, 0)) := fun h => by subst h; exact (outK_all hB.1 hP).1
  clear hB ha hP
  go_enter Try.func6, Try.ntmps6
  go_wp2_with (go_at_call 9; refine (alive18 _).mono ?_; rintro e w1 ⟨rfl, b1⟩; have B1 : Hid (Below w.heap.size w w1) := b1; clear b1)
  go_wp2_with fail
  refine (preadkinds_any a cap l _ (HB.out.keep B1.out) hlen HA.out).mono ?_
  unfold RkP18
  rw [HP.out]
  rintro e w2 ⟨a2, ks, c2, rfl, hk, o2, b2⟩
  have hk : ks.map kp = L := hk
  have O2 : Hid (Kwc w2 w1.heap.size a2 ks c2) := o2
  have HK : Hid (ks.map kp = L) := hk
  have kl : ks.length ≤ 16 := by rw [← hk] at q1; simpa using q1
  have B2 : Hid (Below w.heap.size w w2) := B1.out.trans (b2.mono B1.out.size)
  clear o2 b2 hk q1
  go_wp2_with fail
  refine (dreadkinds_any a cap l _ (HB.out.keep B2.out) hlen).mono ?_
  unfold RkPost
  rw [HP.out]
  rintro e w3 ⟨a3, ks3, c3, rfl, hk3, o3, b3⟩
  have W2 : Hid (IsK w3 a2 ks) := (O2.out.keep b3).isK
  have W3 : Hid (IsK w3 a3 ks3) := o3.isK
  have HK3 : Hid (ks.map kp = ks3.map kp) := HK.out.trans hk3.symm
  have B3 : Hid (Below w.heap.size w w3) := B2.out.trans (b3.mono B2.out.size)
  have LC : Hid (ks.length ≤ c2) := rowK_len O2.out.1
  clear o3 b3 hk3
  go_wp2_with fail
  refine (rall18 a2 a3 _ _ c2 c3 ks ks3 _ W2.out W3.out rfl rfl HK3.out (by omega)).mono ?_
  rintro e w4 ⟨rfl, b4⟩
  have W4 : Hid (IsK w4 a2 ks) := W2.out.keep b4
  have B4 : Hid (Below w.heap.size w w4) := B3.out.trans (b4.mono B3.out.size)
  clear b4
  by_cases hE : E = 0
  · have OU : Hid (pgOutK L 0 = (l, 0)) := OUT.out hE
    subst hE
    have RC : Hid (Calls Try.prog 18 #[.slice a2 ks.length c2, .int .i64 0] w4 fun e w' => ∃ a' c', e = .returned (.tuple #[.slice a' l.length c', .int .i64 0]) ∧ OwnsB w' w4.heap.size a' l c' ∧ Below w4.heap.size w4 w') := by
      have q := pkinds_any a2 c2 ks 0 w4 W4.out (by omega) LC.out (by omega)
      rw [HK.out, OU.out] at q
      exact q
    clear OUT
    go_wp2_with fail
    refine Calls.mono RC.out ?_
    rintro e w5 ⟨a5, c5, rfl, o5, b5⟩
    have B5 : Hid (Below w.heap.size w w5) := B4.out.trans (b5.mono B4.out.size)
    have I5 : Hid (IsB w5 a5 l) := ownsB_isB HB.out.1 o5
    clear o5 b5
    go_wp2_with fail
    refine (same_true a5 a _ _ c5 cap l _ I5.out (HB.out.keep B5.out) rfl rfl).mono ?_
    rintro e w6 ⟨rfl, rfl⟩
    go_wp2
    go_ret
    exact ⟨rfl, B5.out⟩
  · have e1 : (E != 0) = true := by rw [bne_iff_ne]; exact hE
    clear OUT
    go_wp2
    go_ret
    exact ⟨rfl, B4.out⟩
end Go.Proofs.Ytjalagjnhjaaoaa
