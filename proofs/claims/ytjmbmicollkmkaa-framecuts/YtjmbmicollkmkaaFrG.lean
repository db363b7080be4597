/- What Decode and Split answer. -/
import Derived.Test.YtjmbmicollkmkaaFrF
namespace Go.Proofs.Ytjmbmicollkmkaa
open Go.RowKit
set_option linter.unusedVariables false

/-- What is answered: the kind, the body, what stands behind. -/
def kindW (l : List Int) (al : Bool) : Int := if wrongL l al = 0 then l.getD 0 0 else 0
def bodyW (l : List Int) (al : Bool) : List Int := if wrongL l al = 0 then bodyL l else []
def restW (l : List Int) : List Int := if wrongL l false = 0 then l.drop (extL l) else []

theorem wrong_ext {l : List Int} {al : Bool} (h : wrongL l al = 0) : extL l ≤ l.length := by
  unfold wrongL at h
  split at h
  · cases h
  · omega

theorem wrong_bd (l : List Int) (al : Bool) : 0 ≤ wrongL l al ∧ wrongL l al ≤ 6 := by
  unfold wrongL
  repeat' split
  all_goals omega

theorem owns_none (w : World) (base : Nat) : OwnsB w base none [] 0 := World.ownsRow_nil _ _ _ _

theorem new0 (w : World) (m : Nat) : ((w.alloc (.cells #[.int .i64 0, .slice none 0 0] 29)).drewN m).cell? ⟨w.heap.size, 0, none⟩ = some (.int .i64 0) := by
  show (w.alloc (.cells #[.int .i64 0, .slice none 0 0] 29)).cell? _ = _
  simp
theorem new1 (w : World) (m : Nat) : ((w.alloc (.cells #[.int .i64 0, .slice none 0 0] 29)).drewN m).cell? ⟨w.heap.size, 1, none⟩ = some (.slice none 0 0) := by
  show (w.alloc (.cells #[.int .i64 0, .slice none 0 0] 29)).cell? _ = _
  simp
theorem newZ (w : World) (m i : Nat) : ((w.alloc (.cells #[.int .i64 0, .slice none 0 0] 29)).drewN m).frozen? ⟨w.heap.size, i, none⟩ = false := by
  show (w.alloc (.cells #[.int .i64 0, .slice none 0 0] 29)).frozen? _ = _
  simp

set_option maxHeartbeats 1000000 in
theorem decode_any (a : Option Addr) (cap n : Nat) (l : List Int) (w : World) (hn : n = l.length) (h : IsB w a l) (hc : l.length ≤ cap) (hm : cap ≤ maxLen) :
    Calls Try.prog 14 #[.slice a n cap] w fun e w' => ∃ a' cap', e = .returned (.tuple #[frV (kindW l true) a' (bodyW l true).length cap', .int .i64 (wrongL l true)]) ∧ OwnsB w' w.heap.size a' (bodyW l true) cap' ∧ Below w.heap.size w w' := by
  subst hn
  have H : Hid (IsB w a l) := h
  have hwb := wrong_bd l true
  have B1 : Hid (Below w.heap.size w (w.alloc (.cells #[.int .i64 0, .slice none 0 0] 29))) := (Below.refl _ w).alloc (Nat.le_refl _) _
  obtain ⟨r, hr⟩ : ∃ r, wrongL l true = r := ⟨_, rfl⟩
  have HR : Hid (wrongL l true = r) := hr
  rw [hr] at hwb
  by_cases h0 : r = 0
  · subst h0
    have HX : Hid (extL l ≤ l.length) := wrong_ext hr
    rw [kindW, bodyW, if_pos hr, if_pos hr, hr]
    obtain ⟨X, hX⟩ : ∃ X, bodyL l = X := ⟨_, rfl⟩
    obtain ⟨y, hy⟩ : ∃ y, l.getD 0 0 = y := ⟨_, rfl⟩
    have EX : Hid (bodyL l = X) := hX
    have EY : Hid (l.getD 0 0 = y) := hy
    rw [hX, hy]
    clear h hr hX hy
    go_enter Try.func14, Try.ntmps14
    go_wp2_with fail
    refine (wrong_any a cap _ l true _ rfl (H.out.keep B1.out) hc hm).mono ?_
    rintro e w1 ⟨rfl, m1, rfl⟩
    rw [HR.out]
    go_wp2_with fail
    refine (first_any a cap _ l _ rfl ((H.out.keep B1.out).drewN m1) hc hm HX.out).mono ?_
    rw [EX.out, EY.out]
    rintro e w2 ⟨a2, c2, rfl, o2, b2⟩
    have hr0 : w2.cell? ⟨w.heap.size, 0, none⟩ = some (.int .i64 0) := (b2.cell (p := ⟨w.heap.size, 0, none⟩) (by simp)).trans (new0 w m1)
    have hr1 : w2.cell? ⟨w.heap.size, 1, none⟩ = some (.slice none 0 0) := (b2.cell (p := ⟨w.heap.size, 1, none⟩) (by simp)).trans (new1 w m1)
    have hz0 : w2.frozen? ⟨w.heap.size, 0, none⟩ = false := (b2.frozen (p := ⟨w.heap.size, 0, none⟩) (by simp)).trans (newZ w m1 0)
    have hz1 : w2.frozen? ⟨w.heap.size, 1, none⟩ = false := (b2.frozen (p := ⟨w.heap.size, 1, none⟩) (by simp)).trans (newZ w m1 1)
    have q0 := laid0 (k := y) (v := .slice a2 X.length c2) hr0
    have q1 := laid1 (k := y) (v := .slice a2 X.length c2) hr1
    have O3 : Hid (OwnsB (laid w2 w.heap.size y (.slice a2 X.length c2)) w.heap.size a2 X c2) := (laid_owns o2 (by simp)).mono (by simp)
    have B3 : Hid (Below w.heap.size w (laid w2 w.heap.size y (.slice a2 X.length c2))) := laid_below (B1.out.trans ((below_drewN (Below.refl _ _) m1).trans (b2.mono (by simp)))) (Nat.le_refl _)
    unfold laid at q0 q1
    rw [frV]
    clear o2 b2
    go_wp2
    refine bodyPost_ret (v := .tuple #[frV y a2 X.length c2, .int .i64 0]) (by simp [results, Try.results14, go_sem, q0, q1, frV]) rfl ⟨a2, c2, rfl, O3.out, B3.out⟩
  · rw [kindW, bodyW, if_neg (by rw [hr]; exact h0), if_neg (by rw [hr]; exact h0), hr]
    clear h hr
    go_enter Try.func14, Try.ntmps14
    go_wp2_with fail
    refine (wrong_any a cap _ l true _ rfl (H.out.keep B1.out) hc hm).mono ?_
    rintro e w1 ⟨rfl, m1, rfl⟩
    rw [HR.out]
    have q0 := laid0 (k := 0) (v := .slice none 0 0) (new0 w m1)
    have q1 := laid1 (k := 0) (v := .slice none 0 0) (new1 w m1)
    have B3 : Hid (Below w.heap.size w (laid ((w.alloc (.cells #[.int .i64 0, .slice none 0 0] 29)).drewN m1) w.heap.size 0 (.slice none 0 0))) := laid_below (below_drewN B1.out m1) (Nat.le_refl _)
    unfold laid at q0 q1
    go_wp2
    refine bodyPost_ret (v := .tuple #[frV 0 none 0 0, .int .i64 r]) (by simp [results, Try.results14, go_sem, q0, q1, frV]) rfl ⟨none, 0, rfl, owns_none _ _, B3.out⟩

set_option maxHeartbeats 1000000 in
theorem split_any (a : Option Addr) (cap n : Nat) (l : List Int) (w : World) (hn : n = l.length) (h : IsB w a l) (hc : l.length ≤ cap) (hm : cap ≤ maxLen) (hbig : l.length ≤ 140737488355328) :
    Calls Try.prog 16 #[.slice a n cap] w fun e w' => ∃ a' cap' a'' cap'', e = .returned (.tuple #[frV (kindW l false) a' (bodyW l false).length cap', .slice a'' (restW l).length cap'', .int .i64 (wrongL l false)]) ∧ OwnsB w' w.heap.size a' (bodyW l false) cap' ∧ OwnsB w' w.heap.size a'' (restW l) cap'' ∧ (∀ g, (Value.slice a' (bodyW l false).length cap').ownBlock = some g → (Value.slice a'' (restW l).length cap'').ownBlock ≠ some g) ∧ Below w.heap.size w w' := by
  subst hn
  have H : Hid (IsB w a l) := h
  have hwb := wrong_bd l false
  have B1 : Hid (Below w.heap.size w (w.alloc (.cells #[.int .i64 0, .slice none 0 0] 29))) := (Below.refl _ w).alloc (Nat.le_refl _) _
  obtain ⟨r, hr⟩ : ∃ r, wrongL l false = r := ⟨_, rfl⟩
  have HR : Hid (wrongL l false = r) := hr
  rw [hr] at hwb
  by_cases h0 : r = 0
  · subst h0
    have hx := wrong_ext hr
    have HX : Hid (extL l ≤ l.length) := hx
    have hge := extL_ge l
    have hle := extL_le h.1
    rw [kindW, bodyW, restW, if_pos hr, if_pos hr, if_pos hr, hr]
    obtain ⟨E0, hE0⟩ : ∃ E0, extL l = E0 := ⟨_, rfl⟩
    have HE0 : Hid (extL l = E0) := hE0
    rw [hE0] at hx hge hle
    obtain ⟨_, rfl | ⟨b, off, rfl, hs, hcell⟩⟩ := h
    · simp at hx; omega
    have HL : Hid ((l.drop E0).length = l.length - E0) := by show _ = _; rw [List.length_drop]
    have I0 : Hid (IsB w (some ⟨b, off + E0, none⟩) (l.drop E0)) := by
      have := IsB.part H.out E0 l.length
      rwa [List.take_of_length_le (by rw [List.length_drop]; omega)] at this
    have I1 : Hid (IsB w (if cap = E0 then some ⟨b, off, none⟩ else some ⟨b, off + E0, none⟩) (l.drop E0)) := by
      show IsB _ _ _
      split
      · exact ⟨I0.out.1, .inl (List.eq_nil_of_length_eq_zero (by rw [List.length_drop]; omega))⟩
      · exact I0.out
    rw [hE0]
    obtain ⟨X, hX⟩ : ∃ X, bodyL l = X := ⟨_, rfl⟩
    obtain ⟨y, hy⟩ : ∃ y, l.getD 0 0 = y := ⟨_, rfl⟩
    obtain ⟨Z, hZ⟩ : ∃ Z, l.drop E0 = Z := ⟨_, rfl⟩
    have EX : Hid (bodyL l = X) := hX
    have EY : Hid (l.getD 0 0 = y) := hy
    rw [hZ] at HL I0 I1
    rw [hX, hy, hZ]
    clear hr hcell hE0 hX hy hZ
    have HM : Hid (cap ≤ maxLen) := hm
    unfold maxLen at hm
    go_enter Try.func16, Try.ntmps16
    go_wp2_with fail
    refine (wrong_any _ cap _ l false _ rfl (H.out.keep B1.out) hc HM.out).mono ?_
    rintro e w1 ⟨rfl, m1, rfl⟩
    rw [HR.out]
    go_wp2_with fail
    refine (first_any _ cap _ l _ rfl ((H.out.keep B1.out).drewN m1) hc HM.out HX.out).mono ?_
    rw [EX.out, EY.out]
    rintro e w2 ⟨a2, c2, rfl, o2, b2⟩
    have B2 : Hid (Below w.heap.size w w2) := B1.out.trans ((below_drewN (Below.refl _ _) m1).trans (b2.mono (by simp)))
    have O2 : Hid (OwnsB w2 (w.heap.size + 1) a2 X c2) := o2.mono (by simp)
    have hr0 : w2.cell? ⟨w.heap.size, 0, none⟩ = some (.int .i64 0) := (b2.cell (p := ⟨w.heap.size, 0, none⟩) (by simp)).trans (new0 w m1)
    have hr1 : w2.cell? ⟨w.heap.size, 1, none⟩ = some (.slice none 0 0) := (b2.cell (p := ⟨w.heap.size, 1, none⟩) (by simp)).trans (new1 w m1)
    have hz0 : w2.frozen? ⟨w.heap.size, 0, none⟩ = false := (b2.frozen (p := ⟨w.heap.size, 0, none⟩) (by simp)).trans (newZ w m1 0)
    have hz1 : w2.frozen? ⟨w.heap.size, 1, none⟩ = false := (b2.frozen (p := ⟨w.heap.size, 1, none⟩) (by simp)).trans (newZ w m1 1)
    have hsz : w.heap.size + 1 ≤ w2.heap.size := by have := b2.size; simpa using this
    clear o2 b2
    rw [frV]
    go_wp2_with (go_at_call 28; refine (extent_any _ cap _ l _ rfl (H.out.keep B2.out) hc HM.out).mono ?_; rintro e w' ⟨⟨E, rfl, hE1, hE2, HE⟩, rfl⟩; obtain rfl : E = E0 := HE.out.trans HE0.out)
    all_goals
      refine (clone_any _ _ _ Z _ HL.out.symm ?_ (by have := HL.out; omega) (fun h => by cases h)).mono ?_
      · first
          | exact I0.out.keep B2.out
          | exact ⟨I0.out.1, .inl (List.eq_nil_of_length_eq_zero (by have := HL.out; omega))⟩
      rintro e w3 ⟨a3, c3, rfl, o3, b3⟩
      have hr0 : w3.cell? ⟨w.heap.size, 0, none⟩ = some (.int .i64 0) := (b3.cell (p := ⟨w.heap.size, 0, none⟩) (by simp; omega)).trans hr0
      have hr1 : w3.cell? ⟨w.heap.size, 1, none⟩ = some (.slice none 0 0) := (b3.cell (p := ⟨w.heap.size, 1, none⟩) (by simp; omega)).trans hr1
      have hz0 : w3.frozen? ⟨w.heap.size, 0, none⟩ = false := (b3.frozen (p := ⟨w.heap.size, 0, none⟩) (by simp; omega)).trans hz0
      have hz1 : w3.frozen? ⟨w.heap.size, 1, none⟩ = false := (b3.frozen (p := ⟨w.heap.size, 1, none⟩) (by simp; omega)).trans hz1
      have q0 := laid0 (k := y) (v := .slice a2 X.length c2) hr0
      have q1 := laid1 (k := y) (v := .slice a2 X.length c2) hr1
      have O3 : Hid (OwnsB (laid w3 w.heap.size y (.slice a2 X.length c2)) w.heap.size a2 X c2) := (laid_owns (O2.out.keep b3) (by omega)).mono (by omega)
      have P3 : Hid (OwnsB (laid w3 w.heap.size y (.slice a2 X.length c2)) w.heap.size a3 Z c3) := (laid_owns o3 (by omega)).mono (by omega)
      have D3 : Hid (∀ g, (Value.slice a2 X.length c2).ownBlock = some g → (Value.slice a3 Z.length c3).ownBlock ≠ some g) := fun g h1 h2 => by
        have := own_ge o3 g h2
        have := (World.ownsRow.lt O2.out g h1).2
        omega
      have B3 : Hid (Below w.heap.size w (laid w3 w.heap.size y (.slice a2 X.length c2))) := laid_below (B2.out.trans (b3.mono (by omega))) (Nat.le_refl _)
      unfold laid at q0 q1
      clear o3 b3
      go_wp2
      refine bodyPost_ret (v := .tuple #[frV y a2 X.length c2, .slice a3 Z.length c3, .int .i64 0]) (by simp [results, Try.results16, go_sem, q0, q1, frV]) rfl ⟨a2, c2, a3, c3, rfl, O3.out, P3.out, D3.out, B3.out⟩
  · rw [kindW, bodyW, restW, if_neg (by rw [hr]; exact h0), if_neg (by rw [hr]; exact h0), if_neg (by rw [hr]; exact h0), hr]
    clear h hr
    go_enter Try.func16, Try.ntmps16
    go_wp2_with fail
    refine (wrong_any a cap _ l false _ rfl (H.out.keep B1.out) hc hm).mono ?_
    rintro e w1 ⟨rfl, m1, rfl⟩
    rw [HR.out]
    have q0 := laid0 (k := 0) (v := .slice none 0 0) (new0 w m1)
    have q1 := laid1 (k := 0) (v := .slice none 0 0) (new1 w m1)
    have B3 : Hid (Below w.heap.size w (laid ((w.alloc (.cells #[.int .i64 0, .slice none 0 0] 29)).drewN m1) w.heap.size 0 (.slice none 0 0))) := laid_below (below_drewN B1.out m1) (Nat.le_refl _)
    unfold laid at q0 q1
    go_wp2
    refine bodyPost_ret (v := .tuple #[frV 0 none 0 0, .slice none 0 0, .int .i64 r]) (by simp [results, Try.results16, go_sem, q0, q1, frV]) rfl ⟨none, 0, none, 0, rfl, owns_none _ _, owns_none _ _, fun g h => by simp [Value.ownBlock] at h, B3.out⟩
end Go.Proofs.Ytjmbmicollkmkaa
