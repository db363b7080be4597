/- The document's arena, going on: what Read, Place and Addr of the reference answer. -/
import Derived.Test.YtjejholognpbaaaArH
namespace Go.Proofs.Ytjejholognpbaaa
open Go.RowKit
set_option linter.unusedVariables false

theorem below_self (w : World) (m : Nat) : Below w.heap.size w (w.drewN m) := ⟨rfl, rfl, rfl, Nat.le_refl _, fun _ _ => rfl⟩

theorem slice_run (w : World) (g n o m : Nat) (h : o + m ≤ n) (hc : ¬ n = o) : (Instr.slice 35 (.slice (some ⟨g, 0, none⟩) n n) (some (.int .i64 (o : Int))) (some (.int .i64 ((o : Int) + (m : Int)))) none).run Try.prog w = .ok (.slice (some ⟨g, o, none⟩) m (n - o)) w := by
  have h1 : (o : Int) + (m : Int) ≤ (n : Int) := by omega
  have h4 : (o : Int) ≤ (o : Int) + (m : Int) := by omega
  have h5 : ((o : Int) + (m : Int)).toNat = o + m := by omega
  have h6 : o + m - o = m := by omega
  simp [go_sem, Try.underlying35, h1, h4, h5, h6, hc]

set_option maxHeartbeats 2000000 in
theorem rread_any (b g : Nat) (base x k : Int) (l : List Int) (w : World) (h : IsM w b g base l) (hx : Fits x) (hk : Fits k) :
    Calls Try.prog 33 #[.pointer (some ⟨b, 0, none⟩), .int .i64 x, .int .i64 k] w fun e w' => ∃ a cap, e = .returned (.tuple #[.slice a (readR l (x - base) k).length cap, .int .i64 (errR l.length (x - base) k)]) ∧ IsB w' a (readR l (x - base) k) ∧ (∀ ad, a = some ad → w.heap.size ≤ ad.block) ∧ Below w.heap.size w w' := by
  have H : Hid (IsM w b g base l) := h
  by_cases hin : inR l.length (x - base) k
  · rw [errR_in hin]
    obtain ⟨o, m, ho, hm, hom⟩ := inR_nat hin
    have HI : Hid (decide (inR l.length (x - base) k) = true) := decide_eq_true hin
    have hl := h.len
    have h1 := h.lo
    have h2 := h.hi
    have c0 := h.cell0
    have c1 := h.cell1
    obtain ⟨R, hR⟩ : ∃ R, readR l (x - base) k = R := ⟨_, rfl⟩
    have hRl : R.length = m := by rw [← hR, readR_len hin, hm]; simp
    have EQ : (l.drop o).take m = R := by rw [← hR, readR_in hin, ho, hm]; simp
    have EL : Hid (m = R.length) := hRl.symm
    have AR : Hid (AllB R) := by show AllB _; rw [← hR]; exact h.all.read _ _
    rw [hR, hRl]
    subst hm
    have PZ : Hid (∀ n ad, (m = 0 ∨ ad = some ⟨g, o, none⟩) → IsB (w.drewN n) ad R) := fun n ad had => by rw [← EQ]; exact h.row.part h.all o m ad hom had
    clear h hin hR hRl EQ
    by_cases hc : l.length = o
    · obtain rfl : m = 0 := by omega
      have g1 : IntKind.i64.wrap (x - base) = (o : Int) := by rw [IntKind.wrap_i64]; omega
      have g2 : IntKind.i64.wrap (o : Int) = (o : Int) := by rw [IntKind.wrap_i64]; omega
      have g3 : (0 : Int) ≤ (o : Int) := by omega
      have g4 : (o : Int) ≤ (l.length : Int) := by omega
      go_enter Try.func33, Try.ntmps33
      go_wp2_with fail
      refine (rin_of b g base x _ true l _ H.out hx hk HI.out).mono ?_
      rintro e w' ⟨rfl, q, rfl⟩
      go_wp2_with fail
      go_region_held3 (fun w' => w'.cell? ⟨b, 0, none⟩ = some (.int .i64 base) ∧ w'.cell? ⟨b, 1, none⟩ = some (.slice (some ⟨g, 0, none⟩) l.length l.length)) (first | assumption | exact ⟨by assumption, by assumption⟩ | go_keep)
        ((go_at_call 29; refine (copy_any _ _ 0 R _ EL.out ((PZ.out q _ (.inl trivial)).drew) (by rw [← EL.out]; omega)).mono ?_; rintro e w2 ⟨g2, cap2, rfl, o2, b2⟩; have O2 : Hid (OwnsB w2 w.heap.size (some ⟨g2, 0, none⟩) R cap2) := o2; have B2 : Hid (Below w.heap.size w w2) := ⟨b2.os, b2.tape, b2.output, b2.size, b2.block⟩; have p0 : w2.cell? ⟨b, 0, none⟩ = some (.int .i64 base) := bcellK B2.out c0; have p1 : w2.cell? ⟨b, 1, none⟩ = some (.slice (some ⟨g, 0, none⟩) l.length l.length) := bcellK B2.out c1; clear o2 b2))
      go_wp2
      go_ret2
      exact ⟨_, _, by rw [← EL.out]; rfl, ownsB_isB AR.out O2.out, (fun ad e => by cases e; exact own_ge O2.out _ rfl), B2.out⟩
    · have n1 : ¬ ((o : Int) + (m : Int) < (o : Int)) := by omega
      have g1 : IntKind.i64.wrap (x - base) = (o : Int) := by rw [IntKind.wrap_i64]; omega
      have g2 : IntKind.i64.wrap ((o : Int) + (m : Int)) = (o : Int) + (m : Int) := by rw [IntKind.wrap_i64]; omega
      have g0 : IntKind.i64.wrap (o : Int) = (o : Int) := by rw [IntKind.wrap_i64]; omega
      have hsl : ∀ w : World, (Instr.slice 35 (.slice (some ⟨g, 0, none⟩) l.length l.length) (some (.int .i64 (o : Int))) (some (.int .i64 ((o : Int) + (m : Int)))) none).run Try.prog w = .ok (.slice (some ⟨g, o, none⟩) m (l.length - o)) w := fun w => slice_run w g l.length o m hom hc
      go_enter Try.func33, Try.ntmps33
      go_wp2_with fail
      refine (rin_of b g base x _ true l _ H.out hx hk HI.out).mono ?_
      rintro e w' ⟨rfl, q, rfl⟩
      go_wp2_with fail
      go_region_held3 (fun w' => w'.cell? ⟨b, 0, none⟩ = some (.int .i64 base) ∧ w'.cell? ⟨b, 1, none⟩ = some (.slice (some ⟨g, 0, none⟩) l.length l.length)) (first | assumption | exact ⟨by assumption, by assumption⟩ | go_keep)
        ((go_at_call 29; refine (copy_any _ _ m R _ EL.out ((PZ.out q _ (.inr rfl)).drew) (by rw [← EL.out]; omega)).mono ?_; rintro e w2 ⟨g2, cap2, rfl, o2, b2⟩; have O2 : Hid (OwnsB w2 w.heap.size (some ⟨g2, 0, none⟩) R cap2) := o2; have B2 : Hid (Below w.heap.size w w2) := ⟨b2.os, b2.tape, b2.output, b2.size, b2.block⟩; have p0 : w2.cell? ⟨b, 0, none⟩ = some (.int .i64 base) := bcellK B2.out c0; have p1 : w2.cell? ⟨b, 1, none⟩ = some (.slice (some ⟨g, 0, none⟩) l.length l.length) := bcellK B2.out c1; clear o2 b2))
      go_wp2
      go_ret2
      exact ⟨_, _, by rw [EL.out]; rfl, ownsB_isB AR.out O2.out, (fun ad e => by cases e; exact own_ge O2.out _ rfl), B2.out⟩
  · rw [errR_out hin, readR_out hin]
    have HI : Hid (decide (inR l.length (x - base) k) = false) := decide_eq_false hin
    clear h hin
    go_enter Try.func33, Try.ntmps33
    go_wp2_with fail
    refine (rin_of b g base x _ false l _ H.out hx hk HI.out).mono ?_
    rintro e w' ⟨rfl, q, rfl⟩
    go_wp2
    go_ret2
    exact ⟨none, 0, rfl, IsB.nil _ _, (fun ad e => nomatch e), below_self w q⟩

set_option maxHeartbeats 1000000 in
theorem rplace_any (b g : Nat) (base x : Int) (l : List Int) (w : World) (h : IsM w b g base l) (hx : Fits x) :
    Calls Try.prog 39 #[.pointer (some ⟨b, 0, none⟩), .int .i64 x] w fun e w' => e = .returned (.tuple #[.int .i64 (placeR l.length (x - base)).1, .int .i64 (placeR l.length (x - base)).2.1, .bool (placeR l.length (x - base)).2.2]) ∧ ∃ m, w' = w.drewN m := by
  have H : Hid (IsM w b g base l) := h
  have c0 := h.cell0
  by_cases hin : inR l.length (x - base) 1
  · rw [show placeR l.length (x - base) = ((x - base) / 256, (x - base) % 256, true) from if_pos hin]
    obtain ⟨o, m, ho, hm, hom⟩ := inR_nat hin
    have hl := h.len
    have HI : Hid (decide (inR l.length (x - base) 1) = true) := decide_eq_true hin
    rw [ho]
    clear h hin hm
    go_enter Try.func39, Try.ntmps39
    go_wp2_with fail
    refine (rin_of b g base x _ true l _ H.out hx (by unfold Fits; omega) HI.out).mono ?_
    rintro e w' ⟨rfl, q, rfl⟩
    go_wp2_with fail
    go_quiet (fail)
    go_wp2
    refine bodyPost_ret (v := .tuple #[.int .i64 ((o : Int) / 256), .int .i64 ((o : Int) % 256), .bool true]) (by simp [results, Try.results39, go_sem]) rfl ⟨rfl, _, World.drewN_drewN ..⟩
  · rw [show placeR l.length (x - base) = (0, 0, false) from if_neg hin]
    have HI : Hid (decide (inR l.length (x - base) 1) = false) := decide_eq_false hin
    clear h hin
    go_enter Try.func39, Try.ntmps39
    go_wp2_with fail
    refine (rin_of b g base x _ false l _ H.out hx (by unfold Fits; omega) HI.out).mono ?_
    rintro e w' ⟨rfl, q, rfl⟩
    go_wp2
    refine bodyPost_ret (v := .tuple #[.int .i64 0, .int .i64 0, .bool false]) (by simp [results, Try.results39, go_sem]) rfl ⟨rfl, _, rfl⟩

theorem raddr_in (b g : Nat) (base p o : Int) (l : List Int) (w : World) (h : IsM w b g base l) (hin : hasP l.length p o) :
    Calls Try.prog 40 #[.pointer (some ⟨b, 0, none⟩), .int .i64 p, .int .i64 o] w fun e w' => e = .returned (.tuple #[.int .i64 (base + 256 * p + o), .bool true]) ∧ w = w' := by
  have c0 := h.cell0
  have c1 := h.cell1
  have hl := h.len
  have h1 := h.lo
  have h2 := h.hi
  unfold hasP at hin
  obtain ⟨i1, i2, i3, i4⟩ := hin
  have n1 : ¬ (p < 0) := by omega
  have n2 : ¬ ((l.length : Int) / 256 ≤ p) := by omega
  have n3 : ¬ (o < 0) := by omega
  have n4 : ¬ (255 < o) := by omega
  have n5 : p ≤ 4096 := by omega
  clear h i2
  go_enter Try.func40, Try.ntmps40
  go_wp2
  go_ret2
  exact ⟨rfl, rfl⟩
theorem raddr_out (b g : Nat) (base p o : Int) (l : List Int) (w : World) (h : IsM w b g base l) (hin : ¬ hasP l.length p o) :
    Calls Try.prog 40 #[.pointer (some ⟨b, 0, none⟩), .int .i64 p, .int .i64 o] w fun e w' => e = .returned (.tuple #[.int .i64 0, .bool false]) ∧ w = w' := by
  have c1 := h.cell1
  unfold hasP at hin
  have hl := h.len
  clear h
  by_cases a1 : p < 0
  · clear hin
    go_enter Try.func40, Try.ntmps40
    go_wp2
    go_ret2
    exact ⟨rfl, rfl⟩
  · by_cases a2 : (l.length : Int) / 256 ≤ p
    · clear hin
      go_enter Try.func40, Try.ntmps40
      go_wp2
      go_ret2
      exact ⟨rfl, rfl⟩
    · by_cases a3 : o < 0
      · clear hin
        go_enter Try.func40, Try.ntmps40
        go_wp2
        go_ret2
        exact ⟨rfl, rfl⟩
      · have a4 : 255 < o := by omega
        clear hin
        go_enter Try.func40, Try.ntmps40
        go_wp2
        go_ret2
        exact ⟨rfl, rfl⟩
end Go.Proofs.Ytjejholognpbaaa
