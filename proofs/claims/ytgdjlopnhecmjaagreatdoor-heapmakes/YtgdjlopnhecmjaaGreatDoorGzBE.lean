/- Layer 15: KdF again -/
import Derived.Test.YtgdjlopnhecmjaaGreatDoorGzAZ
import Derived.Test.YtgdjlopnhecmjaaGreatDoorGzAJ
import Derived.Test.YtgdjlopnhecmjaaGreatDoorGzBD
import Derived.Deep.RegionHeld3
namespace Go.Proofs.YtgdjlopnhecmjaaGreatDoor
open Go.RowKit
set_option linter.unusedVariables false
set_option maxRecDepth 4000
theorem plain_false {s : Int} {ps : List Int} {x n : Int} (h : ¬ (rightK s ps ∧ 0 ≤ x ∧ 0 ≤ n ∧ n ≤ s - x ∧ ∀ p ∈ ps, ¬ (p < x + n ∧ x < p + 8 ∧ 0 < n))) : plainK s ps x n = false := decide_eq_false h

set_option maxHeartbeats 4000000 in
theorem plain_any (s : Int) (a : Option Addr) (c : Nat) (ps : List Int) (x n : Int) (w : World) (hI : IsI w a ps) (hm : ps.length ≤ maxLen) (hx : -9223372036854775808 ≤ x ∧ x ≤ 9223372036854775807) (hn : -9223372036854775808 ≤ n ∧ n ≤ 9223372036854775807) :
    Calls Tryz.prog 170 #[.agg #[.int .i64 s, .slice a ps.length c], .int .i64 x, .int .i64 n] w fun e w' => e = .returned (.bool (plainK s ps x n)) ∧ Below w.heap.size w w' := by
  have HB : Hid (Below w.heap.size w (w.alloc (.cells #[.int .i64 s, .slice a ps.length c] 103))) := box_below w s a _ c
  have I1 : Hid (IsI (w.alloc (.cells #[.int .i64 s, .slice a ps.length c] 103)) a ps) := hI.keep HB.out
  have HI : Hid (IsI w a ps) := hI
  obtain ⟨q0, q1⟩ := box_cells w s a ps.length c
  have Q0 : Hid _ := q0
  have Q1 : Hid _ := q1
  clear hI q0 q1
  by_cases hr : checkK s ps = 0
  · have hR := check_zero.1 hr
    have ER : Hid (decide (checkK s ps = 0) = true) := decide_eq_true hr
    have HR : Hid (rightK s ps) := hR
    obtain ⟨s1, s2, l1, hpl⟩ := hR
    have HA : Hid (∀ p ∈ ps, 0 ≤ p ∧ p ≤ s - 8 ∧ p % 8 = 0) := iplaced_all s ps 0 (by omega) hpl
    clear hr hpl
    have hcs : x < 0 ∨ (0 ≤ x ∧ n < 0) ∨ (0 ≤ x ∧ 0 ≤ n ∧ s - x < n) ∨ (0 ≤ x ∧ 0 ≤ n ∧ n ≤ s - x) := by omega
    rcases hcs with h1 | ⟨h1, h2⟩ | ⟨h1, h2, h3⟩ | ⟨h1, h2, h3⟩
    rotate_right
    · go_enter Tryz.func170, Tryz.ntmps170
      go_wp2_with fail
      refine (right_is s a c _ ps true _ rfl ER.out I1.out hm).mono ?_
      rintro e w1 ⟨rfl, b1⟩
      have c0 := bcellK (b1.mono (Nat.le_refl _)) Q0.out
      have c1 := bcellK (b1.mono (Nat.le_refl _)) Q1.out
      have B1 : Hid (Below w.heap.size w w1) := HB.out.trans (b1.mono HB.out.size)
      have I2 : Hid (IsI w1 a ps) := HI.out.keep B1.out
      clear b1
      go_wp2
      go_loop [31] (fun iv => ∃ k : Nat, k ≤ ps.length ∧ iv = .int .i64 k ∧ ∀ p ∈ ps.take k, ¬ (p < x + n ∧ x < p + 8 ∧ 0 < n)) (fun iv => ps.length - (intOf iv).toNat)
      case atStart => exact ⟨0, Nat.zero_le _, rfl, fun p hp => by simp at hp⟩
      case round =>
        obtain ⟨k, hk, rfl, hcl⟩ := hrel
        have HCL : Hid (∀ p ∈ ps.take k, ¬ (p < x + n ∧ x < p + 8 ∧ 0 < n)) := hcl
        clear hcl
        by_cases hlt : k < ps.length
        · obtain ⟨hin, h0 | ⟨b, off, rfl, hsz, hc⟩⟩ := I2.out
          · rw [h0] at hlt; simp at hlt
          have hcell := hc k hlt
          have hmem : ps.getD k 0 ∈ ps := by simp [List.getD, hlt]
          have ET : ps.take (k + 1) = ps.take k ++ [ps.getD k 0] := by rw [List.take_succ_eq_append_getElem hlt]; simp [List.getD, hlt]
          obtain ⟨p, hp⟩ : ∃ p, ps.getD k 0 = p := ⟨_, rfl⟩
          rw [hp] at hcell hmem ET
          have HM : Hid (p ∈ ps) := hmem
          have HT : Hid (ps.take (k + 1) = ps.take k ++ [p]) := ET
          obtain ⟨p0, p1, _⟩ := HA.out p hmem
          clear hp hc hin hsz hmem ET
          by_cases hov : p < x + n ∧ x < p + 8 ∧ 0 < n
          · have EQ : Hid (plainK s ps x n = false) := plain_false (fun h => h.2.2.2.2 p HM.out hov)
            obtain ⟨o1, o2, o3⟩ := hov
            go_wp2
            all_goals (go_ret; exact ⟨ret_bool EQ.out.symm, B1.out⟩)
          · have NX : Hid (∀ q ∈ ps.take (k + 1), ¬ (q < x + n ∧ x < q + 8 ∧ 0 < n)) := by
              intro q hq
              rw [HT.out] at hq
              rcases List.mem_append.1 hq with hq | hq
              · exact HCL.out q hq
              · simp at hq; subst hq; exact hov
            go_wp2
            all_goals
              go_round
              case rel => exact ⟨k + 1, by omega, by go_num, NX.out⟩
              case measure => simp [intOf]; omega
        · have EQ : Hid (plainK s ps x n = true) := decide_eq_true ⟨HR.out, h1, h2, h3, by have := HCL.out; rwa [List.take_of_length_le (by omega)] at this⟩
          go_wp2
          go_ret
          exact ⟨ret_bool EQ.out.symm, B1.out⟩
    all_goals
      have EQ : Hid (plainK s ps x n = false) := plain_false (by omega)
      go_enter Tryz.func170, Tryz.ntmps170
      go_wp2_with fail
      refine (right_is s a c _ ps true _ rfl ER.out I1.out hm).mono ?_
      rintro e w1 ⟨rfl, b1⟩
      have c0 := bcellK (b1.mono (Nat.le_refl _)) Q0.out
      have c1 := bcellK (b1.mono (Nat.le_refl _)) Q1.out
      have B1 : Hid (Below w.heap.size w w1) := HB.out.trans (b1.mono HB.out.size)
      clear b1
      go_wp2
      go_ret
      exact ⟨ret_bool EQ.out.symm, B1.out⟩
  · have ER : Hid (decide (checkK s ps = 0) = false) := decide_eq_false hr
    have EQ : Hid (plainK s ps x n = false) := plain_false (fun h => hr (check_zero.2 h.1))
    clear hr
    go_enter Tryz.func170, Tryz.ntmps170
    go_wp2_with (go_at_call 211; refine (right_is s a c _ ps false _ rfl ER.out I1.out hm).mono ?_; rintro e w1 ⟨rfl, b1⟩)
    go_ret
    exact ⟨ret_bool EQ.out.symm, HB.out.trans (b1.mono HB.out.size)⟩
theorem plain_is (s : Int) (a : Option Addr) (c k : Nat) (ps : List Int) (x n : Int) (r : Bool) (w : World) (hk : k = ps.length) (hr : plainK s ps x n = r) (hI : IsI w a ps) (hm : ps.length ≤ maxLen) (hx : -9223372036854775808 ≤ x ∧ x ≤ 9223372036854775807) (hn : -9223372036854775808 ≤ n ∧ n ≤ 9223372036854775807) :
    Calls Tryz.prog 170 #[.agg #[.int .i64 s, .slice a k c], .int .i64 x, .int .i64 n] w fun e w' => e = .returned (.bool r) ∧ Below w.heap.size w w' := by
  subst hk hr; exact plain_any s a c ps x n w hI hm hx hn
end Go.Proofs.YtgdjlopnhecmjaaGreatDoor

/- Layer 15: KdL again -/
namespace Go.Proofs.YtgdjlopnhecmjaaGreatDoor
open Go.RowKit
set_option linter.unusedVariables false
set_option maxRecDepth 4000
/-- Where a pointer field begins. -/
def fieldV (s : Int) (ps : List Int) (i : Int) : Int × Bool := if checkK s ps = 0 ∧ 0 ≤ i ∧ i < ps.length then (ps.getD i.toNat 0, true) else (0, false)

set_option maxHeartbeats 2000000 in
theorem field_any (s : Int) (a : Option Addr) (c : Nat) (ps : List Int) (i : Int) (w : World) (hI : IsI w a ps) (hm : ps.length ≤ maxLen) (hi : -9223372036854775808 ≤ i ∧ i ≤ 9223372036854775807) :
    Calls Tryz.prog 159 #[.agg #[.int .i64 s, .slice a ps.length c], .int .i64 i] w fun e w' => e = .returned (.tuple #[.int .i64 (fieldV s ps i).1, .bool (fieldV s ps i).2]) ∧ Below w.heap.size w w' := by
  have HB : Hid (Below w.heap.size w (w.alloc (.cells #[.int .i64 s, .slice a ps.length c] 103))) := box_below w s a _ c
  have I1 : Hid (IsI (w.alloc (.cells #[.int .i64 s, .slice a ps.length c] 103)) a ps) := hI.keep HB.out
  have HI : Hid (IsI w a ps) := hI
  have HM : Hid (ps.length ≤ maxLen) := hm
  obtain ⟨q0, q1⟩ := box_cells w s a ps.length c
  have Q1 : Hid _ := q1
  clear hI q0 q1
  unfold maxLen at hm
  by_cases hr : checkK s ps = 0
  · have ER : Hid (decide (checkK s ps = 0) = true) := decide_eq_true hr
    have HR : Hid (checkK s ps = 0) := hr
    clear hr
    have hcs : i < 0 ∨ (0 ≤ i ∧ (ps.length : Int) ≤ i) ∨ (0 ≤ i ∧ i < (ps.length : Int)) := by omega
    rcases hcs with h1 | ⟨h1, h2⟩ | ⟨h1, h2⟩
    rotate_right
    · obtain ⟨k, rfl⟩ : ∃ k : Nat, i = k := ⟨i.toNat, by omega⟩
      have hk : k < ps.length := by omega
      have EV : Hid (fieldV s ps (k : Nat) = (ps.getD k 0, true)) := by show _ = _; unfold fieldV; rw [if_pos ⟨HR.out, h1, h2⟩, Int.toNat_natCast]
      go_enter Tryz.func159, Tryz.ntmps159
      go_wp2_with fail
      refine (right_is s a c _ ps true _ rfl ER.out I1.out HM.out).mono ?_
      rintro e w1 ⟨rfl, b1⟩
      have c1 := bcellK (b1.mono (Nat.le_refl _)) Q1.out
      have B1 : Hid (Below w.heap.size w w1) := HB.out.trans (b1.mono HB.out.size)
      obtain ⟨hin, h0 | ⟨b, off, rfl, hsz, hc⟩⟩ := HI.out.keep B1.out
      · rw [h0] at hk; simp at hk
      have hcell := hc k hk
      obtain ⟨p, hp⟩ : ∃ p, ps.getD k 0 = p := ⟨_, rfl⟩
      rw [hp] at hcell EV
      clear b1 hc hin hsz hp
      go_wp2
      go_ret2
      rw [EV.out]
      exact ⟨rfl, B1.out⟩
    all_goals
      have EV : Hid (fieldV s ps i = (0, false)) := by show _ = _; unfold fieldV; rw [if_neg (by omega)]
      go_enter Tryz.func159, Tryz.ntmps159
      go_wp2_with fail
      refine (right_is s a c _ ps true _ rfl ER.out I1.out HM.out).mono ?_
      rintro e w1 ⟨rfl, b1⟩
      have c1 := bcellK (b1.mono (Nat.le_refl _)) Q1.out
      have B1 : Hid (Below w.heap.size w w1) := HB.out.trans (b1.mono HB.out.size)
      clear b1
      go_wp2
      go_ret2
      rw [EV.out]
      exact ⟨rfl, B1.out⟩
  · have ER : Hid (decide (checkK s ps = 0) = false) := decide_eq_false hr
    have EV : Hid (fieldV s ps i = (0, false)) := by show _ = _; unfold fieldV; rw [if_neg (fun h => hr h.1)]
    clear hr
    go_enter Tryz.func159, Tryz.ntmps159
    go_wp2_with (go_at_call 211; refine (right_is s a c _ ps false _ rfl ER.out I1.out HM.out).mono ?_; rintro e w1 ⟨rfl, b1⟩)
    go_ret2
    rw [EV.out]
    exact ⟨rfl, HB.out.trans (b1.mono HB.out.size)⟩
end Go.Proofs.YtgdjlopnhecmjaaGreatDoor

/- Layer 15: the leaves of heap: address, checkWorker, lead, object, plain, field, Kind. -/
namespace Go.Proofs.YtgdjlopnhecmjaaGreatDoor
open Go.RowKit
set_option linter.unusedVariables false
set_option maxRecDepth 4000

theorem isA_drewN {w : World} {b g : Nat} {base : Int} {l : List Int} (h : IsA w b g base l) (n : Nat) : IsA (w.drewN n) b g base l := ⟨h.box, h.row, h.all, h.ne, h.lo, h.hi, h.len⟩
theorem base_q (b g : Nat) (base : Int) (l : List Int) (w : World) (h : IsA w b g base l) :
    Calls Tryz.prog 50 #[.pointer (some ⟨b, 0, none⟩)] w fun e w' => e = .returned (.int .i64 base) ∧ w' = w :=
  (base_any b g base l w h).mono (fun e w' h => ⟨h.1, h.2.symm⟩)
section
variable {w : World} {Λ : Nat → Nat} {hb pa pk pc pn mb q W : Nat} {base : Int} {bs : List Int} {ks : List Kn} {P : Nat} {m : List Sg} {N : Nat} {rs : List HRw} {f : Int → Option Nat}
set_option maxHeartbeats 1000000 in
theorem eaddr_any (h : Ehx w Λ hb pa pk pc pn mb q W base bs ks P m N rs f) (x : Int) (hx : -4611686018427387904 ≤ x ∧ x ≤ 4611686018427387904) :
    Calls Tryz.prog 59 #[.pointer (some ⟨hb, 0, none⟩), .int .i64 x] w fun e w' => e = .returned (.int .i64 (base + x)) ∧ w = w' := by
  obtain ⟨g, hA, _⟩ := h.ar
  have HA : Hid (IsA w pa g base bs) := hA
  have lo := hA.lo
  have hi := hA.hi
  obtain ⟨_, c1, _, _, _, _⟩ := h.cells
  have wq : IntKind.i64.wrap (base + x) = base + x := by rw [IntKind.wrap_i64]; omega
  clear h hA
  go_enter Tryz.func59, Tryz.ntmps59
  go_wp2_with (go_at_call 50; refine (base_any pa g base bs _ HA.out).mono ?_; rintro e w' ⟨rfl, rfl⟩)
  go_ret
  exact ⟨rfl, rfl⟩
/-- What forbids that a worker does a step. -/
def cwE (W : Nat) (v : Int) : Int := if 0 ≤ v ∧ v < (W : Int) then 0 else 2
set_option maxHeartbeats 1000000 in
theorem ecw_any (h : Ehx w Λ hb pa pk pc pn mb q W base bs ks P m N rs f) (v : Int) :
    Calls Tryz.prog 68 #[.pointer (some ⟨hb, 0, none⟩), .int .i64 v] w fun e w' => e = .returned (.int .i64 (cwE W v)) ∧ w = w' := by
  obtain ⟨c0, _, _, _, _, _⟩ := h.cells
  clear h
  by_cases h1 : v < 0
  · rw [show cwE W v = 2 from if_neg (by omega)]
    go_enter Tryz.func68, Tryz.ntmps68
    go_wp2
    go_ret
    exact ⟨rfl, rfl⟩
  · by_cases h2 : (W : Int) ≤ v
    · rw [show cwE W v = 2 from if_neg (by omega)]
      go_enter Tryz.func68, Tryz.ntmps68
      go_wp2
      go_ret
      exact ⟨rfl, rfl⟩
    · rw [show cwE W v = 0 from if_pos (by omega)]
      go_enter Tryz.func68, Tryz.ntmps68
      go_wp2
      go_ret
      exact ⟨rfl, rfl⟩
theorem ecw_nil (v : Int) (w : World) :
    Calls Tryz.prog 68 #[.pointer none, .int .i64 v] w fun e w' => e = .returned (.int .i64 1) ∧ w = w' := by
  go_enter Tryz.func68, Tryz.ntmps68
  go_wp2
  go_ret
  exact ⟨rfl, rfl⟩
set_option maxHeartbeats 2000000 in
/-- The handle of the object at an address. -/
theorem elead_any (h : Ehx w Λ hb pa pk pc pn mb q W base bs ks P m N rs f) (x : Int) (hx : 0 ≤ x ∧ x ≤ 18446744073709551615) :
    Calls Tryz.prog 98 #[.pointer (some ⟨hb, 0, none⟩), .int .u64 x] w fun e w' => e = .returned (.int .u64 ((f (IntKind.i64.wrap (IntKind.i64.wrap x - base))).getD 0 : Nat)) ∧ ∃ n, w' = w.drewN n := by
  obtain ⟨g, hA, _⟩ := h.ar
  have HA : Hid (IsA w pa g base bs) := hA
  obtain ⟨hM, _⟩ := h.wh
  obtain ⟨_, c1, _, _, _, c5⟩ := h.cells
  obtain ⟨y, hy⟩ : ∃ y, IntKind.i64.wrap x = y := ⟨_, rfl⟩
  obtain ⟨z, hz⟩ : ∃ z, IntKind.i64.wrap (y - base) = z := ⟨_, rfl⟩
  rw [hy, hz]
  have z1 : -9223372036854775808 ≤ z ∧ z ≤ 9223372036854775807 := by rw [← hz, IntKind.wrap_i64]; omega
  have LK : ∀ n : Nat, (Instr.lookup 112 (.map (some mb)) (.int .i64 z) false).run Tryz.prog (w.drewN n) = .ok (.int .u64 ((f z).getD 0 : Nat)) (w.drewN n) := fun n => MapH.look (w := w.drewN n) hM z1
  have LK0 : (Instr.lookup 112 (.map (some mb)) (.int .i64 z) false).run Tryz.prog w = .ok (.int .u64 ((f z).getD 0 : Nat)) w := hM.look z1
  have t1 : ∀ n : Nat, (w.drewN n).cell? ⟨hb, 1, none⟩ = some (.pointer (some ⟨pa, 0, none⟩)) := fun _ => c1
  have t5 : ∀ n : Nat, (w.drewN n).cell? ⟨hb, 5, none⟩ = some (.map (some mb)) := fun _ => c5
  obtain ⟨R, hR⟩ : ∃ R, (f z).getD 0 = R := ⟨_, rfl⟩
  rw [hR] at LK LK0 ⊢
  clear h hA hM hR
  go_enter Tryz.func98, Tryz.ntmps98
  go_wp2_with fail
  go_quiet ((go_at_call 50; exact Calls.quiet_of_same (base_q pa g base bs _ (isA_drewN HA.out _))))
  go_wp2
  go_ret
  exact ⟨rfl, _, rfl⟩
end
end Go.Proofs.YtgdjlopnhecmjaaGreatDoor

/- Layer 15: object, plain, field, Kind of a heap. -/
namespace Go.Proofs.YtgdjlopnhecmjaaGreatDoor
open Go.RowKit
set_option linter.unusedVariables false
set_option maxRecDepth 4000

theorem bdrew15 {B : Nat} {w w' : World} (h : Below B w w') : Below B w w'.drew := ⟨h.os, h.tape, h.output, h.size, h.block⟩
theorem cbx15 {w : World} {g : Nat} {s : Int} {v : Value} (h : w.heap[g]? = some (.cells #[.int .i64 s, v] 103 (0, 0))) : w.cell? ⟨g, 0, none⟩ = some (.int .i64 s) ∧ w.cell? ⟨g, 1, none⟩ = some v ∧ w.frozen? ⟨g, 0, none⟩ = false ∧ w.frozen? ⟨g, 1, none⟩ = false :=
  ⟨cell_of_row _ _ 0 _ _ _ h, cell_of_row _ _ 1 _ _ _ h, frozen_of_row _ _ 0 _ _ h, frozen_of_row _ _ 1 _ _ h⟩
theorem lonly15 {w : World} {g : Nat} {k : Int} {v : Value} : Only g w (laid w g k v) := (Only.set g 0 _ w).trans (Only.set g 1 _ _)
theorem kns_at {xs : List Kd} {ks : List Kn} (h : kns xs = ks) {k : Nat} (hk : k < xs.length) : (knD ks k).s = xs[k].s ∧ (knD ks k).l = xs[k].l := by
  subst h
  have e : knD (kns xs) k = ⟨xs[k].s, xs[k].l⟩ := by unfold knD kns; simp [List.getD, hk]
  rw [e]
  exact ⟨rfl, rfl⟩
theorem kns_len {xs : List Kd} {ks : List Kn} (h : kns xs = ks) : ks.length = xs.length := by subst h; simp [kns]
section
variable {w : World} {Λ : Nat → Nat} {hb pa pk pc pn mb q W : Nat} {base : Int} {bs : List Int} {ks : List Kn} {P : Nat} {m : List Sg} {N : Nat} {rs : List HRw} {f : Int → Option Nat}
/-- Get of the kinds, at a heap. -/
theorem ekget_any (h : Ehx w Λ hb pa pk pc pn mb q W base bs ks P m N rs f) (k : Nat) (hk : k < ks.length) :
    Calls Tryz.prog 69 #[.pointer (some ⟨pk, 0, none⟩), .int .i64 (k : Nat)] w fun e w' => ∃ a' c', e = .returned (.tuple #[.agg #[.int .i64 (knD ks k).s, .slice a' (knD ks k).l.length c'], .int .i64 0]) ∧ OwnsI w' w.heap.size a' (knD ks k).l c' ∧ Below w.heap.size w w' := by
  obtain ⟨b0, lb, ar, cr, xs, hT, he, _⟩ := h.kd
  have hl := kns_len he
  obtain ⟨e1, e2⟩ := kns_at he (k := k) (by omega)
  rw [e1, e2]
  exact tget_ok b0 lb pk ar cr xs k w hT (by omega)
theorem enget_bad (h : Ehx w Λ hb pa pk pc pn mb q W base bs ks P m N rs f) (x : Nat) (hx : x < 18446744073709551616) (hi : ¬ ∃ i, LvAt rs x i) :
    Calls Tryz.prog 92 #[.pointer (some ⟨pn, 0, none⟩), .int .u64 (x : Nat)] w fun e w' => e = .returned (.tuple #[.int .i64 0, .int .i64 0, .int .i64 12]) ∧ w = w' := by
  obtain ⟨B, a, c, hC, _⟩ := h.nm
  exact get_bad B pn a c N rs x w hC hx hi
theorem enget_ok (h : Ehx w Λ hb pa pk pc pn mb q W base bs ks P m N rs f) (x i : Nat) (hx : x < 18446744073709551616) (hi : LvAt rs x i) :
    Calls Tryz.prog 92 #[.pointer (some ⟨pn, 0, none⟩), .int .u64 (x : Nat)] w fun e w' => e = .returned (.tuple #[.int .i64 (gtL rs i).kind, .int .i64 (gtL rs i).pl, .int .i64 0]) ∧ ∃ n, w' = w.drewN n := by
  obtain ⟨B, a, c, hC, _⟩ := h.nm
  exact get_ok B pn a c N rs x i w hC hx hi
theorem kbox15 (w : World) (s : Int) (v : Value) : ∃ D, w.alloc (.cells #[.int .i64 s, v] 103) = D ∧ D.heap[w.heap.size]? = some (.cells #[.int .i64 s, v] 103 (0, 0)) ∧ Below w.heap.size w D :=
  ⟨_, rfl, Go.heap_alloc_new w _, (Below.refl _ w).alloc (Nat.le_refl _) _⟩
set_option maxRecDepth 20000 in
set_option maxHeartbeats 4000000 in
theorem eobject_bad (h : Ehx w Λ hb pa pk pc pn mb q W base bs ks P m N rs f) (x : Nat) (hx : x < 18446744073709551616) (hi : ¬ ∃ i, LvAt rs x i) :
    Calls Tryz.prog 158 #[.pointer (some ⟨hb, 0, none⟩), .int .u64 (x : Nat)] w fun e w' => e = .returned (.tuple #[.agg #[.int .i64 0, .slice none 0 0], .int .i64 0, .int .i64 12]) ∧ Below w.heap.size w w' := by
  obtain ⟨D, hD, rD, bD⟩ := kbox15 w 0 (.slice none 0 0)
  obtain ⟨h1, _⟩ := h.keep bD
  have H1 : Hid (Ehx D _ hb pa pk pc pn mb q W base bs ks P m N rs f) := h1
  have HD : Hid (w.alloc (.cells #[.int .i64 0, .slice none 0 0] 103) = D) := hD
  have HI : Hid (¬ ∃ i, LvAt rs x i) := hi
  obtain ⟨_, _, _, _, c4, _⟩ := h1.cells
  obtain ⟨m0, m1, mz0, mz1⟩ := cbx15 rD
  have e0 := laid0 (k := 0) (v := .slice none 0 0) m0
  have e1 := laid1 (k := 0) (v := .slice none 0 0) m1
  have BF : Hid (Below w.heap.size w (laid D w.heap.size 0 (.slice none 0 0))) := bD.trans (Tg.below (Tg.ofOnly lonly15) (Nat.le_refl _) bD.size)
  unfold laid at e0 e1
  clear h h1 hD rD bD hi
  go_enter Tryz.func158, Tryz.ntmps158
  go_upto_region 1 with (fail)
  rw [HD.out]
  go_wp2_with fail
  refine (enget_bad H1.out x hx HI.out).mono ?_
  rintro e w' ⟨rfl, rfl⟩
  go_wp2
  refine bodyPost_ret (v := .tuple #[.agg #[.int .i64 0, .slice none 0 0], .int .i64 0, .int .i64 12]) (by simp [results, Tryz.results158, go_sem, e0, e1]) rfl ⟨rfl, BF.out⟩
set_option maxRecDepth 20000 in
set_option maxHeartbeats 4000000 in
theorem eobject_ok (h : Ehx w Λ hb pa pk pc pn mb q W base bs ks P m N rs f) (x i k : Nat) (p : Int) (hx : x < 18446744073709551616) (hi : LvAt rs x i) (hk : (gtL rs i).kind = (k : Int)) (hk2 : k < ks.length) (hp : (gtL rs i).pl = p) (hp2 : 0 ≤ p ∧ p ≤ 1048576) :
    Calls Tryz.prog 158 #[.pointer (some ⟨hb, 0, none⟩), .int .u64 (x : Nat)] w fun e w' => ∃ a' c', e = .returned (.tuple #[.agg #[.int .i64 (knD ks k).s, .slice a' (knD ks k).l.length c'], .int .i64 (base + p), .int .i64 0]) ∧ OwnsI w' w.heap.size a' (knD ks k).l c' ∧ Below w.heap.size w w' := by
  obtain ⟨D, hD, rD, bD⟩ := kbox15 w 0 (.slice none 0 0)
  obtain ⟨h1, _⟩ := h.keep bD
  have H1 : Hid (Ehx D (lab Λ w.heap.size 0) hb pa pk pc pn mb q W base bs ks P m N rs f) := h1
  have HD : Hid (w.alloc (.cells #[.int .i64 0, .slice none 0 0] 103) = D) := hD
  have RD : Hid (D.heap[w.heap.size]? = some (.cells #[.int .i64 0, .slice none 0 0] 103 (0, 0))) := rD
  have BD : Hid (Below w.heap.size w D) := bD
  have GET : Hid (Calls Tryz.prog 92 #[.pointer (some ⟨pn, 0, none⟩), .int .u64 (x : Nat)] D fun e w' => e = .returned (.tuple #[.int .i64 (k : Nat), .int .i64 p, .int .i64 0]) ∧ ∃ n, w' = D.drewN n) := by
    have q := enget_ok h1 x i hx hi
    rw [hk, hp] at q
    exact q
  obtain ⟨_, _, _, _, c4, _⟩ := h1.cells
  obtain ⟨s, hs⟩ : ∃ s, (knD ks k).s = s := ⟨_, rfl⟩
  obtain ⟨l, hl⟩ : ∃ l, (knD ks k).l = l := ⟨_, rfl⟩
  have zD := hlt rD
  have KG : Hid (∀ (w : World) (Λ : Nat → Nat), Ehx w Λ hb pa pk pc pn mb q W base bs ks P m N rs f → Calls Tryz.prog 69 #[.pointer (some ⟨pk, 0, none⟩), .int .i64 (k : Nat)] w fun e w' => ∃ a' c', e = .returned (.tuple #[.agg #[.int .i64 s, .slice a' l.length c'], .int .i64 0]) ∧ OwnsI w' w.heap.size a' l c' ∧ Below w.heap.size w w') := fun w Λ h => by
    have q := ekget_any h k hk2
    rw [hs, hl] at q
    exact q
  rw [hs, hl]
  clear h h1 hD rD bD hi hk hp hs hl
  go_enter Tryz.func158, Tryz.ntmps158
  go_upto_region 1 with (fail)
  rw [HD.out]
  go_wp2_with fail
  refine Calls.mono GET.out ?_
  rintro e w1 ⟨rfl, n, rfl⟩
  have H2 : Hid (Ehx (D.drewN n) (lab Λ w.heap.size 0) hb pa pk pc pn mb q W base bs ks P m N rs f) := H1.out.drewN n
  obtain ⟨_, _, d2, _, _, _⟩ := H2.out.cells
  clear c4
  go_wp2_with fail
  refine Calls.mono (KG.out _ _ H2.out) ?_
  rintro e w2 ⟨a2, cc2, rfl, o2, b2⟩
  obtain ⟨E, hE, rE, bE⟩ := kbox15 w2 s (.slice a2 l.length cc2)
  have HE : Hid (w2.alloc (.cells #[.int .i64 s, .slice a2 l.length cc2] 103) = E) := hE
  obtain ⟨h3, _⟩ := H2.out.keep b2
  obtain ⟨h4, _⟩ := h3.keep bE
  have H4 : Hid (Ehx E (lab (lab (lab Λ w.heap.size 0) (D.drewN n).heap.size 0) w2.heap.size 0) hb pa pk pc pn mb q W base bs ks P m N rs f) := h4
  have zz : D.heap.size ≤ w2.heap.size := b2.size
  have r4 : E.heap[w.heap.size]? = some (.cells #[.int .i64 0, .slice none 0 0] 103 (0, 0)) := by rw [bE.block _ (by omega), b2.block _ zD]; exact RD.out
  obtain ⟨m0, m1, mz0, mz1⟩ := cbx15 r4
  obtain ⟨k0, k1, _, _⟩ := cbx15 rE
  obtain ⟨K, hK⟩ : ∃ K, w2.heap.size = K := ⟨_, rfl⟩
  rw [hK] at k0 k1 zz
  have HK : Hid (w2.heap.size = K) := hK
  have ne1 : w.heap.size ≠ K := by omega
  have ne2 : K ≠ w.heap.size := by omega
  have e0 := laid0 (k := s) (v := .slice a2 l.length cc2) m0
  have e1 := laid1 (k := s) (v := .slice a2 l.length cc2) m1
  have F : Hid (Below w.heap.size w (laid E w.heap.size s (.slice a2 l.length cc2)) ∧ OwnsI (laid E w.heap.size s (.slice a2 l.length cc2)) w.heap.size a2 l cc2) := by
    have B2 : Below w.heap.size w E := BD.out.trans ((Below.ofDrewNZ (Below.trans b2 (bE.mono b2.size))).mono BD.out.size)
    refine ⟨B2.trans (Tg.below (Tg.ofOnly lonly15) (Nat.le_refl _) B2.size), ?_⟩
    have oE : OwnsI E D.heap.size a2 l cc2 := OwnsI.keep o2 bE
    have on : Only w.heap.size E (laid E w.heap.size s (.slice a2 l.length cc2)) := lonly15
    refine OwnsI.mono (own_stay oE (fun g o hg ho => ?_)) (Nat.le_of_lt zD)
    have hge : D.heap.size ≤ g := by
      cases a2 with
      | none => cases hg
      | some ad => cases hg; exact (oE.parts.2.2.2 ad rfl).1
    rw [on.block g (by omega)]
    exact ho
  unfold laid at e0 e1 F
  clear o2 b2 bE h3 h4 r4 rE hE d2 hK
  go_upto_region 7 with (fail)
  rw [HE.out]
  try rw [HK.out]
  have y0 : E.drew.cell? ⟨w.heap.size, 0, none⟩ = some (.int .i64 0) := m0
  have y1 : E.drew.cell? ⟨w.heap.size, 1, none⟩ = some (.slice none 0 0) := m1
  have y2 : E.drew.frozen? ⟨w.heap.size, 0, none⟩ = false := mz0
  have y3 : E.drew.frozen? ⟨w.heap.size, 1, none⟩ = false := mz1
  have y4 : E.drew.cell? ⟨K, 0, none⟩ = some (.int .i64 s) := k0
  have y5 : E.drew.cell? ⟨K, 1, none⟩ = some (.slice a2 l.length cc2) := k1
  go_region_held3 (fun w' => w'.cell? ⟨K, 0, none⟩ = some (.int .i64 s) ∧ w'.cell? ⟨K, 1, none⟩ = some (.slice a2 l.length cc2)) (first | assumption | exact ⟨by assumption, by assumption⟩ | go_keep)
    ((go_at_call 59; refine (eaddr_any H4.out.drew p (by omega)).mono ?_; rintro e wS ⟨rfl, rfl⟩))
  all_goals
    go_wp2
    refine bodyPost_ret (v := .tuple #[.agg #[.int .i64 s, .slice a2 l.length cc2], .int .i64 (base + p), .int .i64 0]) (by simp [results, Tryz.results158, go_sem, e0, e1]) rfl ⟨a2, cc2, rfl, F.out.2, bdrew15 F.out.1⟩
end
end Go.Proofs.YtgdjlopnhecmjaaGreatDoor

/- Layer 15: plain, field and Kind of a heap, Read, Get. -/
namespace Go.Proofs.YtgdjlopnhecmjaaGreatDoor
open Go.RowKit
set_option linter.unusedVariables false
set_option maxRecDepth 4000

/-- What is wrong with some bytes of an object. -/
def plE (k : Kn) (x n : Int) : Int := if x < 0 ∨ n < 0 ∨ k.s - x < n then 2 else if plainK k.s k.l x n = true then 0 else 11
section
variable {w : World} {Λ : Nat → Nat} {hb pa pk pc pn mb q W : Nat} {base : Int} {bs : List Int} {ks : List Kn} {P : Nat} {m : List Sg} {N : Nat} {rs : List HRw} {f : Int → Option Nat}
set_option maxRecDepth 20000 in
set_option maxHeartbeats 2000000 in
theorem eplain_bad (h : Ehx w Λ hb pa pk pc pn mb q W base bs ks P m N rs f) (x : Nat) (at' n : Int) (hx : x < 18446744073709551616) (hi : ¬ ∃ i, LvAt rs x i) :
    Calls Tryz.prog 110 #[.pointer (some ⟨hb, 0, none⟩), .int .u64 (x : Nat), .int .i64 at', .int .i64 n] w fun e w' => e = .returned (.tuple #[.int .i64 0, .int .i64 12]) ∧ Below w.heap.size w w' := by
  have OB : Hid (Calls Tryz.prog 158 #[.pointer (some ⟨hb, 0, none⟩), .int .u64 (x : Nat)] w fun e w' => e = .returned (.tuple #[.agg #[.int .i64 0, .slice none 0 0], .int .i64 0, .int .i64 12]) ∧ Below w.heap.size w w') := eobject_bad h x hx hi
  clear h hi
  go_enter Tryz.func110, Tryz.ntmps110
  go_wp2_with fail
  refine Calls.mono OB.out ?_
  rintro e w1 ⟨rfl, b1⟩
  obtain ⟨E, hE, rE, bE⟩ := kbox15 w1 0 (.slice none 0 0)
  have HE : Hid _ := hE
  have BE : Hid (Below w.heap.size w E) := b1.trans (bE.mono b1.size)
  clear b1 bE rE hE
  go_upto_region 2 with (fail)
  rw [HE.out]
  go_wp2
  go_ret2
  exact ⟨rfl, BE.out⟩
set_option maxRecDepth 20000 in
set_option maxHeartbeats 4000000 in
theorem eplain_any (h : Ehx w Λ hb pa pk pc pn mb q W base bs ks P m N rs f) (x i k : Nat) (p at' n : Int) (hx : x < 18446744073709551616) (hi : LvAt rs x i) (hk : (gtL rs i).kind = (k : Int)) (hk2 : k < ks.length) (hp : (gtL rs i).pl = p) (hp2 : 0 ≤ p ∧ p ≤ 1048576) (hs : 1 ≤ (knD ks k).s ∧ (knD ks k).s ≤ 4096) (hl : (knD ks k).l.length ≤ 16) (ha : -9223372036854775808 ≤ at' ∧ at' ≤ 9223372036854775807) (hn : -9223372036854775808 ≤ n ∧ n ≤ 9223372036854775807) :
    Calls Tryz.prog 110 #[.pointer (some ⟨hb, 0, none⟩), .int .u64 (x : Nat), .int .i64 at', .int .i64 n] w fun e w' => e = .returned (.tuple #[.int .i64 (if plE (knD ks k) at' n = 0 then base + p + at' else 0), .int .i64 (plE (knD ks k) at' n)]) ∧ Below w.heap.size w w' := by
  obtain ⟨g0, hA, _⟩ := h.ar
  have lo := hA.lo
  have hi' := hA.hi
  obtain ⟨K, hK⟩ : ∃ K, knD ks k = K := ⟨_, rfl⟩
  obtain ⟨s, l⟩ := K
  have OB : Hid (Calls Tryz.prog 158 #[.pointer (some ⟨hb, 0, none⟩), .int .u64 (x : Nat)] w fun e w' => ∃ a' c', e = .returned (.tuple #[.agg #[.int .i64 s, .slice a' l.length c'], .int .i64 (base + p), .int .i64 0]) ∧ OwnsI w' w.heap.size a' l c' ∧ Below w.heap.size w w') := by
    have q := eobject_ok h x i k p hx hi hk hk2 hp hp2
    rw [hK] at q
    exact q
  have AL : Hid (AllI l) := by
    obtain ⟨b0, lb, ar, cr, xs, hT, he, _⟩ := h.kd
    have hl' := kns_len he
    have e2 := (kns_at he (k := k) (by omega)).2
    show AllI l
    rw [hK] at e2
    simp only at e2
    rw [e2]
    exact hT.all _ (List.getElem_mem _)
  rw [hK] at hs hl ⊢
  simp only at hs hl
  clear h hA hi hk hp hK
  obtain ⟨R, hR⟩ : ∃ R, plE ⟨s, l⟩ at' n = R := ⟨_, rfl⟩
  have HR : Hid (plE ⟨s, l⟩ at' n = R) := hR
  rw [hR]
  clear hR
  by_cases h1 : at' < 0
  · have e : R = 2 := by rw [← HR.out]; exact if_pos (.inl h1)
    subst e
    go_enter Tryz.func110, Tryz.ntmps110
    go_wp2_with fail
    refine Calls.mono OB.out ?_
    rintro e w1 ⟨a1, c1, rfl, o1, b1⟩
    obtain ⟨E, hE, rE, bE⟩ := kbox15 w1 s (.slice a1 l.length c1)
    have HE : Hid _ := hE
    have BE : Hid (Below w.heap.size w E) := b1.trans (bE.mono b1.size)
    obtain ⟨k0, k1, _, _⟩ := cbx15 rE
    clear b1 bE rE hE o1
    go_upto_region 2 with (fail)
    rw [HE.out]
    go_wp2
    go_ret2
    exact ⟨rfl, BE.out⟩
  by_cases h2 : n < 0
  · have e : R = 2 := by rw [← HR.out]; exact if_pos (.inr (.inl h2))
    subst e
    go_enter Tryz.func110, Tryz.ntmps110
    go_wp2_with fail
    refine Calls.mono OB.out ?_
    rintro e w1 ⟨a1, c1, rfl, o1, b1⟩
    obtain ⟨E, hE, rE, bE⟩ := kbox15 w1 s (.slice a1 l.length c1)
    have HE : Hid _ := hE
    have BE : Hid (Below w.heap.size w E) := b1.trans (bE.mono b1.size)
    obtain ⟨k0, k1, _, _⟩ := cbx15 rE
    clear b1 bE rE hE o1
    go_upto_region 2 with (fail)
    rw [HE.out]
    go_wp2
    go_ret2
    exact ⟨rfl, BE.out⟩
  have w3 : IntKind.i64.wrap (s - at') = s - at' := by rw [IntKind.wrap_i64]; omega
  by_cases h3 : s - at' < n
  · have e : R = 2 := by rw [← HR.out]; exact if_pos (.inr (.inr h3))
    subst e
    go_enter Tryz.func110, Tryz.ntmps110
    go_wp2_with fail
    refine Calls.mono OB.out ?_
    rintro e w1 ⟨a1, c1, rfl, o1, b1⟩
    obtain ⟨E, hE, rE, bE⟩ := kbox15 w1 s (.slice a1 l.length c1)
    have HE : Hid _ := hE
    have BE : Hid (Below w.heap.size w E) := b1.trans (bE.mono b1.size)
    obtain ⟨k0, k1, _, _⟩ := cbx15 rE
    obtain ⟨ng, hng⟩ : ∃ ng, w1.heap.size = ng := ⟨_, rfl⟩
    rw [hng] at k0 k1
    have HNG : Hid (w1.heap.size = ng) := hng
    clear b1 bE rE hE o1 hng
    go_upto_region 2 with (fail)
    rw [HE.out]
    try rw [HNG.out]
    go_wp2
    go_ret2
    exact ⟨rfl, BE.out⟩
  obtain ⟨v, hv⟩ : ∃ v, plainK s l at' n = v := ⟨_, rfl⟩
  have e : R = if v = true then 0 else 11 := by rw [← HR.out, ← hv]; exact if_neg (by simp only; omega)
  have HV : Hid (plainK s l at' n = v) := hv
  have w4 : v = true → IntKind.i64.wrap (base + p + at') = base + p + at' := fun _ => by rw [IntKind.wrap_i64]; omega
  cases v
  · have e' : R = 11 := e
    clear e
    subst e'
    go_enter Tryz.func110, Tryz.ntmps110
    go_wp2_with fail
    refine Calls.mono OB.out ?_
    rintro e w1 ⟨a1, c1, rfl, o1, b1⟩
    obtain ⟨E, hE, rE, bE⟩ := kbox15 w1 s (.slice a1 l.length c1)
    have HE : Hid _ := hE
    have BE : Hid (Below w.heap.size w E) := b1.trans (bE.mono b1.size)
    have OE : Hid (IsI E a1 l) := (ownsI_isI AL.out o1).keep bE
    obtain ⟨k0, k1, _, _⟩ := cbx15 rE
    obtain ⟨ng, hng⟩ : ∃ ng, w1.heap.size = ng := ⟨_, rfl⟩
    rw [hng] at k0 k1
    have HNG : Hid (w1.heap.size = ng) := hng
    clear b1 bE rE hE o1 hng w4 hv
    go_upto_region 2 with (fail)
    rw [HE.out]
    try rw [HNG.out]
    go_wp2_with fail
    refine (plain_is s a1 c1 l.length l at' n false _ rfl HV.out OE.out (by unfold maxLen; omega) ha hn).mono ?_
    rintro e w3 ⟨rfl, b3⟩
    have B3 : Hid (Below w.heap.size w w3) := BE.out.trans (b3.mono BE.out.size)
    clear b3
    go_wp2
    go_ret2
    exact ⟨rfl, B3.out⟩
  · have e' : R = 0 := e
    clear e
    have w5 := w4 rfl
    have w6 : IntKind.i64.wrap (base + p) = base + p := by rw [IntKind.wrap_i64]; omega
    subst e'
    rw [if_pos rfl]
    go_enter Tryz.func110, Tryz.ntmps110
    go_wp2_with fail
    refine Calls.mono OB.out ?_
    rintro e w1 ⟨a1, c1, rfl, o1, b1⟩
    obtain ⟨E, hE, rE, bE⟩ := kbox15 w1 s (.slice a1 l.length c1)
    have HE : Hid _ := hE
    have BE : Hid (Below w.heap.size w E) := b1.trans (bE.mono b1.size)
    have OE : Hid (IsI E a1 l) := (ownsI_isI AL.out o1).keep bE
    obtain ⟨k0, k1, _, _⟩ := cbx15 rE
    obtain ⟨ng, hng⟩ : ∃ ng, w1.heap.size = ng := ⟨_, rfl⟩
    rw [hng] at k0 k1
    have HNG : Hid (w1.heap.size = ng) := hng
    clear b1 bE rE hE o1 hng w4 hv
    go_upto_region 2 with (fail)
    rw [HE.out]
    try rw [HNG.out]
    go_wp2_with fail
    refine (plain_is s a1 c1 l.length l at' n true _ rfl HV.out OE.out (by unfold maxLen; omega) ha hn).mono ?_
    rintro e w3 ⟨rfl, b3⟩
    have B3 : Hid (Below w.heap.size w w3) := BE.out.trans (b3.mono BE.out.size)
    clear b3
    go_wp2
    go_ret2
    exact ⟨rfl, B3.out⟩
end
end Go.Proofs.YtgdjlopnhecmjaaGreatDoor
