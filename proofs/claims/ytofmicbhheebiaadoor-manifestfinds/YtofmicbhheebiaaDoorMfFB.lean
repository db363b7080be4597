/- Layer 21: two manifests in slots, sorted. -/
import Derived.Test.YtofmicbhheebiaaDoorGzAI
import Derived.BigQuiet
namespace Go.Proofs.YtofmicbhheebiaaDoor
open Go.RowKit
set_option linter.unusedVariables false
set_option maxRecDepth 4000

theorem cmpI_neg {a b : Int} (h : a < b) : cmpI a b = -1 := if_pos h
theorem cmpI_ge {a b : Int} (h : ¬ a < b) : 0 ≤ cmpI a b := by unfold cmpI; rw [if_neg h]; split <;> omega
set_option maxRecDepth 20000 in
set_option maxHeartbeats 4000000 in
theorem mins_two {w : World} {B g c : Nat} {x y : Fd} (h : Ow 50 w B (some ⟨g, 0, none⟩) [x, y] c) (hB : B ≤ w.heap.size) :
    Calls Tryd.prog 72 #[.slice (some ⟨g, 0, none⟩) 2 c, .int .i64 0, .int .i64 2, .func (.func 46) #[] #[]] w fun e w' => e = .returned (.tuple #[]) ∧ Ow 50 w' B (some ⟨g, 0, none⟩) (sortF [x, y]) c ∧ Below B w w' := by
  have H : Hid (Ow 50 w B (some ⟨g, 0, none⟩) [x, y] c) := h
  have HB : Hid (B ≤ w.heap.size) := hB
  have BG : Hid (B ≤ g) := (h.ge g rfl).1
  have CM : Hid (∀ w, Calls Tryd.prog 46 #[y.v, x.v] w fun e w' => e = .returned (.int .i64 (cmpI x.m.s y.m.s)) ∧ Below w.heap.size w w') := fun w => mcmp_any y x w
  obtain ⟨a0, a1, a2, a3, b0, b1, b2, b3⟩ := h.two
  have wz : IntKind.i64.wrap (1 - 1) = 0 := by decide
  have wz0 : IntKind.i64.wrap 0 = 0 := by decide
  have wzb : (IntKind.i64.wrap (1 - 1) : Int) < 2 := by decide
  have wzc : ¬ (IntKind.i64.wrap (1 - 1) : Int) < 0 := by decide
  by_cases hlt : x.m.s < y.m.s
  · have e := cmpI_neg hlt
    rw [e] at CM
    have SF : Hid (sortF [x, y] = [y, x]) := if_pos hlt
    clear h hB e hlt
    obtain ⟨xl, ⟨xs, xf, xn⟩⟩ := x
    obtain ⟨yl, ⟨ys, yf, yn⟩⟩ := y
    unfold Fd.v Fd.cs at CM
    simp only at CM a0 a1 a2 a3 b0 b1 b2 b3
    go_enter Tryd.func72, Tryd.ntmps72
    go_wp2
    refine wp_loop_rounds 2 ?_
    rw [rounds_succ]
    go_wp2
    refine wp_loop_rounds 2 ?_
    rw [rounds_succ]
    go_upto_region 4 with (fail)
    go_region_held3 (fun w' => w'.cell? ⟨g, 0, none⟩ = some (.int .i64 xl) ∧ w'.cell? ⟨g, 1, none⟩ = some (.int .i64 xs) ∧ w'.cell? ⟨g, 2, none⟩ = some (.int .i64 xf) ∧ w'.cell? ⟨g, 3, none⟩ = some (.int .i64 xn) ∧ w'.cell? ⟨g, 4, none⟩ = some (.int .i64 yl) ∧ w'.cell? ⟨g, 5, none⟩ = some (.int .i64 ys) ∧ w'.cell? ⟨g, 6, none⟩ = some (.int .i64 yf) ∧ w'.cell? ⟨g, 7, none⟩ = some (.int .i64 yn)) (first | exact ⟨a0, a1, a2, a3, b0, b1, b2, b3⟩ | go_keep)
      ((go_at_call 46; refine Calls.mono (CM.out _) ?_; rintro e w2 ⟨rfl, b2'⟩; have B2 : Hid (Below w.heap.size w w2) := ofDrewM b2'; have H2 : Hid (Ow 50 w2 B (some ⟨g, 0, none⟩) [⟨xl, ⟨xs, xf, xn⟩⟩, ⟨yl, ⟨ys, yf, yn⟩⟩] c) := H.out.keep B2.out; clear a0 a1 a2 a3 b0 b1 b2 b3 b2'; obtain ⟨a0, a1, a2, a3, b0, b1, b2, b3⟩ := H2.out.two))
    have f0 := H2.out.twoF 0
    have f1 := H2.out.twoF 1
    have f2 := H2.out.twoF 2
    have f3 := H2.out.twoF 3
    have f4 := H2.out.twoF 4
    have f5 := H2.out.twoF 5
    have f6 := H2.out.twoF 6
    have f7 := H2.out.twoF 7
    have H3 : Hid _ := H2.out.swap
    go_upto_region 6 with (fail)
    go_region
    obtain ⟨W3, hW3⟩ : ∃ W, layWF (layWF w2 g 4 ⟨xl, ⟨xs, xf, xn⟩⟩) g 0 ⟨yl, ⟨ys, yf, yn⟩⟩ = W := ⟨_, rfl⟩
    have O3 : Hid (Ow 50 W3 B (some ⟨g, 0, none⟩) [⟨yl, ⟨ys, yf, yn⟩⟩, ⟨xl, ⟨xs, xf, xn⟩⟩] c) := by show Ow _ _ _ _ _ _; rw [← hW3]; exact H3.out
    have B3 : Hid (Below B w W3) := by
      show Below _ _ _
      rw [← hW3]
      exact ((B2.out.mono HB.out).trans ((layWF_only _ _ _ _).below BG.out)).trans ((layWF_only _ _ _ _).below BG.out)
    unfold layWF at hW3
    simp only [Nat.zero_add, Nat.reduceAdd] at hW3
    rw [hW3]
    clear H3 f0 f1 f2 f3 f4 f5 f6 f7 a0 a1 a2 a3 b0 b1 b2 b3 hW3 wz
    go_wp2
    rw [rounds_succ]
    go_upto_region 4 with (fail)
    go_quiet (fail)
    go_wp2
    rw [rounds_succ]
    go_wp2
    go_end0
    exact ⟨rfl, by rw [SF.out]; exact O3.out, ⟨B3.out.os, B3.out.tape, B3.out.output, B3.out.size, B3.out.block⟩⟩
  · have e := cmpI_ge hlt
    obtain ⟨cv, hcv⟩ : ∃ v, cmpI x.m.s y.m.s = v := ⟨_, rfl⟩
    rw [hcv] at CM e
    have cn : ¬ cv < 0 := by omega
    have SF : Hid (sortF [x, y] = [x, y]) := if_neg hlt
    clear h hB e hlt hcv
    obtain ⟨xl, ⟨xs, xf, xn⟩⟩ := x
    obtain ⟨yl, ⟨ys, yf, yn⟩⟩ := y
    unfold Fd.v Fd.cs at CM
    simp only at CM a0 a1 a2 a3 b0 b1 b2 b3
    go_enter Tryd.func72, Tryd.ntmps72
    go_wp2
    refine wp_loop_rounds 2 ?_
    rw [rounds_succ]
    go_wp2
    refine wp_loop_rounds 2 ?_
    rw [rounds_succ]
    go_upto_region 4 with (fail)
    go_region_held3 (fun w' => w'.cell? ⟨g, 0, none⟩ = some (.int .i64 xl) ∧ w'.cell? ⟨g, 1, none⟩ = some (.int .i64 xs) ∧ w'.cell? ⟨g, 2, none⟩ = some (.int .i64 xf) ∧ w'.cell? ⟨g, 3, none⟩ = some (.int .i64 xn) ∧ w'.cell? ⟨g, 4, none⟩ = some (.int .i64 yl) ∧ w'.cell? ⟨g, 5, none⟩ = some (.int .i64 ys) ∧ w'.cell? ⟨g, 6, none⟩ = some (.int .i64 yf) ∧ w'.cell? ⟨g, 7, none⟩ = some (.int .i64 yn)) (first | exact ⟨a0, a1, a2, a3, b0, b1, b2, b3⟩ | go_keep)
      ((go_at_call 46; refine Calls.mono (CM.out _) ?_; rintro e w2 ⟨rfl, b2'⟩; have B2 : Hid (Below w.heap.size w w2) := ofDrewM b2'; have H2 : Hid (Ow 50 w2 B (some ⟨g, 0, none⟩) [⟨xl, ⟨xs, xf, xn⟩⟩, ⟨yl, ⟨ys, yf, yn⟩⟩] c) := H.out.keep B2.out; clear a0 a1 a2 a3 b0 b1 b2 b3 b2'; obtain ⟨a0, a1, a2, a3, b0, b1, b2, b3⟩ := H2.out.two))
    clear a0 a1 a2 a3 b0 b1 b2 b3 wz wz0 wzb wzc
    go_wp2
    rw [rounds_succ]
    go_wp2
    go_end0
    exact ⟨rfl, by rw [SF.out]; exact H2.out, B2.out.mono HB.out⟩
/-- At most two manifests in slots, sorted. -/
theorem msort_any {w : World} {B : Nat} {a : Option Addr} {L : List Fd} {c : Nat} (h : Ow 50 w B a L c) (hB : B ≤ w.heap.size) (hL : L.length ≤ 2) :
    Calls Tryd.prog 45 #[.slice a L.length c, .func (.func 46) #[] #[]] w fun e w' => e = .returned (.tuple #[]) ∧ Ow 50 w' B a (sortF L) c ∧ Below B w w' := by
  match L, hL with
  | [], _ => exact (mstable_few a c 0 (by decide) w).mono fun e w' ⟨h1, h2⟩ => by subst h2; exact ⟨h1, h, Below.refl _ _⟩
  | [x], _ => exact (mstable_few a c 1 (by decide) w).mono fun e w' ⟨h1, h2⟩ => by subst h2; exact ⟨h1, h, Below.refl _ _⟩
  | [x, y], _ =>
    obtain ⟨g, rfl, _⟩ := h.cells 0 (by simp)
    have IN : Hid (Calls Tryd.prog 72 #[.slice (some ⟨g, 0, none⟩) 2 c, .int .i64 0, .int .i64 2, .func (.func 46) #[] #[]] w fun e w' => e = .returned (.tuple #[]) ∧ Ow 50 w' B (some ⟨g, 0, none⟩) (sortF [x, y]) c ∧ Below B w w') := mins_two h hB
    obtain ⟨S, hS⟩ : ∃ S, sortF [x, y] = S := ⟨_, rfl⟩
    rw [hS] at IN ⊢
    have ST : Hid (Calls Tryd.prog 64 #[.slice (some ⟨g, 0, none⟩) 2 c, .int .i64 2, .func (.func 46) #[] #[]] w fun e w' => e = .returned (.tuple #[]) ∧ Ow 50 w' B (some ⟨g, 0, none⟩) S c ∧ Below B w w') := by
      clear h hB hS
      go_enter Tryd.func64, Tryd.ntmps64
      go_wp2
      refine wp_loop_rounds 1 ?_
      rw [rounds_succ]
      go_wp2_with (go_at_call 72; refine Calls.mono IN.out ?_; rintro e w2 ⟨rfl, o2, b2⟩; have O2 : Hid (Ow 50 w2 B (some ⟨g, 0, none⟩) S c) := o2; have B2 : Hid (Below B w w2) := b2; clear o2 b2)
      refine wp_loop_rounds 1 ?_
      rw [rounds_succ]
      go_wp2
      go_end0
      exact ⟨rfl, O2.out, B2.out⟩
    show Calls Tryd.prog 45 #[.slice (some ⟨g, 0, none⟩) 2 c, .func (.func 46) #[] #[]] w _
    clear h hB IN hS
    go_enter Tryd.func45, Tryd.ntmps45
    go_wp2_with (go_at_call 64; refine Calls.mono ST.out ?_; rintro e w2 ⟨rfl, o2, b2⟩; have O2 : Hid (Ow 50 w2 B (some ⟨g, 0, none⟩) S c) := o2; have B2 : Hid (Below B w w2) := b2; clear o2 b2)
    go_end0
    exact ⟨rfl, O2.out, B2.out⟩
theorem sortF_len (L : List Fd) : (sortF L).length = L.length := by
  unfold sortF
  split
  · split <;> rfl
  · rfl
end Go.Proofs.YtofmicbhheebiaaDoor
