/- The walk of RelocBack. -/
import Derived.Test.YthlnljabbnhfkaaRoJ
namespace Go.Proofs.Ythlnljabbnhfkaa
open Go.RowKit
set_option linter.unusedVariables false

theorem good256 (x : Int) (h0 : 0 ≤ x) (h1 : x ≤ 4294967295) : goodR (256 + 256 * x) := by unfold goodR; omega
theorem apply_two {b l : List Int} {p q u : Int} (hb : AllB b) (hp : goodR p) (hq : goodR q) (hu : goodR u) (h : applyE b l p q 1048576 = 0) :
    applyE (applyB b l p q 1048576) l q u 1048576 = 0 ∧ applyB (applyB b l p q 1048576) l q u 1048576 = applyB b l p u 1048576 ∧ applyE b l p u 1048576 = 0 := by
  obtain ⟨ha, hr, hn, e⟩ := apply_zero h
  obtain ⟨r1, r2, r3⟩ := goT_two hb hr ha hu hn
  have A1 := apply_ok (t := u) ⟨hp, hu, ha.2.2⟩ hr hn
  have A2 := apply_ok (t := u) ⟨hq, hu, ha.2.2⟩ r1 r2
  rw [e]
  exact ⟨A2.2, by rw [A2.1, A1.1, r3], A1.2⟩
theorem apply_same {b l : List Int} {p q : Int} (hb : AllB b) (hp : goodR p) (h : applyE b l p q 1048576 = 0) : applyB b l p p 1048576 = b := by
  obtain ⟨ha, hr, hn, e⟩ := apply_zero h
  rw [(apply_ok (t := p) ⟨hp, hp, ha.2.2⟩ hr hn).1]
  exact goT_same hb hr hp ha.2.2 hn
theorem apply_len {b l : List Int} {fr t n : Int} (h : applyE b l fr t n = 0) : (applyB b l fr t n).length = b.length := by
  obtain ⟨ha, hr, hn, e⟩ := apply_zero h
  rw [e]; exact goT_len l b (right_in hr).1
theorem apply_all {b l : List Int} {fr t n : Int} (hb : AllB b) : AllB (applyB b l fr t n) := by
  unfold applyB
  split
  · exact goT_all l b hb
  · exact AllB.nil

theorem box3 (w : World) (x y z : Int) : (w.alloc (.cells #[.int .u32 x, .int .u32 y, .int .u32 z] 51)).cell? ⟨w.heap.size, 0, none⟩ = some (.int .u32 x) ∧ (w.alloc (.cells #[.int .u32 x, .int .u32 y, .int .u32 z] 51)).cell? ⟨w.heap.size, 1, none⟩ = some (.int .u32 y) ∧ (w.alloc (.cells #[.int .u32 x, .int .u32 y, .int .u32 z] 51)).cell? ⟨w.heap.size, 2, none⟩ = some (.int .u32 z) := by
  have h := Go.heap_alloc_new w (.cells #[.int .u32 x, .int .u32 y, .int .u32 z] 51)
  exact ⟨cell_of_row _ _ 0 _ _ _ h, cell_of_row _ _ 1 _ _ _ h, cell_of_row _ _ 2 _ _ _ h⟩

set_option maxRecDepth 20000 in
set_option maxHeartbeats 8000000 in
theorem relocBack_any (a al : Option Addr) (c cl : Nat) (b l : List Int) (x y z : Int) (w : World) (hB : IsB w a b) (hc : b.length ≤ c) (hbl : b.length ≤ 140737488355328) (hI : IsI w al l) (hm : l.length ≤ maxLen) (hx : 0 ≤ x ∧ x ≤ 4294967295) (hy : 0 ≤ y ∧ y ≤ 4294967295) (hz : 0 ≤ z ∧ z ≤ 4294967295) :
    Calls Try.prog 6 #[.slice a b.length c, .slice al l.length cl, .agg #[.int .u32 x, .int .u32 y, .int .u32 z]] w fun e w' => e = .returned (.bool true) ∧ Below w.heap.size w w' := by
  obtain ⟨D, hD⟩ : ∃ D, w.alloc (.cells #[.int .u32 x, .int .u32 y, .int .u32 z] 51) = D := ⟨_, rfl⟩
  obtain ⟨q0, q1, q2⟩ := box3 w x y z
  rw [hD] at q0 q1 q2
  have B0 : Hid (Below w.heap.size w D) := by show Below _ _ _; rw [← hD]; exact (Below.refl _ w).alloc (Nat.le_refl _) _
  have HI : Hid (IsI w al l) := hI
  have HB : Hid (IsB w a b) := hB
  have HM : Hid (l.length ≤ maxLen) := hm
  unfold maxLen at hm
  have GP : Hid (goodR (256 + 256 * x)) := good256 x hx.1 hx.2
  have GQ : Hid (goodR (256 + 256 * y)) := good256 y hy.1 hy.2
  have GS : Hid (goodR (256 + 256 * z)) := good256 z hz.1 hz.2
  by_cases hbig : 9000 < l.length
  · clear hI hB hx hy hz
    go_enter Try.func6, Try.ntmps6
    go_wp2_with (go_at_call 9; refine (alive_any _).mono ?_; rintro e w1 ⟨rfl, b1⟩)
    go_ret
    exact ⟨rfl, B0.out.trans (b1.mono B0.out.size)⟩
  have hbig' : l.length ≤ 9000 := by omega
  obtain ⟨x0, x1⟩ := hx
  obtain ⟨y0, y1⟩ := hy
  obtain ⟨z0, z1⟩ := hz
  clear hI hB hbig
  go_enter Try.func6, Try.ntmps6
  go_wp2_with fail
  refine (alive_any _).mono ?_
  rintro e w1 ⟨rfl, b1⟩
  have B1 : Hid (Below w.heap.size w w1) := B0.out.trans (b1.mono B0.out.size)
  have r0 := bcellK b1 q0
  have r1 := bcellK b1 q1
  have r2 := bcellK b1 q2
  clear b1 q0 q1 q2
  have p1 : IntKind.i64.wrap x = x := by rw [IntKind.wrap_i64]; omega
  have p2 : IntKind.i64.wrap y = y := by rw [IntKind.wrap_i64]; omega
  have p3 : IntKind.i64.wrap z = z := by rw [IntKind.wrap_i64]; omega
  have p4 : IntKind.i64.wrap (256 * x) = 256 * x := by rw [IntKind.wrap_i64]; omega
  have p5 : IntKind.i64.wrap (256 * y) = 256 * y := by rw [IntKind.wrap_i64]; omega
  have p6 : IntKind.i64.wrap (256 * z) = 256 * z := by rw [IntKind.wrap_i64]; omega
  have p7 : IntKind.i64.wrap (256 + 256 * x) = 256 + 256 * x := by rw [IntKind.wrap_i64]; omega
  have p8 : IntKind.i64.wrap (256 + 256 * y) = 256 + 256 * y := by rw [IntKind.wrap_i64]; omega
  have p9 : IntKind.i64.wrap (256 + 256 * z) = 256 + 256 * z := by rw [IntKind.wrap_i64]; omega
  have hmz : ∀ n, Below w.heap.size w1 (w1.drewN n) := fun n => Below.ofDrewN (Below.refl w.heap.size (w1.drewN n))
  have HMZ : Hid (∀ n, Below w.heap.size w1 (w1.drewN n)) := hmz
  clear hmz
  go_wp2_with fail
  go_quiet (fail)
  obtain ⟨w2, hw2⟩ : ∃ w2, w1.drewN nq = w2 := ⟨_, rfl⟩
  have B2 : Hid (Below w.heap.size w w2) := by show Below _ _ _; rw [← hw2]; exact B1.out.trans (HMZ.out nq)
  rw [hw2]
  clear hw2 r0 r1 r2 p1 p2 p3 p4 p5 p6 p7 p8 p9
  obtain ⟨P, hP⟩ : ∃ P, 256 + 256 * x = P := ⟨_, rfl⟩
  obtain ⟨Q, hQ⟩ : ∃ Q, 256 + 256 * y = Q := ⟨_, rfl⟩
  obtain ⟨S, hS⟩ : ∃ S, 256 + 256 * z = S := ⟨_, rfl⟩
  rw [hP] at GP
  rw [hQ] at GQ
  rw [hS] at GS
  rw [hP, hQ, hS]
  clear hP hQ hS x0 x1 y0 y1 z0 z1
  obtain ⟨er, her⟩ : ∃ er, applyE b l P Q 1048576 = er := ⟨_, rfl⟩
  have HER : Hid (applyE b l P Q 1048576 = er) := her
  obtain ⟨C, hC⟩ : ∃ C, applyB b l P Q 1048576 = C := ⟨_, rfl⟩
  have HC : Hid (applyB b l P Q 1048576 = C) := hC
  clear her hC
  go_wp2_with fail
  refine (oapply_any a al c cl b l P Q 1048576 _ (HB.out.keep B2.out) hc (HI.out.keep B2.out) HM.out hbl).mono ?_
  rw [HER.out, HC.out]
  rintro e w3 ⟨a3, c3, rfl, n3, l3, m3, k3, b3⟩
  have N3 : Hid (IsB w3 a3 C) := n3.isB
  have B3 : Hid (Below w.heap.size w w3) := B2.out.trans (b3.mono B2.out.size)
  clear n3 m3 k3 b3
  by_cases h0 : er = 0
  · subst h0
    obtain ⟨f1, f2, f3⟩ := apply_two HB.out.1 GP.out GQ.out GP.out HER.out
    obtain ⟨g1, g2, g3⟩ := apply_two HB.out.1 GP.out GQ.out GS.out HER.out
    have e1 := apply_same HB.out.1 GP.out HER.out
    rw [HC.out] at f1 f2 g1 g2
    rw [e1] at f2
    have hCl : C.length = b.length := by rw [← HC.out]; exact apply_len HER.out
    have hCl' : C.length ≤ 140737488355328 := by omega
    obtain ⟨G, hG⟩ : ∃ G, applyB b l P S 1048576 = G := ⟨_, rfl⟩
    rw [hG] at g2
    have F1 : Hid (applyE C l Q P 1048576 = 0) := f1
    have F2 : Hid (applyB C l Q P 1048576 = b) := f2
    have G1 : Hid (applyE C l Q S 1048576 = 0) := g1
    have G2 : Hid (applyB C l Q S 1048576 = G) := g2
    have G3 : Hid (applyE b l P S 1048576 = 0) := g3
    have G4 : Hid (applyB b l P S 1048576 = G) := hG
    clear f1 f2 f3 g1 g2 g3 hG e1 hCl
    go_wp2_with fail
    refine (oapply_any a3 al c3 cl C l Q P 1048576 _ N3.out l3 (HI.out.keep B3.out) HM.out hCl').mono ?_
    rw [F1.out, F2.out]
    rintro e w4 ⟨a4, c4, rfl, n4, l4, m4, k4, b4⟩
    have N4 : Hid (IsB w4 a4 b) := n4.isB
    have M4 : Hid (IsB w4 a3 C) := N3.out.keep b4
    have B4 : Hid (Below w.heap.size w w4) := B3.out.trans (b4.mono B3.out.size)
    clear n4 l4 m4 k4 b4
    go_wp2_with fail
    refine (oapply_any a3 al c3 cl C l Q S 1048576 _ M4.out l3 (HI.out.keep B4.out) HM.out hCl').mono ?_
    rw [G1.out, G2.out]
    rintro e w5 ⟨a5, c5, rfl, n5, l5, m5, k5, b5⟩
    have N5 : Hid (IsB w5 a5 G) := n5.isB
    have M5 : Hid (IsB w5 a4 b) := N4.out.keep b5
    have B5 : Hid (Below w.heap.size w w5) := B4.out.trans (b5.mono B4.out.size)
    clear n5 l5 m5 k5 b5
    go_wp2_with fail
    refine (oapply_any a al c cl b l P S 1048576 _ (HB.out.keep B5.out) hc (HI.out.keep B5.out) HM.out hbl).mono ?_
    rw [G3.out, G4.out]
    rintro e w6 ⟨a6, c6, rfl, n6, l6, m6, k6, b6⟩
    have N6 : Hid (IsB w6 a6 G) := n6.isB
    have L6 : Hid (IsB w6 a5 G) := N5.out.keep b6
    have M6 : Hid (IsB w6 a4 b) := M5.out.keep b6
    have B6 : Hid (Below w.heap.size w w6) := B5.out.trans (b6.mono B5.out.size)
    clear n6 l6 m6 k6 b6
    go_wp2_with fail
    refine (same_true a4 a _ _ c4 c b _ M6.out (HB.out.keep B6.out) rfl rfl).mono ?_
    rintro e w6' ⟨rfl, rfl⟩
    go_wp2_with fail
    refine (same_true a5 a6 _ _ c5 c6 G _ L6.out N6.out rfl rfl).mono ?_
    rintro e w6' ⟨rfl, rfl⟩
    go_wp2
    go_ret
    exact ⟨rfl, B6.out⟩
  · have hq : (er != 0) = true := by rw [bne_iff_ne]; exact h0
    obtain rfl : C = [] := by rw [← HC.out]; exact apply_nil (by rw [HER.out]; exact h0)
    go_wp2
    go_ret
    exact ⟨rfl, B3.out⟩
end Go.Proofs.Ythlnljabbnhfkaa
