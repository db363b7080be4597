/- Layer 17: Size and Right of the document. -/
import Derived.Test.YtbfamjnnlcopiaaDoorIgB
import Derived.Test.YtbfamjnnlcopiaaDoorMhA
import Derived.Test.YtbfamjnnlcopiaaDoorGtH
namespace Go.Proofs.YtbfamjnnlcopiaaDoor
open Go.RowKit
set_option linter.unusedVariables false
set_option maxRecDepth 4000

theorem dof_no (p c s : Int) (a : Option Addr) (n k : Nat) (l : List Int) (w : World) (hn : n = l.length) (hI : IsI w a l) (hm : l.length ≤ maxLen) (h : spOk p c s l = false) :
    Calls Tryd.prog 45 #[.agg #[.int .i64 p, .int .i64 c, .int .i64 s, .slice a n k]] w fun e w' => ∃ x, x ≠ 0 ∧ e = .returned (.tuple #[.pointer none, .int .i64 x]) ∧ Below w.heap.size w w' := by
  subst hn
  by_cases hx : newE p c s = 0
  · have hl : okL (slN c) (-1) l = false := by
      cases q : okL (slN c) (-1) l
      · rfl
      · rw [spOk_iff.2 ⟨hx, q⟩] at h; cases h
    refine (rof_any p c s a k l (slN c) false w hI hm hx rfl hl).mono ?_
    rintro e w' ⟨b, ⟨_, q⟩ | ⟨q, _⟩⟩
    · exact ⟨4, by decide, q, b⟩
    · cases q
  · exact (rof_bad p c s a l.length k _ w rfl hx).mono fun e w' q => ⟨_, hx, q.1, q.2⟩
theorem dof_yes (p c s : Int) (a : Option Addr) (n k : Nat) (l : List Int) (w : World) (hn : n = l.length) (hI : IsI w a l) (hm : l.length ≤ maxLen) (h : spOk p c s l = true) :
    Calls Tryd.prog 45 #[.agg #[.int .i64 p, .int .i64 c, .int .i64 s, .slice a n k]] w fun e w' => ∃ mb mg, e = .returned (.tuple #[.pointer (some ⟨mb, 0, none⟩), .int .i64 0]) ∧ Ref w' mb mg p c s (slN c) (fOf l) ∧ Below w.heap.size w w' := by
  subst hn
  obtain ⟨h1, h2⟩ := spOk_iff.1 h
  refine (rof_any p c s a k l (slN c) true w hI hm h1 rfl h2).mono ?_
  rintro e w' ⟨b, ⟨q, _⟩ | ⟨_, mb, mg, q, r, _, _⟩⟩
  · cases q
  · exact ⟨mb, mg, q, r, b⟩
theorem dspsize (mb mg : Nat) (p c s : Int) (n : Nat) (f : Nat → Bool) (z : Int) (w : World) (h : Ref w mb mg p c s n f) (hz : szI c s = z) :
    Calls Tryd.prog 70 #[.pointer (some ⟨mb, 0, none⟩)] w fun e w' => e = .returned (.int .i64 z) ∧ w = w' := by
  have c1 := h.c1
  have c2 := h.c2
  clear h
  by_cases h7 : c = 7
  · subst h7
    obtain rfl : s = z := hz
    go_enter Tryd.func70, Tryd.ntmps70
    go_wp2
    go_ret
    exact ⟨rfl, rfl⟩
  · have HZ : Hid (sizeI c = z) := by show _ = _; rw [← hz, szI, if_neg h7]
    have h7' : (c == 7) = false := beq_eq_false_iff_ne.2 h7
    clear hz h7
    go_enter Tryd.func70, Tryd.ntmps70
    go_wp2_with (go_at_call 87; refine (qsize_any c _).mono ?_; rw [HZ.out]; rintro e w' ⟨rfl, rfl⟩)
    go_ret
    exact ⟨rfl, rfl⟩

set_option maxRecDepth 20000 in
set_option maxHeartbeats 2000000 in
/-- The document's Size. -/
theorem dsize_any (p c s : Int) (a : Option Addr) (n k : Nat) (l : List Int) (z : Int) (w : World) (hn : n = l.length) (hz : sizeG p c s l = z) (hI : IsI w a l) (hm : l.length ≤ maxLen) :
    Calls Tryd.prog 46 #[.agg #[.int .i64 p, .int .i64 c, .int .i64 s, .slice a n k]] w fun e w' => e = .returned (.int .i64 z) ∧ Below w.heap.size w w' := by
  obtain ⟨D, hD, zD, rD, bD⟩ := dbox w p c s a n k
  have HD : Hid (w.alloc (.cells #[.int .i64 p, .int .i64 c, .int .i64 s, .slice a n k] 24) = D) := hD
  have BD : Hid (Below w.heap.size w D) := bD
  have ID : Hid (IsI D a l) := hI.keep bD
  have RD : Hid (D.heap[w.heap.size]? = some (.cells (dcells p c s a n k) 24 (0, 0))) := rD
  have c0 := dcell0 rD
  have c1 := dcell1 rD
  have c2 := dcell2 rD
  have c3 := dcell3 rD
  have HN : Hid (n = l.length) := hn
  have HM : Hid (l.length ≤ maxLen) := hm
  clear hD zD rD bD hI hm
  cases h : spOk p c s l
  · have HZ : Hid (z = 0) := by show z = 0; rw [← hz, sizeG, if_neg (by rw [h]; decide)]
    have H : Hid (spOk p c s l = false) := h
    clear h hz hn
    go_enter Tryd.func46, Tryd.ntmps46
    go_upto_region 1 with (fail)
    rw [HD.out]
    go_wp2_with (go_at_call 45; refine (dof_no p c s a n k l D HN.out ID.out HM.out H.out).mono ?_; rintro e w1 ⟨x, hx, rfl, b1⟩; have hne : (x != 0) = true := bne_iff_ne.2 hx; have B1 : Hid (Below w.heap.size w w1) := BD.out.trans (b1.mono BD.out.size); clear b1 hx)
    go_ret
    exact ⟨ret_int HZ.out.symm, B1.out⟩
  · have e1 := size_bd h
    obtain ⟨k1, k2⟩ := spOk_iff.1 h
    have RT : Hid (Rt p c s) := newE_rt k1
    obtain ⟨Z, hZ⟩ : ∃ Z, szI c s = Z := ⟨_, rfl⟩
    have HZ : Hid (szI c s = Z) := hZ
    obtain ⟨f1, f2, f3, f4, f5, _⟩ := RT.out.facts
    have hl := live_le k2
    rw [hz, hZ, ← hn] at e1
    have z1 : Z ≤ 4096 := by omega
    have z0 : 1 ≤ Z := by omega
    have l1 : n ≤ 16 := by omega
    have HE : Hid ((n : Int) * Z = z) := e1.1.symm
    have y0 : 0 ≤ z := e1.2.1
    have y1 : z ≤ 4096 := e1.2.2
    have H : Hid (spOk p c s l = true) := h
    have wr : IntKind.i64.wrap ((n : Int) * Z) = z := by rw [e1.1.symm, IntKind.wrap_i64]; omega
    clear h hz e1 k1 k2 f1 f2 f3 f4 f5 hZ hl hn
    go_enter Tryd.func46, Tryd.ntmps46
    go_upto_region 1 with (fail)
    rw [HD.out]
    go_wp2_with (go_at_call 45; refine (dof_yes p c s a n k l D HN.out ID.out HM.out H.out).mono ?_; rintro e w1 ⟨mb, mg, rfl, r1, b1⟩; have R1 : Hid (Ref w1 mb mg p c s (slN c) (fOf l)) := r1; have B1 : Hid (Below w.heap.size w w1) := BD.out.trans (b1.mono BD.out.size); have d3 := bcell b1 (dcell3 RD.out); clear r1 b1)
    go_region_held3 (fun w' => w'.cell? ⟨w.heap.size, 3, none⟩ = some (.slice a n k)) (exact d3)
      ((go_at_call 70; refine (dspsize mb mg p c s (slN c) (fOf l) Z _ R1.out.drew HZ.out).mono ?_; rintro e w2 ⟨rfl, rfl⟩))
    go_wp2
    go_ret
    exact ⟨ret_int (by first | rfl | exact wr | exact HE.out), Below.toDrew B1.out⟩
end Go.Proofs.YtbfamjnnlcopiaaDoor
