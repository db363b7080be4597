/- What worked, New and filled answer. -/
import Derived.Test.YtofmicbhheebiaaDoorDkB
namespace Go.Proofs.YtofmicbhheebiaaDoor
open Go.RowKit Go.Maps
set_option linter.unusedVariables false
set_option maxRecDepth 4000

theorem wrap_i64 {x : Int} (h : -9223372036854775808 ≤ x ∧ x ≤ 9223372036854775807) : IntKind.i64.wrap x = x := by rw [IntKind.wrap_i64]; omega

set_option maxHeartbeats 1000000 in
theorem worked_any (base b m : Nat) (d : Dk) (w : World) (h : IsD w base b m d) (hd : d.down = false) (ho : d.ops ≤ 1000000000) :
    Calls Tryd.prog 24 #[.pointer (some ⟨b, 0, none⟩)] w fun e w' => e = .returned (.int .i64 (workE d)) ∧ IsD w' base b m (workD d) ∧ Turn base KC w w' := by
  have H : Hid (IsD w base b m d) := h
  have hok := workD_ok h.ok
  obtain ⟨hge, cs, hbx⟩ := h.ge
  have hl := h.ok.left
  obtain ⟨bs, bn, ap, cp, ns, nn, f, g, h, _⟩ := h
  have h4 : w.cell? ⟨b, 4, none⟩ = some (.int .i64 d.left) := h.cell 4
  have h5 : w.cell? ⟨b, 5, none⟩ = some (.bool d.down) := h.cell 5
  have h6 : w.cell? ⟨b, 6, none⟩ = some (.int .i64 (d.ops : Nat)) := h.cell 6
  have z4 := h.thawed 4
  have z5 := h.thawed 5
  have z6 := h.thawed 6
  have B0 := h.box
  rw [hd] at h5
  have B : Hid (w.heap[b]? = some (.cells (boxC bs bn ap cp d) 66 (0, 0))) := B0
  have G : Hid (base ≤ b) := hge
  clear h hbx B0 hge
  obtain ⟨L, hL⟩ : ∃ L, d.left = L := ⟨_, rfl⟩
  have EL : Hid (d.left = L) := hL
  rw [hL] at h4 hl
  have HD : Hid (d.down = false) := hd
  have HK : Hid (DkOk (workD d)) := hok
  clear hL hd hok
  rcases Int.lt_or_le 0 L with hp | hp
  · rcases Int.lt_or_eq_of_le (show (1 : Int) ≤ L by omega) with h1 | rfl
    · -- further on
      have R : Hid (IsD (((w.setCell ⟨b, 4, none⟩ (.int .i64 (L - 1))).setCell ⟨b, 5, none⟩ (.bool false)).setCell ⟨b, 6, none⟩ (.int .i64 ((d.ops : Int) + 1))) base b m (workD d)) := by
        refine H.out.field (workD_pend d) (workD_n d) (workD_sure d) HK.out (fun bs bn ap cp hb => ?_) (fun i hi => by rw [set_else _ _ _ _ i hi, set_else _ _ _ _ i hi, set_else _ _ _ _ i hi])
        refine set_same _ _ _ _ _ _ _ (set_same _ _ _ _ _ _ _ (set_same _ _ _ _ _ _ _ hb rfl) rfl) ?_
        rw [workD, EL.out, if_neg (by omega), if_pos h1]
        simp [boxC, HD.out]
      have E : Hid (workE d = 0) := by show workE d = 0; rw [workE, EL.out, if_neg (by omega)]
      have T : Hid (Turn base KC w (((w.setCell ⟨b, 4, none⟩ (.int .i64 (L - 1))).setCell ⟨b, 5, none⟩ (.bool false)).setCell ⟨b, 6, none⟩ (.int .i64 ((d.ops : Int) + 1)))) := by
        have b1 := set_same w b 4 (.int .i64 (L - 1)) _ _ _ B.out rfl
        have b2 := set_same _ b 5 (.bool false) _ _ _ b1 rfl
        exact ((Turn.set B.out rfl G.out).trans (Turn.set b1 rfl G.out)).trans (Turn.set b2 rfl G.out)
      have w1 := wrap_i64 (x := L - 1) (by omega)
      have w2 := wrap_i64 (x := (d.ops : Int) + 1) (by omega)
      have ne : ¬ L - 1 = 0 := by omega
      go_enter Tryd.func24, Tryd.ntmps24
      go_wp2
      go_ret
      exact ⟨ret_int E.out.symm, R.out, T.out⟩
    · have R : Hid (IsD ((w.setCell ⟨b, 4, none⟩ (.int .i64 0)).setCell ⟨b, 5, none⟩ (.bool true)) base b m (workD d)) := by
        refine H.out.field (workD_pend d) (workD_n d) (workD_sure d) HK.out (fun bs bn ap cp hb => ?_) (fun i hi => by rw [set_else _ _ _ _ i hi, set_else _ _ _ _ i hi])
        refine set_same _ _ _ _ _ _ _ (set_same _ _ _ _ _ _ _ hb rfl) ?_
        rw [workD, EL.out, if_pos rfl]
        simp [boxC]
      have E : Hid (workE d = 14) := by show workE d = 14; rw [workE, EL.out, if_pos rfl]
      have T : Hid (Turn base KC w ((w.setCell ⟨b, 4, none⟩ (.int .i64 0)).setCell ⟨b, 5, none⟩ (.bool true))) := by
        have b1 := set_same w b 4 (.int .i64 0) _ _ _ B.out rfl
        exact (Turn.set B.out rfl G.out).trans (Turn.set b1 rfl G.out)
      go_enter Tryd.func24, Tryd.ntmps24
      go_wp2
      go_ret
      exact ⟨ret_int E.out.symm, R.out, T.out⟩
  · have R : Hid (IsD (w.setCell ⟨b, 6, none⟩ (.int .i64 ((d.ops : Int) + 1))) base b m (workD d)) := by
      refine H.out.field (workD_pend d) (workD_n d) (workD_sure d) HK.out (fun bs bn ap cp hb => ?_) (fun i hi => by rw [set_else _ _ _ _ i hi])
      refine set_same _ _ _ _ _ _ _ hb ?_
      rw [workD, EL.out, if_neg (by omega), if_neg (by omega)]
      simp [boxC, EL.out]
    have E : Hid (workE d = 0) := by show workE d = 0; rw [workE, EL.out, if_neg (by omega)]
    have T : Hid (Turn base KC w (w.setCell ⟨b, 6, none⟩ (.int .i64 ((d.ops : Int) + 1)))) := Turn.set B.out rfl G.out
    have w2 := wrap_i64 (x := (d.ops : Int) + 1) (by omega)
    go_enter Tryd.func24, Tryd.ntmps24
    go_wp2
    go_ret
    exact ⟨ret_int E.out.symm, R.out, T.out⟩

/-- What New lays into memory. -/
def newW (w : World) (n : Nat) : World := ((w.alloc (.map #[] 0)).alloc (.map #[] 0)).alloc (.cells (boxC w.heap.size (w.heap.size + 1) none 0 (newD n)) 66)

theorem old_alloc {w : World} {i : Nat} {o o' : Obj} (h : w.heap[i]? = some o) : (w.alloc o').heap[i]? = some o := by
  rw [Go.heap_alloc_old _ _ (Array.getElem?_eq_some_iff.1 h).1]; exact h

theorem newW_is (w : World) (base n : Nat) (hb : base ≤ w.heap.size) (hn : n ≤ 65536) : IsD (newW w n) base (w.heap.size + 2) 0 (newD n) := by
  refine ⟨w.heap.size, w.heap.size + 1, none, 0, 0, 0, fun _ => none, fun _ => none, ⟨?_, ?_, ?_, rowW_nil _ _, by omega, ⟨by omega, hb, by omega⟩, fun i hi => rfl, fun i l h => (by cases h), newest_none⟩, Nat.le_refl _, Nat.le_refl _, newD_ok hn⟩
  · have := Go.heap_alloc_new ((w.alloc (.map #[] 0)).alloc (.map #[] 0)) (.cells (boxC w.heap.size (w.heap.size + 1) none 0 (newD n)) 66)
    simpa [newW] using this
  · have h1 := MapS.made w
    refine (h1.same (w' := (w.alloc (.map #[] 0)).alloc (.map #[] 0)) (fun o ho _ => old_alloc ho)).same (fun o ho _ => old_alloc ho)
  · have h1 := MapI.made (w.alloc (.map #[] 0))
    have e : (w.alloc (.map #[] 0)).heap.size = w.heap.size + 1 := by simp
    rw [e] at h1
    exact h1.same (fun o ho _ => old_alloc ho)
theorem newW_below (w : World) (n : Nat) : Below w.heap.size w (newW w n) :=
  (((Below.refl _ w).alloc (Nat.le_refl _) _).alloc (by simp) _).alloc (by simp; omega) _

theorem new_fit (n : Nat) (w : World) (h0 : 8 ≤ n) (h1 : n ≤ 65536) :
    Calls Tryd.prog 5 #[.int .i64 (n : Nat)] w fun e w' => e = .returned (.tuple #[.pointer (some ⟨w.heap.size + 2, 0, none⟩), .int .i64 0]) ∧ newW w n = w' := by
  have hmm := @run_makeMap Tryd.prog
  go_enter Tryd.func5, Tryd.ntmps5
  go_wp2
  go_ret2
  exact ⟨rfl, rfl⟩

end Go.Proofs.YtofmicbhheebiaaDoor
