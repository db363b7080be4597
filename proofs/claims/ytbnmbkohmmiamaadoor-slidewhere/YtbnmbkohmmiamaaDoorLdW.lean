/- The walk of the law SlideWhere. -/
import Derived.Test.YtbnmbkohmmiamaaDoorLcB
namespace Go.Proofs.YtbnmbkohmmiamaaDoor
open Go.RowKit
set_option linter.unusedVariables false

set_option maxRecDepth 20000 in
set_option maxHeartbeats 4000000 in
theorem slideWhere_any (HP : PlanC) (x : Int) (a : Option Addr) (n cap : Nat) (l : List Mv) (w : World) (hT : Tabs w) (h : RdV w a l) (hn : l.length = n) (hn9 : n ≤ 9223372036854775807) :
    Calls Tryd.prog 4 #[.int .i64 x, .slice a n cap] w fun e w' => e = .returned (.bool true) ∧ Below w.heap.size w w' := by
  have HPL : Hid PlanC := HP
  have HT : Hid (Tabs w) := hT
  have H : Hid (RdV w a l) := h
  have HN : Hid (l.length = n) := hn
  clear HP hT h hn
  go_enter Tryd.func4, Tryd.ntmps4
  go_wp2_with fail
  refine (alive_any HPL.out _ HT.out).mono ?_
  rintro e w1 ⟨rfl, b1⟩
  have B1 : Hid (Below w.heap.size w w1) := b1
  clear b1
  go_wp2_with fail
  go_loopw [11] (fun iv wr => ∃ i : Nat, i ≤ n ∧ iv = .int .i64 (i : Nat) ∧ (∀ m ∈ l.take i, m.Ok) ∧ Below w.heap.size w wr) (fun iv _ => n - lenW iv)
  case atStart => exact ⟨0, Nat.zero_le _, rfl, by simp, B1.out⟩
  case round =>
    obtain ⟨i, hi, rfl, hok, hb3⟩ := hrel
    rename World => wr
    have BR : Hid (Below w.heap.size w wr) := hb3
    have OK : Hid (∀ m ∈ l.take i, m.Ok) := hok
    clear hb3 hok
    by_cases hin : i < n
    · have hil : i < l.length := by rw [HN.out]; exact hin
      obtain ⟨g, o, rfl, _, c0, c1, c2⟩ := (H.out.keep BR.out) i hil
      have ET : l.take (i + 1) = l.take i ++ [l[i]] := List.take_succ_eq_append_getElem hil
      obtain ⟨v, hv⟩ : ∃ v, l[i] = v := ⟨_, rfl⟩
      rw [hv] at c0 c1 c2 ET
      obtain ⟨fr, tt, ln⟩ := v
      simp only at c0 c1 c2
      have i0 : (i : Int) < (n : Int) := by omega
      have BA : Hid (Below w.heap.size w (wr.alloc (.cells #[.int .i64 fr, (.int .i64 tt), .int .i64 ln] 35))) := BR.out.alloc BR.out.size _
      have NX : Hid ((Mv.mk fr tt ln).Ok → ∀ m ∈ l.take (i + 1), m.Ok) := fun h0 m hm => by
        rw [ET] at hm
        rcases List.mem_append.1 hm with k | k
        · exact OK.out m k
        · obtain rfl : m = ⟨fr, tt, ln⟩ := by simpa using k
          exact h0
      clear hv ET
      by_cases e1 : fr < 0
      · go_wp2
        go_ret
        exact ⟨rfl, BA.out⟩
      by_cases e2 : tt < 0
      · go_wp2
        go_ret
        exact ⟨rfl, BA.out⟩
      by_cases e3 : ln < 0
      · go_wp2
        go_ret
        exact ⟨rfl, BA.out⟩
      by_cases e4 : 1099511627776 < fr
      · go_wp2
        go_ret
        exact ⟨rfl, BA.out⟩
      by_cases e5 : 1099511627776 < tt
      · go_wp2
        go_ret
        exact ⟨rfl, BA.out⟩
      by_cases e6 : 1099511627776 < ln
      · go_wp2
        go_ret
        exact ⟨rfl, BA.out⟩
      have NX2 : Hid (∀ m ∈ l.take (i + 1), m.Ok) := NX.out ⟨by simp only; omega, by simp only; omega, by simp only; omega, by simp only; omega, by simp only; omega, by simp only; omega⟩
      go_wp2
      go_roundw
      case rel => exact ⟨i + 1, by omega, by congr 1, NX2.out, BA.out⟩
      case measure => simp [lenW]; omega
    · obtain rfl : i = n := by omega
      have OKA : Hid (∀ m ∈ l, m.Ok) := by
        have := OK.out
        rw [List.take_of_length_le (by rw [HN.out]; omega)] at this
        exact this
      by_cases x1 : x < 0
      · go_wp2
        go_ret
        exact ⟨rfl, BR.out⟩
      by_cases x2 : 1099511627776 < x
      · go_wp2
        go_ret
        exact ⟨rfl, BR.out⟩
      by_cases x3 : 1000 < i
      · have x3' : (1000 : Int) < (i : Int) := by omega
        go_wp2
        go_ret
        exact ⟨rfl, BR.out⟩
      have x3' : ¬ ((1000 : Int) < (i : Int)) := by omega
      obtain ⟨z, hz⟩ : ∃ z, whereI x l = z := ⟨_, rfl⟩
      have HZ : Hid (whereI x l = z) := hz
      have R1 : Hid (RdV wr a l) := H.out.keep BR.out
      clear hz
      go_wp2_with fail
      refine (where_any a i cap l x _ R1.out HN.out (by omega) OKA.out (by omega) (by omega) z HZ.out).mono ?_
      rintro e w3 ⟨rfl, b3⟩
      have B3 : Hid (Below w.heap.size w w3) := BR.out.trans (b3.mono BR.out.size)
      have R3 : Hid (RdV w3 a l) := R1.out.keep b3
      clear b3
      go_wp2_with fail
      refine (rwhere_any a i cap l x _ R3.out HN.out (by omega) OKA.out (by omega) (by omega) z HZ.out).mono ?_
      rintro e w4 ⟨rfl, b4⟩
      have B4 : Hid (Below w.heap.size w w4) := B3.out.trans (b4.mono B3.out.size)
      clear b4
      go_wp2
      go_ret
      exact ⟨by simp, B4.out⟩
end Go.Proofs.YtbnmbkohmmiamaaDoor
