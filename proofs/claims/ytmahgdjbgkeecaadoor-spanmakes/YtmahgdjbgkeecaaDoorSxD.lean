/- The walk of SpanMakes: which spans may be. -/
import Derived.Test.YtmahgdjbgkeecaaDoorSpM
import Derived.Test.YtmahgdjbgkeecaaDoorSpV
namespace Go.Proofs.YtmahgdjbgkeecaaDoor
open Go.RowKit
set_option linter.unusedVariables false

theorem cnt_none : ∀ n, cnt (fun _ => false) n = 0
  | 0 => rfl
  | n + 1 => by rw [cnt, cnt_none n]; simp


set_option maxRecDepth 20000 in
set_option maxHeartbeats 4000000 in
theorem spanMakes_any (p c s : Int) (w : World) (hT : Tabs w) (hp : -9223372036854775808 ≤ p ∧ p ≤ 9223372036854775807) :
    Calls Tryd.prog 4 #[.int .i64 p, .int .i64 c, .int .i64 s] w fun e w' => e = .returned (.bool true) ∧ Below w.heap.size w w' := by
  have HT : Hid (Tabs w) := hT
  clear hT
  obtain ⟨x, hx⟩ : ∃ x, newE p c s = x := ⟨_, rfl⟩
  by_cases h0 : x = 0
  · subst h0
    have R : Hid (Rt p c s) := newE_rt hx
    have HX : Hid (newE p c s = 0) := hx
    obtain ⟨n, hn⟩ : ∃ n, slN c = n := ⟨_, rfl⟩
    have n16 : n ≤ 65536 := by have := R.out.facts.2.1; omega
    have HN : Hid (slN c = n) := hn
    obtain ⟨l, hl⟩ : ∃ l, lsL (fun _ => false) n = l := ⟨_, rfl⟩
    have HL : Hid (lsL (fun _ => false) n = l) := hl
    have HL' : Hid (lsL (fun _ => false) (slN c) = l) := by show _ = _; rw [hn]; exact hl
    have LA : Hid (∀ y ∈ l, -9223372036854775808 ≤ y ∧ y ≤ 9223372036854775807) := by show ∀ y ∈ l, _; rw [← hl]; exact ls_all _ n n16
    have LM : Hid (l.length ≤ maxLen) := by show l.length ≤ maxLen; rw [← hl]; exact ls_short _ n n16
    clear hx hl hn
    go_enter Tryd.func4, Tryd.ntmps4
    go_wp2_with fail
    refine (alive_any w HT.out).mono ?_
    rintro e w1 ⟨rfl, b1⟩
    have B1 : Hid (Below w.heap.size w w1) := b1
    have T1 : Hid (Tabs w1) := HT.out.keep b1
    clear b1
    go_wp2_with fail
    refine (new_ok p c s w1 T1.out R.out HX.out).mono ?_
    rintro e w2 ⟨sb, b, g, rfl, s2, b2, h1, h2, h3⟩
    have S2 : Hid (SpanAt w2 sb b g p c s (fun _ => false)) := s2
    have B2 : Hid (Below w.heap.size w w2) := B1.out.trans (b2.mono B1.out.size)
    have T2 : Hid (Tabs w2) := T1.out.keep b2
    clear s2 b2 h1 h2 h3
    go_wp2_with fail
    refine (rnew_ok p c s n w2 R.out HN.out).mono ?_
    rintro e w3 ⟨mb, mg, rfl, r3, b3, h1, h2⟩
    have S3 : Hid (SpanAt w3 sb b g p c s (fun _ => false)) := S2.out.keep b3
    have R3 : Hid (Ref w3 mb mg p c s n (fun _ => false)) := r3
    have B3 : Hid (Below w.heap.size w w3) := B2.out.trans (b3.mono B2.out.size)
    have T3 : Hid (Tabs w3) := T2.out.keep b3
    clear r3 b3 h1 h2
    go_wp2_with fail
    refine (data_any sb b g p c s _ w3 S3.out T3.out.2 l HL'.out).mono ?_
    rintro e w4 ⟨a4, c4, rfl, o4, b4⟩
    have O4 : Hid (OwnsI w4 w3.heap.size a4 l c4) := o4
    have R4 : Hid (Ref w4 mb mg p c s n (fun _ => false)) := R3.out.keep b4
    have S4 : Hid (SpanAt w4 sb b g p c s (fun _ => false)) := S3.out.keep b4
    have B4 : Hid (Below w.heap.size w w4) := B3.out.trans (b4.mono B3.out.size)
    clear o4 b4
    go_wp2_with fail
    refine (rdata_any mb mg n p c s _ w4 R4.out n16 l HL.out).mono ?_
    rintro e w5 ⟨a5, c5, rfl, o5, b5⟩
    have O5 : Hid (OwnsI w5 w4.heap.size a5 l c5) := o5
    have K5 : Hid (Below w4.heap.size w4 w5) := b5
    have S5 : Hid (SpanAt w5 sb b g p c s (fun _ => false)) := S4.out.keep b5
    have B5 : Hid (Below w.heap.size w w5) := B4.out.trans (b5.mono B4.out.size)
    clear o5 b5
    go_wp2_with fail
    refine (same_own p c s a4 a5 c4 c5 _ _ l w4 w5 LA.out LM.out O4.out O5.out K5.out).mono ?_
    rintro e w6 ⟨rfl, b6⟩
    have S6 : Hid (SpanAt w6 sb b g p c s (fun _ => false)) := S5.out.keep b6
    have B6 : Hid (Below w.heap.size w w6) := B5.out.trans (b6.mono B5.out.size)
    clear b6
    go_wp2_with (go_at_call 13; refine (live_any sb b g p c s _ w6 S6.out).mono ?_; rw [cnt_none]; rintro e w' ⟨rfl, rfl⟩)
    go_ret
    exact ⟨rfl, B6.out⟩
  · have HX : Hid (newE p c s = x) := hx
    have hne : (x == 0) = false := beq_eq_false_iff_ne.2 h0
    have hne' : (x != 0) = true := by rw [bne, hne]; rfl
    clear hx
    go_enter Tryd.func4, Tryd.ntmps4
    go_wp2_with fail
    refine (alive_any w HT.out).mono ?_
    rintro e w1 ⟨rfl, b1⟩
    have B1 : Hid (Below w.heap.size w w1) := b1
    have T1 : Hid (Tabs w1) := HT.out.keep b1
    clear b1
    go_wp2_with fail
    refine (new_bad p c s w1 T1.out hp x HX.out h0).mono ?_
    rintro e w2 ⟨rfl, b2⟩
    have B2 : Hid (Below w.heap.size w w2) := B1.out.trans (b2.mono B1.out.size)
    clear b2
    go_wp2_with (go_at_call 26; refine (rnew_bad p c s x w2 HX.out h0).mono ?_; rintro e w' ⟨rfl, rfl⟩)
    go_ret
    exact ⟨rfl, B2.out⟩
end Go.Proofs.YtmahgdjbgkeecaaDoor
