/- The walk of SpanFills: a span gives out each of its slots once, the least first, and then none. -/
import Derived.Test.YtmahgdjbgkeecaaDoorSpH
namespace Go.Proofs.YtmahgdjbgkeecaaDoor
open Go.RowKit
set_option linter.unusedVariables false

/-- The first k slots are taken. -/
def upF (k : Nat) : Nat → Bool := fun i => decide (i < k)
theorem upF_zero : upF 0 = fun _ => false := by funext i; simp [upF]
theorem upF_put (k : Nat) : put (upF k) k true = upF (k + 1) := by
  funext i
  unfold put upF
  by_cases h : i = k
  · rw [if_pos h]; symm; exact decide_eq_true (by omega)
  · rw [if_neg h]
    by_cases h2 : i < k
    · rw [decide_eq_true h2, decide_eq_true (by omega)]
    · rw [decide_eq_false h2, decide_eq_false (by omega)]
theorem upF_cnt (k : Nat) : ∀ m, cnt (upF k) m = min k m
  | 0 => by simp [cnt]
  | m + 1 => by
    rw [cnt, upF_cnt k m]
    by_cases h : m < k
    · rw [if_pos (by simp [upF, h])]; omega
    · rw [if_neg (by simp [upF]; omega)]; omega
theorem take_next {n k : Nat} {r : Int} {ok : Bool} {f' : Nat → Bool} (hk : k < n) (h : TakeR n (upF k) r ok f') : r = (k : Int) ∧ ok = true ∧ f' = upF (k + 1) := by
  have := h.one (show TakeR n (upF k) (k : Int) true (upF (k + 1)) from .inl ⟨rfl, k, rfl, hk, by simp [upF], fun j hj => by simp [upF, hj], (upF_put k).symm⟩)
  exact this
theorem take_full {n : Nat} {r : Int} {ok : Bool} {f' : Nat → Bool} (h : TakeR n (upF n) r ok f') : r = 0 ∧ ok = false ∧ f' = upF n :=
  h.one (show TakeR n (upF n) 0 false (upF n) from .inr ⟨rfl, rfl, fun j hj => by simp [upF, hj], rfl⟩)
theorem upF_back (n : Nat) (hn : 1 ≤ n) : turn n (upF n) ((n : Int) - 1) false = upF (n - 1) := by
  funext i
  unfold turn upF
  by_cases h : isP n ((n : Int) - 1) = true ∧ i = ((n : Int) - 1).toNat
  · rw [if_pos h]; symm; exact decide_eq_false (by omega)
  · rw [if_neg h]
    have : ¬ i = n - 1 := fun e => h ⟨isP_true.2 (by omega), by omega⟩
    by_cases h2 : i < n
    · rw [decide_eq_true h2, decide_eq_true (by omega)]
    · rw [decide_eq_false h2, decide_eq_false (by omega)]
theorem has_last (n : Nat) (hn : 1 ≤ n) : hasB n (upF n) ((n : Int) - 1) = true := by
  unfold hasB
  rw [isP_true.2 (by omega), Bool.true_and]
  exact decide_eq_true (by omega)
theorem has_gone (n : Nat) (hn : 1 ≤ n) : hasB n (upF (n - 1)) ((n : Int) - 1) = false := by
  unfold hasB
  rw [isP_true.2 (by omega), Bool.true_and]
  exact decide_eq_false (by omega)
theorem turn_gone (n : Nat) (hn : 1 ≤ n) : turn n (upF (n - 1)) ((n : Int) - 1) false = upF (n - 1) := by
  funext i
  unfold turn upF
  by_cases h : isP n ((n : Int) - 1) = true ∧ i = ((n : Int) - 1).toNat
  · rw [if_pos h]; symm; exact decide_eq_false (by omega)
  · rw [if_neg h]
theorem has_new (n k : Nat) (hk : k < n) : hasB n (upF (k + 1)) (k : Int) = true := by
  unfold hasB
  rw [isP_true.2 (by omega), Bool.true_and]
  exact decide_eq_true (by omega)

/-- A span on which a law goes on. -/
structure Sp (w wr : World) (sb b g : Nat) (p c s : Int) (f : Nat → Bool) : Prop where
  at' : SpanAt wr sb b g p c s f
  low : Below w.heap.size w wr
  ge : w.heap.size ≤ g
theorem Sp.next {w wr w' : World} {sb b g : Nat} {p c s : Int} {f f' : Nat → Bool} (h : Sp w wr sb b g p c s f) (hs : SpanAt w' sb b g p c s f') (ho : Only g wr w') : Sp w w' sb b g p c s f' :=
  ⟨hs, h.low.trans (ho.below h.ge), h.ge⟩

/-- Take of a span, the first k slots of which are taken. -/
theorem take_k (sb b g : Nat) (p c s : Int) (n k : Nat) (w0 w : World) (h : Sp w0 w sb b g p c s (upF k)) (hT : Tabs w0) (hn : slN c = n) (hk : k < n) :
    Calls Tryd.prog 28 #[.pointer (some ⟨sb, 0, none⟩)] w fun e w' => e = .returned (.tuple #[.int .i64 (k : Nat), .bool true]) ∧ Sp w0 w' sb b g p c s (upF (k + 1)) := by
  refine (take_any sb b g p c s _ w h.at' (hT.keep h.low).2).mono ?_
  rintro e w' ⟨r, ok, f', rfl, r1, s1, o1⟩
  rw [hn] at r1
  obtain ⟨rfl, rfl, rfl⟩ := take_next hk r1
  exact ⟨rfl, h.next s1 o1⟩
theorem take_end (sb b g : Nat) (p c s : Int) (n : Nat) (w0 w : World) (h : Sp w0 w sb b g p c s (upF n)) (hT : Tabs w0) (hn : slN c = n) :
    Calls Tryd.prog 28 #[.pointer (some ⟨sb, 0, none⟩)] w fun e w' => e = .returned (.tuple #[.int .i64 0, .bool false]) ∧ Sp w0 w' sb b g p c s (upF n) := by
  refine (take_any sb b g p c s _ w h.at' (hT.keep h.low).2).mono ?_
  rintro e w' ⟨r, ok, f', rfl, r1, s1, o1⟩
  rw [hn] at r1
  obtain ⟨rfl, rfl, rfl⟩ := take_full r1
  exact ⟨rfl, h.next s1 o1⟩
theorem give_last (sb b g : Nat) (p c s : Int) (n : Nat) (x : Int) (w0 w : World) (h : Sp w0 w sb b g p c s (upF n)) (hn : slN c = n) (hn1 : 1 ≤ n) (hx : x = (n : Int) - 1) :
    Calls Tryd.prog 29 #[.pointer (some ⟨sb, 0, none⟩), .int .i64 x] w fun e w' => e = .returned (.bool true) ∧ Sp w0 w' sb b g p c s (upF (n - 1)) := by
  subst hx
  refine (give_any sb b g p c s _ _ w h.at').mono ?_
  rw [hn, has_last n hn1, upF_back n hn1]
  rintro e w' ⟨rfl, s1, o1⟩
  exact ⟨rfl, h.next s1 o1⟩
theorem give_gone (sb b g : Nat) (p c s : Int) (n : Nat) (x : Int) (w0 w : World) (h : Sp w0 w sb b g p c s (upF (n - 1))) (hn : slN c = n) (hn1 : 1 ≤ n) (hx : x = (n : Int) - 1) :
    Calls Tryd.prog 29 #[.pointer (some ⟨sb, 0, none⟩), .int .i64 x] w fun e w' => e = .returned (.bool false) ∧ Sp w0 w' sb b g p c s (upF (n - 1)) := by
  subst hx
  refine (give_any sb b g p c s _ _ w h.at').mono ?_
  rw [hn, has_gone n hn1, turn_gone n hn1]
  rintro e w' ⟨rfl, s1, o1⟩
  exact ⟨rfl, h.next s1 o1⟩
theorem live_k (sb b g : Nat) (p c s : Int) (n k : Nat) (w0 w : World) (h : Sp w0 w sb b g p c s (upF k)) (hn : slN c = n) (hk : k ≤ n) :
    Calls Tryd.prog 13 #[.pointer (some ⟨sb, 0, none⟩)] w fun e w' => e = .returned (.int .i64 (k : Nat)) ∧ w = w' := by
  have := live_any sb b g p c s _ w h.at'
  rw [upF_cnt, hn, Nat.min_eq_left hk] at this
  exact this
theorem has_k (sb b g : Nat) (p c s : Int) (n k : Nat) (w0 w : World) (h : Sp w0 w sb b g p c s (upF (k + 1))) (hn : slN c = n) (hk : k < n) :
    Calls Tryd.prog 32 #[.pointer (some ⟨sb, 0, none⟩), .int .i64 (k : Nat)] w fun e w' => e = .returned (.bool true) ∧ w = w' := by
  have := has_any sb b g p c s _ (k : Int) w h.at'
  rw [hn, has_new n k hk] at this
  exact this
theorem slots_k (sb b g : Nat) (p c s : Int) (n : Nat) (f : Nat → Bool) (w0 w : World) (h : Sp w0 w sb b g p c s f) (hT : Tabs w0) (r : Rt p c s) (hn : slN c = n) :
    Calls Tryd.prog 22 #[.pointer (some ⟨sb, 0, none⟩)] w fun e w' => e = .returned (.int .i64 (n : Nat)) ∧ w = w' :=
  slots_rt sb p c s w h.at'.box (hT.keep h.low).1 r n hn

set_option maxRecDepth 20000 in
set_option maxHeartbeats 4000000 in
theorem spanFills_any (p c s : Int) (w : World) (hT : Tabs w) (hp : -9223372036854775808 ≤ p ∧ p ≤ 9223372036854775807) :
    Calls Tryd.prog 7 #[.int .i64 p, .int .i64 c, .int .i64 s] w fun e w' => e = .returned (.bool true) ∧ Below w.heap.size w w' := by
  have HT : Hid (Tabs w) := hT
  clear hT
  obtain ⟨x, hx⟩ : ∃ x, newE p c s = x := ⟨_, rfl⟩
  by_cases h0 : x = 0
  · subst h0
    have R : Hid (Rt p c s) := newE_rt hx
    have HX : Hid (newE p c s = 0) := hx
    obtain ⟨f1, f2, _⟩ := R.out.facts
    obtain ⟨n, hn⟩ : ∃ n, slN c = n := ⟨_, rfl⟩
    rw [hn] at f1 f2
    have HN : Hid (slN c = n) := hn
    clear hx hn
    go_enter Tryd.func7, Tryd.ntmps7
    go_wp2_with fail
    refine (alive_any w HT.out).mono ?_
    rintro e w1 ⟨rfl, b1⟩
    have B1 : Hid (Below w.heap.size w w1) := b1
    have T1 : Hid (Tabs w1) := HT.out.keep b1
    clear b1
    go_wp2_with fail
    refine (new_ok p c s w1 T1.out R.out HX.out).mono ?_
    rintro e w2 ⟨sb, b, g, rfl, s2, b2, h1, h2, h3⟩
    have P2 : Hid (Sp w w2 sb b g p c s (upF 0)) := by
      refine ⟨?_, B1.out.trans (b2.mono B1.out.size), Nat.le_trans B1.out.size h3⟩
      rw [upF_zero]; exact s2
    clear s2 b2 h1 h2 h3
    go_wp2
    go_loopw [9] (fun iv wr => ∃ (i : Nat), i ≤ n ∧ iv = .int .i64 (i : Nat) ∧ Sp w wr sb b g p c s (upF i)) (fun iv _ => n - (intOf iv).toNat)
    case atStart => exact ⟨0, Nat.zero_le _, rfl, P2.out⟩
    case round =>
      clear P2
      obtain ⟨i, hi, rfl, hP⟩ := hrel
      rename World => wr
      have P : Hid (Sp w wr sb b g p c s (upF i)) := hP
      clear hP
      by_cases hlt : i < n
      · go_wp2_with (first
          | (go_at_call 22; refine (slots_k sb b g p c s n _ w wr P.out HT.out R.out HN.out).mono ?_; rintro e w' ⟨rfl, rfl⟩)
          | (go_at_call 28; refine (take_k sb b g p c s n i w _ P.out HT.out HN.out hlt).mono ?_; rintro e w3 ⟨rfl, p3⟩; have P3 : Hid (Sp w w3 sb b g p c s (upF (i + 1))) := p3; clear p3)
          | (go_at_call 13; refine (live_k sb b g p c s n (i + 1) w w3 P3.out HN.out (by omega)).mono ?_; rintro e w' ⟨rfl, rfl⟩)
          | (go_at_call 32; refine (has_k sb b g p c s n i w w3 P3.out HN.out hlt).mono ?_; rintro e w' ⟨rfl, rfl⟩))
        go_roundw
        case rel => exact ⟨i + 1, by omega, by go_num, P3.out⟩
        case measure => simp [intOf]; omega
      · obtain rfl : i = n := by omega
        obtain ⟨k, rfl⟩ : ∃ k, i = k + 1 := ⟨i - 1, by omega⟩
        have HK : Hid (k < k + 1) := Nat.lt_succ_self k
        go_wp2_with (first
          | (go_at_call 22; refine (slots_k sb b g p c s (k + 1) _ w wr P.out HT.out R.out HN.out).mono ?_; rintro e w' ⟨rfl, rfl⟩))
        refine (take_end sb b g p c s (k + 1) w wr P.out HT.out HN.out).mono ?_
        rintro e w3 ⟨rfl, p3⟩
        have P3 : Hid (Sp w w3 sb b g p c s (upF (k + 1))) := p3
        clear p3
        go_wp2_with fail
        refine (slots_k sb b g p c s (k + 1) _ w w3 P3.out HT.out R.out HN.out).mono ?_
        rintro e w' ⟨rfl, rfl⟩
        go_wp2_with fail
        refine (give_last sb b g p c s (k + 1) _ w w3 P3.out HN.out (by omega) (by first | rfl | omega)).mono ?_
        rintro e w4 ⟨rfl, p4⟩
        have P4 : Hid (Sp w w4 sb b g p c s (upF (k + 1 - 1))) := p4
        clear p4
        go_wp2_with fail
        refine (slots_k sb b g p c s (k + 1) _ w w4 P4.out HT.out R.out HN.out).mono ?_
        rintro e w' ⟨rfl, rfl⟩
        go_wp2_with fail
        refine (give_gone sb b g p c s (k + 1) _ w w4 P4.out HN.out (by omega) (by first | rfl | omega)).mono ?_
        rintro e w5 ⟨rfl, p5⟩
        have P5 : Hid (Sp w w5 sb b g p c s (upF k)) := p5
        clear p5
        go_wp2_with fail
        refine (take_k sb b g p c s (k + 1) k w w5 P5.out HT.out HN.out HK.out).mono ?_
        rintro e w6 ⟨rfl, p6⟩
        have P6 : Hid (Sp w w6 sb b g p c s (upF (k + 1))) := p6
        clear p6
        go_wp2_with (go_at_call 22; refine (slots_k sb b g p c s (k + 1) _ w w6 P6.out HT.out R.out HN.out).mono ?_; rintro e w' ⟨rfl, rfl⟩)
        go_ret
        exact ⟨rfl, P6.out.low⟩
  · have HX : Hid (newE p c s = x) := hx
    have hne : (x == 0) = false := beq_eq_false_iff_ne.2 h0
    have hne' : (x != 0) = true := by rw [bne, hne]; rfl
    clear hx
    go_enter Tryd.func7, Tryd.ntmps7
    go_wp2_with fail
    refine (alive_any w HT.out).mono ?_
    rintro e w1 ⟨rfl, b1⟩
    have B1 : Hid (Below w.heap.size w w1) := b1
    have T1 : Hid (Tabs w1) := HT.out.keep b1
    clear b1
    go_wp2_with fail
    refine (new_bad p c s w1 T1.out hp x HX.out h0).mono ?_
    rintro e w2 ⟨rfl, b2⟩
    have B2 : Hid (Below w.heap.size w w2) := B1.out.trans (b2.mono B1.out.size)
    clear b2
    go_wp2
    go_ret
    exact ⟨rfl, B2.out⟩
end Go.Proofs.YtmahgdjbgkeecaaDoor
