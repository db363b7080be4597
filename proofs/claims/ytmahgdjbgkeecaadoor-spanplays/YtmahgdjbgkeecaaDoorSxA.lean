/- The walk of SpanPlaces: slots lie in the span's pages, one behind the other. -/
import Derived.Test.YtmahgdjbgkeecaaDoorSpH
namespace Go.Proofs.YtmahgdjbgkeecaaDoor
open Go.RowKit
set_option linter.unusedVariables false

theorem slot_at (sb : Nat) (p c s : Int) (i : Nat) (x : Int) (w : World) (h : Bx w sb p c s) (hT : TabC w) (r : Rt p c s) (hi : i < slN c) (hx : x = 256 * p + (i : Int) * szI c s) :
    Calls Tryd.prog 31 #[.pointer (some ⟨sb, 0, none⟩), .int .i64 x] w fun e w' => e = .returned (.tuple #[.int .i64 (i : Nat), .bool true]) ∧ w = w' := by
  obtain ⟨k1, k2, _⟩ := r.place i hi
  have := r.p0
  have := r.p1
  obtain ⟨_, _, _, f4, _, _, f7, _⟩ := r.facts
  refine (slot_any sb p c s x w h hT r (by omega)).mono ?_
  rintro e w' ⟨y, ok, rfl, hs, rfl⟩
  obtain ⟨rfl, rfl⟩ := hs.one f4 (show SlotR (slN c) p (szI c s) x (i : Int) true from .inl ⟨rfl, i, hi, rfl, hx⟩)
  exact ⟨rfl, rfl⟩
theorem slot_none (sb : Nat) (p c s : Int) (x : Int) (w : World) (h : Bx w sb p c s) (hT : TabC w) (r : Rt p c s) (hb : -9223372036854775808 ≤ x ∧ x ≤ 9223372036854775807) (hx : ∀ j : Nat, j < slN c → x ≠ 256 * p + (j : Int) * szI c s) :
    Calls Tryd.prog 31 #[.pointer (some ⟨sb, 0, none⟩), .int .i64 x] w fun e w' => e = .returned (.tuple #[.int .i64 0, .bool false]) ∧ w = w' := by
  obtain ⟨_, _, _, f4, _⟩ := r.facts
  refine (slot_any sb p c s x w h hT r hb).mono ?_
  rintro e w' ⟨y, ok, rfl, hs, rfl⟩
  obtain ⟨rfl, rfl⟩ := hs.one f4 (show SlotR (slN c) p (szI c s) x 0 false from .inr ⟨rfl, rfl, hx⟩)
  exact ⟨rfl, rfl⟩
theorem at_is (sb : Nat) (p c s : Int) (i : Nat) (x : Int) (w : World) (h : Bx w sb p c s) (hT : TabC w) (r : Rt p c s) (hi : i < slN c) (hx : x = 256 * p + (i : Int) * szI c s) :
    Calls Tryd.prog 30 #[.pointer (some ⟨sb, 0, none⟩), .int .i64 (i : Nat)] w fun e w' => e = .returned (.tuple #[.int .i64 x, .bool true]) ∧ w = w' := by
  subst hx; exact at_in sb p c s i w h hT r hi
theorem at_end (sb : Nat) (p c s : Int) (n : Nat) (w : World) (h : Bx w sb p c s) (hT : TabC w) (r : Rt p c s) (hn : slN c = n) :
    Calls Tryd.prog 30 #[.pointer (some ⟨sb, 0, none⟩), .int .i64 (n : Nat)] w fun e w' => e = .returned (.tuple #[.int .i64 0, .bool false]) ∧ w = w' :=
  at_out sb p c s (n : Int) w h hT r (by omega)
theorem pages_rt (sb : Nat) (p c s : Int) (w : World) (h : Bx w sb p c s) (hT : TabC w) (r : Rt p c s) (g : Nat) (hg : pgsN c s = g) :
    Calls Tryd.prog 23 #[.pointer (some ⟨sb, 0, none⟩)] w fun e w' => e = .returned (.int .i64 (g : Nat)) ∧ w = w' := by
  subst hg; exact pages_any sb p c s w h hT r.c0 r.c7

/-- A place one behind a slot's is no slot's. -/
theorem no_inside {p z : Int} {i : Nat} {x : Int} (hz : 16 ≤ z) (hx : x = 256 * p + (i : Int) * z) (j : Nat) : x + 1 ≠ 256 * p + (j : Int) * z := by
  intro e
  have h1 : (i : Int) * z + 1 = (j : Int) * z := by omega
  rcases Nat.lt_or_ge i j with h | h
  · have : ((i : Int) + 1) * z ≤ (j : Int) * z := Int.mul_le_mul_of_nonneg_right (by omega) (by omega)
    rw [Int.add_mul, Int.one_mul] at this
    omega
  · have : (j : Int) * z ≤ (i : Int) * z := Int.mul_le_mul_of_nonneg_right (by omega) (by omega)
    omega
theorem no_behind {p z : Int} {n : Nat} {x : Int} (hz : 16 ≤ z) (hx : x = 256 * p + (n : Int) * z) (j : Nat) (hj : j < n) : x ≠ 256 * p + (j : Int) * z := by
  intro e
  have := mul_inj (i := n) (j := j) (by omega : 1 ≤ z) (by omega)
  omega

set_option maxRecDepth 20000 in
set_option maxHeartbeats 4000000 in
theorem spanPlaces_any (p c s : Int) (w : World) (hT : Tabs w) (hp : -9223372036854775808 ≤ p ∧ p ≤ 9223372036854775807) :
    Calls Tryd.prog 6 #[.int .i64 p, .int .i64 c, .int .i64 s] w fun e w' => e = .returned (.bool true) ∧ Below w.heap.size w w' := by
  have HT : Hid (Tabs w) := hT
  clear hT
  obtain ⟨x, hx⟩ : ∃ x, newE p c s = x := ⟨_, rfl⟩
  by_cases h0 : x = 0
  · subst h0
    have R : Hid (Rt p c s) := newE_rt hx
    have HX : Hid (newE p c s = 0) := hx
    obtain ⟨f1, f2, _, f4, f5, f6, f7, f8, _, _, f16⟩ := R.out.facts
    have hp0 := R.out.p0
    have hp1 := R.out.p1
    have hE : ∀ i : Nat, i ≤ slN c → 0 ≤ (i : Int) * szI c s ∧ (i : Int) * szI c s ≤ 256 * (pgsN c s : Int) := fun i hi =>
      ⟨Int.mul_nonneg (by omega) (by omega), Int.le_trans (Int.mul_le_mul_of_nonneg_right (by omega) (by omega)) f6⟩
    obtain ⟨z, hz⟩ : ∃ z, szI c s = z := ⟨_, rfl⟩
    obtain ⟨n, hn⟩ : ∃ n, slN c = n := ⟨_, rfl⟩
    obtain ⟨G, hG⟩ : ∃ G, pgsN c s = G := ⟨_, rfl⟩
    rw [hz, hn, hG] at hE
    rw [hG] at hp1 f7 f8
    rw [hz] at f4 f5 f16
    rw [hn] at f1 f2
    have HE : Hid (∀ i : Nat, i ≤ n → 0 ≤ (i : Int) * z ∧ (i : Int) * z ≤ 256 * (G : Int)) := hE
    have HZ : Hid (szI c s = z) := hz
    have HN : Hid (slN c = n) := hn
    have HG : Hid (pgsN c s = G) := hG
    clear hx hE hz hn hG f6
    go_enter Tryd.func6, Tryd.ntmps6
    go_wp2_with fail
    refine (alive_any w HT.out).mono ?_
    rintro e w1 ⟨rfl, b1⟩
    have B1 : Hid (Below w.heap.size w w1) := b1
    have T1 : Hid (Tabs w1) := HT.out.keep b1
    clear b1
    go_wp2_with fail
    refine (new_ok p c s w1 T1.out R.out HX.out).mono ?_
    rintro e w2 ⟨sb, b, g, rfl, s2, b2, h1, h2, h3⟩
    have S2 : Hid (Bx w2 sb p c s) := s2.box
    have B2 : Hid (Below w.heap.size w w2) := B1.out.trans (b2.mono B1.out.size)
    have T2 : Hid (TabC w2) := (T1.out.keep b2).1
    clear s2 b2 h1 h2 h3
    go_wp2
    go_loop [9, 10] (fun ev iv => ∃ (i : Nat) (E : Int), i ≤ n ∧ iv = .int .i64 (i : Nat) ∧ ev = .int .i64 E ∧ E = 256 * p + (i : Int) * z) (fun _ iv => n - (intOf iv).toNat)
    case atStart => exact ⟨0, p * 256, Nat.zero_le _, rfl, rfl, by simp; omega⟩
    case round =>
      obtain ⟨i, E, hi, rfl, rfl, hEi⟩ := hrel
      obtain ⟨e0, e1⟩ := HE.out i hi
      have HEi : Hid (E = 256 * p + (i : Int) * z) := hEi
      have HEs : Hid (E = 256 * p + (i : Int) * szI c s) := by show _ = _; rw [HZ.out]; exact hEi
      have eb0 : 0 ≤ E := by omega
      have eb1 : E ≤ 256 * p + 256 * (G : Int) := by omega
      clear hEi e0 e1
      by_cases hlt : i < n
      · have hlt' : i < slN c := by rw [HN.out]; exact hlt
        have NI : Hid (∀ j : Nat, j < slN c → E + 1 ≠ 256 * p + (j : Int) * szI c s) := fun j _ => by rw [HZ.out]; exact no_inside f16 HEi.out j
        have g1 : IntKind.i64.wrap (E + 1) = E + 1 := by rw [IntKind.wrap_i64]; omega
        have g2 : IntKind.i64.wrap (E + z) = E + z := by rw [IntKind.wrap_i64]; omega
        go_wp2_with (first
          | (go_at_call 22; refine (slots_rt sb p c s _ S2.out T2.out R.out n HN.out).mono ?_; rintro e w' ⟨rfl, rfl⟩)
          | (go_at_call 30; refine (at_is sb p c s i E _ S2.out T2.out R.out hlt' HEs.out).mono ?_; rintro e w' ⟨rfl, rfl⟩))
        refine (slot_at sb p c s i E _ S2.out T2.out R.out hlt' HEs.out).mono ?_
        rintro e w' ⟨rfl, rfl⟩
        go_wp2_with fail
        refine (slot_none sb p c s (E + 1) _ S2.out T2.out R.out (by omega) NI.out).mono ?_
        rintro e w' ⟨rfl, rfl⟩
        go_wp2_with (go_at_call 20; refine (size_rt sb p c s _ S2.out T2.out R.out z HZ.out).mono ?_; rintro e w' ⟨rfl, rfl⟩)
        go_round
        case rel => exact ⟨i + 1, E + z, by omega, by go_num, rfl, by rw [HEi.out]; simp only [Int.natCast_add, Int.add_mul]; omega⟩
        case measure => simp [intOf]; omega
      · obtain rfl : i = n := by omega
        have NB : Hid (∀ j : Nat, j < slN c → E ≠ 256 * p + (j : Int) * szI c s) := fun j hj => by rw [HZ.out]; rw [HN.out] at hj; exact no_behind f16 HEi.out j hj
        have g1 : E ≤ (p + (G : Int)) * 256 := by omega
        have g2 : IntKind.i64.wrap (p + (G : Int)) = p + (G : Int) := by rw [IntKind.wrap_i64]; omega
        have g3 : IntKind.i64.wrap ((p + (G : Int)) * 256) = (p + (G : Int)) * 256 := by rw [IntKind.wrap_i64]; omega
        have g4 : (0 : Int) < (i : Int) := by omega
        go_wp2_with (first
          | (go_at_call 22; refine (slots_rt sb p c s _ S2.out T2.out R.out i HN.out).mono ?_; rintro e w' ⟨rfl, rfl⟩)
          | (go_at_call 30; refine (at_end sb p c s i _ S2.out T2.out R.out HN.out).mono ?_; rintro e w' ⟨rfl, rfl⟩)
          | (go_at_call 31; refine (slot_none sb p c s E _ S2.out T2.out R.out (by omega) NB.out).mono ?_; rintro e w' ⟨rfl, rfl⟩)
          | (go_at_call 23; refine (pages_rt sb p c s _ S2.out T2.out R.out G HG.out).mono ?_; rintro e w' ⟨rfl, rfl⟩))
        go_ret
        exact ⟨ret_bool (decide_eq_true (by omega)), B2.out⟩
  · have HX : Hid (newE p c s = x) := hx
    have hne : (x == 0) = false := beq_eq_false_iff_ne.2 h0
    have hne' : (x != 0) = true := by rw [bne, hne]; rfl
    clear hx
    go_enter Tryd.func6, Tryd.ntmps6
    go_wp2_with fail
    refine (alive_any w HT.out).mono ?_
    rintro e w1 ⟨rfl, b1⟩
    have B1 : Hid (Below w.heap.size w w1) := b1
    have T1 : Hid (Tabs w1) := HT.out.keep b1
    clear b1
    go_wp2_with fail
    refine (new_bad p c s w1 T1.out hp x HX.out h0).mono ?_
    rintro e w2 ⟨rfl, b2⟩
    have B2 : Hid (Below w.heap.size w w2) := B1.out.trans (b2.mono B1.out.size)
    clear b2
    go_wp2
    go_ret
    exact ⟨rfl, B2.out⟩
end Go.Proofs.YtmahgdjbgkeecaaDoor
