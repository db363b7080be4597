/- Layer 15: HdE again -/
import Derived.Test.YtgdjlopnhecmjaaGreatDoorGzBB
import Derived.Test.YtgdjlopnhecmjaaGreatDoorGzAJ
namespace Go.Proofs.YtgdjlopnhecmjaaGreatDoor
open Go.RowKit
set_option linter.unusedVariables false
set_option maxRecDepth 4000
set_option maxHeartbeats 2000000 in
theorem find_ok (B b : Nat) (a : Option Addr) (c n : Nat) (L : List HRw) (h i : Nat) (w : World) (hC : Ct w B b a c n L) (hh : h < 18446744073709551616) (hi : LvAt L h i) :
    Calls Tryz.prog 151 #[.pointer (some ⟨b, 0, none⟩), .int .u64 (h : Nat)] w fun e w' => ∃ g, a = some ⟨g, 0, none⟩ ∧ e = .returned (.tuple #[.pointer (some ⟨g, i * 4, none⟩), .int .i64 0]) ∧ w = w' := by
  have hl := hC.len
  have hil := hi.lt
  have h1 := hi.live
  have h2 := hi.gen
  have h3 : h % 65536 = i + 1 := hi.choose_spec.2.2.2
  have c1 := hC.cell1
  obtain ⟨g, rfl, hgb, hgs, k0, k1, k2, k3⟩ := hC.row.cells i hil
  rw [h1] at k1
  rw [h2] at k0
  have hc := hC.row.len
  clear hC hi h1 h2
  obtain ⟨q, hq⟩ : ∃ q, h / 65536 = q := ⟨_, rfl⟩
  have hq2 : q < 281474976710656 := by omega
  rw [hq] at k0
  have e1 : ¬ (((i + 1 : Nat) : Int) < 1) := by omega
  have e2 : ¬ (((i + 1 : Nat) : Int) > (L.length : Int)) := by omega
  have e3 : (((i + 1 : Nat) : Int) - 1) = (i : Int) := by omega
  have e4 : (i : Int) < (L.length : Int) := by omega
  have e5 : IntKind.wrap .u64 (q : Nat) = (q : Nat) := by rw [IntKind.wrap_u64]; omega
  go_enter Tryz.func151, Tryz.ntmps151
  go_wp2_with (go_at_call 205; refine (apart_any h _ hh).mono ?_; rw [h3, hq]; rintro e w1 ⟨rfl, rfl⟩)
  go_ret2
  exact ⟨g, rfl, rfl, rfl⟩

set_option maxHeartbeats 4000000 in
theorem find_bad (B b : Nat) (a : Option Addr) (c n : Nat) (L : List HRw) (h : Nat) (w : World) (hC : Ct w B b a c n L) (hh : h < 18446744073709551616) (hi : ¬ ∃ i, LvAt L h i) :
    Calls Tryz.prog 151 #[.pointer (some ⟨b, 0, none⟩), .int .u64 (h : Nat)] w fun e w' => e = .returned (.tuple #[.pointer none, .int .i64 12]) ∧ w = w' := by
  have hl := hC.len
  have c1 := hC.cell1
  have hc := hC.row.len
  have HL : Hid (¬ ∃ i, LvAt L h i) := hi
  clear hi
  obtain ⟨q, hq⟩ : ∃ q, h / 65536 = q := ⟨_, rfl⟩
  obtain ⟨i, hi⟩ : ∃ i, h % 65536 = i := ⟨_, rfl⟩
  have hq2 : q < 281474976710656 := by omega
  have hi2 : i < 65536 := by omega
  by_cases h1 : i = 0
  · subst h1
    clear hC
    go_enter Tryz.func151, Tryz.ntmps151
    go_wp2_with (go_at_call 205; refine (apart_any h _ hh).mono ?_; rw [hi, hq]; rintro e w1 ⟨rfl, rfl⟩)
    go_ret2
    exact ⟨rfl, rfl⟩
  · have e1 : ¬ ((i : Int) < 1) := by omega
    by_cases h2 : L.length < i
    · have e2 : (i : Int) > (L.length : Int) := by omega
      clear hC
      go_enter Tryz.func151, Tryz.ntmps151
      go_wp2_with (go_at_call 205; refine (apart_any h _ hh).mono ?_; rw [hi, hq]; rintro e w1 ⟨rfl, rfl⟩)
      go_ret2
      exact ⟨rfl, rfl⟩
    · have e2 : ¬ ((i : Int) > (L.length : Int)) := by omega
      obtain ⟨j, rfl⟩ : ∃ j, i = j + 1 := ⟨i - 1, by omega⟩
      have hj : j < L.length := by omega
      obtain ⟨g, rfl, hgb, hgs, k0, k1, k2, k3⟩ := hC.row.cells j hj
      obtain ⟨o1, o2, _⟩ := hC.gd.at hj
      obtain ⟨x, hx⟩ : ∃ x, L[j] = x := ⟨_, rfl⟩
      have NL : ¬ (x.live = true ∧ x.gen = (q : Nat)) := fun e => HL.out ⟨j, lvAt_of hj (by rw [hx]; exact e.1) (by rw [hx, hq]; exact e.2) hi⟩
      rw [hx] at k0 k1 o1 o2
      have e3 : (((j + 1 : Nat) : Int) - 1) = (j : Int) := by omega
      have e4 : (j : Int) < (L.length : Int) := by omega
      clear hC k2 k3 hx
      obtain ⟨xg, xl, xk, xp⟩ := x
      simp only at k0 k1 o1 o2 NL
      have e5 : IntKind.wrap .u64 xg = xg := by rw [IntKind.wrap_u64]; omega
      cases xl with
      | false =>
        clear NL
        go_enter Tryz.func151, Tryz.ntmps151
        go_wp2_with (go_at_call 205; refine (apart_any h _ hh).mono ?_; rw [hi, hq]; rintro e w1 ⟨rfl, rfl⟩)
        go_ret2
        exact ⟨rfl, rfl⟩
      | true =>
        have e6 : ¬ (xg = (q : Nat)) := fun e => NL ⟨rfl, e⟩
        clear NL
        go_enter Tryz.func151, Tryz.ntmps151
        go_wp2_with (go_at_call 205; refine (apart_any h _ hh).mono ?_; rw [hi, hq]; rintro e w1 ⟨rfl, rfl⟩)
        go_ret2
        exact ⟨rfl, rfl⟩

theorem get_bad (B b : Nat) (a : Option Addr) (c n : Nat) (L : List HRw) (h : Nat) (w : World) (hC : Ct w B b a c n L) (hh : h < 18446744073709551616) (hi : ¬ ∃ i, LvAt L h i) :
    Calls Tryz.prog 92 #[.pointer (some ⟨b, 0, none⟩), .int .u64 (h : Nat)] w fun e w' => e = .returned (.tuple #[.int .i64 0, .int .i64 0, .int .i64 12]) ∧ w = w' := by
  go_enter Tryz.func92, Tryz.ntmps92
  go_wp2_with (go_at_call 151; refine (find_bad B b a c n L h _ hC hh hi).mono ?_; rintro e w1 ⟨rfl, rfl⟩)
  refine bodyPost_ret (v := .tuple #[.int .i64 0, .int .i64 0, .int .i64 12]) (by simp [results, Tryz.results92, go_sem]) rfl ⟨rfl, rfl⟩
theorem get_ok (B b : Nat) (a : Option Addr) (c n : Nat) (L : List HRw) (h i : Nat) (w : World) (hC : Ct w B b a c n L) (hh : h < 18446744073709551616) (hi : LvAt L h i) :
    Calls Tryz.prog 92 #[.pointer (some ⟨b, 0, none⟩), .int .u64 (h : Nat)] w fun e w' => e = .returned (.tuple #[.int .i64 (gtL L i).kind, .int .i64 (gtL L i).pl, .int .i64 0]) ∧ ∃ m, w' = w.drewN m := by
  obtain ⟨g, e0, hgb, hgs, k0, k1, k2, k3⟩ := hC.row.cells i hi.lt
  rw [gtL_eq hi.lt]
  obtain ⟨x, hx⟩ : ∃ x, (L[i]'hi.lt) = x := ⟨_, rfl⟩
  rw [hx] at k2 k3 ⊢
  clear hx k0 k1
  go_enter Tryz.func92, Tryz.ntmps92
  go_wp2_with (go_at_call 151; refine (find_ok B b a c n L h i _ hC hh hi).mono ?_; rintro e w1 ⟨g1, e1, rfl, rfl⟩; (obtain rfl : g = g1 := by rw [e0] at e1; cases e1; rfl))
  go_region_held3 (fun w' => w'.cell? ⟨g, i * 4 + 2, none⟩ = some (.int .i64 x.kind) ∧ w'.cell? ⟨g, i * 4 + 3, none⟩ = some (.int .i64 x.pl)) (first | assumption | exact ⟨by assumption, by assumption⟩ | go_keep) (fail)
  go_wp2
  refine bodyPost_ret (v := .tuple #[.int .i64 x.kind, .int .i64 x.pl, .int .i64 0]) (by simp [results, Tryz.results92, go_sem]) rfl ⟨rfl, _, rfl⟩
theorem Ct.turned {w w' : World} {B b g : Nat} {c n : Nat} {L L' : List HRw} (h : Ct w B b (some ⟨g, 0, none⟩) c n L) (ho : Only g w w') (hr : Ow w' B (some ⟨g, 0, none⟩) L' c) (hl : L'.length = L.length) (hg : Gd n L') : Ct w' B b (some ⟨g, 0, none⟩) c n L' ∧ Tu (Mine b (some ⟨g, 0, none⟩)) w w' :=
  ⟨⟨by rw [ho.block b (fun e => h.apart (by rw [e]; rfl)), h.box, hl], hr, hg, h.bb⟩, Tu.ofOnly ho (.inr rfl)⟩
theorem ended_any (r : HRw) (w : World) :
    Calls Tryz.prog 157 #[.agg #[.int .i64 r.gen, .bool r.live, .int .i64 r.kind, .int .i64 r.pl]] w fun e w' => e = .returned (.agg #[.int .i64 r.gen, .bool false, .int .i64 0, .int .i64 0]) ∧ Below w.heap.size w w' := by
  obtain ⟨wz, hwz⟩ : ∃ wz, (w.alloc (.cells #[.int .i64 r.gen, .bool r.live, .int .i64 r.kind, .int .i64 r.pl] 57)).alloc (.cells #[.int .i64 r.gen, .bool false, .int .i64 0, .int .i64 0] 57) = wz := ⟨_, rfl⟩
  have BZ : Hid (Below w.heap.size w wz) := by show Below _ _ _; rw [← hwz]; exact ((Below.refl _ w).alloc (Nat.le_refl _) _).alloc (by simp) _
  have QZ : wz.heap[w.heap.size + 1]? = some (.cells #[.int .i64 r.gen, .bool false, .int .i64 0, .int .i64 0] 57 (0, 0)) := by
    rw [← hwz]
    have := Go.heap_alloc_new (w.alloc (.cells #[.int .i64 r.gen, .bool r.live, .int .i64 r.kind, .int .i64 r.pl] 57)) (.cells #[.int .i64 r.gen, .bool false, .int .i64 0, .int .i64 0] 57)
    rw [World.size_alloc] at this
    exact this
  have c0 := cell_of_row wz _ 0 _ _ _ QZ
  have c1 := cell_of_row wz _ 1 _ _ _ QZ
  have c2 := cell_of_row wz _ 2 _ _ _ QZ
  have c3 := cell_of_row wz _ 3 _ _ _ QZ
  simp at c0 c1 c2 c3
  have CZ : Hid (wz.cell? ⟨w.heap.size + 1, 0, none⟩ = some (.int .i64 r.gen) ∧ wz.cell? ⟨w.heap.size + 1, 1, none⟩ = some (.bool false) ∧ wz.cell? ⟨w.heap.size + 1, 2, none⟩ = some (.int .i64 0) ∧ wz.cell? ⟨w.heap.size + 1, 3, none⟩ = some (.int .i64 0)) := ⟨c0, c1, c2, c3⟩
  have HW : Hid ((w.alloc (.cells #[.int .i64 r.gen, .bool r.live, .int .i64 r.kind, .int .i64 r.pl] 57)).alloc (.cells #[.int .i64 r.gen, .bool false, .int .i64 0, .int .i64 0] 57) = wz) := hwz
  clear QZ c0 c1 c2 c3 hwz
  go_enter Tryz.func157, Tryz.ntmps157
  go_wp2
  rw [HW.out]
  obtain ⟨c0, c1, c2, c3⟩ := CZ.out
  refine bodyPost_ret (v := .agg #[.int .i64 r.gen, .bool false, .int .i64 0, .int .i64 0]) (by simp [results, Tryz.results157, go_sem, c0, c1, c2, c3]) rfl ⟨rfl, BZ.out⟩
theorem drop_ok (B b : Nat) (a : Option Addr) (c n : Nat) (L : List HRw) (h i : Nat) (w : World) (hC : Ct w B b a c n L) (hh : h < 18446744073709551616) (hi : LvAt L h i) :
    Calls Tryz.prog 95 #[.pointer (some ⟨b, 0, none⟩), .int .u64 (h : Nat)] w fun e w' => e = .returned (.int .i64 0) ∧ Ct w' B b a c n (dropL L i) ∧ Tu (Mine b a) w w' := by
  obtain ⟨g, rfl, hgb, hgs, k0, k1, k2, k3⟩ := hC.row.cells i hi.lt
  have HC : Hid (Ct w B b (some ⟨g, 0, none⟩) c n L) := hC
  have HI : Hid (LvAt L h i) := hi
  obtain ⟨x, hx⟩ : ∃ x, (L[i]'hi.lt) = x := ⟨_, rfl⟩
  have F : Hid (∀ w1, Below w.heap.size w w1 → Ct (set4 w1 g i ⟨x.gen, false, 0, 0⟩) B b (some ⟨g, 0, none⟩) c n (dropL L i) ∧ Tu (Mine b (some ⟨g, 0, none⟩)) w (set4 w1 g i ⟨x.gen, false, 0, 0⟩)) := fun w1 hb => by
    have hd := hC.gd.drop hi.lt hi.live
    rw [dropL_eq hi.lt, hx] at hd ⊢
    have q := (hC.keep hb).turned (set4_only w1 g i ⟨x.gen, false, 0, 0⟩) ((hC.keep hb).row.set4 i hi.lt _) (by rw [List.length_set]) hd
    exact ⟨q.1, (Tu.ofBelow hb).trans q.2⟩
  have T : Hid (∀ w1 j, Below w.heap.size w w1 → w1.frozen? ⟨g, j, none⟩ = false) := fun w1 j hb => (hC.keep hb).row.thawed j
  have KK : Hid (∀ w1 j, Below w.heap.size w w1 → w1.cell? ⟨g, j, none⟩ = w.cell? ⟨g, j, none⟩) := fun w1 j hb => hb.cell (p := ⟨g, j, none⟩) hgs
  rw [hx] at k0 k1 k2 k3
  clear hx hC hi
  go_enter Tryz.func95, Tryz.ntmps95
  go_wp2_with (first
    | (go_at_call 151; refine (find_ok B b _ c n L h i _ HC.out hh HI.out).mono ?_; rintro e w1 ⟨g1, e1, rfl, rfl⟩; (obtain rfl : g = g1 := by cases e1; rfl))
    | (go_at_call 157; refine (ended_any x _).mono ?_; rintro e w1 ⟨rfl, b1⟩; have B1 : Hid (Below w.heap.size w w1) := b1; have t0 := T.out w1 (i * 4) b1; have t1 := T.out w1 (i * 4 + 1) b1; have t2 := T.out w1 (i * 4 + 2) b1; have t3 := T.out w1 (i * 4 + 3) b1; have j0 := (KK.out w1 (i * 4) b1).trans k0; have j1 := (KK.out w1 (i * 4 + 1) b1).trans k1; have j2 := (KK.out w1 (i * 4 + 2) b1).trans k2; have j3 := (KK.out w1 (i * 4 + 3) b1).trans k3; clear b1))
  go_ret
  exact ⟨rfl, F.out w1 B1.out⟩
end Go.Proofs.YtgdjlopnhecmjaaGreatDoor

/- Layer 15: HdF again -/
namespace Go.Proofs.YtgdjlopnhecmjaaGreatDoor
open Go.RowKit
set_option linter.unusedVariables false
set_option maxRecDepth 4000
instance (r : HRw) : Decidable (okR r) := by unfold okR; infer_instance
def wrB (r : HRw) : Bool := !decide (okR r)
/-- The first wrong one. -/
def wxL (l : List HRw) : Nat := l.findIdx wrB
theorem wx_le (l : List HRw) : wxL l ≤ l.length := List.findIdx_le_length
theorem wx_at {l : List HRw} (h : wxL l < l.length) : wrB (l[wxL l]) = true := List.findIdx_getElem (p := wrB) (w := h)
theorem wx_no {l : List HRw} {i : Nat} (h : i < wxL l) : wrB (l[i]'(Nat.lt_of_lt_of_le h (wx_le l))) = false := by
  have := List.not_of_lt_findIdx (p := wrB) h
  simpa using this
theorem wx_eq {l : List HRw} {i : Nat} (hi : i < l.length) (h1 : wrB l[i] = true) (h2 : ∀ j (hj : j < i), wrB (l[j]'(by omega)) = false) : wxL l = i := by
  rcases Nat.lt_trichotomy (wxL l) i with h | h | h
  · have := h2 _ h
    rw [wx_at (by omega)] at this
    cases this
  · exact h
  · have := wx_no h
    rw [h1] at this
    cases this
theorem wx_none {l : List HRw} (h : ∀ j (hj : j < l.length), wrB l[j] = false) : wxL l = l.length := by
  rcases Nat.lt_or_ge (wxL l) l.length with k | k
  · have := h _ k
    rw [wx_at k] at this
    cases this
  · have := wx_le l
    omega

set_option maxHeartbeats 2000000 in
theorem wrong_any (r : HRw) (w : World) :
    Calls Tryz.prog 203 #[.agg #[.int .i64 r.gen, .bool r.live, .int .i64 r.kind, .int .i64 r.pl]] w fun e w' => e = .returned (.bool (wrB r)) ∧ Below w.heap.size w w' := by
  obtain ⟨g, lv, k, p⟩ := r
  have BZ : Hid (Below w.heap.size w (w.alloc (.cells #[.int .i64 g, .bool lv, .int .i64 k, .int .i64 p] 57))) := (Below.refl _ w).alloc (Nat.le_refl _) _
  cases lv with
  | true =>
    by_cases h1 : g < 1
    · have e : wrB ⟨g, true, k, p⟩ = true := by simp [wrB, okR]; omega
      rw [e]
      go_enter Tryz.func203, Tryz.ntmps203
      go_wp2
      go_ret
      exact ⟨rfl, BZ.out⟩
    · by_cases h2 : 65535 < g
      · have e : wrB ⟨g, true, k, p⟩ = true := by simp [wrB, okR]; omega
        rw [e]
        go_enter Tryz.func203, Tryz.ntmps203
        go_wp2
        go_ret
        exact ⟨rfl, BZ.out⟩
      · have e : wrB ⟨g, true, k, p⟩ = false := by simp [wrB, okR]; omega
        rw [e]
        go_enter Tryz.func203, Tryz.ntmps203
        go_wp2
        go_ret
        exact ⟨rfl, BZ.out⟩
  | false =>
    obtain ⟨wz, hwz⟩ : ∃ wz, w.alloc (.cells #[.int .i64 g, .bool false, .int .i64 k, .int .i64 p] 57) = wz := ⟨_, rfl⟩
    rw [hwz] at BZ
    have QZ : wz.heap[w.heap.size]? = some (.cells #[.int .i64 g, .bool false, .int .i64 k, .int .i64 p] 57 (0, 0)) := by rw [← hwz]; exact Go.heap_alloc_new w _
    have hz : wz.heap.size = w.heap.size + 1 := by rw [← hwz]; simp
    have c0 : wz.cell? ⟨w.heap.size, 0, none⟩ = some (.int .i64 g) := cell_of_row wz _ 0 _ _ _ QZ
    have c1 : wz.cell? ⟨w.heap.size, 1, none⟩ = some (.bool false) := cell_of_row wz _ 1 _ _ _ QZ
    have c2 : wz.cell? ⟨w.heap.size, 2, none⟩ = some (.int .i64 k) := cell_of_row wz _ 2 _ _ _ QZ
    have c3 : wz.cell? ⟨w.heap.size, 3, none⟩ = some (.int .i64 p) := cell_of_row wz _ 3 _ _ _ QZ
    have KK : Hid (∀ w1 j, Below wz.heap.size wz w1 → w1.cell? ⟨w.heap.size, j, none⟩ = wz.cell? ⟨w.heap.size, j, none⟩) := fun w1 j hb => hb.cell (p := ⟨w.heap.size, j, none⟩) (by show w.heap.size < _; omega)
    clear QZ
    by_cases h1 : g < 0
    · have e : wrB ⟨g, false, k, p⟩ = true := by simp [wrB, okR]; omega
      rw [e]
      have d1 : decide (g < 0) = true := decide_eq_true h1
      go_enter Tryz.func203, Tryz.ntmps203
      go_wp2_with fail
      go_quiet (fail)
      go_wp2
      go_ret
      exact ⟨rfl, ⟨BZ.out.os, BZ.out.tape, BZ.out.output, BZ.out.size, BZ.out.block⟩⟩
    · have d1 : decide (g < 0) = false := decide_eq_false h1
      by_cases h2 : 65535 < g
      · have e : wrB ⟨g, false, k, p⟩ = true := by simp [wrB, okR]; omega
        rw [e]
        have d2 : decide (65535 < g) = true := decide_eq_true h2
        go_enter Tryz.func203, Tryz.ntmps203
        go_wp2_with fail
        go_quiet (fail)
        go_wp2
        go_ret
        exact ⟨rfl, ⟨BZ.out.os, BZ.out.tape, BZ.out.output, BZ.out.size, BZ.out.block⟩⟩
      · have d2 : decide (65535 < g) = false := decide_eq_false h2
        by_cases h3 : k = 0
        · subst h3
          by_cases h4 : p = 0
          · subst h4
            have e : wrB ⟨g, false, 0, 0⟩ = false := by simp [wrB, okR]; omega
            rw [e]
            go_enter Tryz.func203, Tryz.ntmps203
            go_wp2_with fail
            go_region_held3 (fun w' => w'.cell? ⟨w.heap.size, 0, none⟩ = some (.int .i64 g) ∧ w'.cell? ⟨w.heap.size, 1, none⟩ = some (.bool false) ∧ w'.cell? ⟨w.heap.size, 2, none⟩ = some (.int .i64 0) ∧ w'.cell? ⟨w.heap.size, 3, none⟩ = some (.int .i64 0)) (first | assumption | exact ⟨by assumption, by assumption, by assumption, by assumption⟩ | go_keep) ((go_at_call 157; refine (ended_any ⟨g, false, 0, 0⟩ _).mono ?_; rintro e w1 ⟨rfl, b1⟩; have B1 : Hid (Below w.heap.size w w1) := BZ.out.trans (Below.mono ⟨b1.os, b1.tape, b1.output, b1.size, b1.block⟩ BZ.out.size); have j0 : w1.cell? ⟨w.heap.size, 0, none⟩ = some (.int .i64 g) := (KK.out w1 0 ⟨b1.os, b1.tape, b1.output, b1.size, b1.block⟩).trans c0; have j1 : w1.cell? ⟨w.heap.size, 1, none⟩ = some (.bool false) := (KK.out w1 1 ⟨b1.os, b1.tape, b1.output, b1.size, b1.block⟩).trans c1; have j2 : w1.cell? ⟨w.heap.size, 2, none⟩ = some (.int .i64 0) := (KK.out w1 2 ⟨b1.os, b1.tape, b1.output, b1.size, b1.block⟩).trans c2; have j3 : w1.cell? ⟨w.heap.size, 3, none⟩ = some (.int .i64 0) := (KK.out w1 3 ⟨b1.os, b1.tape, b1.output, b1.size, b1.block⟩).trans c3; clear b1))
            go_wp2
            go_ret
            exact ⟨rfl, B1.out⟩
          · have e : wrB ⟨g, false, 0, p⟩ = true := by simp [wrB, okR]; omega
            rw [e]
            go_enter Tryz.func203, Tryz.ntmps203
            go_wp2_with fail
            go_region_held3 (fun w' => w'.cell? ⟨w.heap.size, 0, none⟩ = some (.int .i64 g) ∧ w'.cell? ⟨w.heap.size, 1, none⟩ = some (.bool false) ∧ w'.cell? ⟨w.heap.size, 2, none⟩ = some (.int .i64 0) ∧ w'.cell? ⟨w.heap.size, 3, none⟩ = some (.int .i64 p)) (first | assumption | exact ⟨by assumption, by assumption, by assumption, by assumption⟩ | go_keep) ((go_at_call 157; refine (ended_any ⟨g, false, 0, p⟩ _).mono ?_; rintro e w1 ⟨rfl, b1⟩; have B1 : Hid (Below w.heap.size w w1) := BZ.out.trans (Below.mono ⟨b1.os, b1.tape, b1.output, b1.size, b1.block⟩ BZ.out.size); have j0 : w1.cell? ⟨w.heap.size, 0, none⟩ = some (.int .i64 g) := (KK.out w1 0 ⟨b1.os, b1.tape, b1.output, b1.size, b1.block⟩).trans c0; have j1 : w1.cell? ⟨w.heap.size, 1, none⟩ = some (.bool false) := (KK.out w1 1 ⟨b1.os, b1.tape, b1.output, b1.size, b1.block⟩).trans c1; have j2 : w1.cell? ⟨w.heap.size, 2, none⟩ = some (.int .i64 0) := (KK.out w1 2 ⟨b1.os, b1.tape, b1.output, b1.size, b1.block⟩).trans c2; have j3 : w1.cell? ⟨w.heap.size, 3, none⟩ = some (.int .i64 p) := (KK.out w1 3 ⟨b1.os, b1.tape, b1.output, b1.size, b1.block⟩).trans c3; clear b1))
            go_wp2
            go_ret
            exact ⟨rfl, B1.out⟩
        · have e : wrB ⟨g, false, k, p⟩ = true := by simp [wrB, okR]; omega
          rw [e]
          go_enter Tryz.func203, Tryz.ntmps203
          go_wp2_with fail
          go_region_held3 (fun w' => w'.cell? ⟨w.heap.size, 0, none⟩ = some (.int .i64 g) ∧ w'.cell? ⟨w.heap.size, 1, none⟩ = some (.bool false) ∧ w'.cell? ⟨w.heap.size, 2, none⟩ = some (.int .i64 k) ∧ w'.cell? ⟨w.heap.size, 3, none⟩ = some (.int .i64 p)) (first | assumption | exact ⟨by assumption, by assumption, by assumption, by assumption⟩ | go_keep) ((go_at_call 157; refine (ended_any ⟨g, false, k, p⟩ _).mono ?_; rintro e w1 ⟨rfl, b1⟩; have B1 : Hid (Below w.heap.size w w1) := BZ.out.trans (Below.mono ⟨b1.os, b1.tape, b1.output, b1.size, b1.block⟩ BZ.out.size); have j0 : w1.cell? ⟨w.heap.size, 0, none⟩ = some (.int .i64 g) := (KK.out w1 0 ⟨b1.os, b1.tape, b1.output, b1.size, b1.block⟩).trans c0; have j1 : w1.cell? ⟨w.heap.size, 1, none⟩ = some (.bool false) := (KK.out w1 1 ⟨b1.os, b1.tape, b1.output, b1.size, b1.block⟩).trans c1; have j2 : w1.cell? ⟨w.heap.size, 2, none⟩ = some (.int .i64 k) := (KK.out w1 2 ⟨b1.os, b1.tape, b1.output, b1.size, b1.block⟩).trans c2; have j3 : w1.cell? ⟨w.heap.size, 3, none⟩ = some (.int .i64 p) := (KK.out w1 3 ⟨b1.os, b1.tape, b1.output, b1.size, b1.block⟩).trans c3; clear b1))
          go_wp2
          go_ret
          exact ⟨rfl, B1.out⟩
set_option maxHeartbeats 1000000 in
theorem iw_any (a : Option Addr) (c : Nat) (xs : List HRw) (w : World) (h : IsW w a xs) (hx : xs.length ≤ 1000000) (R : Int) (hR : (if wxL xs < xs.length then ((wxL xs : Nat) : Int) else -1) = R) :
    Calls Tryz.prog 190 #[.slice a xs.length c, .func (.func 203) #[] #[]] w fun e w' => Below w.heap.size w w' ∧ e = .returned (.int .i64 R) := by
  have HR : Hid ((if wxL xs < xs.length then ((wxL xs : Nat) : Int) else -1) = R) := hR
  clear hR
  have H : Hid (IsW w a xs) := h
  have B0 : Hid (Below w.heap.size w w) := Below.refl _ _
  clear h
  go_enter Tryz.func190, Tryz.ntmps190
  go_wp2
  go_loopw [8] (fun iv wr => ∃ i : Nat, i ≤ xs.length ∧ iv = .int .i64 (i : Nat) ∧ (∀ j (hj : j < i) (hj' : j < xs.length), wrB xs[j] = false) ∧ Below w.heap.size w wr) (fun iv _ => xs.length - (intOf iv).toNat)
  case atStart => exact ⟨0, Nat.zero_le _, rfl, fun j hj => by omega, B0.out⟩
  case round =>
    obtain ⟨i, hi, rfl, hA, hB⟩ := hrel
    rename World => wr
    have HA : Hid (∀ j (hj : j < i) (hj' : j < xs.length), wrB xs[j] = false) := hA
    have HB : Hid (Below w.heap.size w wr) := hB
    by_cases hlt : i < xs.length
    · rcases H.out.keep hB with e | ⟨b, off, rfl, hb, hc⟩
      · rw [e] at hlt; simp at hlt
      · obtain ⟨c0, c1, c2, c3⟩ := hc i hlt
        obtain ⟨x, hx'⟩ : ∃ x, xs[i] = x := ⟨_, rfl⟩
        have EX : Hid (xs[i] = x) := hx'
        rw [hx'] at c0 c1 c2 c3
        clear hA hB hx' hc
        have hlt' : (i : Int) < xs.length := by omega
        cases hz : wrB x with
        | true =>
          have EZ : Hid (wrB x = true) := hz
          have EN : Hid ((if wxL xs < xs.length then ((wxL xs : Nat) : Int) else -1) = (i : Nat)) := by
            have := wx_eq hlt (by rw [EX.out]; exact hz) (fun j hj => HA.out j hj (by omega))
            show _ = _
            rw [this, if_pos hlt]
          clear hz
          go_wp2_with (go_at_call 203; refine (wrong_any x _).mono ?_; rw [EZ.out]; rintro e w1 ⟨rfl, b9⟩; have B9 : Hid (Below w.heap.size w w1) := HB.out.trans (b9.mono HB.out.size); clear b9)
          go_ret
          exact ⟨B9.out, ret_int (EN.out.symm.trans HR.out)⟩
        | false =>
          have EZ : Hid (wrB x = false) := hz
          clear hz
          go_wp2_with (go_at_call 203; refine (wrong_any x _).mono ?_; rw [EZ.out]; rintro e w1 ⟨rfl, b9⟩; have B9 : Hid (Below w.heap.size w w1) := HB.out.trans (b9.mono HB.out.size); clear b9)
          go_roundw
          case rel =>
            refine ⟨i + 1, by omega, by go_num, fun j hj hj' => ?_, B9.out⟩
            rcases Nat.lt_or_ge j i with k | k
            · exact HA.out j k hj'
            · obtain rfl : j = i := by omega
              rw [EX.out]; exact EZ.out
          case measure => simp [intOf]; omega
    · obtain rfl : i = xs.length := by omega
      have EN : Hid ((if wxL xs < xs.length then ((wxL xs : Nat) : Int) else -1) = -1) := by
        have := wx_none (fun j hj => HA.out j hj hj)
        show _ = _
        rw [this, if_neg (by omega)]
      clear hA hB
      go_wp2
      go_ret
      exact ⟨HB.out, ret_int (EN.out.symm.trans HR.out)⟩


end Go.Proofs.YtgdjlopnhecmjaaGreatDoor

/- Layer 15: HdG again -/
namespace Go.Proofs.YtgdjlopnhecmjaaGreatDoor
open Go.RowKit
set_option linter.unusedVariables false
set_option maxRecDepth 4000
theorem contains_any (a : Option Addr) (c : Nat) (xs : List HRw) (w : World) (h : IsW w a xs) (hx : xs.length ≤ 1000000) :
    Calls Tryz.prog 202 #[.slice a xs.length c, .func (.func 203) #[] #[]] w fun e w' => e = .returned (.bool (decide (wxL xs < xs.length))) ∧ Below w.heap.size w w' := by
  have H : Hid (IsW w a xs) := h
  clear h
  by_cases hlt : wxL xs < xs.length
  · have E : Hid ((if wxL xs < xs.length then ((wxL xs : Nat) : Int) else -1) = (wxL xs : Nat)) := if_pos hlt
    rw [decide_eq_true hlt]
    have h0 : ((wxL xs : Nat) : Int) ≥ 0 := by omega
    go_enter Tryz.func202, Tryz.ntmps202
    go_wp2_with (go_at_call 190; refine (iw_any a c xs _ H.out hx _ E.out).mono ?_; rintro e w1 ⟨b1, rfl⟩; have B1 : Hid (Below w.heap.size w w1) := b1; clear b1)
    go_ret
    exact ⟨rfl, B1.out⟩
  · have E : Hid ((if wxL xs < xs.length then ((wxL xs : Nat) : Int) else -1) = -1) := if_neg hlt
    rw [decide_eq_false hlt]
    go_enter Tryz.func202, Tryz.ntmps202
    go_wp2_with (go_at_call 190; refine (iw_any a c xs _ H.out hx _ E.out).mono ?_; rintro e w1 ⟨b1, rfl⟩; have B1 : Hid (Below w.heap.size w w1) := b1; clear b1)
    go_ret
    exact ⟨rfl, B1.out⟩
/-- Is the last row that of an index that was never given out? -/
def endB (xs : List HRw) : Bool := match xs.getLast? with
  | some r => decide (r.gen = 0 ∧ r.live = false ∧ r.kind = 0 ∧ r.pl = 0)
  | none => false
theorem endB_at {xs : List HRw} (h : 0 < xs.length) : endB xs = decide ((xs[xs.length - 1]'(by omega)).gen = 0 ∧ (xs[xs.length - 1]'(by omega)).live = false ∧ (xs[xs.length - 1]'(by omega)).kind = 0 ∧ (xs[xs.length - 1]'(by omega)).pl = 0) := by
  unfold endB
  rw [List.getLast?_eq_getElem?, List.getElem?_eq_getElem (by omega)]

set_option maxHeartbeats 2000000 in
theorem ends_any (a : Option Addr) (c : Nat) (xs : List HRw) (w : World) (h : IsW w a xs) (hx : xs.length ≤ 1000000) :
    Calls Tryz.prog 204 #[.slice a xs.length c] w fun e w' => e = .returned (.bool (endB xs)) ∧ w = w' := by
  rcases Nat.eq_zero_or_pos xs.length with h0 | h0
  · obtain rfl := List.eq_nil_of_length_eq_zero h0
    rw [show endB [] = false from rfl]
    clear h h0 hx
    simp only [List.length_nil]
    go_enter Tryz.func204, Tryz.ntmps204
    go_wp2
    go_ret
    exact ⟨rfl, rfl⟩
  · rw [endB_at h0]
    rcases h with e | ⟨b, off, rfl, hb, hc⟩
    · rw [e] at h0; simp at h0
    · obtain ⟨c0, c1, c2, c3⟩ := hc (xs.length - 1) (by omega)
      obtain ⟨⟨g, lv, k, p⟩, hx'⟩ : ∃ x, xs[xs.length - 1]'(by omega) = x := ⟨_, rfl⟩
      rw [hx'] at c0 c1 c2 c3 ⊢
      clear hc hx'
      obtain ⟨l, hl⟩ : ∃ l, xs.length = l := ⟨_, rfl⟩
      rw [hl] at c0 c1 c2 c3 hx h0 ⊢
      clear hl
      simp only at c0 c1 c2 c3 ⊢
      obtain ⟨m, rfl⟩ : ∃ m, l = m + 1 := ⟨l - 1, by omega⟩
      simp only [Nat.add_sub_cancel] at c0 c1 c2 c3
      have e1 : (((m + 1 : Nat) : Int) - 1) = (m : Int) := by omega
      have e2 : ((m + 1 : Nat) : Int) > 0 := by omega
      have e3 : (m : Int) < ((m + 1 : Nat) : Int) := by omega
      by_cases h1 : g = 0
      · cases lv with
        | true =>
          rw [decide_eq_false (by simp)]
          go_enter Tryz.func204, Tryz.ntmps204
          go_wp2
          go_ret
          exact ⟨ret_bool (by simp), rfl⟩
        | false =>
          by_cases h2 : k = 0
          · by_cases h3 : p = 0
            · rw [decide_eq_true (by simp [h1, h2, h3])]
              subst h1 h2 h3
              go_enter Tryz.func204, Tryz.ntmps204
              go_wp2
              go_ret
              exact ⟨ret_bool (by simp), rfl⟩
            · rw [decide_eq_false (by simp [h3])]
              go_enter Tryz.func204, Tryz.ntmps204
              go_wp2
              go_ret
              exact ⟨ret_bool (by simp), rfl⟩
          · rw [decide_eq_false (by simp [h2])]
            go_enter Tryz.func204, Tryz.ntmps204
            go_wp2
            go_ret
            exact ⟨ret_bool (by simp), rfl⟩
      · rw [decide_eq_false (by simp [h1])]
        go_enter Tryz.func204, Tryz.ntmps204
        go_wp2
        go_ret
        exact ⟨ret_bool (by simp), rfl⟩

/-- Which rows may be a table's. -/
theorem gd_iff {n : Nat} {xs : List HRw} (h1 : 1 ≤ n) (h2 : n ≤ 4096) : Gd n xs ↔ xs.length ≤ n ∧ ¬ wxL xs < xs.length ∧ endB xs = false := by
  constructor
  · intro h
    refine ⟨h.len, fun hlt => ?_, ?_⟩
    · have := wx_at hlt
      simp [wrB] at this
      exact this (h.at hlt)
    · unfold endB
      cases e : xs.getLast? with
      | none => rfl
      | some r => exact decide_eq_false (fun q => h.last r e q.1)
  · rintro ⟨q1, q2, q3⟩
    have ok : ∀ r ∈ xs, okR r := fun r hr => by
      obtain ⟨j, hj, rfl⟩ := List.mem_iff_getElem.1 hr
      have e := wx_le xs
      have := wx_no (l := xs) (i := j) (by omega)
      simpa [wrB] using this
    refine ⟨h1, h2, q1, ok, fun r hr hz => ?_⟩
    unfold endB at q3
    rw [hr] at q3
    have o := ok r (List.mem_of_getLast? hr)
    have hl : r.live = false := by
      cases e : r.live with
      | false => rfl
      | true => have := o.2.2.1 e; omega
    have := of_decide_eq_false q3
    exact this ⟨hz, hl, (o.2.2.2 hl).1, (o.2.2.2 hl).2⟩

theorem clone_nil (n c : Nat) (w : World) :
    Calls Tryz.prog 115 #[.slice none n c] w fun e w' => e = .returned (.slice none 0 0) ∧ w = w' := by
  have q : ∀ (w : World) (a : Option Addr) (n c n' c' : Nat), (binOp .eql 51 (.slice a n c) (.slice none n' c')).run Tryz.prog w = .ok (.bool a.isNone) w := fun w a n c n' c' => Lib.run_eql_slice_nil w _ _ a n c n' c' Tryz.undRows
  go_enter Tryz.func115, Tryz.ntmps115
  go_wp2
  go_ret
  exact ⟨rfl, rfl⟩
theorem Ow.made (w : World) (B : Nat) (hB : B ≤ w.heap.size) : Ow (w.alloc (.cells #[] 57)) B (some ⟨w.heap.size, 0, none⟩) [] 0 := World.ownsRow_made w #[] 0 hB (Nat.zero_le _) rfl
theorem addr_spot {a : Addr} (h : a.spot = none) : a = ⟨a.block, a.off, none⟩ := by cases a; cases h; rfl
/-- The rows are cloned into a row of one's own. -/
theorem clone_at (b off c : Nat) (l : List HRw) (w : World)
    (hq : ∀ i (hi : i < l.length), w.cell? ⟨b, off + i * 4, none⟩ = some (.int .i64 l[i].gen) ∧ w.cell? ⟨b, off + i * 4 + 1, none⟩ = some (.bool l[i].live) ∧ w.cell? ⟨b, off + i * 4 + 2, none⟩ = some (.int .i64 l[i].kind) ∧ w.cell? ⟨b, off + i * 4 + 3, none⟩ = some (.int .i64 l[i].pl)) (hl : l.length ≤ 4398046511104) :
    Calls Tryz.prog 115 #[.slice (some ⟨b, off, none⟩) l.length c] w fun e w' => ∃ a' c', e = .returned (.slice a' l.length c') ∧ Ow w' w.heap.size a' l c' ∧ Below w.heap.size w w' := by
  have q : ∀ (w : World) (a : Option Addr) (n c n' c' : Nat), (binOp .eql 51 (.slice a n c) (.slice none n' c')).run Tryz.prog w = .ok (.bool a.isNone) w := fun w a n c n' c' => Lib.run_eql_slice_nil w _ _ a n c n' c' Tryz.undRows
  obtain ⟨a', c', w', hrun, o, u, _⟩ := happW_run 51 w.heap.size (w.alloc (.cells #[] 57)) (by simp) (some ⟨w.heap.size, 0, none⟩) [] 0 (Ow.made w _ (Nat.le_refl _)) b off l c (fun i hi => by
    obtain ⟨k0, k1, k2, k3⟩ := hq i hi
    exact ⟨Lib.cell?_alloc_some _ k0, Lib.cell?_alloc_some _ k1, Lib.cell?_alloc_some _ k2, Lib.cell?_alloc_some _ k3⟩) (by simpa using hl)
  simp only [List.length_nil, Nat.zero_add, List.nil_append] at hrun o
  have O : Hid (Ow w' w.heap.size a' l c') := o
  have B : Hid (Below w.heap.size w w') := ((Below.refl _ w).alloc (Nat.le_refl _) _).trans (u.below (fun i hi => by have := Option.some.inj hi; have : w.heap.size = i := this; omega) (by simp))
  clear hq o u
  go_enter Tryz.func115, Tryz.ntmps115
  go_wp2_with (at_builtin; refine hstep_app rfl 51 _ _ rfl (.slice (some ⟨w.heap.size, 0, none⟩) 0 0) (.slice (some ⟨b, off, none⟩) l.length c) (.slice a' l.length c') w' rfl rfl hrun ?_)
  go_ret
  exact ⟨a', c', rfl, O.out, B.out⟩
theorem clone_any (a : Option Addr) (c : Nat) (l : List HRw) (w : World) (h : IsW w a l) (hnil : a = none → l = [] ∧ c = 0) (hs : ∀ ad, a = some ad → ad.spot = none) (hl : l.length ≤ 4398046511104) :
    Calls Tryz.prog 115 #[.slice a l.length c] w fun e w' => ∃ a' c', e = .returned (.slice a' l.length c') ∧ Ow w' w.heap.size a' l c' ∧ Below w.heap.size w w' := by
  rcases a with _ | ad
  · obtain ⟨rfl, rfl⟩ := hnil rfl
    refine (clone_nil _ _ w).mono ?_
    rintro e w' ⟨rfl, rfl⟩
    exact ⟨none, 0, rfl, Ow.nil _ _, Below.refl _ _⟩
  · have e := addr_spot (hs ad rfl)
    rw [e] at h ⊢
    refine clone_at ad.block ad.off c l w ?_ hl
    rcases h with rfl | ⟨b, off, e, _, hc⟩
    · intro i hi; simp at hi
    · cases e; exact hc
theorem Ow.spot {w : World} {B : Nat} {a : Option Addr} {L : List HRw} {c : Nat} (h : Ow w B a L c) : ∀ ad, a = some ad → ad.spot = none := by
  intro ad e
  obtain ⟨_, ⟨h1, _⟩ | ⟨g', c', cur, h1, _, h2, _⟩⟩ := h
  · subst e; cases h1
  · subst e; cases h1; rfl
theorem rows_any (B b : Nat) (a : Option Addr) (c n : Nat) (L : List HRw) (w : World) (h : Ct w B b a c n L) :
    Calls Tryz.prog 53 #[.pointer (some ⟨b, 0, none⟩)] w fun e w' => ∃ a' c', e = .returned (.slice a' L.length c') ∧ Ow w' w.heap.size a' L c' ∧ Below w.heap.size w w' := by
  have H : Hid (Ct w B b a c n L) := h
  have c1 := h.cell1
  have hl := h.len
  clear h
  go_enter Tryz.func53, Tryz.ntmps53
  go_wp2_with (go_at_call 115; refine (clone_any a c L _ H.out.row.isW (fun e => by have q := H.out.row; subst e; exact q.no) H.out.row.spot (by omega)).mono ?_; rintro e w1 ⟨a', c', rfl, o1, b1⟩; have O1 : Hid (Ow w1 w.heap.size a' L c') := o1; have B1 : Hid (Below w.heap.size w w1) := b1; clear o1 b1)
  go_ret
  exact ⟨_, _, rfl, O1.out, B1.out⟩
end Go.Proofs.YtgdjlopnhecmjaaGreatDoor
