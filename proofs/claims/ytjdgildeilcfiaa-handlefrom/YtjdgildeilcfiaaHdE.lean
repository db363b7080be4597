/- What find, Get, Put and Drop answer. -/
import Derived.Test.YtjdgildeilcfiaaHdD
namespace Go.Proofs.Ytjdgildeilcfiaa
open Go.RowKit
set_option linter.unusedVariables false

theorem find_nil (h : Int) (w : World) : Calls Try.prog 38 #[.pointer none, .int .u64 h] w fun e w' => e = .returned (.tuple #[.pointer none, .int .i64 1]) ∧ w = w' := by
  go_enter Try.func38, Try.ntmps38
  go_wp2
  go_ret2
  exact ⟨rfl, rfl⟩

set_option maxHeartbeats 2000000 in
theorem find_ok (B b : Nat) (a : Option Addr) (c n : Nat) (L : List Rw) (h i : Nat) (w : World) (hC : Ct w B b a c n L) (hh : h < 18446744073709551616) (hi : LvAt L h i) :
    Calls Try.prog 38 #[.pointer (some ⟨b, 0, none⟩), .int .u64 (h : Nat)] w fun e w' => ∃ g, a = some ⟨g, 0, none⟩ ∧ e = .returned (.tuple #[.pointer (some ⟨g, i * 4, none⟩), .int .i64 0]) ∧ w = w' := by
  have hl := hC.len
  have hil := hi.lt
  have h1 := hi.live
  have h2 := hi.gen
  have h3 : h % 65536 = i + 1 := hi.choose_spec.2.2.2
  have c1 := hC.cell1
  obtain ⟨g, rfl, hgb, hgs, k0, k1, k2, k3⟩ := hC.row.cells i hil
  rw [h1] at k1
  rw [h2] at k0
  have hc := hC.row.len
  clear hC hi h1 h2
  obtain ⟨q, hq⟩ : ∃ q, h / 65536 = q := ⟨_, rfl⟩
  have hq2 : q < 281474976710656 := by omega
  rw [hq] at k0
  have e1 : ¬ (((i + 1 : Nat) : Int) < 1) := by omega
  have e2 : ¬ (((i + 1 : Nat) : Int) > (L.length : Int)) := by omega
  have e3 : (((i + 1 : Nat) : Int) - 1) = (i : Int) := by omega
  have e4 : (i : Int) < (L.length : Int) := by omega
  have e5 : IntKind.wrap .u64 (q : Nat) = (q : Nat) := by rw [IntKind.wrap_u64]; omega
  go_enter Try.func38, Try.ntmps38
  go_wp2_with (go_at_call 44; refine (apart_any h _ hh).mono ?_; rw [h3, hq]; rintro e w1 ⟨rfl, rfl⟩)
  go_ret2
  exact ⟨g, rfl, rfl, rfl⟩

set_option maxHeartbeats 4000000 in
theorem find_bad (B b : Nat) (a : Option Addr) (c n : Nat) (L : List Rw) (h : Nat) (w : World) (hC : Ct w B b a c n L) (hh : h < 18446744073709551616) (hi : ¬ ∃ i, LvAt L h i) :
    Calls Try.prog 38 #[.pointer (some ⟨b, 0, none⟩), .int .u64 (h : Nat)] w fun e w' => e = .returned (.tuple #[.pointer none, .int .i64 12]) ∧ w = w' := by
  have hl := hC.len
  have c1 := hC.cell1
  have hc := hC.row.len
  have HL : Hid (¬ ∃ i, LvAt L h i) := hi
  clear hi
  obtain ⟨q, hq⟩ : ∃ q, h / 65536 = q := ⟨_, rfl⟩
  obtain ⟨i, hi⟩ : ∃ i, h % 65536 = i := ⟨_, rfl⟩
  have hq2 : q < 281474976710656 := by omega
  have hi2 : i < 65536 := by omega
  by_cases h1 : i = 0
  · subst h1
    clear hC
    go_enter Try.func38, Try.ntmps38
    go_wp2_with (go_at_call 44; refine (apart_any h _ hh).mono ?_; rw [hi, hq]; rintro e w1 ⟨rfl, rfl⟩)
    go_ret2
    exact ⟨rfl, rfl⟩
  · have e1 : ¬ ((i : Int) < 1) := by omega
    by_cases h2 : L.length < i
    · have e2 : (i : Int) > (L.length : Int) := by omega
      clear hC
      go_enter Try.func38, Try.ntmps38
      go_wp2_with (go_at_call 44; refine (apart_any h _ hh).mono ?_; rw [hi, hq]; rintro e w1 ⟨rfl, rfl⟩)
      go_ret2
      exact ⟨rfl, rfl⟩
    · have e2 : ¬ ((i : Int) > (L.length : Int)) := by omega
      obtain ⟨j, rfl⟩ : ∃ j, i = j + 1 := ⟨i - 1, by omega⟩
      have hj : j < L.length := by omega
      obtain ⟨g, rfl, hgb, hgs, k0, k1, k2, k3⟩ := hC.row.cells j hj
      obtain ⟨o1, o2, _⟩ := hC.gd.at hj
      obtain ⟨x, hx⟩ : ∃ x, L[j] = x := ⟨_, rfl⟩
      have NL : ¬ (x.live = true ∧ x.gen = (q : Nat)) := fun e => HL.out ⟨j, lvAt_of hj (by rw [hx]; exact e.1) (by rw [hx, hq]; exact e.2) hi⟩
      rw [hx] at k0 k1 o1 o2
      have e3 : (((j + 1 : Nat) : Int) - 1) = (j : Int) := by omega
      have e4 : (j : Int) < (L.length : Int) := by omega
      clear hC k2 k3 hx
      obtain ⟨xg, xl, xk, xp⟩ := x
      simp only at k0 k1 o1 o2 NL
      have e5 : IntKind.wrap .u64 xg = xg := by rw [IntKind.wrap_u64]; omega
      cases xl with
      | false =>
        clear NL
        go_enter Try.func38, Try.ntmps38
        go_wp2_with (go_at_call 44; refine (apart_any h _ hh).mono ?_; rw [hi, hq]; rintro e w1 ⟨rfl, rfl⟩)
        go_ret2
        exact ⟨rfl, rfl⟩
      | true =>
        have e6 : ¬ (xg = (q : Nat)) := fun e => NL ⟨rfl, e⟩
        clear NL
        go_enter Try.func38, Try.ntmps38
        go_wp2_with (go_at_call 44; refine (apart_any h _ hh).mono ?_; rw [hi, hq]; rintro e w1 ⟨rfl, rfl⟩)
        go_ret2
        exact ⟨rfl, rfl⟩

theorem get_bad (B b : Nat) (a : Option Addr) (c n : Nat) (L : List Rw) (h : Nat) (w : World) (hC : Ct w B b a c n L) (hh : h < 18446744073709551616) (hi : ¬ ∃ i, LvAt L h i) :
    Calls Try.prog 23 #[.pointer (some ⟨b, 0, none⟩), .int .u64 (h : Nat)] w fun e w' => e = .returned (.tuple #[.int .i64 0, .int .i64 0, .int .i64 12]) ∧ w = w' := by
  go_enter Try.func23, Try.ntmps23
  go_wp2_with (go_at_call 38; refine (find_bad B b a c n L h _ hC hh hi).mono ?_; rintro e w1 ⟨rfl, rfl⟩)
  refine bodyPost_ret (v := .tuple #[.int .i64 0, .int .i64 0, .int .i64 12]) (by simp [results, Try.results23, go_sem]) rfl ⟨rfl, rfl⟩
theorem get_ok (B b : Nat) (a : Option Addr) (c n : Nat) (L : List Rw) (h i : Nat) (w : World) (hC : Ct w B b a c n L) (hh : h < 18446744073709551616) (hi : LvAt L h i) :
    Calls Try.prog 23 #[.pointer (some ⟨b, 0, none⟩), .int .u64 (h : Nat)] w fun e w' => e = .returned (.tuple #[.int .i64 (gtL L i).kind, .int .i64 (gtL L i).pl, .int .i64 0]) ∧ ∃ m, w' = w.drewN m := by
  obtain ⟨g, e0, hgb, hgs, k0, k1, k2, k3⟩ := hC.row.cells i hi.lt
  rw [gtL_eq hi.lt]
  obtain ⟨x, hx⟩ : ∃ x, (L[i]'hi.lt) = x := ⟨_, rfl⟩
  rw [hx] at k2 k3 ⊢
  clear hx k0 k1
  go_enter Try.func23, Try.ntmps23
  go_wp2_with (go_at_call 38; refine (find_ok B b a c n L h i _ hC hh hi).mono ?_; rintro e w1 ⟨g1, e1, rfl, rfl⟩; (obtain rfl : g = g1 := by rw [e0] at e1; cases e1; rfl))
  go_region_held3 (fun w' => w'.cell? ⟨g, i * 4 + 2, none⟩ = some (.int .i64 x.kind) ∧ w'.cell? ⟨g, i * 4 + 3, none⟩ = some (.int .i64 x.pl)) (first | assumption | exact ⟨by assumption, by assumption⟩ | go_keep) (fail)
  go_wp2
  refine bodyPost_ret (v := .tuple #[.int .i64 x.kind, .int .i64 x.pl, .int .i64 0]) (by simp [results, Try.results23, go_sem]) rfl ⟨rfl, _, rfl⟩
theorem put_bad (B b : Nat) (a : Option Addr) (c n : Nat) (L : List Rw) (h : Nat) (p : Int) (w : World) (hC : Ct w B b a c n L) (hh : h < 18446744073709551616) (hi : ¬ ∃ i, LvAt L h i) :
    Calls Try.prog 24 #[.pointer (some ⟨b, 0, none⟩), .int .u64 (h : Nat), .int .i64 p] w fun e w' => e = .returned (.int .i64 12) ∧ w = w' := by
  go_enter Try.func24, Try.ntmps24
  go_wp2_with (go_at_call 38; refine (find_bad B b a c n L h _ hC hh hi).mono ?_; rintro e w1 ⟨rfl, rfl⟩)
  go_ret
  exact ⟨rfl, rfl⟩
theorem Ct.turned {w w' : World} {B b g : Nat} {c n : Nat} {L L' : List Rw} (h : Ct w B b (some ⟨g, 0, none⟩) c n L) (ho : Only g w w') (hr : Ow w' B (some ⟨g, 0, none⟩) L' c) (hl : L'.length = L.length) (hg : Gd n L') : Ct w' B b (some ⟨g, 0, none⟩) c n L' ∧ Tu (Mine b (some ⟨g, 0, none⟩)) w w' :=
  ⟨⟨by rw [ho.block b (fun e => h.apart (by rw [e]; rfl)), h.box, hl], hr, hg, h.bb⟩, Tu.ofOnly ho (.inr rfl)⟩
theorem put_ok (B b : Nat) (a : Option Addr) (c n : Nat) (L : List Rw) (h i : Nat) (p : Int) (w : World) (hC : Ct w B b a c n L) (hh : h < 18446744073709551616) (hi : LvAt L h i) :
    Calls Try.prog 24 #[.pointer (some ⟨b, 0, none⟩), .int .u64 (h : Nat), .int .i64 p] w fun e w' => e = .returned (.int .i64 0) ∧ Ct w' B b a c n (putL L i p) ∧ Tu (Mine b a) w w' := by
  obtain ⟨g, rfl, hgb, hgs, k0, k1, k2, k3⟩ := hC.row.cells i hi.lt
  have t3 := hC.row.thawed (i * 4 + 3)
  have F : Hid (Ct (w.setCell ⟨g, i * 4 + 3, none⟩ (.int .i64 p)) B b (some ⟨g, 0, none⟩) c n (putL L i p) ∧ Tu (Mine b (some ⟨g, 0, none⟩)) w (w.setCell ⟨g, i * 4 + 3, none⟩ (.int .i64 p))) :=
    hC.turned (Only.set g _ _ w) (hC.row.set3 i hi.lt p) (by rw [putL_eq hi.lt, List.length_set]) (hC.gd.put hi.lt hi.live p)
  clear k0 k1 k2
  go_enter Try.func24, Try.ntmps24
  go_wp2_with (go_at_call 38; refine (find_ok B b _ c n L h i _ hC hh hi).mono ?_; rintro e w1 ⟨g1, e1, rfl, rfl⟩; (obtain rfl : g = g1 := by cases e1; rfl))
  go_ret
  exact ⟨rfl, F.out⟩
theorem drop_bad (B b : Nat) (a : Option Addr) (c n : Nat) (L : List Rw) (h : Nat) (w : World) (hC : Ct w B b a c n L) (hh : h < 18446744073709551616) (hi : ¬ ∃ i, LvAt L h i) :
    Calls Try.prog 22 #[.pointer (some ⟨b, 0, none⟩), .int .u64 (h : Nat)] w fun e w' => e = .returned (.int .i64 12) ∧ w = w' := by
  go_enter Try.func22, Try.ntmps22
  go_wp2_with (go_at_call 38; refine (find_bad B b a c n L h _ hC hh hi).mono ?_; rintro e w1 ⟨rfl, rfl⟩)
  go_ret
  exact ⟨rfl, rfl⟩
theorem ended_any (r : Rw) (w : World) :
    Calls Try.prog 39 #[.agg #[.int .i64 r.gen, .bool r.live, .int .i64 r.kind, .int .i64 r.pl]] w fun e w' => e = .returned (.agg #[.int .i64 r.gen, .bool false, .int .i64 0, .int .i64 0]) ∧ Below w.heap.size w w' := by
  obtain ⟨wz, hwz⟩ : ∃ wz, (w.alloc (.cells #[.int .i64 r.gen, .bool r.live, .int .i64 r.kind, .int .i64 r.pl] 44)).alloc (.cells #[.int .i64 r.gen, .bool false, .int .i64 0, .int .i64 0] 44) = wz := ⟨_, rfl⟩
  have BZ : Hid (Below w.heap.size w wz) := by show Below _ _ _; rw [← hwz]; exact ((Below.refl _ w).alloc (Nat.le_refl _) _).alloc (by simp) _
  have QZ : wz.heap[w.heap.size + 1]? = some (.cells #[.int .i64 r.gen, .bool false, .int .i64 0, .int .i64 0] 44 (0, 0)) := by
    rw [← hwz]
    have := Go.heap_alloc_new (w.alloc (.cells #[.int .i64 r.gen, .bool r.live, .int .i64 r.kind, .int .i64 r.pl] 44)) (.cells #[.int .i64 r.gen, .bool false, .int .i64 0, .int .i64 0] 44)
    rw [World.size_alloc] at this
    exact this
  have c0 := cell_of_row wz _ 0 _ _ _ QZ
  have c1 := cell_of_row wz _ 1 _ _ _ QZ
  have c2 := cell_of_row wz _ 2 _ _ _ QZ
  have c3 := cell_of_row wz _ 3 _ _ _ QZ
  simp at c0 c1 c2 c3
  have CZ : Hid (wz.cell? ⟨w.heap.size + 1, 0, none⟩ = some (.int .i64 r.gen) ∧ wz.cell? ⟨w.heap.size + 1, 1, none⟩ = some (.bool false) ∧ wz.cell? ⟨w.heap.size + 1, 2, none⟩ = some (.int .i64 0) ∧ wz.cell? ⟨w.heap.size + 1, 3, none⟩ = some (.int .i64 0)) := ⟨c0, c1, c2, c3⟩
  have HW : Hid ((w.alloc (.cells #[.int .i64 r.gen, .bool r.live, .int .i64 r.kind, .int .i64 r.pl] 44)).alloc (.cells #[.int .i64 r.gen, .bool false, .int .i64 0, .int .i64 0] 44) = wz) := hwz
  clear QZ c0 c1 c2 c3 hwz
  go_enter Try.func39, Try.ntmps39
  go_wp2
  rw [HW.out]
  obtain ⟨c0, c1, c2, c3⟩ := CZ.out
  refine bodyPost_ret (v := .agg #[.int .i64 r.gen, .bool false, .int .i64 0, .int .i64 0]) (by simp [results, Try.results39, go_sem, c0, c1, c2, c3]) rfl ⟨rfl, BZ.out⟩
theorem drop_ok (B b : Nat) (a : Option Addr) (c n : Nat) (L : List Rw) (h i : Nat) (w : World) (hC : Ct w B b a c n L) (hh : h < 18446744073709551616) (hi : LvAt L h i) :
    Calls Try.prog 22 #[.pointer (some ⟨b, 0, none⟩), .int .u64 (h : Nat)] w fun e w' => e = .returned (.int .i64 0) ∧ Ct w' B b a c n (dropL L i) ∧ Tu (Mine b a) w w' := by
  obtain ⟨g, rfl, hgb, hgs, k0, k1, k2, k3⟩ := hC.row.cells i hi.lt
  have HC : Hid (Ct w B b (some ⟨g, 0, none⟩) c n L) := hC
  have HI : Hid (LvAt L h i) := hi
  obtain ⟨x, hx⟩ : ∃ x, (L[i]'hi.lt) = x := ⟨_, rfl⟩
  have F : Hid (∀ w1, Below w.heap.size w w1 → Ct (set4 w1 g i ⟨x.gen, false, 0, 0⟩) B b (some ⟨g, 0, none⟩) c n (dropL L i) ∧ Tu (Mine b (some ⟨g, 0, none⟩)) w (set4 w1 g i ⟨x.gen, false, 0, 0⟩)) := fun w1 hb => by
    have hd := hC.gd.drop hi.lt hi.live
    rw [dropL_eq hi.lt, hx] at hd ⊢
    have q := (hC.keep hb).turned (set4_only w1 g i ⟨x.gen, false, 0, 0⟩) ((hC.keep hb).row.set4 i hi.lt _) (by rw [List.length_set]) hd
    exact ⟨q.1, (Tu.ofBelow hb).trans q.2⟩
  have T : Hid (∀ w1 j, Below w.heap.size w w1 → w1.frozen? ⟨g, j, none⟩ = false) := fun w1 j hb => (hC.keep hb).row.thawed j
  have KK : Hid (∀ w1 j, Below w.heap.size w w1 → w1.cell? ⟨g, j, none⟩ = w.cell? ⟨g, j, none⟩) := fun w1 j hb => hb.cell (p := ⟨g, j, none⟩) hgs
  rw [hx] at k0 k1 k2 k3
  clear hx hC hi
  go_enter Try.func22, Try.ntmps22
  go_wp2_with (first
    | (go_at_call 38; refine (find_ok B b _ c n L h i _ HC.out hh HI.out).mono ?_; rintro e w1 ⟨g1, e1, rfl, rfl⟩; (obtain rfl : g = g1 := by cases e1; rfl))
    | (go_at_call 39; refine (ended_any x _).mono ?_; rintro e w1 ⟨rfl, b1⟩; have B1 : Hid (Below w.heap.size w w1) := b1; have t0 := T.out w1 (i * 4) b1; have t1 := T.out w1 (i * 4 + 1) b1; have t2 := T.out w1 (i * 4 + 2) b1; have t3 := T.out w1 (i * 4 + 3) b1; have j0 := (KK.out w1 (i * 4) b1).trans k0; have j1 := (KK.out w1 (i * 4 + 1) b1).trans k1; have j2 := (KK.out w1 (i * 4 + 2) b1).trans k2; have j3 := (KK.out w1 (i * 4 + 3) b1).trans k3; clear b1))
  go_ret
  exact ⟨rfl, F.out w1 B1.out⟩
end Go.Proofs.Ytjdgildeilcfiaa
