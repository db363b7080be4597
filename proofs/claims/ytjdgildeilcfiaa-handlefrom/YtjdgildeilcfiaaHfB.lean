/- The document's table: Make, Get, Put, Drop. -/
import Derived.Test.YtjdgildeilcfiaaHfA
namespace Go.Proofs.Ytjdgildeilcfiaa
open Go.RowKit
set_option linter.unusedVariables false

theorem rmake_full (mb mg n : Nat) (L : List Rw) (kd pl : Int) (w : World) (h : Rt w mb mg n L) (hf : n ≤ nxL L) :
    Calls Try.prog 26 #[.pointer (some ⟨mb, 0, none⟩), .int .i64 kd, .int .i64 pl] w fun e w' => e = .returned (.tuple #[.int .u64 0, .int .i64 7]) ∧ Below w.heap.size w w' := by
  have H : Hid (Rt w mb mg n L) := h
  have E : Hid ((if nxL L < n then ((nxL L : Nat) : Int) + 1 else 0) = 0) := if_neg (by omega)
  clear h
  go_enter Try.func26, Try.ntmps26
  go_wp2_with (go_at_call 40; refine (rnext_any mb mg n L _ H.out 0 E.out).mono ?_; rintro e w1 ⟨rfl, b1⟩; have B1 : Hid (Below w.heap.size w w1) := b1; clear b1)
  go_ret2
  exact ⟨rfl, B1.out⟩

set_option maxHeartbeats 4000000 in
theorem rmake_ok (mb mg n : Nat) (L : List Rw) (kd pl : Int) (w : World) (h : Rt w mb mg n L) (hf : nxL L < n) :
    Calls Try.prog 26 #[.pointer (some ⟨mb, 0, none⟩), .int .i64 kd, .int .i64 pl] w fun e w' => e = .returned (.tuple #[.int .u64 (ofN ((nxL L : Nat) + 1) (makeG L) : Nat), .int .i64 0]) ∧ Rt w' mb mg n (makeL L kd pl) ∧ Tu (fun k => k = mg) w w' := by
  have H : Hid (Rt w mb mg n L) := h
  have E : Hid ((if nxL L < n then ((nxL L : Nat) : Int) + 1 else 0) = ((nxL L : Nat) : Int) + 1) := if_pos hf
  have hn := h.n
  have hil : nxL L < (pad n L).length := by rw [pad_len h.gd.len]; exact hf
  obtain ⟨m1, m2⟩ := pad_make h.gd.len hf kd pl hil
  have GM : Hid (Gd n (makeL L kd pl)) := h.gd.make hf kd pl
  have mi := makeG_in h.gd
  obtain ⟨x, hx⟩ : ∃ x, (pad n L)[nxL L]'hil = x := ⟨_, rfl⟩
  rw [hx] at m1 m2
  have EX : Hid ((pad n L)[nxL L]'hil = x) := hx
  rw [← m2] at mi ⊢
  have F : Hid (∀ w1, Below w.heap.size w w1 → Rt (set4 w1 mg (nxL L) ⟨x.gen + 1, true, kd, pl⟩) mb mg n (makeL L kd pl) ∧ Tu (fun k => k = mg) w (set4 w1 mg (nxL L) ⟨x.gen + 1, true, kd, pl⟩)) := fun w1 hb =>
    ⟨(h.keep hb).set4 (nxL L) hf _ m1 GM.out, (Tu.ofBelow hb).only (set4_only w1 mg (nxL L) _) rfl⟩
  have CC : Hid (∀ w1, Below w.heap.size w w1 → w1.cell? ⟨mb, 0, none⟩ = some (.slice (some ⟨mg, 0, none⟩) n n) ∧ (w1.cell? ⟨mg, nxL L * 4, none⟩ = some (.int .i64 x.gen) ∧ w1.cell? ⟨mg, nxL L * 4 + 1, none⟩ = some (.bool x.live) ∧ w1.cell? ⟨mg, nxL L * 4 + 2, none⟩ = some (.int .i64 x.kind) ∧ w1.cell? ⟨mg, nxL L * 4 + 3, none⟩ = some (.int .i64 x.pl)) ∧ ∀ j, w1.frozen? ⟨mg, j, none⟩ = false) := fun w1 hb =>
    ⟨(h.keep hb).cell, (h.keep hb).cells (nxL L) hf x hx, fun j => (h.keep hb).thawed j⟩
  have hne := h.ne
  obtain ⟨k, hk⟩ : ∃ k, nxL L = k := ⟨_, rfl⟩
  have hkn : k < n := by omega
  have E0 : Hid ((if nxL L < n then ((nxL L : Nat) : Int) + 1 else 0) = ((k : Nat) : Int) + 1) := by have q := E.out; show _ = _; rw [q, hk]
  rw [hk] at F CC ⊢
  clear E h hx m1 m2 GM EX hil hf hk
  obtain ⟨N, hN⟩ : ∃ N, ofN ((k : Nat) + 1) (x.gen + 1) = N := ⟨_, rfl⟩
  have EN : Hid (ofN ((k : Nat) + 1) (x.gen + 1) = N) := hN
  rw [hN]
  clear hN
  have hz : ¬ ((k : Int) + 1 = 0) := by omega
  have e1 : ((k : Int) + 1) - 1 = (k : Nat) := by omega
  have e0 : (0 : Int) ≤ (k : Nat) := by omega
  have e2 : (k : Int) < (n : Int) := by omega
  go_enter Try.func26, Try.ntmps26
  go_wp2_with fail
  refine (rnext_any mb mg n L _ H.out _ E0.out).mono ?_
  rintro e w1 ⟨rfl, b1⟩
  have B1 : Hid (Below w.heap.size w w1) := b1
  obtain ⟨c0, ⟨k0, k1, k2, k3⟩, t⟩ := CC.out w1 b1
  have t0 := t (k * 4)
  have t1 := t (k * 4 + 1)
  have t2 := t (k * 4 + 2)
  have t3 := t (k * 4 + 3)
  obtain ⟨f1, f2⟩ := F.out w1 b1
  obtain ⟨ws, hws⟩ : ∃ ws, (set4 w1 mg k ⟨x.gen + 1, true, kd, pl⟩).drew = ws := ⟨_, rfl⟩
  have R9 : Hid (Rt ws mb mg n (makeL L kd pl)) := by show Rt _ _ _ _ _; rw [← hws]; exact f1.drew
  have T9 : Hid (Tu (fun k => k = mg) w ws) := by show Tu _ _ _; rw [← hws]; exact f2.drew
  have HW : Hid ((set4 w1 mg k ⟨x.gen + 1, true, kd, pl⟩).drew = ws) := hws
  have y0 : ws.cell? ⟨mb, 0, none⟩ = some (.slice (some ⟨mg, 0, none⟩) n n) := R9.out.cell
  have y1 : ws.cell? ⟨mg, k * 4, none⟩ = some (.int .i64 (x.gen + 1)) := by
    rw [← hws]
    show (set4 w1 mg k _).cell? _ = _
    unfold set4
    have d : ∀ j, 0 < j → (⟨mg, k * 4 + j, none⟩ : Addr) ≠ ⟨mg, k * 4, none⟩ := fun j hj e => by
      have := congrArg Addr.off e
      simp at this
      omega
    exact (World.cell?_setCell_other _ _ _ _ (d 3 (by decide))).trans ((World.cell?_setCell_other _ _ _ _ (d 2 (by decide))).trans ((World.cell?_setCell_other _ _ _ _ (d 1 (by decide))).trans (World.cell?_setCell_same _ _ _ k0)))
  clear b1 t f1 f2 hws
  go_wp2_with fail
  go_region
  have W9 := HW.out
  unfold set4 at W9
  simp only at W9
  rw [W9]
  clear W9
  go_wp2_with (go_at_call 19; refine (rof_q ((k : Nat) + 1) (x.gen + 1) N _ (by omega) (by omega) EN.out).mono ?_; rintro e w5 ⟨rfl, rfl⟩)
  go_ret2
  exact ⟨rfl, R9.out, T9.out⟩

/-- What Find answers, told by its row. -/
theorem find_num {L : List Rw} {h i : Nat} (hi : LvAt L h i) : (∃ j : Nat, LvAt L h j ∧ ((i : Nat) : Int) + 1 = (j : Int) + 1) ∨ ((¬ ∃ i, LvAt L h i) ∧ ((i : Nat) : Int) + 1 = 0) := .inl ⟨i, hi, rfl⟩
theorem find_none {L : List Rw} {h : Nat} (hi : ¬ ∃ i, LvAt L h i) : (∃ j : Nat, LvAt L h j ∧ (0 : Int) = (j : Int) + 1) ∨ ((¬ ∃ i, LvAt L h i) ∧ (0 : Int) = 0) := .inr ⟨hi, rfl⟩
theorem rget_bad (mb mg n : Nat) (L : List Rw) (h : Nat) (w : World) (hT : Rt w mb mg n L) (hi : ¬ ∃ i, LvAt L h i) :
    Calls Try.prog 27 #[.pointer (some ⟨mb, 0, none⟩), .int .u64 (h : Nat)] w fun e w' => e = .returned (.tuple #[.int .i64 0, .int .i64 0, .int .i64 12]) ∧ Below w.heap.size w w' := by
  go_enter Try.func27, Try.ntmps27
  go_wp2_with (go_at_call 41; refine (rfind_any mb mg n L h _ hT 0 (find_none hi)).mono ?_; rintro e w1 ⟨rfl, b1⟩; have B1 : Hid (Below w.heap.size w w1) := b1; clear b1)
  refine bodyPost_ret (v := .tuple #[.int .i64 0, .int .i64 0, .int .i64 12]) (by simp [results, Try.results27, go_sem]) rfl ⟨rfl, B1.out⟩
theorem rput_bad (mb mg n : Nat) (L : List Rw) (h : Nat) (p : Int) (w : World) (hT : Rt w mb mg n L) (hi : ¬ ∃ i, LvAt L h i) :
    Calls Try.prog 28 #[.pointer (some ⟨mb, 0, none⟩), .int .u64 (h : Nat), .int .i64 p] w fun e w' => e = .returned (.int .i64 12) ∧ Below w.heap.size w w' := by
  go_enter Try.func28, Try.ntmps28
  go_wp2_with (go_at_call 41; refine (rfind_any mb mg n L h _ hT 0 (find_none hi)).mono ?_; rintro e w1 ⟨rfl, b1⟩; have B1 : Hid (Below w.heap.size w w1) := b1; clear b1)
  go_ret
  exact ⟨rfl, B1.out⟩
theorem rdrop_bad (mb mg n : Nat) (L : List Rw) (h : Nat) (w : World) (hT : Rt w mb mg n L) (hi : ¬ ∃ i, LvAt L h i) :
    Calls Try.prog 29 #[.pointer (some ⟨mb, 0, none⟩), .int .u64 (h : Nat)] w fun e w' => e = .returned (.int .i64 12) ∧ Below w.heap.size w w' := by
  go_enter Try.func29, Try.ntmps29
  go_wp2_with (go_at_call 41; refine (rfind_any mb mg n L h _ hT 0 (find_none hi)).mono ?_; rintro e w1 ⟨rfl, b1⟩; have B1 : Hid (Below w.heap.size w w1) := b1; clear b1)
  go_ret
  exact ⟨rfl, B1.out⟩

/-- What is known of a live row. -/
theorem Rt.live {w : World} {mb mg n : Nat} {L : List Rw} {h i : Nat} (hT : Rt w mb mg n L) (hi : LvAt L h i) (x : Rw) (hx : gtL L i = x) : i < n ∧ (∀ w1, Below w.heap.size w w1 → w1.cell? ⟨mb, 0, none⟩ = some (.slice (some ⟨mg, 0, none⟩) n n) ∧ (w1.cell? ⟨mg, i * 4, none⟩ = some (.int .i64 x.gen) ∧ w1.cell? ⟨mg, i * 4 + 1, none⟩ = some (.bool x.live) ∧ w1.cell? ⟨mg, i * 4 + 2, none⟩ = some (.int .i64 x.kind) ∧ w1.cell? ⟨mg, i * 4 + 3, none⟩ = some (.int .i64 x.pl)) ∧ ∀ j, w1.frozen? ⟨mg, j, none⟩ = false) := by
  have hn := hT.n
  have hil := hi.lt
  have hin : i < n := by omega
  refine ⟨hin, fun w1 hb => ⟨(hT.keep hb).cell, (hT.keep hb).cells i hin x ?_, fun j => (hT.keep hb).thawed j⟩⟩
  rw [pad_at hil, ← hx, gtL_eq hil]
set_option maxHeartbeats 1000000 in
theorem rget_ok (mb mg n : Nat) (L : List Rw) (h i : Nat) (w : World) (hT : Rt w mb mg n L) (hi : LvAt L h i) :
    Calls Try.prog 27 #[.pointer (some ⟨mb, 0, none⟩), .int .u64 (h : Nat)] w fun e w' => e = .returned (.tuple #[.int .i64 (gtL L i).kind, .int .i64 (gtL L i).pl, .int .i64 0]) ∧ Below w.heap.size w w' := by
  obtain ⟨x, hx⟩ : ∃ x, gtL L i = x := ⟨_, rfl⟩
  obtain ⟨hin, cc⟩ := hT.live hi x hx
  have CC : Hid (∀ w1, Below w.heap.size w w1 → w1.cell? ⟨mb, 0, none⟩ = some (.slice (some ⟨mg, 0, none⟩) n n) ∧ (w1.cell? ⟨mg, i * 4, none⟩ = some (.int .i64 x.gen) ∧ w1.cell? ⟨mg, i * 4 + 1, none⟩ = some (.bool x.live) ∧ w1.cell? ⟨mg, i * 4 + 2, none⟩ = some (.int .i64 x.kind) ∧ w1.cell? ⟨mg, i * 4 + 3, none⟩ = some (.int .i64 x.pl)) ∧ ∀ j, w1.frozen? ⟨mg, j, none⟩ = false) := cc
  have hn := hT.n
  rw [hx]
  clear cc hx
  have hz : ¬ ((i : Int) + 1 = 0) := by omega
  have e1 : ((i : Int) + 1) - 1 = (i : Nat) := by omega
  have e0 : (0 : Int) ≤ (i : Nat) := by omega
  have e2 : (i : Int) < (n : Int) := by omega
  go_enter Try.func27, Try.ntmps27
  go_wp2_with fail
  refine (rfind_any mb mg n L h _ hT _ (find_num hi)).mono ?_
  rintro e w1 ⟨rfl, b1⟩
  have B1 : Hid (Below w.heap.size w w1) := b1
  obtain ⟨c0, ⟨k0, k1, k2, k3⟩, t⟩ := CC.out w1 b1
  clear b1 t
  go_wp2_with fail
  go_quiet (fail)
  go_wp2
  refine bodyPost_ret (v := .tuple #[.int .i64 x.kind, .int .i64 x.pl, .int .i64 0]) (by simp [results, Try.results27, go_sem]) rfl ⟨rfl, ⟨B1.out.os, B1.out.tape, B1.out.output, B1.out.size, B1.out.block⟩⟩
set_option maxHeartbeats 1000000 in
theorem rput_ok (mb mg n : Nat) (L : List Rw) (h i : Nat) (p : Int) (w : World) (hT : Rt w mb mg n L) (hi : LvAt L h i) :
    Calls Try.prog 28 #[.pointer (some ⟨mb, 0, none⟩), .int .u64 (h : Nat), .int .i64 p] w fun e w' => e = .returned (.int .i64 0) ∧ Rt w' mb mg n (putL L i p) ∧ Tu (fun k => k = mg) w w' := by
  obtain ⟨x, hx⟩ : ∃ x, gtL L i = x := ⟨_, rfl⟩
  obtain ⟨hin, cc⟩ := hT.live hi x hx
  have F : Hid (∀ w1, Below w.heap.size w w1 → Rt (w1.setCell ⟨mg, i * 4 + 3, none⟩ (.int .i64 p)) mb mg n (putL L i p) ∧ Tu (fun k => k = mg) w (w1.setCell ⟨mg, i * 4 + 3, none⟩ (.int .i64 p))) := fun w1 hb =>
    ⟨(hT.keep hb).set3 i hin p (pad_put hi.lt p) (hT.gd.put hi.lt hi.live p), (Tu.ofBelow hb).only (Only.set mg _ _ w1) rfl⟩
  have CC : Hid (∀ w1, Below w.heap.size w w1 → w1.cell? ⟨mb, 0, none⟩ = some (.slice (some ⟨mg, 0, none⟩) n n) ∧ (w1.cell? ⟨mg, i * 4, none⟩ = some (.int .i64 x.gen) ∧ w1.cell? ⟨mg, i * 4 + 1, none⟩ = some (.bool x.live) ∧ w1.cell? ⟨mg, i * 4 + 2, none⟩ = some (.int .i64 x.kind) ∧ w1.cell? ⟨mg, i * 4 + 3, none⟩ = some (.int .i64 x.pl)) ∧ ∀ j, w1.frozen? ⟨mg, j, none⟩ = false) := cc
  have hn := hT.n
  clear cc hx
  have hz : ¬ ((i : Int) + 1 = 0) := by omega
  have e1 : ((i : Int) + 1) - 1 = (i : Nat) := by omega
  have e0 : (0 : Int) ≤ (i : Nat) := by omega
  have e2 : (i : Int) < (n : Int) := by omega
  go_enter Try.func28, Try.ntmps28
  go_wp2_with fail
  refine (rfind_any mb mg n L h _ hT _ (find_num hi)).mono ?_
  rintro e w1 ⟨rfl, b1⟩
  have B1 : Hid (Below w.heap.size w w1) := b1
  obtain ⟨c0, ⟨k0, k1, k2, k3⟩, t⟩ := CC.out w1 b1
  have t3 := t (i * 4 + 3)
  clear b1 t
  go_wp2
  go_ret
  exact ⟨rfl, F.out w1 B1.out⟩
set_option maxHeartbeats 2000000 in
theorem rdrop_ok (mb mg n : Nat) (L : List Rw) (h i : Nat) (w : World) (hT : Rt w mb mg n L) (hi : LvAt L h i) :
    Calls Try.prog 29 #[.pointer (some ⟨mb, 0, none⟩), .int .u64 (h : Nat)] w fun e w' => e = .returned (.int .i64 0) ∧ Rt w' mb mg n (dropL L i) ∧ Tu (fun k => k = mg) w w' := by
  obtain ⟨x, hx⟩ : ∃ x, gtL L i = x := ⟨_, rfl⟩
  obtain ⟨hin, cc⟩ := hT.live hi x hx
  have F : Hid (∀ w1, Below w.heap.size w w1 → Rt (set4 w1 mg i ⟨x.gen, false, 0, 0⟩) mb mg n (dropL L i) ∧ Tu (fun k => k = mg) w (set4 w1 mg i ⟨x.gen, false, 0, 0⟩)) := fun w1 hb => by
    refine ⟨(hT.keep hb).set4 i hin _ ?_ (hT.gd.drop hi.lt hi.live), (Tu.ofBelow hb).only (set4_only w1 mg i _) rfl⟩
    rw [← pad_drop hi.lt]
    unfold dropL
    rw [← hx]
    congr 2
    unfold gtL pad
    rw [List.getElem?_append_left hi.lt]
  have CC : Hid (∀ w1, Below w.heap.size w w1 → w1.cell? ⟨mb, 0, none⟩ = some (.slice (some ⟨mg, 0, none⟩) n n) ∧ (w1.cell? ⟨mg, i * 4, none⟩ = some (.int .i64 x.gen) ∧ w1.cell? ⟨mg, i * 4 + 1, none⟩ = some (.bool x.live) ∧ w1.cell? ⟨mg, i * 4 + 2, none⟩ = some (.int .i64 x.kind) ∧ w1.cell? ⟨mg, i * 4 + 3, none⟩ = some (.int .i64 x.pl)) ∧ ∀ j, w1.frozen? ⟨mg, j, none⟩ = false) := cc
  have hn := hT.n
  have hne := hT.ne
  clear cc hx
  have hz : ¬ ((i : Int) + 1 = 0) := by omega
  have e1 : ((i : Int) + 1) - 1 = (i : Nat) := by omega
  have e0 : (0 : Int) ≤ (i : Nat) := by omega
  have e2 : (i : Int) < (n : Int) := by omega
  go_enter Try.func29, Try.ntmps29
  go_wp2_with fail
  refine (rfind_any mb mg n L h _ hT _ (find_num hi)).mono ?_
  rintro e w1 ⟨rfl, b1⟩
  have B1 : Hid (Below w.heap.size w w1) := b1
  obtain ⟨c0, ⟨k0, k1, k2, k3⟩, t⟩ := CC.out w1 b1
  have t0 := t (i * 4)
  have t1 := t (i * 4 + 1)
  have t2 := t (i * 4 + 2)
  have t3 := t (i * 4 + 3)
  clear b1 t
  go_wp2_with fail
  go_region
  go_wp2
  go_ret
  exact ⟨rfl, (F.out w1 B1.out).1.drew, (F.out w1 B1.out).2.drew⟩
end Go.Proofs.Ytjdgildeilcfiaa
