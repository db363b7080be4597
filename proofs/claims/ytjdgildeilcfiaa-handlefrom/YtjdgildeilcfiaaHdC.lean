/- What Full, Make, find, Get, Put and Drop answer. -/
import Derived.Test.YtjdgildeilcfiaaHdB
namespace Go.Proofs.Ytjdgildeilcfiaa
open Go.RowKit
set_option linter.unusedVariables false

set_option maxHeartbeats 1000000 in
theorem full_any (B b : Nat) (a : Option Addr) (c n : Nat) (L : List Rw) (w : World) (h : Ct w B b a c n L) :
    Calls Try.prog 25 #[.pointer (some ⟨b, 0, none⟩)] w fun e w' => e = .returned (.bool (decide (n ≤ nxL L))) ∧ Below w.heap.size w w' := by
  have H : Hid (Ct w B b a c n L) := h
  have c0 := h.cell0
  have hl := h.len
  have hn := nx_le L
  clear h
  obtain ⟨k, hk⟩ : ∃ k, nxL L = k := ⟨_, rfl⟩
  have EK : Hid (nxL L = k) := hk
  rw [hk] at hn ⊢
  clear hk
  go_enter Try.func25, Try.ntmps25
  go_wp2_with fail
  go_region_held3 (fun w' => w'.cell? ⟨b, 0, none⟩ = some (.int .i64 (n : Nat))) (first | assumption | go_keep)
    ((go_at_call 37; refine (next_any B b a c n L _ H.out.drew).mono ?_; rw [EK.out]; rintro e w1 ⟨rfl, b1⟩; have B1 : Hid (Below w.heap.size w w1) := ⟨b1.os, b1.tape, b1.output, b1.size, b1.block⟩; have p0 : w1.cell? ⟨b, 0, none⟩ = some (.int .i64 (n : Nat)) := (H.out.keep B1.out).cell0; clear b1))
  go_wp2
  go_ret
  exact ⟨ret_bool (by simp), B1.out⟩

theorem Tu.only {S : Nat → Prop} {g : Nat} {w w' w'' : World} (h : Tu S w w') (k : Only g w' w'') (hg : S g) : Tu S w w'' := h.trans (Tu.ofOnly k hg)
/-- A row is stored. -/
def set4 (w : World) (g i : Nat) (r : Rw) : World := (((w.setCell ⟨g, i * 4, none⟩ (.int .i64 r.gen)).setCell ⟨g, i * 4 + 1, none⟩ (.bool r.live)).setCell ⟨g, i * 4 + 2, none⟩ (.int .i64 r.kind)).setCell ⟨g, i * 4 + 3, none⟩ (.int .i64 r.pl)
theorem set4_only (w : World) (g i : Nat) (r : Rw) : Only g w (set4 w g i r) := (((Only.set g _ _ w).trans (Only.set g _ _ _)).trans (Only.set g _ _ _)).trans (Only.set g _ _ _)
theorem Ow.set4 {w : World} {B g : Nat} {L : List Rw} {c : Nat} (h : Ow w B (some ⟨g, 0, none⟩) L c) (i : Nat) (hi : i < L.length) (r : Rw) : Ow (set4 w g i r) B (some ⟨g, 0, none⟩) (L.set i r) c := by
  obtain ⟨h0, ⟨h1, h2⟩ | ⟨g', c', cur, h1, hb, h2, h3, h4, h5, h6⟩⟩ := h
  · cases h1
  · cases h1
    have k1 := heap_setCell_same w g (i * 4) _ _ (.int .i64 r.gen) h2
    have k2 := heap_setCell_same _ g (i * 4 + 1) _ _ (.bool r.live) k1
    have k3 := heap_setCell_same _ g (i * 4 + 2) _ _ (.int .i64 r.kind) k2
    have k4 := heap_setCell_same _ g (i * 4 + 3) _ _ (.int .i64 r.pl) k3
    refine ⟨by rw [cellsW_len], .inr ⟨g, c, _, by rw [List.length_set], hb, k4, by rw [List.length_set]; exact h3, h4, by simpa using h5, ?_⟩⟩
    rw [← cellsW_set L i r hi, ← h6, List.length_set]
    simp [List.take_set]
theorem Ow.set3 {w : World} {B g : Nat} {L : List Rw} {c : Nat} (h : Ow w B (some ⟨g, 0, none⟩) L c) (i : Nat) (hi : i < L.length) (x : Int) : Ow (w.setCell ⟨g, i * 4 + 3, none⟩ (.int .i64 x)) B (some ⟨g, 0, none⟩) (putL L i x) c := by
  obtain ⟨h0, ⟨h1, h2⟩ | ⟨g', c', cur, h1, hb, h2, h3, h4, h5, h6⟩⟩ := h
  · cases h1
  · cases h1
    have k4 := heap_setCell_same w g (i * 4 + 3) _ _ (.int .i64 x) h2
    rw [putL_eq hi]
    refine ⟨by rw [cellsW_len], .inr ⟨g, c, _, by rw [List.length_set], hb, k4, by rw [List.length_set]; exact h3, h4, by simpa using h5, ?_⟩⟩
    rw [← cellsW_set3 L i hi x, ← h6, List.length_set]
    simp [List.take_set]
theorem Ow.thawed {w : World} {B g : Nat} {L : List Rw} {c : Nat} (h : Ow w B (some ⟨g, 0, none⟩) L c) (j : Nat) : w.frozen? ⟨g, j, none⟩ = false := by
  obtain ⟨_, ⟨h1, _⟩ | ⟨g', c', cur, h1, _, h2, _⟩⟩ := h
  · cases h1
  · cases h1; exact frozen_of_row w g j _ _ h2
/-- The row is no box. -/
theorem Ct.apart {w : World} {B b : Nat} {a : Option Addr} {c n : Nat} {L : List Rw} (h : Ct w B b a c n L) : ob a ≠ some b := by
  intro e
  obtain ⟨cur, hc⟩ := h.row.kind b e
  rw [h.box] at hc
  simp at hc

/-- What may be others behind a call on a table. -/
def Mine (b : Nat) (a : Option Addr) : Nat → Prop := fun k => k = b ∨ ob a = some k

set_option maxHeartbeats 2000000 in
theorem make_full (B b : Nat) (a : Option Addr) (c n : Nat) (L : List Rw) (kd pl : Int) (w : World) (h : Ct w B b a c n L) (hf : n ≤ nxL L) :
    Calls Try.prog 20 #[.pointer (some ⟨b, 0, none⟩), .int .i64 kd, .int .i64 pl] w fun e w' => e = .returned (.tuple #[.int .u64 0, .int .i64 7]) ∧ Below w.heap.size w w' := by
  have H : Hid (Ct w B b a c n L) := h
  have ED : Hid (decide (n ≤ nxL L) = true) := decide_eq_true hf
  clear h hf
  go_enter Try.func20, Try.ntmps20
  go_wp2_with (go_at_call 25; refine (full_any B b a c n L _ H.out).mono ?_; rw [ED.out]; rintro e w1 ⟨rfl, b1⟩; have B1 : Hid (Below w.heap.size w w1) := b1; clear b1)
  go_ret2
  exact ⟨rfl, B1.out⟩

set_option maxHeartbeats 4000000 in
theorem make_old (B b g : Nat) (c n : Nat) (L : List Rw) (kd pl : Int) (w : World) (h : Ct w B b (some ⟨g, 0, none⟩) c n L) (hf : nxL L < L.length) :
    Calls Try.prog 20 #[.pointer (some ⟨b, 0, none⟩), .int .i64 kd, .int .i64 pl] w fun e w' => e = .returned (.tuple #[.int .u64 (ofN ((nxL L : Nat) + 1) (makeG L) : Nat), .int .i64 0]) ∧ Ct w' B b (some ⟨g, 0, none⟩) c n (makeL L kd pl) ∧ Tu (Mine b (some ⟨g, 0, none⟩)) w w' := by
  have H : Hid (Ct w B b (some ⟨g, 0, none⟩) c n L) := h
  have hl := h.len
  have ED : Hid (decide (n ≤ nxL L) = false) := decide_eq_false (by omega)
  have hG := makeG_in h.gd
  obtain ⟨x, hx⟩ : ∃ x, L[nxL L] = x := ⟨_, rfl⟩
  have hMG : makeG L = x.gen + 1 := by unfold makeG; rw [dif_pos hf, hx]
  have ML : Hid (makeL L kd pl = L.set (nxL L) ⟨x.gen + 1, true, kd, pl⟩) := by show _ = _; unfold makeL; rw [dif_pos hf, hx]
  have GM : Hid (Gd n (makeL L kd pl)) := h.gd.make (by omega) kd pl
  obtain ⟨k, hk⟩ : ∃ k, nxL L = k := ⟨_, rfl⟩
  have EK : Hid (nxL L = k) := hk
  have EX : Hid (∃ hk : k < L.length, L[k] = x) := ⟨by omega, by simp only [← hk]; exact hx⟩
  have hkl : k < L.length := by omega
  rw [hMG] at hG ⊢
  clear h hx hMG
  rw [hk] at hf ED ML ⊢
  clear hk
  obtain ⟨N, hN⟩ : ∃ N, ofN ((k : Nat) + 1) (x.gen + 1) = N := ⟨_, rfl⟩
  have EN : Hid (ofN ((k : Nat) + 1) (x.gen + 1) = N) := hN
  rw [hN]
  clear hN
  go_enter Try.func20, Try.ntmps20
  go_wp2_with fail
  refine (full_any B b _ c n L _ H.out).mono ?_
  rw [EK.out, ED.out]
  rintro e w1 ⟨rfl, b1⟩
  have B1 : Hid (Below w.heap.size w w1) := b1
  clear b1
  go_wp2_with fail
  refine (next_any B b _ c n L _ (H.out.keep B1.out)).mono ?_
  rw [EK.out]
  rintro e w2 ⟨rfl, b2⟩
  have B2 : Hid (Below w.heap.size w w2) := B1.out.trans (b2.mono B1.out.size)
  have C2 : Hid (Ct w2 B b (some ⟨g, 0, none⟩) c n L) := H.out.keep B2.out
  clear b2
  have d1 := C2.out.cell1
  obtain ⟨g0, e0, hgb, hgs, k0, k1, k2, k3⟩ := C2.out.row.cells k hkl
  cases e0
  obtain ⟨_, hx⟩ := EX.out
  rw [hx] at k0 k1 k2 k3
  have t0 := C2.out.row.thawed (k * 4)
  have t1 := C2.out.row.thawed (k * 4 + 1)
  have t2 := C2.out.row.thawed (k * 4 + 2)
  have t3 := C2.out.row.thawed (k * 4 + 3)
  have hne : ¬ ((k : Int) = (L.length : Int)) := by omega
  have hlt' : (k : Int) < (L.length : Int) := by omega
  have SZ : Hid (Ct (set4 w2 g k ⟨x.gen + 1, true, kd, pl⟩) B b (some ⟨g, 0, none⟩) c n (makeL L kd pl)) := by
    have ho := set4_only w2 g k ⟨x.gen + 1, true, kd, pl⟩
    have hnb : b ≠ g := fun e => C2.out.apart (by rw [e]; rfl)
    refine ⟨?_, ?_, GM.out, C2.out.bb⟩
    · rw [ho.block b hnb, C2.out.box, ML.out, List.length_set]
    · rw [ML.out]; exact C2.out.row.set4 k hkl _
  have TZ : Hid (Tu (Mine b (some ⟨g, 0, none⟩)) w (set4 w2 g k ⟨x.gen + 1, true, kd, pl⟩)) := (Tu.ofBelow B2.out).only (set4_only w2 g k ⟨x.gen + 1, true, kd, pl⟩) (.inr rfl)
  clear hx
  go_wp2_with (go_at_call 18; refine (of_any ((k : Nat) + 1) (x.gen + 1) _ (by omega) (by omega)).mono ?_; rw [EN.out]; rintro e w3 ⟨rfl, rfl⟩)
  go_ret2
  exact ⟨rfl, SZ.out, TZ.out⟩
end Go.Proofs.Ytjdgildeilcfiaa
