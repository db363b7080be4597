/- Make of an index that was never given out; find. -/
import Derived.Test.YtjdgildeilcfiaaHdC
namespace Go.Proofs.Ytjdgildeilcfiaa
open Go.RowKit
set_option linter.unusedVariables false

theorem Ow.parts {w : World} {B : Nat} {a : Option Addr} {L : List Rw} {c : Nat} (h : Ow w B a L c) (hl : 0 < L.length) : ∃ g, a = some ⟨g, 0, none⟩ := by
  obtain ⟨g, e, _⟩ := h.cells 0 hl
  exact ⟨g, e⟩
theorem nx_new {L : List Rw} (h : ¬ nxL L < L.length) : nxL L = L.length := by have := nx_le L; omega

set_option maxHeartbeats 4000000 in
theorem make_new (B b : Nat) (a : Option Addr) (c n : Nat) (L : List Rw) (kd pl : Int) (w : World) (h : Ct w B b a c n L) (hB : B ≤ w.heap.size) (hf : ¬ nxL L < L.length) (hn : nxL L < n) :
    Calls Try.prog 20 #[.pointer (some ⟨b, 0, none⟩), .int .i64 kd, .int .i64 pl] w fun e w' => ∃ a' c', e = .returned (.tuple #[.int .u64 (ofN ((nxL L : Nat) + 1) (makeG L) : Nat), .int .i64 0]) ∧ Ct w' B b a' c' n (makeL L kd pl) ∧ Tu (Mine b a) w w' ∧ (ob a' = ob a ∨ ∃ g, ob a' = some g ∧ w.heap.size ≤ g) := by
  have H : Hid (Ct w B b a c n L) := h
  have hl := h.len
  have hk := nx_new hf
  have ED : Hid (decide (n ≤ nxL L) = false) := decide_eq_false (by omega)
  have hMG : makeG L = 1 := by unfold makeG; rw [dif_neg hf]
  have ML : Hid (makeL L kd pl = L ++ [⟨1, true, kd, pl⟩]) := by show _ = _; unfold makeL; rw [dif_neg hf]
  have GM : Hid (Gd n (makeL L kd pl)) := h.gd.make hn kd pl
  have EK : Hid (nxL L = L.length) := hk
  rw [hMG]
  clear h hMG
  rw [hk] at hn ED ⊢
  clear hk hf
  obtain ⟨N, hN⟩ : ∃ N, ofN ((L.length : Nat) + 1) 1 = N := ⟨_, rfl⟩
  have EN : Hid (ofN ((L.length : Nat) + 1) 1 = N) := hN
  rw [hN]
  clear hN
  go_enter Try.func20, Try.ntmps20
  go_wp2_with fail
  refine (full_any B b _ c n L _ H.out).mono ?_
  rw [EK.out, ED.out]
  rintro e w1 ⟨rfl, b1⟩
  have B1 : Hid (Below w.heap.size w w1) := b1
  clear b1
  go_wp2_with fail
  refine (next_any B b _ c n L _ (H.out.keep B1.out)).mono ?_
  rw [EK.out]
  rintro e w2 ⟨rfl, b2⟩
  have B2 : Hid (Below w.heap.size w w2) := B1.out.trans (b2.mono B1.out.size)
  have C2 : Hid (Ct w2 B b a c n L) := H.out.keep B2.out
  clear b2
  have d1 := C2.out.cell1
  obtain ⟨wz, hwz⟩ : ∃ wz, w2.alloc (.cells #[.int .i64 0, .bool false, .int .i64 0, .int .i64 0] 44) = wz := ⟨_, rfl⟩
  have BZ : Below w2.heap.size w2 wz := by rw [← hwz]; exact (Below.refl _ w2).alloc (Nat.le_refl _) _
  have QZ : wz.heap[w2.heap.size]? = some (.cells #[.int .i64 0, .bool false, .int .i64 0, .int .i64 0] 44 (0, 0)) := by rw [← hwz]; exact Go.heap_alloc_new w2 _
  obtain ⟨a', c', w3, hrun, r3, u3, o3⟩ := appW_run 40 B wz (by have := BZ.size; have := B2.out.size; omega) a L c (C2.out.row.keep BZ) w2.heap.size 0 [zr] 1 (fun i hi => by
    simp at hi; subst hi
    exact ⟨cell_of_row _ _ 0 _ _ _ QZ, cell_of_row _ _ 1 _ _ _ QZ, cell_of_row _ _ 2 _ _ _ QZ, cell_of_row _ _ 3 _ _ _ QZ⟩) (by simp; omega)
  simp only [List.length_cons, List.length_nil, Nat.zero_add] at hrun
  obtain ⟨g, rfl⟩ := r3.parts (by simp)
  have hnb : b ≠ g := by
    rintro rfl
    rcases o3 with e | e
    · exact C2.out.apart e.symm
    · have : b = wz.heap.size := Option.some.inj e
      have h1 := C2.out.lt
      have h2 := BZ.size
      omega
  have X3 : w3.heap[b]? = some (.cells #[.int .i64 (n : Nat), .slice a L.length c] 77 (0, 0)) := u3.block b _ ((C2.out.keep BZ).box) (fun e => C2.out.apart e)
  have x1 : w3.cell? ⟨b, 1, none⟩ = some (.slice a L.length c) := cell_of_row w3 b 1 _ _ _ X3
  have z1 : w3.frozen? ⟨b, 1, none⟩ = false := frozen_of_row w3 b 1 _ _ X3
  obtain ⟨w4, hw4⟩ : ∃ w4, w3.setCell ⟨b, 1, none⟩ (.slice (some ⟨g, 0, none⟩) (L.length + 1) c') = w4 := ⟨_, rfl⟩
  have O4 : Only b w3 w4 := by rw [← hw4]; exact Only.set b 1 _ w3
  have X4 : w4.heap[b]? = some (.cells #[.int .i64 (n : Nat), .slice (some ⟨g, 0, none⟩) (L.length + 1) c'] 77 (0, 0)) := by
    rw [← hw4, heap_setCell_same w3 b 1 _ _ _ X3]; rfl
  have R4 : Ow w4 B (some ⟨g, 0, none⟩) (L ++ [zr]) c' := r3.same (fun g' o e ho => by cases e; rw [O4.block g (Ne.symm hnb)]; exact ho)
  have y1 : w4.cell? ⟨b, 1, none⟩ = some (.slice (some ⟨g, 0, none⟩) (L.length + 1) c') := cell_of_row w4 b 1 _ _ _ X4
  obtain ⟨g0, e0, hgb, hgs, k0, k1, k2, k3⟩ := R4.cells L.length (by simp)
  cases e0
  have hx : (L ++ [zr])[L.length]'(by simp) = zr := by simp
  rw [hx] at k0 k1 k2 k3
  have t0 := R4.thawed (L.length * 4)
  have t1 := R4.thawed (L.length * 4 + 1)
  have t2 := R4.thawed (L.length * 4 + 2)
  have t3 := R4.thawed (L.length * 4 + 3)
  have hc := R4.len.2
  simp only [zr] at k0 k1 k2 k3
  have SZ : Hid (Ct (set4 w4 g L.length ⟨1, true, kd, pl⟩) B b (some ⟨g, 0, none⟩) c' n (makeL L kd pl)) := by
    have ho := set4_only w4 g L.length ⟨1, true, kd, pl⟩
    refine ⟨?_, ?_, GM.out, H.out.bb⟩
    · rw [ho.block b hnb, X4, ML.out]; simp
    · rw [ML.out]
      have := R4.set4 L.length (by simp) ⟨1, true, kd, pl⟩
      simpa using this
  have TZ : Hid (Tu (Mine b a) w (set4 w4 g L.length ⟨1, true, kd, pl⟩)) := by
    have q : Tu (Mine b a) w w4 := (((Tu.ofBelow B2.out).trans (Tu.ofBelow BZ)).trans (u3.mono (fun k _ e => .inr e))).only O4 (.inl rfl)
    have ho := set4_only w4 g L.length ⟨1, true, kd, pl⟩
    have hz2 := B2.out.size
    have hzz := BZ.size
    rcases o3 with e | e
    · exact q.only ho (.inr e.symm)
    · have : g = wz.heap.size := Option.some.inj e
      refine ⟨ho.os.trans q.os, ho.tape.trans q.tape, ho.output.trans q.output, Nat.le_trans q.size (Nat.le_of_eq ho.size.symm), fun i o hi hk => ?_⟩
      rw [ho.block i (by have := hlt hi; omega)]
      exact q.block i o hi hk
  have OZ : Hid (ob (some ⟨g, 0, none⟩) = ob a ∨ ∃ g', ob (some ⟨g, 0, none⟩) = some g' ∧ w.heap.size ≤ g') := by
    have hz2 := B2.out.size
    have hzz := BZ.size
    rcases o3 with e | e
    · exact .inl e
    · exact .inr ⟨_, e, by omega⟩
  have hlt' : (L.length : Int) < ((L.length + 1 : Nat) : Int) := by omega
  have hne : b ≠ g := hnb
  clear r3 u3 o3 X3 O4 X4 R4 QZ BZ hx
  go_wp2_with (first
    | (at_builtin; (try rw [hwz]); refine step_app rfl 40 _ _ rfl (.slice a L.length c) (.slice (some ⟨w2.heap.size, 0, none⟩) 1 1) (.slice (some ⟨g, 0, none⟩) (L.length + 1) c') w3 rfl rfl hrun ?_)
    | (go_at_call 18; refine (of_any ((L.length : Nat) + 1) 1 _ (by omega) (by omega)).mono ?_; rw [EN.out]; rintro e w5 ⟨rfl, rfl⟩))
  go_ret2
  exact ⟨_, _, rfl, SZ.out, TZ.out, OZ.out⟩

theorem make_any (B b : Nat) (a : Option Addr) (c n : Nat) (L : List Rw) (kd pl : Int) (w : World) (h : Ct w B b a c n L) (hB : B ≤ w.heap.size) (hn : nxL L < n) :
    Calls Try.prog 20 #[.pointer (some ⟨b, 0, none⟩), .int .i64 kd, .int .i64 pl] w fun e w' => ∃ a' c', e = .returned (.tuple #[.int .u64 (ofN ((nxL L : Nat) + 1) (makeG L) : Nat), .int .i64 0]) ∧ Ct w' B b a' c' n (makeL L kd pl) ∧ Tu (Mine b a) w w' ∧ (ob a' = ob a ∨ ∃ g, ob a' = some g ∧ w.heap.size ≤ g) := by
  by_cases hf : nxL L < L.length
  · obtain ⟨g, rfl⟩ := h.row.parts (by omega)
    refine (make_old B b g c n L kd pl w h hf).mono ?_
    rintro e w' ⟨rfl, h1, h2⟩
    exact ⟨_, _, rfl, h1, h2, .inl rfl⟩
  · exact make_new B b a c n L kd pl w h hB hf hn
end Go.Proofs.Ytjdgildeilcfiaa
