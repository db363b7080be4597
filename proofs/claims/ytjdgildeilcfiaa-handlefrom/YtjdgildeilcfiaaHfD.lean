/- The document's From. -/
import Derived.Test.YtjdgildeilcfiaaHfE
namespace Go.Proofs.Ytjdgildeilcfiaa
open Go.RowKit
set_option linter.unusedVariables false

theorem rfrom_arg (m : Int) (v : Value) (w : World) (h : m < 1 ∨ 4096 < m) :
    Calls Try.prog 11 #[.int .i64 m, v] w fun e w' => e = .returned (.tuple #[.pointer none, .int .i64 2]) ∧ w = w' := by
  rcases h with h | h
  · go_enter Try.func11, Try.ntmps11
    go_wp2
    go_ret2
    exact ⟨rfl, rfl⟩
  · have h1 : ¬ (m < 1) := by omega
    go_enter Try.func11, Try.ntmps11
    go_wp2
    go_ret2
    exact ⟨rfl, rfl⟩
theorem rfrom_long (n l c : Nat) (a : Option Addr) (w : World) (h1 : 1 ≤ n) (h2 : n ≤ 4096) (hl : n < l) (hx : l ≤ 9223372036854775807) :
    Calls Try.prog 11 #[.int .i64 (n : Nat), .slice a l c] w fun e w' => e = .returned (.tuple #[.pointer none, .int .i64 4]) ∧ w = w' := by
  have e1 : ¬ ((n : Int) < 1) := by omega
  have e2 : ¬ ((n : Int) > 4096) := by omega
  have e3 : (l : Int) > (n : Int) := by omega
  go_enter Try.func11, Try.ntmps11
  go_wp2
  go_ret2
  exact ⟨rfl, rfl⟩

set_option maxRecDepth 4000 in
set_option maxHeartbeats 4000000 in
theorem rfrom_any (n : Nat) (a : Option Addr) (c : Nat) (xs : List Rw) (w : World) (h : IsW w a xs) (h1 : 1 ≤ n) (h2 : n ≤ 4096) (hl : xs.length ≤ n) :
    Calls Try.prog 11 #[.int .i64 (n : Nat), .slice a xs.length c] w fun e w' => Below w.heap.size w w' ∧ ((Gd n xs ∧ e = .returned (.tuple #[.pointer (some ⟨w.heap.size + 1, 0, none⟩), .int .i64 0]) ∧ Rt w' (w.heap.size + 1) w.heap.size n xs) ∨ (¬ Gd n xs ∧ e = .returned (.tuple #[.pointer none, .int .i64 4]))) := by
  have H : Hid (IsW w a xs) := h
  have NG : Hid (∀ (i : Nat) (hi : i < xs.length), ¬ okR xs[i] → ¬ Gd n xs) := fun i hi hno hg => hno (hg.at hi)
  have e1 : ¬ ((n : Int) < 1) := by omega
  have e2 : ¬ ((n : Int) > 4096) := by omega
  have MK : ∀ w : World, (Instr.makeSlice 40 (.int .i64 (n : Nat)) (.int .i64 (n : Nat))).run Try.prog w = .ok (.slice (some ⟨w.heap.size, 0, none⟩) n n) (w.alloc (.cells (cellsW (List.replicate n zr)).toArray 44)) := fun w => make_W w n (by omega)
  obtain ⟨wz, hwz⟩ : ∃ wz, (w.alloc (.cells (cellsW (List.replicate n zr)).toArray 44)).alloc (.cells #[.slice (some ⟨w.heap.size, 0, none⟩) n n] 64) = wz := ⟨_, rfl⟩
  have BZ : Hid (Below w.heap.size w wz) := by show Below _ _ _; rw [← hwz]; exact ((Below.refl _ w).alloc (Nat.le_refl _) _).alloc (by simp) _
  have XZ : Hid (wz.heap[w.heap.size + 1]? = some (.cells #[.slice (some ⟨w.heap.size, 0, none⟩) n n] 64 (0, 0))) := by
    show _ = _
    rw [← hwz]
    have := Go.heap_alloc_new (w.alloc (.cells (cellsW (List.replicate n zr)).toArray 44)) (.cells #[.slice (some ⟨w.heap.size, 0, none⟩) n n] 64)
    rw [World.size_alloc] at this
    exact this
  have RZ : Hid (wz.heap[w.heap.size]? = some (.cells (cellsW (xs.take 0 ++ List.replicate (n - 0) zr)).toArray 44 (0, 0))) := by
    show _ = _
    rw [← hwz, Below.heap_alloc _ _ _ (by simp)]; exact Go.heap_alloc_new w _
  obtain ⟨l, hl'⟩ : ∃ l, xs.length = l := ⟨_, rfl⟩
  have EL : Hid (xs.length = l) := hl'
  rw [hl'] at hl ⊢
  have e3 : ¬ ((l : Int) > (n : Int)) := by omega
  have HW : Hid ((w.alloc (.cells (cellsW (List.replicate n zr)).toArray 44)).alloc (.cells #[.slice (some ⟨w.heap.size, 0, none⟩) n n] 64) = wz) := hwz
  clear h hl' hwz
  go_enter Try.func11, Try.ntmps11
  go_wp2
  go_loopw [25] (fun iv wr => ∃ i : Nat, i ≤ l ∧ iv = .int .i64 (i : Nat) ∧ (∀ j (hj : j < i) (hj' : j < xs.length), okR xs[j]) ∧ wr.heap[w.heap.size]? = some (.cells (cellsW (xs.take i ++ List.replicate (n - i) zr)).toArray 44 (0, 0)) ∧ wr.heap[w.heap.size + 1]? = some (.cells #[.slice (some ⟨w.heap.size, 0, none⟩) n n] 64 (0, 0)) ∧ Below w.heap.size w wr) (fun iv _ => l - (intOf iv).toNat)
  case atStart =>
    refine ⟨0, Nat.zero_le _, rfl, fun j hj => by omega, ?_⟩
    rw [HW.out]
    exact ⟨RZ.out, XZ.out, BZ.out⟩
  case round =>
    clear BZ XZ RZ HW
    obtain ⟨i, hi, rfl, hA, hR, hX, hB⟩ := hrel
    rename World => wr
    have HA : Hid (∀ j (hj : j < i) (hj' : j < xs.length), okR xs[j]) := hA
    have HR : Hid (wr.heap[w.heap.size]? = some (.cells (cellsW (xs.take i ++ List.replicate (n - i) zr)).toArray 44 (0, 0))) := hR
    have HX : Hid (wr.heap[w.heap.size + 1]? = some (.cells #[.slice (some ⟨w.heap.size, 0, none⟩) n n] 64 (0, 0))) := hX
    have HB : Hid (Below w.heap.size w wr) := hB
    have z1 := hB.size
    have zx := hlt hX
    by_cases hlt' : i < l
    · have hil : i < xs.length := by rw [EL.out]; exact hlt'
      rcases H.out.keep hB with e | ⟨ib, io, rfl, hib, hic⟩
      · rw [e] at hil; simp at hil
      · obtain ⟨c0, c1, c2, c3⟩ := hic i hil
        obtain ⟨x, hxx⟩ : ∃ x, xs[i]'hil = x := ⟨_, rfl⟩
        rw [hxx] at c0 c1 c2 c3
        obtain ⟨xg, xl, xk, xp⟩ := x
        simp only at c0 c1 c2 c3
        have f1 : (i : Int) < (l : Int) := by omega
        have f0 : (0 : Int) ≤ (i : Nat) := by omega
        have f2 : (i : Int) < (n : Int) := by omega
        clear hA hR hX hB hic
        by_cases g1 : xg < 0
        · have NOK : Hid (¬ okR (xs[i]'hil)) := by rw [hxx]; exact fun o => by have := o.1; simp only at this; omega
          clear hxx
          go_wp2
          go_ret2
          exact ⟨HB.out.alloc z1 _, .inr ⟨NG.out i hil NOK.out, rfl⟩⟩
        · by_cases g2 : 65535 < xg
          · have NOK : Hid (¬ okR (xs[i]'hil)) := by rw [hxx]; exact fun o => by have := o.2.1; simp only at this; omega
            clear hxx
            go_wp2
            go_ret2
            exact ⟨HB.out.alloc z1 _, .inr ⟨NG.out i hil NOK.out, rfl⟩⟩
          · cases xl with
            | true =>
              by_cases g3 : xg = 0
              · have NOK : Hid (¬ okR (xs[i]'hil)) := by rw [hxx]; exact fun o => by have := o.2.2.1 rfl; simp only at this; omega
                clear hxx
                go_wp2
                go_ret2
                exact ⟨HB.out.alloc z1 _, .inr ⟨NG.out i hil NOK.out, rfl⟩⟩
              · have OKX0 : okR ⟨xg, true, xk, xp⟩ := ⟨by show 0 ≤ xg; omega, by show xg ≤ 65535; omega, fun _ => by show 1 ≤ xg; omega, fun e => by cases e⟩
                obtain ⟨wa, hwa⟩ : ∃ wa, wr.alloc (.cells #[.int .i64 xg, .bool true, .int .i64 xk, .int .i64 xp] 44) = wa := ⟨_, rfl⟩
                have BA : Below wr.heap.size wr wa := by rw [← hwa]; exact (Below.refl _ wr).alloc (Nat.le_refl _) _
                have QA : wa.heap[wr.heap.size]? = some (.cells #[.int .i64 xg, .bool true, .int .i64 xk, .int .i64 xp] 44 (0, 0)) := by rw [← hwa]; exact Go.heap_alloc_new wr _
                have RA : wa.heap[w.heap.size]? = some (.cells (cellsW (xs.take i ++ List.replicate (n - i) zr)).toArray 44 (0, 0)) := by rw [BA.block _ (hlt HR.out)]; exact HR.out
                have XA : wa.heap[w.heap.size + 1]? = some (.cells #[.slice (some ⟨w.heap.size, 0, none⟩) n n] 64 (0, 0)) := by rw [BA.block _ (hlt HX.out)]; exact HX.out
                have v0 : wa.cell? ⟨wr.heap.size, 0, none⟩ = some (.int .i64 xg) := cell_of_row _ _ 0 _ _ _ QA
                have v1 : wa.cell? ⟨wr.heap.size, 1, none⟩ = some (.bool true) := cell_of_row _ _ 1 _ _ _ QA
                have v2 : wa.cell? ⟨wr.heap.size, 2, none⟩ = some (.int .i64 xk) := cell_of_row _ _ 2 _ _ _ QA
                have v3 : wa.cell? ⟨wr.heap.size, 3, none⟩ = some (.int .i64 xp) := cell_of_row _ _ 3 _ _ _ QA
                have y0 : wa.cell? ⟨w.heap.size + 1, 0, none⟩ = some (.slice (some ⟨w.heap.size, 0, none⟩) n n) := cell_of_row _ _ 0 _ _ _ XA
                have t0 := frozen_of_row wa w.heap.size (i * 4) _ _ RA
                have t1 := frozen_of_row wa w.heap.size (i * 4 + 1) _ _ RA
                have t2 := frozen_of_row wa w.heap.size (i * 4 + 2) _ _ RA
                have t3 := frozen_of_row wa w.heap.size (i * 4 + 3) _ _ RA
                obtain ⟨j0, j1, j2, j3⟩ := rowCells RA i (by simp; omega)
                have hzr : (xs.take i ++ List.replicate (n - i) zr)[i]'(by simp; omega) = zr := by rw [List.getElem_append_right (by simp; omega)]; simp
                rw [hzr] at j0 j1 j2 j3
                have j0' : wa.cell? ⟨w.heap.size, i * 4, none⟩ = some (.int .i64 0) := j0
                have j1' : wa.cell? ⟨w.heap.size, i * 4 + 1, none⟩ = some (.bool false) := j1
                have j2' : wa.cell? ⟨w.heap.size, i * 4 + 2, none⟩ = some (.int .i64 0) := j2
                have j3' : wa.cell? ⟨w.heap.size, i * 4 + 3, none⟩ = some (.int .i64 0) := j3
                clear j0 j1 j2 j3 hzr
                have S4 : Hid ((set4 wa w.heap.size i ⟨xg, true, xk, xp⟩).drew.heap[w.heap.size]? = some (.cells (cellsW (xs.take (i + 1) ++ List.replicate (n - (i + 1)) zr)).toArray 44 (0, 0))) := by
                  have q := rowSet4 RA i (by simp; omega) ⟨xg, true, xk, xp⟩
                  rw [fill_step hil (by rw [EL.out]; exact hl) _ hxx] at q
                  exact q
                have X4 : Hid ((set4 wa w.heap.size i ⟨xg, true, xk, xp⟩).drew.heap[w.heap.size + 1]? = some (.cells #[.slice (some ⟨w.heap.size, 0, none⟩) n n] 64 (0, 0))) := by
                  have q := (set4_only wa w.heap.size i ⟨xg, true, xk, xp⟩).block (w.heap.size + 1) (by omega)
                  show (set4 wa w.heap.size i ⟨xg, true, xk, xp⟩).heap[w.heap.size + 1]? = _
                  rw [q]; exact XA
                have B4 : Hid (Below w.heap.size w (set4 wa w.heap.size i ⟨xg, true, xk, xp⟩).drew) := by
                  have o := set4_only wa w.heap.size i ⟨xg, true, xk, xp⟩
                  have q := HB.out.trans (BA.mono z1)
                  exact ⟨o.os.trans q.os, o.tape.trans q.tape, o.output.trans q.output, by rw [show (set4 wa w.heap.size i ⟨xg, true, xk, xp⟩).drew.heap.size = (set4 wa w.heap.size i ⟨xg, true, xk, xp⟩).heap.size from rfl, o.size]; exact q.size, fun k hk => (o.block k (by omega)).trans (q.block k hk)⟩
                have OKN : Hid (∀ j (hj : j < i + 1) (hj' : j < xs.length), okR xs[j]) := fun j hj hj' => by
                  rcases Nat.lt_or_ge j i with k | k
                  · exact HA.out j k hj'
                  · obtain rfl : j = i := by omega
                    rw [hxx]; exact OKX0
                clear QA RA XA BA
                go_wp2_with fail
                go_region
                go_wp2
                go_roundw
                case rel => exact ⟨i + 1, by omega, by go_num, OKN.out, S4.out, X4.out, B4.out⟩
                case measure => simp [intOf]; omega
            | false =>
              by_cases g3 : xk = 0
              · by_cases g4 : xp = 0
                · have OKX0 : okR ⟨xg, false, xk, xp⟩ := ⟨by show 0 ≤ xg; omega, by show xg ≤ 65535; omega, fun e => (by cases e), fun _ => ⟨g3, g4⟩⟩
                  have b3 : (xk == 0) = true := by simp [g3]
                  have b3' : (xk != 0) = false := by simp [g3]
                  have b4 : (xp == 0) = true := by simp [g4]
                  have b4' : (xp != 0) = false := by simp [g4]
                  clear g3 g4
                  obtain ⟨wa, hwa⟩ : ∃ wa, wr.alloc (.cells #[.int .i64 xg, .bool false, .int .i64 xk, .int .i64 xp] 44) = wa := ⟨_, rfl⟩
                  have BA : Below wr.heap.size wr wa := by rw [← hwa]; exact (Below.refl _ wr).alloc (Nat.le_refl _) _
                  have QA : wa.heap[wr.heap.size]? = some (.cells #[.int .i64 xg, .bool false, .int .i64 xk, .int .i64 xp] 44 (0, 0)) := by rw [← hwa]; exact Go.heap_alloc_new wr _
                  have RA : wa.heap[w.heap.size]? = some (.cells (cellsW (xs.take i ++ List.replicate (n - i) zr)).toArray 44 (0, 0)) := by rw [BA.block _ (hlt HR.out)]; exact HR.out
                  have XA : wa.heap[w.heap.size + 1]? = some (.cells #[.slice (some ⟨w.heap.size, 0, none⟩) n n] 64 (0, 0)) := by rw [BA.block _ (hlt HX.out)]; exact HX.out
                  have v0 : wa.cell? ⟨wr.heap.size, 0, none⟩ = some (.int .i64 xg) := cell_of_row _ _ 0 _ _ _ QA
                  have v1 : wa.cell? ⟨wr.heap.size, 1, none⟩ = some (.bool false) := cell_of_row _ _ 1 _ _ _ QA
                  have v2 : wa.cell? ⟨wr.heap.size, 2, none⟩ = some (.int .i64 xk) := cell_of_row _ _ 2 _ _ _ QA
                  have v3 : wa.cell? ⟨wr.heap.size, 3, none⟩ = some (.int .i64 xp) := cell_of_row _ _ 3 _ _ _ QA
                  have y0 : wa.cell? ⟨w.heap.size + 1, 0, none⟩ = some (.slice (some ⟨w.heap.size, 0, none⟩) n n) := cell_of_row _ _ 0 _ _ _ XA
                  have t0 := frozen_of_row wa w.heap.size (i * 4) _ _ RA
                  have t1 := frozen_of_row wa w.heap.size (i * 4 + 1) _ _ RA
                  have t2 := frozen_of_row wa w.heap.size (i * 4 + 2) _ _ RA
                  have t3 := frozen_of_row wa w.heap.size (i * 4 + 3) _ _ RA
                  obtain ⟨j0, j1, j2, j3⟩ := rowCells RA i (by simp; omega)
                  have hzr : (xs.take i ++ List.replicate (n - i) zr)[i]'(by simp; omega) = zr := by rw [List.getElem_append_right (by simp; omega)]; simp
                  rw [hzr] at j0 j1 j2 j3
                  have j0' : wa.cell? ⟨w.heap.size, i * 4, none⟩ = some (.int .i64 0) := j0
                  have j1' : wa.cell? ⟨w.heap.size, i * 4 + 1, none⟩ = some (.bool false) := j1
                  have j2' : wa.cell? ⟨w.heap.size, i * 4 + 2, none⟩ = some (.int .i64 0) := j2
                  have j3' : wa.cell? ⟨w.heap.size, i * 4 + 3, none⟩ = some (.int .i64 0) := j3
                  clear j0 j1 j2 j3 hzr
                  have S4 : Hid ((set4 wa w.heap.size i ⟨xg, false, xk, xp⟩).drew.heap[w.heap.size]? = some (.cells (cellsW (xs.take (i + 1) ++ List.replicate (n - (i + 1)) zr)).toArray 44 (0, 0))) := by
                    have q := rowSet4 RA i (by simp; omega) ⟨xg, false, xk, xp⟩
                    rw [fill_step hil (by rw [EL.out]; exact hl) _ hxx] at q
                    exact q
                  have X4 : Hid ((set4 wa w.heap.size i ⟨xg, false, xk, xp⟩).drew.heap[w.heap.size + 1]? = some (.cells #[.slice (some ⟨w.heap.size, 0, none⟩) n n] 64 (0, 0))) := by
                    have q := (set4_only wa w.heap.size i ⟨xg, false, xk, xp⟩).block (w.heap.size + 1) (by omega)
                    show (set4 wa w.heap.size i ⟨xg, false, xk, xp⟩).heap[w.heap.size + 1]? = _
                    rw [q]; exact XA
                  have B4 : Hid (Below w.heap.size w (set4 wa w.heap.size i ⟨xg, false, xk, xp⟩).drew) := by
                    have o := set4_only wa w.heap.size i ⟨xg, false, xk, xp⟩
                    have q := HB.out.trans (BA.mono z1)
                    exact ⟨o.os.trans q.os, o.tape.trans q.tape, o.output.trans q.output, by rw [show (set4 wa w.heap.size i ⟨xg, false, xk, xp⟩).drew.heap.size = (set4 wa w.heap.size i ⟨xg, false, xk, xp⟩).heap.size from rfl, o.size]; exact q.size, fun k hk => (o.block k (by omega)).trans (q.block k hk)⟩
                  have OKN : Hid (∀ j (hj : j < i + 1) (hj' : j < xs.length), okR xs[j]) := fun j hj hj' => by
                    rcases Nat.lt_or_ge j i with k | k
                    · exact HA.out j k hj'
                    · obtain rfl : j = i := by omega
                      rw [hxx]; exact OKX0
                  clear QA RA XA BA
                  go_wp2_with fail
                  go_region
                  go_wp2
                  go_roundw
                  case rel => exact ⟨i + 1, by omega, by go_num, OKN.out, S4.out, X4.out, B4.out⟩
                  case measure => simp [intOf]; omega
                · have NOK : Hid (¬ okR (xs[i]'hil)) := by rw [hxx]; exact fun o => g4 (o.2.2.2 rfl).2
                  have b3 : (xk == 0) = true := by simp [g3]
                  have b3' : (xk != 0) = false := by simp [g3]
                  clear hxx g3
                  go_wp2
                  go_ret2
                  exact ⟨HB.out.alloc z1 _, .inr ⟨NG.out i hil NOK.out, rfl⟩⟩
              · have NOK : Hid (¬ okR (xs[i]'hil)) := by rw [hxx]; exact fun o => g3 (o.2.2.2 rfl).1
                clear hxx
                go_wp2
                go_ret2
                exact ⟨HB.out.alloc z1 _, .inr ⟨NG.out i hil NOK.out, rfl⟩⟩
    · obtain rfl : i = l := by omega
      have ALL : Hid (∀ r ∈ xs, okR r) := fun r hr => by
        obtain ⟨j, hj, rfl⟩ := List.mem_iff_getElem.1 hr
        exact HA.out j (by have := EL.out; omega) hj
      have PR : Hid (∀ w', w'.heap = wr.heap → Gd n xs → Rt w' (w.heap.size + 1) w.heap.size n xs) := fun w' e hg => by
        have q := HR.out
        rw [List.take_of_length_le (by rw [EL.out]; exact Nat.le_refl _)] at q
        refine ⟨by rw [e]; exact HX.out, ?_, hg⟩
        rw [e, q, ← EL.out]
        rfl
      clear hA hR hX
      by_cases hz : i = 0
      · subst hz
        have hg : Gd n xs := by
          have q := List.eq_nil_of_length_eq_zero EL.out
          rw [q]; exact Gd.nil h1 h2
        have HG : Hid (Gd n xs) := hg
        clear hg
        go_wp2
        go_ret2
        exact ⟨HB.out, .inl ⟨HG.out, rfl, PR.out _ rfl HG.out⟩⟩
      · have hil : i - 1 < xs.length := by rw [EL.out]; omega
        rcases H.out.keep hB with e | ⟨ib, io, rfl, hib, hic⟩
        · have q := EL.out; rw [e] at q; simp at q; omega
        · obtain ⟨c0, c1, c2, c3⟩ := hic (i - 1) hil
          obtain ⟨x, hxx⟩ : ∃ x, xs[i - 1]'hil = x := ⟨_, rfl⟩
          rw [hxx] at c0
          have LAST : Hid (xs.getLast? = some x) := by
            show _ = _
            rw [List.getLast?_eq_getElem?, EL.out, List.getElem?_eq_getElem hil, hxx]
          clear c1 c2 c3 hic hxx hB
          obtain ⟨m, rfl⟩ : ∃ m, i = m + 1 := ⟨i - 1, by omega⟩
          simp only [Nat.add_sub_cancel] at c0
          have f1 : (((m + 1 : Nat) : Int) - 1) = (m : Nat) := by omega
          have f2 : ((m + 1 : Nat) : Int) > 0 := by omega
          have f3 : (m : Int) < ((m + 1 : Nat) : Int) := by omega
          have f0 : (0 : Int) ≤ (m : Nat) := by omega
          by_cases gz : x.gen = 0
          · have NO : Hid (¬ Gd n xs) := fun hg => hg.last x LAST.out gz
            go_wp2
            go_ret2
            exact ⟨HB.out, .inr ⟨NO.out, rfl⟩⟩
          · have HG : Hid (Gd n xs) := ⟨h1, h2, by rw [EL.out]; exact hl, ALL.out, fun r hr => by rw [LAST.out] at hr; cases hr; exact gz⟩
            go_wp2
            go_ret2
            exact ⟨HB.out, .inl ⟨HG.out, rfl, PR.out _ rfl HG.out⟩⟩
end Go.Proofs.Ytjdgildeilcfiaa
