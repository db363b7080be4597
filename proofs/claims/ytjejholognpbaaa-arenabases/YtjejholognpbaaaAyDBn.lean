/- What do answers: kinds 4, 5, 6, addresses told from the base on. -/
import Derived.Test.YtjejholognpbaaaAyA
namespace Go.Proofs.Ytjejholognpbaaa
open Go.RowKit
set_option linter.unusedVariables false

set_option maxHeartbeats 4000000 in
theorem do4_near (b g c : Nat) (base x y k v : Int) (l bs : List Int) (a : Option Addr) (w : World) (h : IsA w b g base l) (hC : CallOk w x y k v a bs) :
    Calls Try.prog 13 #[.pointer (some ⟨b, 0, none⟩), .int .i64 base, .agg #[.int .i64 4, .int .i64 x, .int .i64 y, .int .i64 k, .int .u64 v, .slice a bs.length c, .bool true]] w (DoPost w b g base (moveE l.length (x.tmod 2000) (y.tmod 2000) k) (0) (0) (0) ([]) (moveR l (x.tmod 2000) (y.tmod 2000) k)) := by
  obtain ⟨D, hD⟩ : ∃ D, (w.alloc (.cells #[.int .i64 4, .int .i64 x, .int .i64 y, .int .i64 k, .int .u64 v, .slice a bs.length c, .bool true] 39)).alloc (.cells #[.int .i64 0, .int .i64 0, .int .i64 0] 33) = D := ⟨_, rfl⟩
  have hP : Pre w D 4 x y k v a bs.length c true := by rw [← hD]; exact pre_of w 4 x y k v a bs.length c true
  have H : Hid (IsA w b g base l) := h
  have LD : Hid (Below w.heap.size w D) := hP.low
  have SD : Hid (D.heap.size = w.heap.size + 2) := hP.size
  have AD : Hid (Arr D (w.heap.size + 1) 0 0 0) := hP.arr
  have ID : Hid (IsA D b g base l) := h.keep hP.low
  have BD : Hid (IsB D a bs) := hC.isB.keep hP.low
  have q0 := hP.c0
  have q1 := hP.c1
  have q2 := hP.c2
  have q3 := hP.c3
  have q4 := hP.c4
  have q5 := hP.c5
  have q6 := hP.c6
  have h1 := h.lo
  have h2 := h.hi
  have hl := h.len
  have FX : Hid (Fits x) := hC.hx
  have FY : Hid (Fits y) := hC.hy
  have FK : Hid (Fits k) := hC.hk
  have v0 := hC.v0
  have v1 := hC.v1
  have HL : Hid (bs.length ≤ 140737488355328) := hC.len
  have hbl := h.lt
  have hgl := h.row.lt
  obtain ⟨r1, hr1⟩ : ∃ r, x.tmod 2000 = r := ⟨_, rfl⟩
  obtain ⟨r2, hr2⟩ : ∃ r, y.tmod 2000 = r := ⟨_, rfl⟩
  have t1 := tmod_bd x 2000 (by decide)
  have t2 := tmod_bd y 2000 (by decide)
  rw [hr1] at t1
  rw [hr2] at t2
  rw [hr1]
  rw [hr2]
  have G1 : Hid (Fits (base + r1)) := by show Fits _; unfold Fits; omega
  have G2 : Hid (Fits (base + r2)) := by show Fits _; unfold Fits; omega
  have E1 : Hid (base + r1 - base = r1) := by show _ = _; omega
  have E2 : Hid (base + r2 - base = r2) := by show _ = _; omega
  have g1 : IntKind.i64.wrap (base + r1) = base + r1 := by rw [IntKind.wrap_i64]; omega
  have g2 : IntKind.i64.wrap (base + r2) = base + r2 := by rw [IntKind.wrap_i64]; omega
  have g3 : IntKind.i64.wrap r1 = r1 := by rw [IntKind.wrap_i64]; omega
  have g4 : IntKind.i64.wrap r2 = r2 := by rw [IntKind.wrap_i64]; omega
  obtain ⟨E, hE⟩ : ∃ z, moveE l.length r1 r2 k = z := ⟨_, rfl⟩
  have EE : Hid (moveE l.length r1 r2 k = E) := hE
  obtain ⟨L, hL⟩ : ∃ z, moveR l r1 r2 k = z := ⟨_, rfl⟩
  have EL : Hid (moveR l r1 r2 k = L) := hL
  rw [hE, hL]
  clear hE hL
  clear h hC hP
  go_enter Try.func13, Try.ntmps13
  go_wp2_with fail
  go_quiet (fail)
  go_wp2_with fail
  refine (move_any b g base (base + r1) (base + r2) k l _ (ID.out.drewN _) G1.out G2.out FK.out).mono ?_
  rw [E1.out, E2.out]; rw [EE.out, EL.out]
  rintro e w1 ⟨rfl, i1, t1⟩
  have A1 : Hid (Arr w1 (w.heap.size + 1) 0 0 0) := AD.out.tg (Tg.ofDrewN (t1)) (by omega)
  have FIN : Hid (∀ w9, Only (w.heap.size + 1) w1 w9 → Got w.heap.size w9 none [] ∧ IsA w9 b g base L ∧ Tg g w w9) := fun w9 o9 => doFin H.out LD.out SD.out i1 (Tg.ofDrewN (t1)) (.inl rfl) o9
  clear i1 t1
  go_wp2_with (refine wpList_store3 rfl _ _ rfl (w.heap.size + 1) E 0 0 0 0 0 rfl rfl A1.out ?_; intro w9 r9 o9; have c90 := r9.c0; have c91 := r9.c1; have c92 := r9.c2; have F9 := FIN.out w9 o9; clear r9 o9)
  refine bodyPost_ret (v := .tuple #[.agg #[.int .i64 (E), .int .i64 (0), .int .i64 (0)], .int .u64 (0), .slice none (0) 0]) (by simp [results, Try.results13, go_sem, c90, c91, c92]) rfl ?_
  exact ⟨none, rfl, F9⟩

set_option maxHeartbeats 4000000 in
theorem do5_near (b g c : Nat) (base x y k v : Int) (l bs : List Int) (a : Option Addr) (w : World) (h : IsA w b g base l) (hC : CallOk w x y k v a bs) :
    Calls Try.prog 13 #[.pointer (some ⟨b, 0, none⟩), .int .i64 base, .agg #[.int .i64 5, .int .i64 x, .int .i64 y, .int .i64 k, .int .u64 v, .slice a bs.length c, .bool true]] w (DoPost w b g base (errR l.length (x.tmod 2000) 8) (0) (0) (wordR l (x.tmod 2000)) ([]) (l)) := by
  obtain ⟨D, hD⟩ : ∃ D, (w.alloc (.cells #[.int .i64 5, .int .i64 x, .int .i64 y, .int .i64 k, .int .u64 v, .slice a bs.length c, .bool true] 39)).alloc (.cells #[.int .i64 0, .int .i64 0, .int .i64 0] 33) = D := ⟨_, rfl⟩
  have hP : Pre w D 5 x y k v a bs.length c true := by rw [← hD]; exact pre_of w 5 x y k v a bs.length c true
  have H : Hid (IsA w b g base l) := h
  have LD : Hid (Below w.heap.size w D) := hP.low
  have SD : Hid (D.heap.size = w.heap.size + 2) := hP.size
  have AD : Hid (Arr D (w.heap.size + 1) 0 0 0) := hP.arr
  have ID : Hid (IsA D b g base l) := h.keep hP.low
  have BD : Hid (IsB D a bs) := hC.isB.keep hP.low
  have q0 := hP.c0
  have q1 := hP.c1
  have q2 := hP.c2
  have q3 := hP.c3
  have q4 := hP.c4
  have q5 := hP.c5
  have q6 := hP.c6
  have h1 := h.lo
  have h2 := h.hi
  have hl := h.len
  have FX : Hid (Fits x) := hC.hx
  have FY : Hid (Fits y) := hC.hy
  have FK : Hid (Fits k) := hC.hk
  have v0 := hC.v0
  have v1 := hC.v1
  have HL : Hid (bs.length ≤ 140737488355328) := hC.len
  have hbl := h.lt
  have hgl := h.row.lt
  obtain ⟨r1, hr1⟩ : ∃ r, x.tmod 2000 = r := ⟨_, rfl⟩
  obtain ⟨r2, hr2⟩ : ∃ r, y.tmod 2000 = r := ⟨_, rfl⟩
  have t1 := tmod_bd x 2000 (by decide)
  have t2 := tmod_bd y 2000 (by decide)
  rw [hr1] at t1
  rw [hr2] at t2
  rw [hr1]
  have G1 : Hid (Fits (base + r1)) := by show Fits _; unfold Fits; omega
  have G2 : Hid (Fits (base + r2)) := by show Fits _; unfold Fits; omega
  have E1 : Hid (base + r1 - base = r1) := by show _ = _; omega
  have E2 : Hid (base + r2 - base = r2) := by show _ = _; omega
  have g1 : IntKind.i64.wrap (base + r1) = base + r1 := by rw [IntKind.wrap_i64]; omega
  have g2 : IntKind.i64.wrap (base + r2) = base + r2 := by rw [IntKind.wrap_i64]; omega
  have g3 : IntKind.i64.wrap r1 = r1 := by rw [IntKind.wrap_i64]; omega
  have g4 : IntKind.i64.wrap r2 = r2 := by rw [IntKind.wrap_i64]; omega
  obtain ⟨E, hE⟩ : ∃ z, errR l.length r1 8 = z := ⟨_, rfl⟩
  have EE : Hid (errR l.length r1 8 = E) := hE
  obtain ⟨V, hV⟩ : ∃ z, wordR l r1 = z := ⟨_, rfl⟩
  have EV : Hid (wordR l r1 = V) := hV
  rw [hE, hV]
  clear hE hV
  clear h hC hP
  go_enter Try.func13, Try.ntmps13
  go_wp2_with fail
  go_quiet (fail)
  go_wp2_with fail
  refine (word_any b g base (base + r1) l _ (ID.out.drewN _) G1.out).mono ?_
  rw [E1.out]; rw [EE.out, EV.out]
  rintro e w1 ⟨rfl, hw1⟩
  have i1 : IsA w1 b g base l := by rw [← hw1]; exact (ID.out.drewN _)
  have t1 : Tg g D w1 := by rw [← hw1]; exact (Tg.refl g D).drewN _
  have A1 : Hid (Arr w1 (w.heap.size + 1) 0 0 0) := AD.out.tg t1 (by omega)
  have FIN : Hid (∀ w9, Only (w.heap.size + 1) w1 w9 → Got w.heap.size w9 none [] ∧ IsA w9 b g base l ∧ Tg g w w9) := fun w9 o9 => doFin H.out LD.out SD.out i1 t1 (.inl rfl) o9
  clear i1 t1 hw1
  go_wp2_with (refine wpList_store3 rfl _ _ rfl (w.heap.size + 1) E 0 0 0 0 0 rfl rfl A1.out ?_; intro w9 r9 o9; have c90 := r9.c0; have c91 := r9.c1; have c92 := r9.c2; have F9 := FIN.out w9 o9; clear r9 o9)
  refine bodyPost_ret (v := .tuple #[.agg #[.int .i64 (E), .int .i64 (0), .int .i64 (0)], .int .u64 (V), .slice none (0) 0]) (by simp [results, Try.results13, go_sem, c90, c91, c92]) rfl ?_
  exact ⟨none, rfl, F9⟩

set_option maxHeartbeats 4000000 in
theorem do6_near (b g c : Nat) (base x y k v : Int) (l bs : List Int) (a : Option Addr) (w : World) (h : IsA w b g base l) (hC : CallOk w x y k v a bs) :
    Calls Try.prog 13 #[.pointer (some ⟨b, 0, none⟩), .int .i64 base, .agg #[.int .i64 6, .int .i64 x, .int .i64 y, .int .i64 k, .int .u64 v, .slice a bs.length c, .bool true]] w (DoPost w b g base (errR l.length (x.tmod 2000) 8) (0) (0) (0) ([]) (writeR l (x.tmod 2000) (putL 8 v))) := by
  obtain ⟨D, hD⟩ : ∃ D, (w.alloc (.cells #[.int .i64 6, .int .i64 x, .int .i64 y, .int .i64 k, .int .u64 v, .slice a bs.length c, .bool true] 39)).alloc (.cells #[.int .i64 0, .int .i64 0, .int .i64 0] 33) = D := ⟨_, rfl⟩
  have hP : Pre w D 6 x y k v a bs.length c true := by rw [← hD]; exact pre_of w 6 x y k v a bs.length c true
  have H : Hid (IsA w b g base l) := h
  have LD : Hid (Below w.heap.size w D) := hP.low
  have SD : Hid (D.heap.size = w.heap.size + 2) := hP.size
  have AD : Hid (Arr D (w.heap.size + 1) 0 0 0) := hP.arr
  have ID : Hid (IsA D b g base l) := h.keep hP.low
  have BD : Hid (IsB D a bs) := hC.isB.keep hP.low
  have q0 := hP.c0
  have q1 := hP.c1
  have q2 := hP.c2
  have q3 := hP.c3
  have q4 := hP.c4
  have q5 := hP.c5
  have q6 := hP.c6
  have h1 := h.lo
  have h2 := h.hi
  have hl := h.len
  have FX : Hid (Fits x) := hC.hx
  have FY : Hid (Fits y) := hC.hy
  have FK : Hid (Fits k) := hC.hk
  have v0 := hC.v0
  have v1 := hC.v1
  have HL : Hid (bs.length ≤ 140737488355328) := hC.len
  have hbl := h.lt
  have hgl := h.row.lt
  obtain ⟨r1, hr1⟩ : ∃ r, x.tmod 2000 = r := ⟨_, rfl⟩
  obtain ⟨r2, hr2⟩ : ∃ r, y.tmod 2000 = r := ⟨_, rfl⟩
  have t1 := tmod_bd x 2000 (by decide)
  have t2 := tmod_bd y 2000 (by decide)
  rw [hr1] at t1
  rw [hr2] at t2
  rw [hr1]
  have G1 : Hid (Fits (base + r1)) := by show Fits _; unfold Fits; omega
  have G2 : Hid (Fits (base + r2)) := by show Fits _; unfold Fits; omega
  have E1 : Hid (base + r1 - base = r1) := by show _ = _; omega
  have E2 : Hid (base + r2 - base = r2) := by show _ = _; omega
  have g1 : IntKind.i64.wrap (base + r1) = base + r1 := by rw [IntKind.wrap_i64]; omega
  have g2 : IntKind.i64.wrap (base + r2) = base + r2 := by rw [IntKind.wrap_i64]; omega
  have g3 : IntKind.i64.wrap r1 = r1 := by rw [IntKind.wrap_i64]; omega
  have g4 : IntKind.i64.wrap r2 = r2 := by rw [IntKind.wrap_i64]; omega
  obtain ⟨E, hE⟩ : ∃ z, errR l.length r1 8 = z := ⟨_, rfl⟩
  have EE : Hid (errR l.length r1 8 = E) := hE
  obtain ⟨L, hL⟩ : ∃ z, writeR l r1 (putL 8 v) = z := ⟨_, rfl⟩
  have EL : Hid (writeR l r1 (putL 8 v) = L) := hL
  rw [hE, hL]
  clear hE hL
  clear h hC hP
  go_enter Try.func13, Try.ntmps13
  go_wp2_with fail
  go_quiet (fail)
  go_wp2_with fail
  refine (putw_any b g base (base + r1) v l _ (ID.out.drewN _) G1.out v0 v1).mono ?_
  rw [E1.out]; rw [EE.out, EL.out]
  rintro e w1 ⟨rfl, i1, t1⟩
  have A1 : Hid (Arr w1 (w.heap.size + 1) 0 0 0) := AD.out.tg (Tg.ofDrewN (t1)) (by omega)
  have FIN : Hid (∀ w9, Only (w.heap.size + 1) w1 w9 → Got w.heap.size w9 none [] ∧ IsA w9 b g base L ∧ Tg g w w9) := fun w9 o9 => doFin H.out LD.out SD.out i1 (Tg.ofDrewN (t1)) (.inl rfl) o9
  clear i1 t1
  go_wp2_with (refine wpList_store3 rfl _ _ rfl (w.heap.size + 1) E 0 0 0 0 0 rfl rfl A1.out ?_; intro w9 r9 o9; have c90 := r9.c0; have c91 := r9.c1; have c92 := r9.c2; have F9 := FIN.out w9 o9; clear r9 o9)
  refine bodyPost_ret (v := .tuple #[.agg #[.int .i64 (E), .int .i64 (0), .int .i64 (0)], .int .u64 (0), .slice none (0) 0]) (by simp [results, Try.results13, go_sem, c90, c91, c92]) rfl ?_
  exact ⟨none, rfl, F9⟩

end Go.Proofs.Ytjejholognpbaaa
