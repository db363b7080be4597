/- What want answers: kinds 7, 8, 9, addresses told from the base on. -/
import Derived.Test.YtjejholognpbaaaAyA
namespace Go.Proofs.Ytjejholognpbaaa
open Go.RowKit
set_option linter.unusedVariables false

set_option maxHeartbeats 4000000 in
theorem want7in_near (b g c : Nat) (base x y k v : Int) (l bs : List Int) (a : Option Addr) (w : World) (h : IsM w b g base l) (hC : CallOk w x y k v a bs) (hne : bs = [] ∨ ∀ ad, a = some ad → ad.block ≠ g) (hin : inR l.length (x.tmod 2000) 1) :
    Calls Try.prog 14 #[.pointer (some ⟨b, 0, none⟩), .agg #[.int .i64 7, .int .i64 x, .int .i64 y, .int .i64 k, .int .u64 v, .slice a bs.length c, .bool true]] w (WantPost w b g base (1) ((x.tmod 2000) / 256) ((x.tmod 2000) % 256) (0) ([]) (l)) := by
  obtain ⟨D, hD⟩ : ∃ D, (w.alloc (.cells #[.int .i64 7, .int .i64 x, .int .i64 y, .int .i64 k, .int .u64 v, .slice a bs.length c, .bool true] 39)).alloc (.cells #[.int .i64 0, .int .i64 0, .int .i64 0] 33) = D := ⟨_, rfl⟩
  have hP : Pre w D 7 x y k v a bs.length c true := by rw [← hD]; exact pre_of w 7 x y k v a bs.length c true
  have H : Hid (IsM w b g base l) := h
  have LD : Hid (Below w.heap.size w D) := hP.low
  have SD : Hid (D.heap.size = w.heap.size + 2) := hP.size
  have AD : Hid (Arr D (w.heap.size + 1) 0 0 0) := hP.arr
  have ID : Hid (IsM D b g base l) := h.keep hP.low
  have BD : Hid (IsB D a bs) := hC.isB.keep hP.low
  have q0 := hP.c0
  have q1 := hP.c1
  have q2 := hP.c2
  have q3 := hP.c3
  have q4 := hP.c4
  have q5 := hP.c5
  have q6 := hP.c6
  have h1 := h.lo
  have h2 := h.hi
  have hl := h.len
  have FX : Hid (Fits x) := hC.hx
  have FY : Hid (Fits y) := hC.hy
  have FK : Hid (Fits k) := hC.hk
  have v0 := hC.v0
  have v1 := hC.v1
  have HL : Hid (bs.length ≤ 140737488355328) := hC.len
  have hbl := h.lt
  have hgl := h.row.lt
  have NE : Hid (bs = [] ∨ ∀ ad, a = some ad → ad.block ≠ g) := hne
  have m0 := ID.out.cell0
  obtain ⟨r1, hr1⟩ : ∃ r, x.tmod 2000 = r := ⟨_, rfl⟩
  obtain ⟨r2, hr2⟩ : ∃ r, y.tmod 2000 = r := ⟨_, rfl⟩
  have t1 := tmod_bd x 2000 (by decide)
  have t2 := tmod_bd y 2000 (by decide)
  rw [hr1] at t1
  rw [hr2] at t2
  rw [hr1] at hin
  rw [hr1]
  have G1 : Hid (Fits (base + r1)) := by show Fits _; unfold Fits; omega
  have G2 : Hid (Fits (base + r2)) := by show Fits _; unfold Fits; omega
  have E1 : Hid (base + r1 - base = r1) := by show _ = _; omega
  have E2 : Hid (base + r2 - base = r2) := by show _ = _; omega
  have g1 : IntKind.i64.wrap (base + r1) = base + r1 := by rw [IntKind.wrap_i64]; omega
  have g2 : IntKind.i64.wrap (base + r2) = base + r2 := by rw [IntKind.wrap_i64]; omega
  have g3 : IntKind.i64.wrap r1 = r1 := by rw [IntKind.wrap_i64]; omega
  have g4 : IntKind.i64.wrap r2 = r2 := by rw [IntKind.wrap_i64]; omega
  have EP : Hid (placeR l.length r1 = (r1 / 256, r1 % 256, true)) := if_pos hin
  have hin0 := hin.2.1
  have hin1 := hin.2.2
  obtain ⟨P, hP1⟩ : ∃ z, r1 / 256 = z := ⟨_, rfl⟩
  obtain ⟨S, hS1⟩ : ∃ z, r1 % 256 = z := ⟨_, rfl⟩
  have EP' : Hid (placeR l.length r1 = (P, S, true)) := by show _ = _; rw [EP.out, hP1, hS1]
  rw [hP1, hS1]
  clear hP1 hS1 EP hin hin0 hin1
  clear h hC hP hne
  go_enter Try.func14, Try.ntmps14
  go_wp2_with fail
  go_quiet (fail)
  go_wp2_with fail
  go_quiet (fail)
  go_wp2_with fail
  refine (rplace_any b g base (base + r1) l _ (ID.out.drewN _) G1.out).mono ?_
  rw [E1.out]; rw [EP'.out]
  rintro e w1 ⟨rfl, mq, hw1⟩
  have i1 : IsM w1 b g base l := by rw [hw1]; exact (ID.out.drewN _).drewN mq
  have t1 : Tg g D w1 := by rw [hw1]; exact ((Tg.refl g D).drewN _).drewN mq
  have A1 : Hid (Arr w1 (w.heap.size + 1) 0 0 0) := AD.out.tg t1 (by omega)
  have FIN : Hid (∀ w9, Only (w.heap.size + 1) w1 w9 → IsB w9 none [] ∧ IsM w9 b g base l ∧ Tg g w w9) := fun w9 o9 => wantFin H.out LD.out SD.out i1 t1 (IsB.nil _ _) (fun ad e => nomatch e) o9
  clear i1 t1 hw1
  go_wp2_with (refine wpList_store3 rfl _ _ rfl (w.heap.size + 1) 1 P S 0 0 0 rfl rfl A1.out ?_; intro w9 r9 o9; have c90 := r9.c0; have c91 := r9.c1; have c92 := r9.c2; have F9 := FIN.out w9 o9; clear r9 o9)
  refine bodyPost_ret (v := .tuple #[.agg #[.int .i64 (1), .int .i64 (P), .int .i64 (S)], .int .u64 (0), .slice none (0) 0]) (by simp [results, Try.results14, go_sem, c90, c91, c92]) rfl ?_
  exact ⟨none, 0, rfl, F9⟩
set_option maxHeartbeats 4000000 in
theorem want7out_near (b g c : Nat) (base x y k v : Int) (l bs : List Int) (a : Option Addr) (w : World) (h : IsM w b g base l) (hC : CallOk w x y k v a bs) (hne : bs = [] ∨ ∀ ad, a = some ad → ad.block ≠ g) (hin : ¬ inR l.length (x.tmod 2000) 1) :
    Calls Try.prog 14 #[.pointer (some ⟨b, 0, none⟩), .agg #[.int .i64 7, .int .i64 x, .int .i64 y, .int .i64 k, .int .u64 v, .slice a bs.length c, .bool true]] w (WantPost w b g base (0) (0) (0) (0) ([]) (l)) := by
  obtain ⟨D, hD⟩ : ∃ D, (w.alloc (.cells #[.int .i64 7, .int .i64 x, .int .i64 y, .int .i64 k, .int .u64 v, .slice a bs.length c, .bool true] 39)).alloc (.cells #[.int .i64 0, .int .i64 0, .int .i64 0] 33) = D := ⟨_, rfl⟩
  have hP : Pre w D 7 x y k v a bs.length c true := by rw [← hD]; exact pre_of w 7 x y k v a bs.length c true
  have H : Hid (IsM w b g base l) := h
  have LD : Hid (Below w.heap.size w D) := hP.low
  have SD : Hid (D.heap.size = w.heap.size + 2) := hP.size
  have AD : Hid (Arr D (w.heap.size + 1) 0 0 0) := hP.arr
  have ID : Hid (IsM D b g base l) := h.keep hP.low
  have BD : Hid (IsB D a bs) := hC.isB.keep hP.low
  have q0 := hP.c0
  have q1 := hP.c1
  have q2 := hP.c2
  have q3 := hP.c3
  have q4 := hP.c4
  have q5 := hP.c5
  have q6 := hP.c6
  have h1 := h.lo
  have h2 := h.hi
  have hl := h.len
  have FX : Hid (Fits x) := hC.hx
  have FY : Hid (Fits y) := hC.hy
  have FK : Hid (Fits k) := hC.hk
  have v0 := hC.v0
  have v1 := hC.v1
  have HL : Hid (bs.length ≤ 140737488355328) := hC.len
  have hbl := h.lt
  have hgl := h.row.lt
  have NE : Hid (bs = [] ∨ ∀ ad, a = some ad → ad.block ≠ g) := hne
  have m0 := ID.out.cell0
  obtain ⟨r1, hr1⟩ : ∃ r, x.tmod 2000 = r := ⟨_, rfl⟩
  obtain ⟨r2, hr2⟩ : ∃ r, y.tmod 2000 = r := ⟨_, rfl⟩
  have t1 := tmod_bd x 2000 (by decide)
  have t2 := tmod_bd y 2000 (by decide)
  rw [hr1] at t1
  rw [hr2] at t2
  rw [hr1] at hin
  have G1 : Hid (Fits (base + r1)) := by show Fits _; unfold Fits; omega
  have G2 : Hid (Fits (base + r2)) := by show Fits _; unfold Fits; omega
  have E1 : Hid (base + r1 - base = r1) := by show _ = _; omega
  have E2 : Hid (base + r2 - base = r2) := by show _ = _; omega
  have g1 : IntKind.i64.wrap (base + r1) = base + r1 := by rw [IntKind.wrap_i64]; omega
  have g2 : IntKind.i64.wrap (base + r2) = base + r2 := by rw [IntKind.wrap_i64]; omega
  have g3 : IntKind.i64.wrap r1 = r1 := by rw [IntKind.wrap_i64]; omega
  have g4 : IntKind.i64.wrap r2 = r2 := by rw [IntKind.wrap_i64]; omega
  have EP' : Hid (placeR l.length r1 = (0, 0, false)) := if_neg hin
  clear hin
  clear h hC hP hne
  go_enter Try.func14, Try.ntmps14
  go_wp2_with fail
  go_quiet (fail)
  go_wp2_with fail
  go_quiet (fail)
  go_wp2_with fail
  refine (rplace_any b g base (base + r1) l _ (ID.out.drewN _) G1.out).mono ?_
  rw [E1.out]; rw [EP'.out]
  rintro e w1 ⟨rfl, mq, hw1⟩
  have i1 : IsM w1 b g base l := by rw [hw1]; exact (ID.out.drewN _).drewN mq
  have t1 : Tg g D w1 := by rw [hw1]; exact ((Tg.refl g D).drewN _).drewN mq
  have A1 : Hid (Arr w1 (w.heap.size + 1) 0 0 0) := AD.out.tg t1 (by omega)
  have FIN : Hid (∀ w9, Only (w.heap.size + 1) w1 w9 → IsB w9 none [] ∧ IsM w9 b g base l ∧ Tg g w w9) := fun w9 o9 => wantFin H.out LD.out SD.out i1 t1 (IsB.nil _ _) (fun ad e => nomatch e) o9
  clear i1 t1 hw1
  go_wp2_with (refine wpList_store3 rfl _ _ rfl (w.heap.size + 1) 0 0 0 0 0 0 rfl rfl A1.out ?_; intro w9 r9 o9; have c90 := r9.c0; have c91 := r9.c1; have c92 := r9.c2; have F9 := FIN.out w9 o9; clear r9 o9)
  refine bodyPost_ret (v := .tuple #[.agg #[.int .i64 (0), .int .i64 (0), .int .i64 (0)], .int .u64 (0), .slice none (0) 0]) (by simp [results, Try.results14, go_sem, c90, c91, c92]) rfl ?_
  exact ⟨none, 0, rfl, F9⟩

set_option maxHeartbeats 4000000 in
theorem want8in_near (b g c : Nat) (base x y k v : Int) (l bs : List Int) (a : Option Addr) (w : World) (h : IsM w b g base l) (hC : CallOk w x y k v a bs) (hne : bs = [] ∨ ∀ ad, a = some ad → ad.block ≠ g) (hin : hasP l.length x k) :
    Calls Try.prog 14 #[.pointer (some ⟨b, 0, none⟩), .agg #[.int .i64 8, .int .i64 x, .int .i64 y, .int .i64 k, .int .u64 v, .slice a bs.length c, .bool true]] w (WantPost w b g base (1) (256 * x + k) (0) (0) ([]) (l)) := by
  obtain ⟨D, hD⟩ : ∃ D, (w.alloc (.cells #[.int .i64 8, .int .i64 x, .int .i64 y, .int .i64 k, .int .u64 v, .slice a bs.length c, .bool true] 39)).alloc (.cells #[.int .i64 0, .int .i64 0, .int .i64 0] 33) = D := ⟨_, rfl⟩
  have hP : Pre w D 8 x y k v a bs.length c true := by rw [← hD]; exact pre_of w 8 x y k v a bs.length c true
  have H : Hid (IsM w b g base l) := h
  have LD : Hid (Below w.heap.size w D) := hP.low
  have SD : Hid (D.heap.size = w.heap.size + 2) := hP.size
  have AD : Hid (Arr D (w.heap.size + 1) 0 0 0) := hP.arr
  have ID : Hid (IsM D b g base l) := h.keep hP.low
  have BD : Hid (IsB D a bs) := hC.isB.keep hP.low
  have q0 := hP.c0
  have q1 := hP.c1
  have q2 := hP.c2
  have q3 := hP.c3
  have q4 := hP.c4
  have q5 := hP.c5
  have q6 := hP.c6
  have h1 := h.lo
  have h2 := h.hi
  have hl := h.len
  have FX : Hid (Fits x) := hC.hx
  have FY : Hid (Fits y) := hC.hy
  have FK : Hid (Fits k) := hC.hk
  have v0 := hC.v0
  have v1 := hC.v1
  have HL : Hid (bs.length ≤ 140737488355328) := hC.len
  have hbl := h.lt
  have hgl := h.row.lt
  have NE : Hid (bs = [] ∨ ∀ ad, a = some ad → ad.block ≠ g) := hne
  have m0 := ID.out.cell0
  obtain ⟨r1, hr1⟩ : ∃ r, x.tmod 2000 = r := ⟨_, rfl⟩
  obtain ⟨r2, hr2⟩ : ∃ r, y.tmod 2000 = r := ⟨_, rfl⟩
  have t1 := tmod_bd x 2000 (by decide)
  have t2 := tmod_bd y 2000 (by decide)
  rw [hr1] at t1
  rw [hr2] at t2
  have G1 : Hid (Fits (base + r1)) := by show Fits _; unfold Fits; omega
  have G2 : Hid (Fits (base + r2)) := by show Fits _; unfold Fits; omega
  have E1 : Hid (base + r1 - base = r1) := by show _ = _; omega
  have E2 : Hid (base + r2 - base = r2) := by show _ = _; omega
  have g1 : IntKind.i64.wrap (base + r1) = base + r1 := by rw [IntKind.wrap_i64]; omega
  have g2 : IntKind.i64.wrap (base + r2) = base + r2 := by rw [IntKind.wrap_i64]; omega
  have g3 : IntKind.i64.wrap r1 = r1 := by rw [IntKind.wrap_i64]; omega
  have g4 : IntKind.i64.wrap r2 = r2 := by rw [IntKind.wrap_i64]; omega
  have HP : Hid (hasP l.length x k) := hin
  obtain ⟨S, hS1⟩ : ∃ z, 256 * x + k = z := ⟨_, rfl⟩
  have ES : Hid (base + x * 256 + k = base + S) := by show _ = _; omega
  have ES' : Hid (base + 256 * x + k = base + S) := by show _ = _; omega
  have s9 : base + S - base = S := by omega
  unfold hasP at hin
  have s0 : 0 ≤ S := by omega
  have s1 : S ≤ 1048576 := by omega
  rw [hS1]
  clear hS1 hin
  clear h hC hP hne
  go_enter Try.func14, Try.ntmps14
  go_wp2_with fail
  go_quiet (fail)
  go_wp2_with fail
  go_quiet (fail)
  go_wp2_with fail
  refine (raddr_in b g base x k l _ (ID.out.drewN _) HP.out).mono ?_
  rw [ES'.out]
  rintro e w1 ⟨rfl, hw1⟩
  have i1 : IsM w1 b g base l := by rw [← hw1]; exact (ID.out.drewN _)
  have t1 : Tg g D w1 := by rw [← hw1]; exact (Tg.refl g D).drewN _
  have m9 := i1.cell0
  have A1 : Hid (Arr w1 (w.heap.size + 1) 0 0 0) := AD.out.tg t1 (by omega)
  have FIN : Hid (∀ w9, Only (w.heap.size + 1) w1 w9 → IsB w9 none [] ∧ IsM w9 b g base l ∧ Tg g w w9) := fun w9 o9 => wantFin H.out LD.out SD.out i1 t1 (IsB.nil _ _) (fun ad e => nomatch e) o9
  clear i1 t1 hw1
  go_wp2_with (refine wpList_store3 rfl _ _ rfl (w.heap.size + 1) 1 S 0 0 0 0 rfl rfl A1.out ?_; intro w9 r9 o9; have c90 := r9.c0; have c91 := r9.c1; have c92 := r9.c2; have F9 := FIN.out w9 o9; clear r9 o9)
  refine bodyPost_ret (v := .tuple #[.agg #[.int .i64 (1), .int .i64 (S), .int .i64 (0)], .int .u64 (0), .slice none (0) 0]) (by simp [results, Try.results14, go_sem, c90, c91, c92]) rfl ?_
  exact ⟨none, 0, rfl, F9⟩
set_option maxHeartbeats 4000000 in
theorem want8out_near (b g c : Nat) (base x y k v : Int) (l bs : List Int) (a : Option Addr) (w : World) (h : IsM w b g base l) (hC : CallOk w x y k v a bs) (hne : bs = [] ∨ ∀ ad, a = some ad → ad.block ≠ g) (hin : ¬ hasP l.length x k) :
    Calls Try.prog 14 #[.pointer (some ⟨b, 0, none⟩), .agg #[.int .i64 8, .int .i64 x, .int .i64 y, .int .i64 k, .int .u64 v, .slice a bs.length c, .bool true]] w (WantPost w b g base (0) (0) (0) (0) ([]) (l)) := by
  obtain ⟨D, hD⟩ : ∃ D, (w.alloc (.cells #[.int .i64 8, .int .i64 x, .int .i64 y, .int .i64 k, .int .u64 v, .slice a bs.length c, .bool true] 39)).alloc (.cells #[.int .i64 0, .int .i64 0, .int .i64 0] 33) = D := ⟨_, rfl⟩
  have hP : Pre w D 8 x y k v a bs.length c true := by rw [← hD]; exact pre_of w 8 x y k v a bs.length c true
  have H : Hid (IsM w b g base l) := h
  have LD : Hid (Below w.heap.size w D) := hP.low
  have SD : Hid (D.heap.size = w.heap.size + 2) := hP.size
  have AD : Hid (Arr D (w.heap.size + 1) 0 0 0) := hP.arr
  have ID : Hid (IsM D b g base l) := h.keep hP.low
  have BD : Hid (IsB D a bs) := hC.isB.keep hP.low
  have q0 := hP.c0
  have q1 := hP.c1
  have q2 := hP.c2
  have q3 := hP.c3
  have q4 := hP.c4
  have q5 := hP.c5
  have q6 := hP.c6
  have h1 := h.lo
  have h2 := h.hi
  have hl := h.len
  have FX : Hid (Fits x) := hC.hx
  have FY : Hid (Fits y) := hC.hy
  have FK : Hid (Fits k) := hC.hk
  have v0 := hC.v0
  have v1 := hC.v1
  have HL : Hid (bs.length ≤ 140737488355328) := hC.len
  have hbl := h.lt
  have hgl := h.row.lt
  have NE : Hid (bs = [] ∨ ∀ ad, a = some ad → ad.block ≠ g) := hne
  have m0 := ID.out.cell0
  obtain ⟨r1, hr1⟩ : ∃ r, x.tmod 2000 = r := ⟨_, rfl⟩
  obtain ⟨r2, hr2⟩ : ∃ r, y.tmod 2000 = r := ⟨_, rfl⟩
  have t1 := tmod_bd x 2000 (by decide)
  have t2 := tmod_bd y 2000 (by decide)
  rw [hr1] at t1
  rw [hr2] at t2
  have G1 : Hid (Fits (base + r1)) := by show Fits _; unfold Fits; omega
  have G2 : Hid (Fits (base + r2)) := by show Fits _; unfold Fits; omega
  have E1 : Hid (base + r1 - base = r1) := by show _ = _; omega
  have E2 : Hid (base + r2 - base = r2) := by show _ = _; omega
  have g1 : IntKind.i64.wrap (base + r1) = base + r1 := by rw [IntKind.wrap_i64]; omega
  have g2 : IntKind.i64.wrap (base + r2) = base + r2 := by rw [IntKind.wrap_i64]; omega
  have g3 : IntKind.i64.wrap r1 = r1 := by rw [IntKind.wrap_i64]; omega
  have g4 : IntKind.i64.wrap r2 = r2 := by rw [IntKind.wrap_i64]; omega
  have HP : Hid (¬ hasP l.length x k) := hin
  clear hin
  clear h hC hP hne
  go_enter Try.func14, Try.ntmps14
  go_wp2_with fail
  go_quiet (fail)
  go_wp2_with fail
  go_quiet (fail)
  go_wp2_with fail
  refine (raddr_out b g base x k l _ (ID.out.drewN _) HP.out).mono ?_
  rintro e w1 ⟨rfl, hw1⟩
  have i1 : IsM w1 b g base l := by rw [← hw1]; exact (ID.out.drewN _)
  have t1 : Tg g D w1 := by rw [← hw1]; exact (Tg.refl g D).drewN _
  have A1 : Hid (Arr w1 (w.heap.size + 1) 0 0 0) := AD.out.tg t1 (by omega)
  have FIN : Hid (∀ w9, Only (w.heap.size + 1) w1 w9 → IsB w9 none [] ∧ IsM w9 b g base l ∧ Tg g w w9) := fun w9 o9 => wantFin H.out LD.out SD.out i1 t1 (IsB.nil _ _) (fun ad e => nomatch e) o9
  clear i1 t1 hw1
  go_wp2_with (refine wpList_store3 rfl _ _ rfl (w.heap.size + 1) 0 0 0 0 0 0 rfl rfl A1.out ?_; intro w9 r9 o9; have c90 := r9.c0; have c91 := r9.c1; have c92 := r9.c2; have F9 := FIN.out w9 o9; clear r9 o9)
  refine bodyPost_ret (v := .tuple #[.agg #[.int .i64 (0), .int .i64 (0), .int .i64 (0)], .int .u64 (0), .slice none (0) 0]) (by simp [results, Try.results14, go_sem, c90, c91, c92]) rfl ?_
  exact ⟨none, 0, rfl, F9⟩

set_option maxHeartbeats 4000000 in
theorem want9_near (b g c : Nat) (base x y k v : Int) (kd : Int) (l bs : List Int) (a : Option Addr) (w : World) (h : IsM w b g base l) (hC : CallOk w x y k v a bs) (hne : bs = [] ∨ ∀ ad, a = some ad → ad.block ≠ g) (k1 : kd ≠ 1) (k2 : kd ≠ 2) (k3 : kd ≠ 3) (k4 : kd ≠ 4) (k5 : kd ≠ 5) (k6 : kd ≠ 6) (k7 : kd ≠ 7) (k8 : kd ≠ 8) :
    Calls Try.prog 14 #[.pointer (some ⟨b, 0, none⟩), .agg #[.int .i64 kd, .int .i64 x, .int .i64 y, .int .i64 k, .int .u64 v, .slice a bs.length c, .bool true]] w (WantPost w b g base (0) (0) (0) (0) ([]) (l)) := by
  obtain ⟨D, hD⟩ : ∃ D, (w.alloc (.cells #[.int .i64 kd, .int .i64 x, .int .i64 y, .int .i64 k, .int .u64 v, .slice a bs.length c, .bool true] 39)).alloc (.cells #[.int .i64 0, .int .i64 0, .int .i64 0] 33) = D := ⟨_, rfl⟩
  have hP : Pre w D kd x y k v a bs.length c true := by rw [← hD]; exact pre_of w kd x y k v a bs.length c true
  have H : Hid (IsM w b g base l) := h
  have LD : Hid (Below w.heap.size w D) := hP.low
  have SD : Hid (D.heap.size = w.heap.size + 2) := hP.size
  have AD : Hid (Arr D (w.heap.size + 1) 0 0 0) := hP.arr
  have ID : Hid (IsM D b g base l) := h.keep hP.low
  have BD : Hid (IsB D a bs) := hC.isB.keep hP.low
  have q0 := hP.c0
  have q1 := hP.c1
  have q2 := hP.c2
  have q3 := hP.c3
  have q4 := hP.c4
  have q5 := hP.c5
  have q6 := hP.c6
  have h1 := h.lo
  have h2 := h.hi
  have hl := h.len
  have FX : Hid (Fits x) := hC.hx
  have FY : Hid (Fits y) := hC.hy
  have FK : Hid (Fits k) := hC.hk
  have v0 := hC.v0
  have v1 := hC.v1
  have HL : Hid (bs.length ≤ 140737488355328) := hC.len
  have hbl := h.lt
  have hgl := h.row.lt
  have NE : Hid (bs = [] ∨ ∀ ad, a = some ad → ad.block ≠ g) := hne
  have m0 := ID.out.cell0
  obtain ⟨r1, hr1⟩ : ∃ r, x.tmod 2000 = r := ⟨_, rfl⟩
  obtain ⟨r2, hr2⟩ : ∃ r, y.tmod 2000 = r := ⟨_, rfl⟩
  have t1 := tmod_bd x 2000 (by decide)
  have t2 := tmod_bd y 2000 (by decide)
  rw [hr1] at t1
  rw [hr2] at t2
  have G1 : Hid (Fits (base + r1)) := by show Fits _; unfold Fits; omega
  have G2 : Hid (Fits (base + r2)) := by show Fits _; unfold Fits; omega
  have E1 : Hid (base + r1 - base = r1) := by show _ = _; omega
  have E2 : Hid (base + r2 - base = r2) := by show _ = _; omega
  have g1 : IntKind.i64.wrap (base + r1) = base + r1 := by rw [IntKind.wrap_i64]; omega
  have g2 : IntKind.i64.wrap (base + r2) = base + r2 := by rw [IntKind.wrap_i64]; omega
  have g3 : IntKind.i64.wrap r1 = r1 := by rw [IntKind.wrap_i64]; omega
  have g4 : IntKind.i64.wrap r2 = r2 := by rw [IntKind.wrap_i64]; omega
  have b1 : (kd == 1) = false := beq_eq_false_iff_ne.2 k1
  have b2 : (kd == 2) = false := beq_eq_false_iff_ne.2 k2
  have b3 : (kd == 3) = false := beq_eq_false_iff_ne.2 k3
  have b4 : (kd == 4) = false := beq_eq_false_iff_ne.2 k4
  have b5 : (kd == 5) = false := beq_eq_false_iff_ne.2 k5
  have b6 : (kd == 6) = false := beq_eq_false_iff_ne.2 k6
  have b7 : (kd == 7) = false := beq_eq_false_iff_ne.2 k7
  have b8 : (kd == 8) = false := beq_eq_false_iff_ne.2 k8
  clear k1 k2 k3 k4 k5 k6 k7 k8
  clear h hC hP hne
  go_enter Try.func14, Try.ntmps14
  go_wp2_with fail
  go_quiet (fail)
  go_wp2_with fail
  go_quiet (fail)
  have A1 : Hid (∀ m, Arr (D.drewN m) (w.heap.size + 1) 0 0 0) := fun m => AD.out
  have FIN : Hid (∀ m w9, Only (w.heap.size + 1) (D.drewN m) w9 → IsB w9 none [] ∧ IsM w9 b g base l ∧ Tg g w w9) := fun m w9 o9 => wantFin H.out LD.out SD.out (ID.out.drewN _) ((Tg.refl g D).drewN _) (IsB.nil _ _) (fun ad e => nomatch e) o9
  go_wp2_with (refine wpList_store3 rfl _ _ rfl (w.heap.size + 1) 0 0 0 0 0 0 rfl rfl (A1.out _) ?_; intro w9 r9 o9; have c90 := r9.c0; have c91 := r9.c1; have c92 := r9.c2; have F9 := FIN.out _ w9 o9; clear r9 o9)
  refine bodyPost_ret (v := .tuple #[.agg #[.int .i64 (0), .int .i64 (0), .int .i64 (0)], .int .u64 (0), .slice none (0) 0]) (by simp [results, Try.results14, go_sem, c90, c91, c92]) rfl ?_
  exact ⟨none, 0, rfl, F9⟩

end Go.Proofs.Ytjejholognpbaaa
