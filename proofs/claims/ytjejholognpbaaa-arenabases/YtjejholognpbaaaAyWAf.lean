/- What want answers: kinds 1, 2, 3. -/
import Derived.Test.YtjejholognpbaaaAyA
namespace Go.Proofs.Ytjejholognpbaaa
open Go.RowKit
set_option linter.unusedVariables false

set_option maxHeartbeats 4000000 in
theorem want1_far (b g c : Nat) (base x y k v : Int) (l bs : List Int) (a : Option Addr) (w : World) (h : IsM w b g base l) (hC : CallOk w x y k v a bs) (hne : bs = [] ∨ ∀ ad, a = some ad → ad.block ≠ g) :
    Calls Try.prog 14 #[.pointer (some ⟨b, 0, none⟩), .agg #[.int .i64 1, .int .i64 x, .int .i64 y, .int .i64 k, .int .u64 v, .slice a bs.length c, .bool false]] w (WantPost w b g base (errR l.length (x - base) k) (0) (0) (0) (readR l (x - base) k) (l)) := by
  obtain ⟨D, hD⟩ : ∃ D, (w.alloc (.cells #[.int .i64 1, .int .i64 x, .int .i64 y, .int .i64 k, .int .u64 v, .slice a bs.length c, .bool false] 39)).alloc (.cells #[.int .i64 0, .int .i64 0, .int .i64 0] 33) = D := ⟨_, rfl⟩
  have hP : Pre w D 1 x y k v a bs.length c false := by rw [← hD]; exact pre_of w 1 x y k v a bs.length c false
  have H : Hid (IsM w b g base l) := h
  have LD : Hid (Below w.heap.size w D) := hP.low
  have SD : Hid (D.heap.size = w.heap.size + 2) := hP.size
  have AD : Hid (Arr D (w.heap.size + 1) 0 0 0) := hP.arr
  have ID : Hid (IsM D b g base l) := h.keep hP.low
  have BD : Hid (IsB D a bs) := hC.isB.keep hP.low
  have q0 := hP.c0
  have q1 := hP.c1
  have q2 := hP.c2
  have q3 := hP.c3
  have q4 := hP.c4
  have q5 := hP.c5
  have q6 := hP.c6
  have h1 := h.lo
  have h2 := h.hi
  have hl := h.len
  have FX : Hid (Fits x) := hC.hx
  have FY : Hid (Fits y) := hC.hy
  have FK : Hid (Fits k) := hC.hk
  have v0 := hC.v0
  have v1 := hC.v1
  have HL : Hid (bs.length ≤ 140737488355328) := hC.len
  have hbl := h.lt
  have hgl := h.row.lt
  have NE : Hid (bs = [] ∨ ∀ ad, a = some ad → ad.block ≠ g) := hne
  have m0 := ID.out.cell0
  have G1 : Hid (Fits x) := hC.hx
  have G2 : Hid (Fits y) := hC.hy
  obtain ⟨E, hE⟩ : ∃ z, errR l.length (x - base) k = z := ⟨_, rfl⟩
  have EE : Hid (errR l.length (x - base) k = E) := hE
  obtain ⟨R, hR⟩ : ∃ z, readR l (x - base) k = z := ⟨_, rfl⟩
  have ER : Hid (readR l (x - base) k = R) := hR
  rw [hE, hR]
  clear hE hR
  clear h hC hP hne
  go_enter Try.func14, Try.ntmps14
  go_wp2_with fail
  go_quiet (fail)
  go_wp2_with fail
  refine (rread_any b g base (x) k l _ (ID.out.drewN _) G1.out FK.out).mono ?_
  rw [EE.out, ER.out]
  rintro e w1 ⟨ra, rc, rfl, g1, n1, b1⟩
  have A1 : Hid (Arr w1 (w.heap.size + 1) 0 0 0) := AD.out.tg (Tg.ofDrewN (Tg.ofBelow (g := g) b1)) (by omega)
  have FIN : Hid (∀ w9, Only (w.heap.size + 1) w1 w9 → IsB w9 ra R ∧ IsM w9 b g base l ∧ Tg g w w9) := fun w9 o9 => wantFin H.out LD.out SD.out ((ID.out.drewN _).keep b1) (Tg.ofDrewN (Tg.ofBelow (g := g) b1)) g1 n1 o9
  clear g1 b1 n1
  go_wp2_with (refine wpList_store3 rfl _ _ rfl (w.heap.size + 1) E 0 0 0 0 0 rfl rfl A1.out ?_; intro w9 r9 o9; have c90 := r9.c0; have c91 := r9.c1; have c92 := r9.c2; have F9 := FIN.out w9 o9; clear r9 o9)
  refine bodyPost_ret (v := .tuple #[.agg #[.int .i64 (E), .int .i64 (0), .int .i64 (0)], .int .u64 (0), .slice ra (R.length) rc]) (by simp [results, Try.results14, go_sem, c90, c91, c92]) rfl ?_
  exact ⟨ra, rc, rfl, F9⟩

set_option maxHeartbeats 4000000 in
theorem want2_far (b g c : Nat) (base x y k v : Int) (l bs : List Int) (a : Option Addr) (w : World) (h : IsM w b g base l) (hC : CallOk w x y k v a bs) (hne : bs = [] ∨ ∀ ad, a = some ad → ad.block ≠ g) :
    Calls Try.prog 14 #[.pointer (some ⟨b, 0, none⟩), .agg #[.int .i64 2, .int .i64 x, .int .i64 y, .int .i64 k, .int .u64 v, .slice a bs.length c, .bool false]] w (WantPost w b g base (errR l.length (x - base) bs.length) (0) (0) (0) ([]) (writeR l (x - base) bs)) := by
  obtain ⟨D, hD⟩ : ∃ D, (w.alloc (.cells #[.int .i64 2, .int .i64 x, .int .i64 y, .int .i64 k, .int .u64 v, .slice a bs.length c, .bool false] 39)).alloc (.cells #[.int .i64 0, .int .i64 0, .int .i64 0] 33) = D := ⟨_, rfl⟩
  have hP : Pre w D 2 x y k v a bs.length c false := by rw [← hD]; exact pre_of w 2 x y k v a bs.length c false
  have H : Hid (IsM w b g base l) := h
  have LD : Hid (Below w.heap.size w D) := hP.low
  have SD : Hid (D.heap.size = w.heap.size + 2) := hP.size
  have AD : Hid (Arr D (w.heap.size + 1) 0 0 0) := hP.arr
  have ID : Hid (IsM D b g base l) := h.keep hP.low
  have BD : Hid (IsB D a bs) := hC.isB.keep hP.low
  have q0 := hP.c0
  have q1 := hP.c1
  have q2 := hP.c2
  have q3 := hP.c3
  have q4 := hP.c4
  have q5 := hP.c5
  have q6 := hP.c6
  have h1 := h.lo
  have h2 := h.hi
  have hl := h.len
  have FX : Hid (Fits x) := hC.hx
  have FY : Hid (Fits y) := hC.hy
  have FK : Hid (Fits k) := hC.hk
  have v0 := hC.v0
  have v1 := hC.v1
  have HL : Hid (bs.length ≤ 140737488355328) := hC.len
  have hbl := h.lt
  have hgl := h.row.lt
  have NE : Hid (bs = [] ∨ ∀ ad, a = some ad → ad.block ≠ g) := hne
  have m0 := ID.out.cell0
  have G1 : Hid (Fits x) := hC.hx
  have G2 : Hid (Fits y) := hC.hy
  obtain ⟨E, hE⟩ : ∃ z, errR l.length (x - base) bs.length = z := ⟨_, rfl⟩
  have EE : Hid (errR l.length (x - base) bs.length = E) := hE
  obtain ⟨L, hL⟩ : ∃ z, writeR l (x - base) bs = z := ⟨_, rfl⟩
  have EL : Hid (writeR l (x - base) bs = L) := hL
  rw [hE, hL]
  clear hE hL
  clear h hC hP hne
  go_enter Try.func14, Try.ntmps14
  go_wp2_with fail
  go_quiet (fail)
  go_wp2_with fail
  refine (rwrite_any b g base (x) l bs a _ c _ (ID.out.drewN _) G1.out rfl (BD.out.drewN _) (by have := HL.out; unfold maxLen; omega) NE.out).mono ?_
  rw [EE.out, EL.out]
  rintro e w1 ⟨rfl, i1, t1⟩
  have A1 : Hid (Arr w1 (w.heap.size + 1) 0 0 0) := AD.out.tg (Tg.ofDrewN (t1)) (by omega)
  have FIN : Hid (∀ w9, Only (w.heap.size + 1) w1 w9 → IsB w9 none [] ∧ IsM w9 b g base L ∧ Tg g w w9) := fun w9 o9 => wantFin H.out LD.out SD.out i1 (Tg.ofDrewN (t1)) (IsB.nil _ _) (fun ad e => nomatch e) o9
  clear i1 t1
  go_wp2_with (refine wpList_store3 rfl _ _ rfl (w.heap.size + 1) E 0 0 0 0 0 rfl rfl A1.out ?_; intro w9 r9 o9; have c90 := r9.c0; have c91 := r9.c1; have c92 := r9.c2; have F9 := FIN.out w9 o9; clear r9 o9)
  refine bodyPost_ret (v := .tuple #[.agg #[.int .i64 (E), .int .i64 (0), .int .i64 (0)], .int .u64 (0), .slice none (0) 0]) (by simp [results, Try.results14, go_sem, c90, c91, c92]) rfl ?_
  exact ⟨none, 0, rfl, F9⟩

set_option maxHeartbeats 4000000 in
theorem want3_far (b g c : Nat) (base x y k v : Int) (l bs : List Int) (a : Option Addr) (w : World) (h : IsM w b g base l) (hC : CallOk w x y k v a bs) (hne : bs = [] ∨ ∀ ad, a = some ad → ad.block ≠ g) :
    Calls Try.prog 14 #[.pointer (some ⟨b, 0, none⟩), .agg #[.int .i64 3, .int .i64 x, .int .i64 y, .int .i64 k, .int .u64 v, .slice a bs.length c, .bool false]] w (WantPost w b g base (errR l.length (x - base) k) (0) (0) (0) ([]) (zeroR l (x - base) k)) := by
  obtain ⟨D, hD⟩ : ∃ D, (w.alloc (.cells #[.int .i64 3, .int .i64 x, .int .i64 y, .int .i64 k, .int .u64 v, .slice a bs.length c, .bool false] 39)).alloc (.cells #[.int .i64 0, .int .i64 0, .int .i64 0] 33) = D := ⟨_, rfl⟩
  have hP : Pre w D 3 x y k v a bs.length c false := by rw [← hD]; exact pre_of w 3 x y k v a bs.length c false
  have H : Hid (IsM w b g base l) := h
  have LD : Hid (Below w.heap.size w D) := hP.low
  have SD : Hid (D.heap.size = w.heap.size + 2) := hP.size
  have AD : Hid (Arr D (w.heap.size + 1) 0 0 0) := hP.arr
  have ID : Hid (IsM D b g base l) := h.keep hP.low
  have BD : Hid (IsB D a bs) := hC.isB.keep hP.low
  have q0 := hP.c0
  have q1 := hP.c1
  have q2 := hP.c2
  have q3 := hP.c3
  have q4 := hP.c4
  have q5 := hP.c5
  have q6 := hP.c6
  have h1 := h.lo
  have h2 := h.hi
  have hl := h.len
  have FX : Hid (Fits x) := hC.hx
  have FY : Hid (Fits y) := hC.hy
  have FK : Hid (Fits k) := hC.hk
  have v0 := hC.v0
  have v1 := hC.v1
  have HL : Hid (bs.length ≤ 140737488355328) := hC.len
  have hbl := h.lt
  have hgl := h.row.lt
  have NE : Hid (bs = [] ∨ ∀ ad, a = some ad → ad.block ≠ g) := hne
  have m0 := ID.out.cell0
  have G1 : Hid (Fits x) := hC.hx
  have G2 : Hid (Fits y) := hC.hy
  obtain ⟨E, hE⟩ : ∃ z, errR l.length (x - base) k = z := ⟨_, rfl⟩
  have EE : Hid (errR l.length (x - base) k = E) := hE
  obtain ⟨L, hL⟩ : ∃ z, zeroR l (x - base) k = z := ⟨_, rfl⟩
  have EL : Hid (zeroR l (x - base) k = L) := hL
  rw [hE, hL]
  clear hE hL
  clear h hC hP hne
  go_enter Try.func14, Try.ntmps14
  go_wp2_with fail
  go_quiet (fail)
  go_wp2_with fail
  refine (rzero_any b g base (x) k l _ (ID.out.drewN _) G1.out FK.out).mono ?_
  rw [EE.out, EL.out]
  rintro e w1 ⟨rfl, i1, t1⟩
  have A1 : Hid (Arr w1 (w.heap.size + 1) 0 0 0) := AD.out.tg (Tg.ofDrewN (t1)) (by omega)
  have FIN : Hid (∀ w9, Only (w.heap.size + 1) w1 w9 → IsB w9 none [] ∧ IsM w9 b g base L ∧ Tg g w w9) := fun w9 o9 => wantFin H.out LD.out SD.out i1 (Tg.ofDrewN (t1)) (IsB.nil _ _) (fun ad e => nomatch e) o9
  clear i1 t1
  go_wp2_with (refine wpList_store3 rfl _ _ rfl (w.heap.size + 1) E 0 0 0 0 0 rfl rfl A1.out ?_; intro w9 r9 o9; have c90 := r9.c0; have c91 := r9.c1; have c92 := r9.c2; have F9 := FIN.out w9 o9; clear r9 o9)
  refine bodyPost_ret (v := .tuple #[.agg #[.int .i64 (E), .int .i64 (0), .int .i64 (0)], .int .u64 (0), .slice none (0) 0]) (by simp [results, Try.results14, go_sem, c90, c91, c92]) rfl ?_
  exact ⟨none, 0, rfl, F9⟩

end Go.Proofs.Ytjejholognpbaaa
