/- What want answers: kinds 4, 5, 6, addresses told from the base on. -/
import Derived.Test.YtjejholognpbaaaAyA
namespace Go.Proofs.Ytjejholognpbaaa
open Go.RowKit
set_option linter.unusedVariables false

set_option maxHeartbeats 4000000 in
theorem want4_near (b g c : Nat) (base x y k v : Int) (l bs : List Int) (a : Option Addr) (w : World) (h : IsM w b g base l) (hC : CallOk w x y k v a bs) (hne : bs = [] ∨ ∀ ad, a = some ad → ad.block ≠ g) :
    Calls Try.prog 14 #[.pointer (some ⟨b, 0, none⟩), .agg #[.int .i64 4, .int .i64 x, .int .i64 y, .int .i64 k, .int .u64 v, .slice a bs.length c, .bool true]] w (WantPost w b g base (moveE l.length (x.tmod 2000) (y.tmod 2000) k) (0) (0) (0) ([]) (moveR l (x.tmod 2000) (y.tmod 2000) k)) := by
  obtain ⟨D, hD⟩ : ∃ D, (w.alloc (.cells #[.int .i64 4, .int .i64 x, .int .i64 y, .int .i64 k, .int .u64 v, .slice a bs.length c, .bool true] 39)).alloc (.cells #[.int .i64 0, .int .i64 0, .int .i64 0] 33) = D := ⟨_, rfl⟩
  have hP : Pre w D 4 x y k v a bs.length c true := by rw [← hD]; exact pre_of w 4 x y k v a bs.length c true
  have H : Hid (IsM w b g base l) := h
  have LD : Hid (Below w.heap.size w D) := hP.low
  have SD : Hid (D.heap.size = w.heap.size + 2) := hP.size
  have AD : Hid (Arr D (w.heap.size + 1) 0 0 0) := hP.arr
  have ID : Hid (IsM D b g base l) := h.keep hP.low
  have BD : Hid (IsB D a bs) := hC.isB.keep hP.low
  have q0 := hP.c0
  have q1 := hP.c1
  have q2 := hP.c2
  have q3 := hP.c3
  have q4 := hP.c4
  have q5 := hP.c5
  have q6 := hP.c6
  have h1 := h.lo
  have h2 := h.hi
  have hl := h.len
  have FX : Hid (Fits x) := hC.hx
  have FY : Hid (Fits y) := hC.hy
  have FK : Hid (Fits k) := hC.hk
  have v0 := hC.v0
  have v1 := hC.v1
  have HL : Hid (bs.length ≤ 140737488355328) := hC.len
  have hbl := h.lt
  have hgl := h.row.lt
  have NE : Hid (bs = [] ∨ ∀ ad, a = some ad → ad.block ≠ g) := hne
  have m0 := ID.out.cell0
  obtain ⟨r1, hr1⟩ : ∃ r, x.tmod 2000 = r := ⟨_, rfl⟩
  obtain ⟨r2, hr2⟩ : ∃ r, y.tmod 2000 = r := ⟨_, rfl⟩
  have t1 := tmod_bd x 2000 (by decide)
  have t2 := tmod_bd y 2000 (by decide)
  rw [hr1] at t1
  rw [hr2] at t2
  rw [hr1]
  rw [hr2]
  have G1 : Hid (Fits (base + r1)) := by show Fits _; unfold Fits; omega
  have G2 : Hid (Fits (base + r2)) := by show Fits _; unfold Fits; omega
  have E1 : Hid (base + r1 - base = r1) := by show _ = _; omega
  have E2 : Hid (base + r2 - base = r2) := by show _ = _; omega
  have g1 : IntKind.i64.wrap (base + r1) = base + r1 := by rw [IntKind.wrap_i64]; omega
  have g2 : IntKind.i64.wrap (base + r2) = base + r2 := by rw [IntKind.wrap_i64]; omega
  have g3 : IntKind.i64.wrap r1 = r1 := by rw [IntKind.wrap_i64]; omega
  have g4 : IntKind.i64.wrap r2 = r2 := by rw [IntKind.wrap_i64]; omega
  obtain ⟨E, hE⟩ : ∃ z, moveE l.length r1 r2 k = z := ⟨_, rfl⟩
  have EE : Hid (moveE l.length r1 r2 k = E) := hE
  obtain ⟨L, hL⟩ : ∃ z, moveR l r1 r2 k = z := ⟨_, rfl⟩
  have EL : Hid (moveR l r1 r2 k = L) := hL
  rw [hE, hL]
  clear hE hL
  clear h hC hP hne
  go_enter Try.func14, Try.ntmps14
  go_wp2_with fail
  go_quiet (fail)
  go_wp2_with fail
  go_quiet (fail)
  go_wp2_with fail
  refine (rmove_any b g base (base + r1) (base + r2) k l _ (ID.out.drewN _) G1.out G2.out FK.out).mono ?_
  rw [E1.out, E2.out]; rw [EE.out, EL.out]
  rintro e w1 ⟨rfl, i1, t1⟩
  have A1 : Hid (Arr w1 (w.heap.size + 1) 0 0 0) := AD.out.tg (Tg.ofDrewN (t1)) (by omega)
  have FIN : Hid (∀ w9, Only (w.heap.size + 1) w1 w9 → IsB w9 none [] ∧ IsM w9 b g base L ∧ Tg g w w9) := fun w9 o9 => wantFin H.out LD.out SD.out i1 (Tg.ofDrewN (t1)) (IsB.nil _ _) (fun ad e => nomatch e) o9
  clear i1 t1
  go_wp2_with (refine wpList_store3 rfl _ _ rfl (w.heap.size + 1) E 0 0 0 0 0 rfl rfl A1.out ?_; intro w9 r9 o9; have c90 := r9.c0; have c91 := r9.c1; have c92 := r9.c2; have F9 := FIN.out w9 o9; clear r9 o9)
  refine bodyPost_ret (v := .tuple #[.agg #[.int .i64 (E), .int .i64 (0), .int .i64 (0)], .int .u64 (0), .slice none (0) 0]) (by simp [results, Try.results14, go_sem, c90, c91, c92]) rfl ?_
  exact ⟨none, 0, rfl, F9⟩

set_option maxHeartbeats 4000000 in
theorem want5_near (b g c : Nat) (base x y k v : Int) (l bs : List Int) (a : Option Addr) (w : World) (h : IsM w b g base l) (hC : CallOk w x y k v a bs) (hne : bs = [] ∨ ∀ ad, a = some ad → ad.block ≠ g) :
    Calls Try.prog 14 #[.pointer (some ⟨b, 0, none⟩), .agg #[.int .i64 5, .int .i64 x, .int .i64 y, .int .i64 k, .int .u64 v, .slice a bs.length c, .bool true]] w (WantPost w b g base (errR l.length (x.tmod 2000) 8) (0) (0) (wordR l (x.tmod 2000)) ([]) (l)) := by
  obtain ⟨D, hD⟩ : ∃ D, (w.alloc (.cells #[.int .i64 5, .int .i64 x, .int .i64 y, .int .i64 k, .int .u64 v, .slice a bs.length c, .bool true] 39)).alloc (.cells #[.int .i64 0, .int .i64 0, .int .i64 0] 33) = D := ⟨_, rfl⟩
  have hP : Pre w D 5 x y k v a bs.length c true := by rw [← hD]; exact pre_of w 5 x y k v a bs.length c true
  have H : Hid (IsM w b g base l) := h
  have LD : Hid (Below w.heap.size w D) := hP.low
  have SD : Hid (D.heap.size = w.heap.size + 2) := hP.size
  have AD : Hid (Arr D (w.heap.size + 1) 0 0 0) := hP.arr
  have ID : Hid (IsM D b g base l) := h.keep hP.low
  have BD : Hid (IsB D a bs) := hC.isB.keep hP.low
  have q0 := hP.c0
  have q1 := hP.c1
  have q2 := hP.c2
  have q3 := hP.c3
  have q4 := hP.c4
  have q5 := hP.c5
  have q6 := hP.c6
  have h1 := h.lo
  have h2 := h.hi
  have hl := h.len
  have FX : Hid (Fits x) := hC.hx
  have FY : Hid (Fits y) := hC.hy
  have FK : Hid (Fits k) := hC.hk
  have v0 := hC.v0
  have v1 := hC.v1
  have HL : Hid (bs.length ≤ 140737488355328) := hC.len
  have hbl := h.lt
  have hgl := h.row.lt
  have NE : Hid (bs = [] ∨ ∀ ad, a = some ad → ad.block ≠ g) := hne
  have m0 := ID.out.cell0
  obtain ⟨r1, hr1⟩ : ∃ r, x.tmod 2000 = r := ⟨_, rfl⟩
  obtain ⟨r2, hr2⟩ : ∃ r, y.tmod 2000 = r := ⟨_, rfl⟩
  have t1 := tmod_bd x 2000 (by decide)
  have t2 := tmod_bd y 2000 (by decide)
  rw [hr1] at t1
  rw [hr2] at t2
  rw [hr1]
  have G1 : Hid (Fits (base + r1)) := by show Fits _; unfold Fits; omega
  have G2 : Hid (Fits (base + r2)) := by show Fits _; unfold Fits; omega
  have E1 : Hid (base + r1 - base = r1) := by show _ = _; omega
  have E2 : Hid (base + r2 - base = r2) := by show _ = _; omega
  have g1 : IntKind.i64.wrap (base + r1) = base + r1 := by rw [IntKind.wrap_i64]; omega
  have g2 : IntKind.i64.wrap (base + r2) = base + r2 := by rw [IntKind.wrap_i64]; omega
  have g3 : IntKind.i64.wrap r1 = r1 := by rw [IntKind.wrap_i64]; omega
  have g4 : IntKind.i64.wrap r2 = r2 := by rw [IntKind.wrap_i64]; omega
  have WB : Hid ((readR l r1 8).length ≤ maxLen) := by
    show _ ≤ _
    rw [← readR_take8]; exact Nat.le_trans (List.length_take_le _ _) (by decide)
  have WV : Hid (getL ((readR l r1 8).take 8) = wordR l r1) := by show _ = _; rw [readR_take8]; rfl
  obtain ⟨E, hE⟩ : ∃ z, errR l.length r1 8 = z := ⟨_, rfl⟩
  have EE : Hid (errR l.length r1 8 = E) := hE
  obtain ⟨V, hV⟩ : ∃ z, wordR l r1 = z := ⟨_, rfl⟩
  have EV : Hid (wordR l r1 = V) := hV
  rw [hE, hV]
  clear hE hV
  obtain ⟨R, hR⟩ : ∃ z, readR l r1 8 = z := ⟨_, rfl⟩
  have ER : Hid (readR l r1 8 = R) := hR
  have WB' : Hid (R.length ≤ maxLen) := by show _ ≤ _; rw [← hR]; exact WB.out
  have WV' : Hid (getL (R.take 8) = V) := by show _ = _; rw [← hR, ← EV.out]; exact WV.out
  clear hR WB WV
  clear h hC hP hne
  go_enter Try.func14, Try.ntmps14
  go_wp2_with fail
  go_quiet (fail)
  go_wp2_with fail
  go_quiet (fail)
  go_wp2_with fail
  refine (rread_any b g base (base + r1) 8 l _ (ID.out.drewN _) G1.out (by unfold Fits; omega)).mono ?_
  rw [E1.out]; rw [EE.out, ER.out]
  rintro e w1 ⟨ra, rc, rfl, g1, n1, b1⟩
  have Q1 : Hid (IsB w1 ra R) := g1
  have A1 : Hid (Arr w1 (w.heap.size + 1) 0 0 0) := AD.out.tg (Tg.ofDrewN (Tg.ofBelow (g := g) b1)) (by omega)
  have FIN : Hid (∀ w9, Only (w.heap.size + 1) w1 w9 → IsB w9 none [] ∧ IsM w9 b g base l ∧ Tg g w w9) := fun w9 o9 => wantFin H.out LD.out SD.out ((ID.out.drewN _).keep b1) (Tg.ofDrewN (Tg.ofBelow (g := g) b1)) (IsB.nil _ _) (fun ad e => nomatch e) o9
  clear g1 b1 n1
  go_wp2_with (first
    | (refine wpList_store3 rfl _ _ rfl (w.heap.size + 1) E 0 0 0 0 0 rfl rfl A1.out ?_; intro w9 r9 o9; have c90 := r9.c0; have c91 := r9.c1; have c92 := r9.c2; have F9 := FIN.out w9 o9; clear r9 o9)
    | (go_at_call 37; refine (rget_any ra rc R _ Q1.out WB'.out).mono ?_; rw [WV'.out]; rintro e w' ⟨rfl, rfl⟩))
  refine bodyPost_ret (v := .tuple #[.agg #[.int .i64 (E), .int .i64 (0), .int .i64 (0)], .int .u64 (V), .slice none (0) 0]) (by simp [results, Try.results14, go_sem, c90, c91, c92]) rfl ?_
  exact ⟨none, 0, rfl, F9⟩

set_option maxHeartbeats 4000000 in
theorem want6_near (b g c : Nat) (base x y k v : Int) (l bs : List Int) (a : Option Addr) (w : World) (h : IsM w b g base l) (hC : CallOk w x y k v a bs) (hne : bs = [] ∨ ∀ ad, a = some ad → ad.block ≠ g) :
    Calls Try.prog 14 #[.pointer (some ⟨b, 0, none⟩), .agg #[.int .i64 6, .int .i64 x, .int .i64 y, .int .i64 k, .int .u64 v, .slice a bs.length c, .bool true]] w (WantPost w b g base (errR l.length (x.tmod 2000) 8) (0) (0) (0) ([]) (writeR l (x.tmod 2000) (putL 8 v))) := by
  obtain ⟨D, hD⟩ : ∃ D, (w.alloc (.cells #[.int .i64 6, .int .i64 x, .int .i64 y, .int .i64 k, .int .u64 v, .slice a bs.length c, .bool true] 39)).alloc (.cells #[.int .i64 0, .int .i64 0, .int .i64 0] 33) = D := ⟨_, rfl⟩
  have hP : Pre w D 6 x y k v a bs.length c true := by rw [← hD]; exact pre_of w 6 x y k v a bs.length c true
  have H : Hid (IsM w b g base l) := h
  have LD : Hid (Below w.heap.size w D) := hP.low
  have SD : Hid (D.heap.size = w.heap.size + 2) := hP.size
  have AD : Hid (Arr D (w.heap.size + 1) 0 0 0) := hP.arr
  have ID : Hid (IsM D b g base l) := h.keep hP.low
  have BD : Hid (IsB D a bs) := hC.isB.keep hP.low
  have q0 := hP.c0
  have q1 := hP.c1
  have q2 := hP.c2
  have q3 := hP.c3
  have q4 := hP.c4
  have q5 := hP.c5
  have q6 := hP.c6
  have h1 := h.lo
  have h2 := h.hi
  have hl := h.len
  have FX : Hid (Fits x) := hC.hx
  have FY : Hid (Fits y) := hC.hy
  have FK : Hid (Fits k) := hC.hk
  have v0 := hC.v0
  have v1 := hC.v1
  have HL : Hid (bs.length ≤ 140737488355328) := hC.len
  have hbl := h.lt
  have hgl := h.row.lt
  have NE : Hid (bs = [] ∨ ∀ ad, a = some ad → ad.block ≠ g) := hne
  have m0 := ID.out.cell0
  obtain ⟨r1, hr1⟩ : ∃ r, x.tmod 2000 = r := ⟨_, rfl⟩
  obtain ⟨r2, hr2⟩ : ∃ r, y.tmod 2000 = r := ⟨_, rfl⟩
  have t1 := tmod_bd x 2000 (by decide)
  have t2 := tmod_bd y 2000 (by decide)
  rw [hr1] at t1
  rw [hr2] at t2
  rw [hr1]
  have G1 : Hid (Fits (base + r1)) := by show Fits _; unfold Fits; omega
  have G2 : Hid (Fits (base + r2)) := by show Fits _; unfold Fits; omega
  have E1 : Hid (base + r1 - base = r1) := by show _ = _; omega
  have E2 : Hid (base + r2 - base = r2) := by show _ = _; omega
  have g1 : IntKind.i64.wrap (base + r1) = base + r1 := by rw [IntKind.wrap_i64]; omega
  have g2 : IntKind.i64.wrap (base + r2) = base + r2 := by rw [IntKind.wrap_i64]; omega
  have g3 : IntKind.i64.wrap r1 = r1 := by rw [IntKind.wrap_i64]; omega
  have g4 : IntKind.i64.wrap r2 = r2 := by rw [IntKind.wrap_i64]; omega
  obtain ⟨E, hE⟩ : ∃ z, errR l.length r1 8 = z := ⟨_, rfl⟩
  have EE : Hid (errR l.length r1 8 = E) := hE
  obtain ⟨L, hL⟩ : ∃ z, writeR l r1 (putL 8 v) = z := ⟨_, rfl⟩
  have EL : Hid (writeR l r1 (putL 8 v) = L) := hL
  rw [hE, hL]
  clear hE hL
  obtain ⟨P, hP8⟩ : ∃ P, putL 8 v = P := ⟨_, rfl⟩
  have EP : Hid (putL 8 v = P) := hP8
  have PL : Hid (8 = P.length) := by show _ = _; rw [← hP8, putL_length]
  have EL' : Hid (writeR l r1 P = L) := by show _ = _; rw [← hP8]; exact EL.out
  have EE' : Hid (errR l.length r1 P.length = E) := by show _ = _; rw [← PL.out]; exact EE.out
  clear hP8
  clear h hC hP hne
  go_enter Try.func14, Try.ntmps14
  go_wp2_with fail
  go_quiet (fail)
  go_wp2_with fail
  go_quiet (fail)
  go_wp2_with fail
  refine (rput_is v 8 8 rfl (Nat.le_refl _) v0 v1 _).mono ?_
  rw [EP.out]
  rintro e w0 ⟨pa, pc, rfl, p0, n0, b0⟩
  have P0 : Hid (IsB w0 pa P) := p0
  have N0 : Hid (∀ ad, pa = some ad → ad.block ≠ g) := fun ad hd => by
    have h8 := n0 ad hd
    have h9 : D.heap.size ≤ ad.block := h8
    have h7 := SD.out
    omega
  have B0 : Hid (Below D.heap.size D w0) := Below.ofDrewN b0
  clear p0 b0 n0
  go_wp2_with fail
  refine (rwrite_any b g base (base + r1) l P pa 8 pc _ (ID.out.keep B0.out) G1.out PL.out P0.out (by decide) (.inr N0.out)).mono ?_
  rw [E1.out]; rw [EE'.out, EL'.out]
  rintro e w1 ⟨rfl, i1, t1⟩
  have A1 : Hid (Arr w1 (w.heap.size + 1) 0 0 0) := AD.out.tg ((Tg.ofBelow (g := g) B0.out).trans t1) (by omega)
  have FIN : Hid (∀ w9, Only (w.heap.size + 1) w1 w9 → IsB w9 none [] ∧ IsM w9 b g base L ∧ Tg g w w9) := fun w9 o9 => wantFin H.out LD.out SD.out i1 ((Tg.ofBelow (g := g) B0.out).trans t1) (IsB.nil _ _) (fun ad e => nomatch e) o9
  clear i1 t1
  go_wp2_with (refine wpList_store3 rfl _ _ rfl (w.heap.size + 1) E 0 0 0 0 0 rfl rfl A1.out ?_; intro w9 r9 o9; have c90 := r9.c0; have c91 := r9.c1; have c92 := r9.c2; have F9 := FIN.out w9 o9; clear r9 o9)
  refine bodyPost_ret (v := .tuple #[.agg #[.int .i64 (E), .int .i64 (0), .int .i64 (0)], .int .u64 (0), .slice none (0) 0]) (by simp [results, Try.results14, go_sem, c90, c91, c92]) rfl ?_
  exact ⟨none, 0, rfl, F9⟩

end Go.Proofs.Ytjejholognpbaaa
