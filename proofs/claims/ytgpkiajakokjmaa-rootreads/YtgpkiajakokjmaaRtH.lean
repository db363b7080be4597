/- Layer 20: what Read and readEntries give one another: a number, and a place. -/
import Derived.Test.YtgpkiajakokjmaaRtG
namespace Go.Proofs.Ytgpkiajakokjmaa
open Go.RowKit
set_option linter.unusedVariables false
set_option maxRecDepth 4000

theorem Tg.ofGrown {g : Nat} {w w' : World} (h : w.grownBy w' (some g)) : Tg g w w' := ⟨h.os, h.tape, h.output, h.size, fun i hi hn => h.block i hi (fun e => hn (Option.some.inj e))⟩
theorem RdAt.lt {w : World} {B : Nat} {l : List Int} {e : Int} (h : RdAt w B l e) : B < w.heap.size := by obtain ⟨a, cap, hh, _⟩ := h; exact lt_of_block hh
theorem RdAt.allB {w : World} {B : Nat} {l : List Int} {e : Int} (h : RdAt w B l e) : AllB l := by obtain ⟨_, _, _, _, _, h3, _⟩ := h; exact h3
/-- The reader where another block turned. -/
theorem RdAt.tg {w w' : World} {B M : Nat} {l : List Int} {e : Int} (h : RdAt w B l e) (t : Tg M w w') (hM : B < M) : RdAt w' B l e := by
  obtain ⟨a, cap, hh, h1, h2, h3, h4⟩ := h
  have hlt := lt_of_block hh
  refine ⟨a, cap, (t.block B hlt (by omega)).trans hh, h1, h2, h3, ?_⟩
  rcases h4 with h4 | ⟨b, off, e1, e2, e3⟩
  · exact .inl h4
  · exact .inr ⟨b, off, e1, e2, fun i hi => t.cell (e3 i hi) (by omega)⟩
theorem Tg.onto {w w' w2 : World} {B g : Nat} (h : Tg B w w') (on : Only g w' w2) (hg : w.heap.size ≤ g) : Tg B w w2 :=
  ⟨on.os.trans h.os, on.tape.trans h.tape, on.output.trans h.output, by rw [on.size]; exact h.size, fun i hi hn => (on.block i (by omega)).trans (h.block i hi hn)⟩
theorem up_in {l : List Int} {e0 most : Int} (h : AllB l) (hm : 0 ≤ most) : ∃ v r e, upS l e0 most = (v, r, e) ∧ 0 ≤ v ∧ v ≤ most := by
  by_cases h0 : e0 = 0
  · subst h0
    rcases up_cases l most h with ⟨v, r, hu, v0, v1, hl⟩ | ⟨e, hu, he⟩
    · exact ⟨v, r, 0, hu, v0, v1⟩
    · exact ⟨0, l, e, hu, by omega, hm⟩
  · exact ⟨0, l, e0, by rw [upS, if_neg h0], by omega, hm⟩
set_option maxRecDepth 20000 in
set_option maxHeartbeats 4000000 in
/-- A number is read, and held against its bounds. -/
theorem number_any (lo hi : Int) (B R : Nat) (l : List Int) (e0 : Int) (n : Int) (r : List Int) (e1 : Int) (w : World) (h : RdAt w B l e0) (hR : w.cell? ⟨R, 0, none⟩ = some (.pointer (some ⟨B, 0, none⟩))) (hRB : R ≠ B) (hh : hi ≤ 9223372036854775807) (hn : numR lo hi l e0 = (n, r, e1)) :
    Calls Try.prog 34 #[.int .i64 lo, .int .i64 hi, .pointer (some ⟨R, 0, none⟩)] w fun e w' => e = .returned (.int .i64 n) ∧ RdAt w' B r e1 ∧ Tg B w w' := by
  have HR : Hid (RdAt w B l e0) := h
  have CR : Hid (w.cell? ⟨R, 0, none⟩ = some (.pointer (some ⟨B, 0, none⟩))) := hR
  have mx : (hi ≤ 0 ∧ mxz hi = 0) ∨ (¬ hi ≤ 0 ∧ mxz hi = hi) := by unfold mxz; split <;> omega
  have M0 : 0 ≤ mxz hi := by unfold mxz; split <;> omega
  have M1 : mxz hi ≤ 9223372036854775807 := by unfold mxz; split <;> omega
  obtain ⟨v, r', e', hu, v0, v1⟩ := up_in (e0 := e0) h.allB M0
  unfold numR at hn
  rw [hu] at hn
  simp only [Prod.mk.injEq] at hn
  obtain ⟨rfl, rfl, he⟩ := hn
  obtain ⟨M, hM⟩ : ∃ M, mxz hi = M := ⟨_, rfl⟩
  rw [hM] at hu mx M0 M1 v1
  have HU : Hid (upS l e0 M = (v, r', e')) := hu
  have wv : IntKind.i64.wrap v = v := by rw [IntKind.wrap_i64]; omega
  obtain ⟨b, hb⟩ : ∃ b, decide (lo ≤ v ∧ v ≤ hi) = b := ⟨_, rfl⟩
  have V : Hid (decide (lo ≤ v ∧ v ≤ hi) = b) := hb
  have E1 : Hid (b = true → e1 = e') := fun q => by rw [← he, if_pos (of_decide_eq_true (hb.trans q))]
  have E2 : Hid (b = false → e1 = failV e' 4) := fun q => by rw [← he, if_neg (of_decide_eq_false (hb.trans q))]
  clear h hu hM hb he
  rcases mx with ⟨m1, rfl⟩ | ⟨m1, rfl⟩
  · have wm : IntKind.u64.wrap 0 = 0 := rfl
    cases b with
    | true =>
      obtain rfl := E1.out rfl
      go_enter Try.func34, Try.ntmps34
      go_wp2_with fail
      refine (upto_any B l e0 0 _ HR.out).mono ?_
      rw [HU.out]
      rintro q w1 ⟨rfl, r1, g1⟩
      have R1 : Hid (RdAt w1 B r' e1) := r1
      have T1 : Hid (Tg B w w1) := Tg.ofGrown g1
      clear r1 g1 hR
      go_wp2_with (go_at_call 29; refine (within_of v lo hi true _ V.out).mono ?_; rintro e w' ⟨rfl, rfl⟩)
      go_ret
      exact ⟨rfl, R1.out, T1.out⟩
    | false =>
      obtain rfl := E2.out rfl
      go_enter Try.func34, Try.ntmps34
      go_wp2_with fail
      refine (upto_any B l e0 0 _ HR.out).mono ?_
      rw [HU.out]
      rintro q w1 ⟨rfl, r1, g1⟩
      have R1 : Hid (RdAt w1 B r' e') := r1
      have T1 : Hid (Tg B w w1) := Tg.ofGrown g1
      have c1 : w1.cell? ⟨R, 0, none⟩ = some (.pointer (some ⟨B, 0, none⟩)) := T1.out.cell CR.out hRB
      clear r1 g1 hR
      go_wp2_with (go_at_call 29; refine (within_of v lo hi false _ V.out).mono ?_; rintro e w' ⟨rfl, rfl⟩)
      refine (fail_any B r' e' 4 _ R1.out).mono ?_
      rintro q w2 ⟨rfl, r2, g2⟩
      have R2 : Hid (RdAt w2 B r' (failV e' 4)) := r2
      have T2 : Hid (Tg B w w2) := T1.out.trans (Tg.ofGrown g2)
      clear r2 g2
      go_wp2
      go_ret
      exact ⟨rfl, R2.out, T2.out⟩
  · have wm : IntKind.u64.wrap M = M := by rw [IntKind.wrap_u64]; omega
    cases b with
    | true =>
      obtain rfl := E1.out rfl
      go_enter Try.func34, Try.ntmps34
      go_wp2_with fail
      refine (upto_any B l e0 M _ HR.out).mono ?_
      rw [HU.out]
      rintro q w1 ⟨rfl, r1, g1⟩
      have R1 : Hid (RdAt w1 B r' e1) := r1
      have T1 : Hid (Tg B w w1) := Tg.ofGrown g1
      clear r1 g1 hR
      go_wp2_with (go_at_call 29; refine (within_of v lo M true _ V.out).mono ?_; rintro e w' ⟨rfl, rfl⟩)
      go_ret
      exact ⟨rfl, R1.out, T1.out⟩
    | false =>
      obtain rfl := E2.out rfl
      go_enter Try.func34, Try.ntmps34
      go_wp2_with fail
      refine (upto_any B l e0 M _ HR.out).mono ?_
      rw [HU.out]
      rintro q w1 ⟨rfl, r1, g1⟩
      have R1 : Hid (RdAt w1 B r' e') := r1
      have T1 : Hid (Tg B w w1) := Tg.ofGrown g1
      have c1 : w1.cell? ⟨R, 0, none⟩ = some (.pointer (some ⟨B, 0, none⟩)) := T1.out.cell CR.out hRB
      clear r1 g1 hR
      go_wp2_with (go_at_call 29; refine (within_of v lo M false _ V.out).mono ?_; rintro e w' ⟨rfl, rfl⟩)
      refine (fail_any B r' e' 4 _ R1.out).mono ?_
      rintro q w2 ⟨rfl, r2, g2⟩
      have R2 : Hid (RdAt w2 B r' (failV e' 4)) := r2
      have T2 : Hid (Tg B w w2) := T1.out.trans (Tg.ofGrown g2)
      clear r2 g2
      go_wp2
      go_ret
      exact ⟨rfl, R2.out, T2.out⟩

/-- An entry is stored into its variable. -/
def layE (w : World) (g : Nat) (a b c d : Int) : World := (((w.setCell ⟨g, 0, none⟩ (.int .i64 a)).setCell ⟨g, 1, none⟩ (.int .i64 b)).setCell ⟨g, 2, none⟩ (.int .i64 c)).setCell ⟨g, 3, none⟩ (.int .i64 d)
theorem layE_box {w : World} {g : Nat} {a b c d a0 b0 c0 d0 : Int} (h : w.heap[g]? = some (.cells #[.int .i64 a0, .int .i64 b0, .int .i64 c0, .int .i64 d0] 54 (0, 0))) :
    (layE w g a b c d).heap[g]? = some (.cells #[.int .i64 a, .int .i64 b, .int .i64 c, .int .i64 d] 54 (0, 0)) := by
  have h1 : (w.setCell ⟨g, 0, none⟩ (.int .i64 a)).heap[g]? = some (.cells #[.int .i64 a, .int .i64 b0, .int .i64 c0, .int .i64 d0] 54 (0, 0)) := by rw [heap_setCell_same w g 0 _ _ _ h]; rfl
  have h2 : ((w.setCell ⟨g, 0, none⟩ (.int .i64 a)).setCell ⟨g, 1, none⟩ (.int .i64 b)).heap[g]? = some (.cells #[.int .i64 a, .int .i64 b, .int .i64 c0, .int .i64 d0] 54 (0, 0)) := by rw [heap_setCell_same _ g 1 _ _ _ h1]; rfl
  have h3 : (((w.setCell ⟨g, 0, none⟩ (.int .i64 a)).setCell ⟨g, 1, none⟩ (.int .i64 b)).setCell ⟨g, 2, none⟩ (.int .i64 c)).heap[g]? = some (.cells #[.int .i64 a, .int .i64 b, .int .i64 c, .int .i64 d0] 54 (0, 0)) := by rw [heap_setCell_same _ g 2 _ _ _ h2]; rfl
  unfold layE
  rw [heap_setCell_same _ g 3 _ _ _ h3]
  rfl
theorem layE_only {w : World} {g : Nat} {a b c d : Int} : Only g w (layE w g a b c d) := (((Only.set g 0 _ w).trans (Only.set g 1 _ _)).trans (Only.set g 2 _ _)).trans (Only.set g 3 _ _)
/-- An entry's box, and the answer's, over a reader. -/
structure Eb (w wr : World) (B K : Nat) (l : List Int) (e : Int) (t i f n : Int) : Prop where
  rd : RdAt wr B l e
  box : wr.heap[K]? = some (.cells #[.int .i64 t, .int .i64 i, .int .i64 f, .int .i64 n] 54 (0, 0))
  res : wr.heap[K + 1]? = some (.cells #[.int .i64 0, .int .i64 0, .int .i64 0, .int .i64 0] 54 (0, 0))
  tg : Tg B w wr
  hK : w.heap.size = K
  hB : B < K
theorem Eb.go {w wr w1 : World} {B K : Nat} {l l' : List Int} {e e' t i f n : Int} (h : Eb w wr B K l e t i f n) (tt : Tg B wr w1) (r : RdAt w1 B l' e') : Eb w w1 B K l' e' t i f n := by
  have := h.hB
  exact ⟨r, by rw [tt.block K (hlt h.box) (by omega)]; exact h.box, by rw [tt.block _ (hlt h.res) (by omega)]; exact h.res, h.tg.trans tt, h.hK, h.hB⟩
theorem Eb.put {w wr : World} {B K : Nat} {l : List Int} {e t i f n : Int} (h : Eb w wr B K l e t i f n) (j : Nat) (v f' n' : Int)
    (he : (#[Value.int .i64 t, .int .i64 i, .int .i64 f, .int .i64 n] : Array Value).setIfInBounds j (.int .i64 v) = #[.int .i64 t, .int .i64 i, .int .i64 f', .int .i64 n']) : Eb w (wr.setCell ⟨K, j, none⟩ (.int .i64 v)) B K l e t i f' n' := by
  have on := Only.set K j (.int .i64 v) wr
  have hK := h.hK
  have hB := h.hB
  exact ⟨h.rd.tg (Tg.ofOnly on) hB, by rw [heap_setCell_same wr K j _ _ _ h.box, he], by rw [on.block _ (by omega)]; exact h.res, h.tg.onto on (by omega), hK, hB⟩
theorem Eb.first {w wr : World} {B K : Nat} {l : List Int} {e t i f n : Int} (h : Eb w wr B K l e t i f n) (v : Int) : Eb w (wr.setCell ⟨K, 2, none⟩ (.int .i64 v)) B K l e t i v n := h.put 2 v v n rfl
theorem Eb.len {w wr : World} {B K : Nat} {l : List Int} {e t i f n : Int} (h : Eb w wr B K l e t i f n) (v : Int) : Eb w (wr.setCell ⟨K, 3, none⟩ (.int .i64 v)) B K l e t i f v := h.put 3 v f v rfl
theorem ent_cells {w : World} {Z : Nat} {a b c d : Int} (h : w.heap[Z]? = some (.cells #[.int .i64 a, .int .i64 b, .int .i64 c, .int .i64 d] 54 (0, 0))) :
    w.cell? ⟨Z, 0, none⟩ = some (.int .i64 a) ∧ w.cell? ⟨Z, 1, none⟩ = some (.int .i64 b) ∧ w.cell? ⟨Z, 2, none⟩ = some (.int .i64 c) ∧ w.cell? ⟨Z, 3, none⟩ = some (.int .i64 d) ∧ w.frozen? ⟨Z, 0, none⟩ = false ∧ w.frozen? ⟨Z, 1, none⟩ = false ∧ w.frozen? ⟨Z, 2, none⟩ = false ∧ w.frozen? ⟨Z, 3, none⟩ = false :=
  ⟨cell_of_row _ _ 0 _ _ _ h, cell_of_row _ _ 1 _ _ _ h, cell_of_row _ _ 2 _ _ _ h, cell_of_row _ _ 3 _ _ _ h, frozen_of_row _ _ 0 _ _ h, frozen_of_row _ _ 1 _ _ h, frozen_of_row _ _ 2 _ _ h, frozen_of_row _ _ 3 _ _ h⟩
theorem Eb.laid {w wr : World} {B K : Nat} {l : List Int} {e t i f n : Int} (h : Eb w wr B K l e t i f n) : RdAt (layE wr (K + 1) t i f n) B l e ∧ Tg B w (layE wr (K + 1) t i f n) ∧ (layE wr (K + 1) t i f n).heap[K + 1]? = some (.cells #[.int .i64 t, .int .i64 i, .int .i64 f, .int .i64 n] 54 (0, 0)) := by
  have hB := h.hB
  have hK := h.hK
  exact ⟨h.rd.tg (Tg.ofOnly layE_only) (by omega), h.tg.onto layE_only (by omega), layE_box h.res⟩
set_option maxRecDepth 20000 in
set_option maxHeartbeats 8000000 in
/-- A place is read. -/
theorem place_any (x : Ent) (B R N S : Nat) (s : Int) (l : List Int) (e0 : Int) (f n : Int) (r : List Int) (e1 : Int) (w : World) (h : RdAt w B l e0) (hR : w.cell? ⟨R, 0, none⟩ = some (.pointer (some ⟨B, 0, none⟩))) (hN : w.cell? ⟨N, 0, none⟩ = some (.func (.func 34) #[] #[.pointer (some ⟨R, 0, none⟩)]))
    (hS : w.cell? ⟨S, 0, none⟩ = some (.int .i64 s)) (hb : R ≠ B ∧ N ≠ B ∧ S ≠ B) (hs : s ≤ 9223372036854775807) (hp : placeR s l e0 = ((f, n), r, e1)) :
    Calls Try.prog 52 #[.agg #[.int .i64 x.t, .int .i64 x.i, .int .i64 x.f, .int .i64 x.n], .pointer (some ⟨N, 0, none⟩), .pointer (some ⟨S, 0, none⟩)] w fun e w' => e = .returned (.agg #[.int .i64 x.t, .int .i64 x.i, .int .i64 f, .int .i64 n]) ∧ RdAt w' B r e1 ∧ Tg B w w' := by
  obtain ⟨D, hD, rD, bD⟩ := ebox w x
  obtain ⟨E, hE, rE, bE⟩ := ebox D ⟨0, 0, 0, 0⟩
  have hB := h.lt
  obtain ⟨f1, r1, ea, q1⟩ : ∃ a b c, numR 1 (lastS s) l e0 = (a, b, c) := ⟨_, _, _, rfl⟩
  obtain ⟨n1, r2, eb, q2⟩ : ∃ a b c, numR 8 65542 r1 ea = (a, b, c) := ⟨_, _, _, rfl⟩
  have LS : lastS s ≤ 9223372036854775807 := by unfold lastS; split <;> omega
  unfold placeR at hp
  rw [q1] at hp
  simp only at hp
  rw [q2] at hp
  simp only [Prod.mk.injEq] at hp
  obtain ⟨⟨rfl, rfl⟩, rfl, rfl⟩ := hp
  obtain ⟨L, hL⟩ : ∃ L, lastS s = L := ⟨_, rfl⟩
  have HL : Hid (lastS s = L) := hL
  rw [hL] at q1 LS
  have Q1 : Hid (numR 1 L l e0 = (f1, r1, ea)) := q1
  have Q2 : Hid (numR 8 65542 r1 ea = (n1, r2, eb)) := q2
  obtain ⟨t, i, f0, n0⟩ := x
  simp only at hD rD hE rE ⊢
  obtain ⟨K, hK⟩ : ∃ K, w.heap.size = K := ⟨_, rfl⟩
  have HK : Hid (w.heap.size = K) := hK
  have zD : D.heap.size = K + 1 := by rw [← hD]; simp [hK]
  rw [hK] at rD hB
  rw [zD] at rE
  have rD2 : E.heap[K]? = some (.cells #[.int .i64 t, .int .i64 i, .int .i64 f0, .int .i64 n0] 54 (0, 0)) := by rw [bE.block _ (hlt rD)]; exact rD
  have bDE : Below w.heap.size w E := bD.trans (bE.mono bD.size)
  have NK : N < K := by rw [← hK]; exact block_lt_of_cell hN
  have SK : S < K := by rw [← hK]; exact block_lt_of_cell hS
  have E0 : Hid (Eb w E B K l e0 t i f0 n0) := ⟨rd_keep h bDE, rD2, rE, Tg.ofBelow bDE, hK, hB⟩
  have rd0 : RdAt E B l e0 := rd_keep h bDE
  have RD1 : Hid (RdAt E.drew B l e0) := rd0
  have HDE : Hid ((w.alloc (.cells #[.int .i64 t, .int .i64 i, .int .i64 f0, .int .i64 n0] 54)).alloc (.cells #[.int .i64 0, .int .i64 0, .int .i64 0, .int .i64 0] 54) = E) := by show _ = _; rw [hD]; exact hE
  obtain ⟨NV, hNV⟩ : ∃ NV, Value.func (.func 34) #[] #[.pointer (some ⟨R, 0, none⟩)] = NV := ⟨_, rfl⟩
  have cN : E.cell? ⟨N, 0, none⟩ = some (.func (.func 34) #[] #[.pointer (some ⟨R, 0, none⟩)]) := bcellK bDE hN
  have cS : E.cell? ⟨S, 0, none⟩ = some (.int .i64 s) := bcellK bDE hS
  have CR : Hid (E.cell? ⟨R, 0, none⟩ = some (.pointer (some ⟨B, 0, none⟩))) := bcellK bDE hR
  have CR1 : Hid (E.drew.cell? ⟨R, 0, none⟩ = some (.pointer (some ⟨B, 0, none⟩))) := CR.out
  have CN : Hid _ := cN
  have CS : Hid _ := cS
  obtain ⟨hb1, hb2, hb3⟩ := hb
  have hRK : R < K := by rw [← HK.out]; exact block_lt_of_cell hR
  clear h hR hN hS hD rD bD hE rE bE hL q1 q2 zD rD2 bDE hK hNV rd0
  go_enter Try.func52, Try.ntmps52
  go_upto_region 1 with (fail)
  rw [HDE.out]
  try rw [HK.out]
  go_region_held3 (fun w' => w'.cell? ⟨N, 0, none⟩ = some (.func (.func 34) #[] #[.pointer (some ⟨R, 0, none⟩)]) ∧ w'.cell? ⟨S, 0, none⟩ = some (.int .i64 s)) (first | assumption | exact ⟨by assumption, by assumption⟩ | exact ⟨u1, u2⟩ | go_keep)
    (first
      | (go_at_call 47; refine (last_any s _ hs).mono ?_; rw [HL.out]; rintro e wS ⟨rfl, rfl⟩)
      | (go_at_call 34; refine (number_any 1 L B R l e0 f1 r1 ea _ (by first | exact RD1.out | exact E0.out.rd) (by first | exact CR1.out | exact CR.out) hb1 LS Q1.out).mono ?_; rintro e w2 ⟨rfl, rr2, t2⟩; have T2 : Hid (Tg B E w2) := Tg.ofDrew t2; have S2 : Hid (Eb w w2 B K r1 ea t i f0 n0) := E0.out.go T2.out rr2; obtain ⟨_, _, x2, _, _, _, x6, _⟩ := ent_cells S2.out.box; have u1 : (w2.setCell ⟨K, 2, none⟩ (.int .i64 f1)).cell? ⟨N, 0, none⟩ = some (.func (.func 34) #[] #[.pointer (some ⟨R, 0, none⟩)]) := (by rw [cell_far _ _ _ _ _ _ (by omega)]; exact T2.out.cell CN.out hb2); have u2 : (w2.setCell ⟨K, 2, none⟩ (.int .i64 f1)).cell? ⟨S, 0, none⟩ = some (.int .i64 s) := (by rw [cell_far _ _ _ _ _ _ (by omega)]; exact T2.out.cell CS.out hb3); have y1 : w2.cell? ⟨N, 0, none⟩ = some (.func (.func 34) #[] #[.pointer (some ⟨R, 0, none⟩)]) := T2.out.cell CN.out hb2; have y2 : w2.cell? ⟨S, 0, none⟩ = some (.int .i64 s) := T2.out.cell CS.out hb3; clear rr2 t2))
  all_goals
    have S3 : Hid (Eb w (w2.setCell ⟨K, 2, none⟩ (.int .i64 f1)) B K r1 ea t i f1 n0) := S2.out.first f1
    have C3 : Hid ((w2.setCell ⟨K, 2, none⟩ (.int .i64 f1)).cell? ⟨R, 0, none⟩ = some (.pointer (some ⟨B, 0, none⟩))) := by show _ = _; rw [cell_far _ _ _ _ _ _ (by omega)]; exact T2.out.cell CR.out hb1
    obtain ⟨W3, hW3⟩ : ∃ W3, w2.setCell ⟨K, 2, none⟩ (.int .i64 f1) = W3 := ⟨_, rfl⟩
    have HW3 : Hid _ := hW3
    rw [hW3] at S3 C3 u1
    clear hW3 y1 y2 u2 x2 x6
    go_wp2_with fail
    try rw [HW3.out]
    refine (number_any 8 65542 B R r1 ea n1 r2 eb _ S3.out.rd C3.out hb1 (by omega) Q2.out).mono ?_
    rintro e w4 ⟨rfl, rr4, t4⟩
    have S4 : Hid (Eb w w4 B K r2 eb t i f1 n0) := S3.out.go t4 rr4
    obtain ⟨_, _, _, x3, _, _, _, x7⟩ := ent_cells S4.out.box
    have S5 : Hid (Eb w (w4.setCell ⟨K, 3, none⟩ (.int .i64 n1)) B K r2 eb t i f1 n1) := S4.out.len n1
    obtain ⟨W5, hW5⟩ : ∃ W5, w4.setCell ⟨K, 3, none⟩ (.int .i64 n1) = W5 := ⟨_, rfl⟩
    have HW5 : Hid _ := hW5
    rw [hW5] at S5
    clear rr4 t4 hW5 u1
    go_upto_region 3 with (fail)
    rw [HW5.out]
    obtain ⟨y0, y1, y2, y3, z0, z1, z2, z3⟩ := ent_cells S5.out.res
    obtain ⟨x0, x1, x2, x3, _, _, _, _⟩ := ent_cells S5.out.box
    obtain ⟨r9, t9, b9⟩ := S5.out.laid
    obtain ⟨g0, g1, g2, g3, _, _, _, _⟩ := ent_cells b9
    have R9 : Hid (RdAt (layE W5 (K + 1) t i f1 n1) B r2 eb) := r9
    have T9 : Hid (Tg B w (layE W5 (K + 1) t i f1 n1)) := t9
    unfold layE at g0 g1 g2 g3
    clear r9 t9 b9
    go_wp2
    refine bodyPost_ret (v := .agg #[.int .i64 t, .int .i64 i, .int .i64 f1, .int .i64 n1]) (by simp [results, Try.results52, go_sem, g0, g1, g2, g3]) rfl ⟨rfl, R9.out, T9.out⟩
end Go.Proofs.Ytgpkiajakokjmaa
