/- Layer 21: a manifest's bytes, if it may be. -/
import Derived.Test.YtofmicbhheebiaaDoorMnB
import Derived.Test.YtofmicbhheebiaaDoorGzAE
namespace Go.Proofs.YtofmicbhheebiaaDoor
open Go.RowKit
set_option linter.unusedVariables false
set_option maxRecDepth 4000

/-- A manifest's bytes on the way. -/
structure Sm (w : World) (N B : Nat) (s f n : Int) (W : World) (L : List Int) : Prop where
  row : RowB W N 5 L
  bx : W.heap[B]? = some (.cells #[.slice (some ⟨N, 0, none⟩) 64 64] 22 (0, 0))
  mb : W.heap[w.heap.size]? = some (.cells #[.int .i64 s, .int .i64 f, .int .i64 n] 48 (0, 0))
  low : Below w.heap.size w W
  le : w.heap.size ≤ N
  len : L.length = 64
theorem Sm.put {w : World} {N B : Nat} {s f n : Int} {W : World} {L : List Int} (h : Sm w N B s f n W L) (k : Nat) (q : Int) (hk : k ≤ 60) (h0 : 0 ≤ q) (h1 : q ≤ 18446744073709551615) :
    Calls Tryd.prog 38 #[.int .i64 (k : Nat), .int .u64 q, .pointer (some ⟨B, 0, none⟩)] W fun e w' => e = .returned (.tuple #[]) ∧ Sm w N B s f n w' (ovM L k q) := by
  refine (mbytes1_any B N k q L W h.bx h.row h.len hk h0 h1).mono ?_
  rintro e w' ⟨rfl, r, kb, b⟩
  exact ⟨rfl, r, kb.keep _ _ _ _ h.bx (by decide), kb.keep _ _ _ _ h.mb (by decide), h.low.trans (b.mono h.le), h.le, ovM_len h.len hk⟩

set_option maxRecDepth 20000 in
set_option maxHeartbeats 4000000 in
theorem mbytes_ok (m : Mn) (w : World) (hm : okM m = true) :
    Calls Tryd.prog 17 #[m.v] w fun e w' => ∃ g, w.heap.size ≤ g ∧ e = .returned (.tuple #[.slice (some ⟨g, 0, none⟩) 64 64, .int .i64 0]) ∧ RowB w' g 5 (manM m) ∧ Below w.heap.size w w' := by
  have NE : Hid (∀ w : World, (binOp .neq 48 m.v (nearM m).v).run Tryd.prog w = .ok (.bool false) w) := fun w => neqM w m true hm
  have NR : Hid (∀ w : World, Calls Tryd.prog 37 #[m.v] w fun e w' => e = .returned (nearM m).v ∧ Below w.heap.size w w') := fun w => mnearest_any m w
  obtain ⟨⟨s', f', n'⟩, hn⟩ : ∃ q, nearM m = q := ⟨_, rfl⟩
  rw [hn] at NE NR
  obtain ⟨m1, m2, m3, m4, m5, m6⟩ := okM_iff.1 hm
  have OH : Hid (ovM (ovM (ovM zeros 0 m.s) 4 m.f) 8 m.n = hdM m ++ List.replicate 8 0) := ov_head m
  have OA : Hid (ovM (ovM (hdM m ++ List.replicate 8 0) 56 (sumI (hdM m))) 60 m.s = manM m) := ov_all m
  have HA : Hid (AllB (hdM m)) := hdM_allB m
  have HL : Hid ((hdM m).length = 56) := hdM_len m
  obtain ⟨H, hH⟩ : ∃ H, hdM m = H := ⟨_, rfl⟩
  obtain ⟨Z, hZ⟩ : ∃ Z, manM m = Z := ⟨_, rfl⟩
  rw [hH] at OH OA HA HL
  rw [hZ] at OA ⊢
  obtain ⟨S, hS⟩ : ∃ S, sumI H = S := ⟨_, rfl⟩
  obtain ⟨s0, s1⟩ := sumI_bd HA.out
  rw [hS] at OA s0 s1
  have HS : Hid (sumI H = S) := hS
  clear hn hm hH hZ hS
  obtain ⟨s, f, n⟩ := m
  simp only at m1 m2 m3 m4 m5 m6 OH OA
  have ws : IntKind.u64.wrap s = s := by rw [IntKind.wrap_u64]; omega
  have wf : IntKind.u64.wrap f = f := by rw [IntKind.wrap_u64]; omega
  have wn : IntKind.u64.wrap n = n := by rw [IntKind.wrap_u64]; omega
  have wS : IntKind.u64.wrap S = S := by rw [IntKind.wrap_u64]; omega
  obtain ⟨D, hD, rD, bD⟩ := box21 48 w s f n
  have NQ := NE.out
  have HD : Hid _ := hD
  have BD : Hid (Below w.heap.size w D) := bD
  have LD : Hid (w.heap.size < D.heap.size) := (Array.getElem?_eq_some_iff.1 rD).1
  have RD : Hid (D.heap[w.heap.size]? = some (.cells #[.int .i64 s, .int .i64 f, .int .i64 n] 48 (0, 0))) := rD
  obtain ⟨y0, y1, y2⟩ := three21 rD
  unfold Mn.v at NQ NR
  clear NE hD rD bD
  unfold Mn.v
  go_enter Tryd.func17, Tryd.ntmps17
  go_upto_region 1 with (fail)
  rw [HD.out]
  go_region_held3 (fun w' => w'.cell? ⟨w.heap.size, 0, none⟩ = some (.int .i64 s) ∧ w'.cell? ⟨w.heap.size, 1, none⟩ = some (.int .i64 f) ∧ w'.cell? ⟨w.heap.size, 2, none⟩ = some (.int .i64 n)) (first | (refine ⟨?_, ?_, ?_⟩ <;> assumption) | go_keep)
    ((go_at_call 37; refine Calls.mono (NR.out _) ?_; rintro e w2 ⟨rfl, b2⟩; have B2 : Hid (Below D.heap.size D w2) := ofDrewM b2; have r2 : w2.heap[w.heap.size]? = some (.cells #[.int .i64 s, .int .i64 f, .int .i64 n] 48 (0, 0)) := (by rw [B2.out.block _ LD.out]; exact RD.out); have R2 : Hid (w2.heap[w.heap.size]? = some (.cells #[.int .i64 s, .int .i64 f, .int .i64 n] 48 (0, 0))) := r2; clear y0 y1 y2; obtain ⟨y0, y1, y2⟩ := three21 r2; have C2 : Hid (Below w.heap.size w w2) := BD.out.trans (B2.out.mono (Nat.le_of_lt LD.out)); clear b2))
  have hmk := make_row 64 (by decide) w2
  have zr : RowB (w2.alloc (.cells (madeCells #[.int .u8 0] 64) 5)) w2.heap.size 5 zeros := by
    show (w2.alloc _).heap[w2.heap.size]? = _
    rw [made_zero]
    exact Go.heap_alloc_new w2 _
  obtain ⟨A, hA⟩ : ∃ A, w2.alloc (.cells (madeCells #[.int .u8 0] 64) 5) = A := ⟨_, rfl⟩
  obtain ⟨N, hN⟩ : ∃ N, w2.heap.size = N := ⟨_, rfl⟩
  have e64 : ((64 : Nat) : Int) = 64 := rfl
  rw [e64] at hmk
  rw [hA, hN] at hmk
  rw [hA, hN] at zr
  obtain ⟨E, hE, rE, bE⟩ := bbox21 A N
  obtain ⟨B, hB⟩ : ∃ B, A.heap.size = B := ⟨_, rfl⟩
  have LN : N < A.heap.size := zr.lt
  have bA : Below w2.heap.size w2 A := by rw [← hA]; exact (Below.refl _ w2).alloc (Nat.le_refl _) _
  have lw := C2.out.size
  have S0 : Hid (Sm w N B s f n E zeros) := by
    show Sm _ _ _ _ _ _ _ _
    refine ⟨zr.keep bE, by rw [← hB]; exact rE, ?_, (C2.out.trans (bA.mono lw)).trans (bE.mono (by omega)), by omega, zeros_len⟩
    have LR : w.heap.size < w2.heap.size := (Array.getElem?_eq_some_iff.1 R2.out).1
    rw [bE.block _ (by omega), bA.block _ LR]
    exact R2.out
  have HE : Hid (A.alloc (.cells #[.slice (some ⟨N, 0, none⟩) 64 64] 22) = E) := hE
  have HBB : Hid (A.heap.size = B) := hB
  clear hE rE bE hA hN zr LN bA lw hB e64
  go_upto_region 4 with (fail)
  rw [HE.out, HBB.out]
  clear y0 y1 y2 NQ
  obtain ⟨y0, y1, y2⟩ := three21 S0.out.mb
  go_wp2_with (first
    | (go_at_call 38; refine Calls.mono (S4.out.put 60 s (by omega) (by omega) (by omega)) ?_; rintro e W5 ⟨rfl, h5⟩; rw [OA.out] at h5; have S5 : Hid (Sm w N B s f n W5 Z) := h5; have cB5 : W5.cell? ⟨B, 0, none⟩ = some (.slice (some ⟨N, 0, none⟩) 64 64) := cell_of_row _ _ 0 _ _ _ h5.bx; clear h5)
    | (go_at_call 38; refine Calls.mono (T3.out.put 56 S (by omega) (by omega) (by omega)) ?_; rintro e W4 ⟨rfl, h4⟩; have S4 : Hid (Sm w N B s f n W4 (ovM (H ++ List.replicate 8 0) 56 S)) := h4; clear y0 y1 y2; obtain ⟨y0, y1, y2⟩ := three21 h4.mb; clear h4)
    | (go_at_call 40; refine Calls.mono (sum_of (some ⟨N, 0, none⟩) _ 56 H W3 HL.out.symm IH.out (by rw [HL.out]; decide)) ?_; rw [HS.out]; rintro e w' ⟨rfl, rfl⟩; have T3 : Hid (Sm w N B s f n W3 (H ++ List.replicate 8 0)) := S3.out)
    | (go_at_call 38; refine Calls.mono (S2.out.put 8 n (by omega) (by omega) (by omega)) ?_; rintro e W3 ⟨rfl, h3⟩; rw [OH.out] at h3; have S3 : Hid (Sm w N B s f n W3 (H ++ List.replicate 8 0)) := h3; have IH : Hid (IsB W3 (some ⟨N, 0, none⟩) H) := (by show IsB _ _ _; have q := (h3.row.isB (HA.out.append (noughts_allB 8))).part 0 56 rfl; rw [List.drop_zero, List.take_left' HL.out] at q; exact q); clear y0 y1 y2; obtain ⟨y0, y1, y2⟩ := three21 h3.mb; have cB3 : W3.cell? ⟨B, 0, none⟩ = some (.slice (some ⟨N, 0, none⟩) 64 64) := cell_of_row _ _ 0 _ _ _ h3.bx; clear h3)
    | (go_at_call 38; refine Calls.mono (S1.out.put 4 f (by omega) (by omega) (by omega)) ?_; rintro e W2 ⟨rfl, h2⟩; have S2 : Hid (Sm w N B s f n W2 (ovM (ovM zeros 0 s) 4 f)) := h2; clear y0 y1 y2; obtain ⟨y0, y1, y2⟩ := three21 h2.mb; clear h2)
    | (go_at_call 38; refine Calls.mono (S0.out.put 0 s (by omega) (by omega) (by omega)) ?_; rintro e W1 ⟨rfl, h1⟩; have S1 : Hid (Sm w N B s f n W1 (ovM zeros 0 s)) := h1; clear y0 y1 y2; obtain ⟨y0, y1, y2⟩ := three21 h1.mb; clear h1))
  go_ret2
  exact ⟨N, S5.out.le, rfl, S5.out.row, S5.out.low⟩
end Go.Proofs.YtofmicbhheebiaaDoor

/- Layer 21: what bytes tell, and whether they are written so. -/
namespace Go.Proofs.YtofmicbhheebiaaDoor
open Go.RowKit
set_option linter.unusedVariables false
set_option maxRecDepth 4000

theorem mbytes_any (m : Mn) (w : World) :
    Calls Tryd.prog 17 #[m.v] w fun e w' => ∃ (a : Option Addr) (k : Nat), e = .returned (.tuple #[.slice a k k, .int .i64 (errM m)]) ∧ k = (outM m).length ∧ IsB w' a (outM m) ∧ (okM m = true → ∃ g, a = some ⟨g, 0, none⟩ ∧ w.heap.size ≤ g ∧ RowB w' g 5 (manM m) ∧ k = 64) ∧ (okM m = false → a = none ∧ k = 0) ∧ Below w.heap.size w w' := by
  cases h : okM m
  · refine (mbytes_bad m w h).mono ?_
    rintro e w' ⟨rfl, b⟩
    have o : outM m = [] := if_neg (by rw [h]; decide)
    have r : errM m = 4 := if_neg (by rw [h]; decide)
    rw [o, r]
    exact ⟨none, 0, rfl, rfl, ⟨(by intro x hx; cases hx), .inl rfl⟩, fun q => (by cases q), fun _ => ⟨rfl, rfl⟩, b⟩
  · refine (mbytes_ok m w h).mono ?_
    rintro e w' ⟨g, hg, rfl, r, b⟩
    have o : outM m = manM m := if_pos h
    have q : errM m = 0 := if_pos h
    rw [o, q]
    exact ⟨_, 64, rfl, (manM_len m).symm, r.isB (manM_allB m), fun _ => ⟨g, rfl, hg, r, rfl⟩, fun q => (by cases q), b⟩

theorem get4_bd {b : List Int} (h : AllB b) (k : Nat) : 0 ≤ getL ((b.drop k).take 4) ∧ getL ((b.drop k).take 4) < 4294967296 := by
  have h1 : AllB ((b.drop k).take 4) := (AllB.drop h k).take 4
  refine ⟨getL_nonneg _ h1, ?_⟩
  have l := getL_lt _ h1
  have : (256 : Int) ^ ((b.drop k).take 4).length ≤ 256 ^ 4 := p256_mono _ _ (by rw [List.length_take]; omega)
  have e : ((256 : Int) ^ 4) = 4294967296 := by decide
  omega
theorem take48 (l : List Int) (k : Nat) : ((l.drop k).take 4).take 8 = (l.drop k).take 4 := by
  rw [List.take_take]; rfl

set_option maxRecDepth 20000 in
set_option maxHeartbeats 4000000 in
theorem mtold1_any (B g o cap k : Nat) (b : List Int) (w : World) (hB : w.heap[B]? = some (.cells #[.slice (some ⟨g, o, none⟩) 64 cap] 22 (0, 0))) (h : IsB w (some ⟨g, o, none⟩) b) (hl : b.length = 64) (hk : k ≤ 60) (hc : 64 ≤ cap) :
    Calls Tryd.prog 62 #[.int .i64 (k : Nat), .pointer (some ⟨B, 0, none⟩)] w fun e w' => e = .returned (.int .i64 (getL ((b.drop k).take 4))) ∧ w = w' := by
  have cB : w.cell? ⟨B, 0, none⟩ = some (.slice (some ⟨g, o, none⟩) 64 cap) := cell_of_row _ _ 0 _ _ _ hB
  obtain ⟨v0, v1⟩ := get4_bd h.1 k
  have hv := take48 b k
  have hI := h.part k 4 rfl
  have hn : ((b.drop k).take 4).length = 4 := by simp [hl]; omega
  obtain ⟨l, hL⟩ : ∃ l, (b.drop k).take 4 = l := ⟨_, rfl⟩
  rw [hL] at v0 v1 hv hI hn ⊢
  have GV : Hid (getL (l.take 8) = getL l) := by show _ = _; rw [hv]
  have HN : Hid (4 = l.length) := hn.symm
  have HI : Hid (IsB w (some ⟨g, o + k, none⟩) l) := hI
  obtain ⟨v, hV⟩ : ∃ v, getL l = v := ⟨_, rfl⟩
  rw [hV] at v0 v1 GV ⊢
  have wv : IntKind.i64.wrap v = v := by rw [IntKind.wrap_i64]; omega
  have w4 : IntKind.i64.wrap ((k : Int) + 4) = ((k + 4 : Nat) : Int) := by rw [IntKind.wrap_i64]; omega
  have k4 : k + 4 - k = 4 := by omega
  have p1 : (k : Int) ≤ ((k + 4 : Nat) : Int) := by omega
  have p2 : ((k + 4 : Nat) : Int) ≤ (cap : Int) := by omega
  have p3 : (k : Int) < (cap : Int) := by omega
  clear hB h hl hv hI hn hL hV
  go_enter Tryd.func62, Tryd.ntmps62
  go_wp2_with (go_at_call 60; refine Calls.mono (get_of _ _ 4 l v _ HN.out GV.out HI.out (by rw [← HN.out]; decide)) ?_; rintro e w' ⟨rfl, rfl⟩)
  go_ret
  exact ⟨rfl, rfl⟩
end Go.Proofs.YtofmicbhheebiaaDoor
