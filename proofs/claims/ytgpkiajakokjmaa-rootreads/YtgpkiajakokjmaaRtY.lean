/- Layer 20: Read of the document: the walk. -/
import Derived.Test.YtgpkiajakokjmaaRtO
namespace Go.Proofs.Ytgpkiajakokjmaa
open Go.RowKit
set_option linter.unusedVariables false
set_option maxRecDepth 4000

theorem goE_last {pg s : Int} {T : List Ent} {nx : Int} {l : List Int} {e : Int} {acc es : List Ent} {l8 : List Int} {e8 : Int} (h : goE pg s T nx l e acc = (es, l8, e8)) (he : e ≠ 0) : e8 = e := by
  have := go_stay (pg := pg) (s := s) T nx l e acc he
  rw [h] at this
  simp only [Prod.mk.injEq] at this
  exact this.2
theorem set_tail {acc T : List Ent} {m : Nat} {x y : Ent} (hm : acc.length = m) : (acc ++ (x :: T)).set m y = (acc ++ [y]) ++ T := by
  subst hm
  simp
theorem endV_bad {l : List Int} {e : Int} (h : e ≠ 0) : endV l e = e := if_neg h
theorem rf_err {w : World} {M : Nat} {l : List Int} {e : Int} (h : RfR w M l e) : w.cell? ⟨M, 1, none⟩ = some (.int .i64 e) := by
  obtain ⟨lr, h1, _⟩ := h
  obtain ⟨_, _, _, c2, _⟩ := rf_parts h1
  exact c2
theorem rf_end {w : World} {M : Nat} {l : List Int} {e : Int} (h : RfR w M l e) : Calls Try.prog 40 #[.pointer (some ⟨M, 0, none⟩)] w fun r w' => r = .returned (.int .i64 (endV l e)) ∧ w = w' := by
  obtain ⟨lr, h1, h2⟩ := h
  have q := rend_any 0 M lr e w h1
  by_cases he : e = 0
  · rw [h2 he] at q; exact q
  · rw [endV_bad he] at q ⊢; exact q
set_option maxRecDepth 20000 in
set_option maxHeartbeats 32000000 in
/-- Read of the document. -/
theorem dread_any (a : Option Addr) (cap : Nat) (l : List Int) (s : Int) (w : World) (hI : IsB w a l) (hm : l.length ≤ 140737488355328) (hs : s ≤ 9223372036854775807) :
    Calls Try.prog 19 #[.slice a l.length cap, .int .i64 s] w (RdPost w l s) := by
  have HI : Hid (IsB w a l) := hI
  obtain ⟨xb, l1, e1, q1⟩ : ∃ a b c, numR 1 4294967296 l 0 = (a, b, c) := ⟨_, _, _, rfl⟩
  obtain ⟨p, l2, e2, q2⟩ : ∃ a b c, numR 1 4096 l1 e1 = (a, b, c) := ⟨_, _, _, rfl⟩
  obtain ⟨xw, l3, e3, q3⟩ : ∃ a b c, numR 1 8 l2 e2 = (a, b, c) := ⟨_, _, _, rfl⟩
  obtain ⟨xh, l4, e4, q4⟩ : ∃ a b c, numR 1 4096 l3 e3 = (a, b, c) := ⟨_, _, _, rfl⟩
  obtain ⟨r, l5, e5, q5⟩ : ∃ a b c, numR 0 xh l4 e4 = (a, b, c) := ⟨_, _, _, rfl⟩
  obtain ⟨k, l6, e6, q6⟩ : ∃ a b c, numR 0 64 l5 e5 = (a, b, c) := ⟨_, _, _, rfl⟩
  obtain ⟨n, l7, e7, q7⟩ : ∃ a b c, numR 0 p l6 e6 = (a, b, c) := ⟨_, _, _, rfl⟩
  obtain ⟨es, l8, e8, q8⟩ : ∃ a b c, goE p s (listE k r (List.replicate n.toNat 0)) 0 l7 e7 [] = (a, b, c) := ⟨_, _, _, rfl⟩
  obtain ⟨E, hE⟩ : ∃ E, endV l8 e8 = E := ⟨_, rfl⟩
  have RR : Hid (readR l s = if E = 0 then (⟨256 * xb, p, xw, xh, r, k, es⟩, 0) else (rtz, E)) := read_of (hd_of q1 q2 q3 q4 q5 q6 q7) q8 hE
  obtain ⟨a1, b10, b11⟩ := num_at HI.out.1 (by omega) q1
  obtain ⟨a2, p0, p1⟩ := num_at a1 (by omega) q2
  obtain ⟨a3, w0, w1⟩ := num_at a2 (by omega) q3
  obtain ⟨a4, h0, h1⟩ := num_at a3 (by omega) q4
  obtain ⟨a5, r0, r1⟩ := num_at a4 h0 q5
  obtain ⟨a6, k0, k1⟩ := num_at a5 (by omega) q6
  obtain ⟨a7, n0, n1⟩ := num_at a6 p0 q7
  have A7 : Hid (AllB l7) := a7
  obtain ⟨N, rfl⟩ : ∃ N : Nat, n = (N : Int) := ⟨n.toNat, by omega⟩
  rw [Int.toNat_natCast] at q8
  have Q1 : Hid (numR 1 4294967296 l 0 = (xb, l1, e1)) := q1
  have Q2 : Hid (numR 1 4096 l1 e1 = (p, l2, e2)) := q2
  have Q3 : Hid (numR 1 8 l2 e2 = (xw, l3, e3)) := q3
  have Q4 : Hid (numR 1 4096 l3 e3 = (xh, l4, e4)) := q4
  have Q5 : Hid (numR 0 xh l4 e4 = (r, l5, e5)) := q5
  have Q6 : Hid (numR 0 64 l5 e5 = (k, l6, e6)) := q6
  have Q7 : Hid (numR 0 p l6 e6 = ((N : Int), l7, e7)) := q7
  have Q8 : Hid (goE p s (listE k r (List.replicate N 0)) 0 l7 e7 [] = (es, l8, e8)) := q8
  have HE : Hid (endV l8 e8 = E) := hE
  obtain ⟨b, hb⟩ : ∃ b, 256 * xb = b := ⟨_, rfl⟩
  rw [hb] at RR
  have wb : IntKind.i64.wrap (256 * xb) = b := by rw [IntKind.wrap_i64]; omega
  obtain ⟨mx, hmx, hmc⟩ : ∃ mx : Int, (lastS s = mx - 2 ∧ 0 ≤ mx ∧ mx ≤ 9223372036854775807) ∧ ((s ≤ 0 ∧ mx = 0) ∨ (¬ s ≤ 0 ∧ mx = s)) := by
    unfold lastS
    split
    · exact ⟨0, by omega, .inl ⟨by omega, rfl⟩⟩
    · by_cases q : s ≤ 0
      · exact ⟨0, by omega, .inl ⟨q, rfl⟩⟩
      · exact ⟨s, by omega, .inr ⟨q, rfl⟩⟩
  obtain ⟨L, hL⟩ : ∃ L, lastS s = L := ⟨_, rfl⟩
  have HL : Hid (lastS s = L) := hL
  rw [hL] at hmx
  have wL : IntKind.i64.wrap (mx - 2) = L := by rw [IntKind.wrap_i64]; omega
  have L1 : L ≤ 9223372036854775807 := by omega
  obtain ⟨D, hD⟩ : ∃ D, w.alloc (.cells #[.int .i64 0, .int .i64 0, .int .i64 0, .int .i64 0, .int .i64 0, .int .i64 0, .slice none 0 0] 28) = D := ⟨_, rfl⟩
  have rD : D.heap[w.heap.size]? = some (.cells #[.int .i64 0, .int .i64 0, .int .i64 0, .int .i64 0, .int .i64 0, .int .i64 0, .slice none 0 0] 28 (0, 0)) := by rw [← hD]; exact Go.heap_alloc_new w _
  have HD : Hid (w.alloc (.cells #[.int .i64 0, .int .i64 0, .int .i64 0, .int .i64 0, .int .i64 0, .int .i64 0, .slice none 0 0] 28) = D) := hD
  have RD : Hid _ := rD
  have BD : Hid (Below w.heap.size w D) := by show Below _ _ _; rw [← hD]; exact below_alloc _ _
  clear hI q1 q2 q3 q4 q5 q6 q7 q8 hE hb hD rD a1 a2 a3 a4 a5 a6 a7 b10 b11 w0 w1 hL hmx
  go_enter Try.func19, Try.ntmps19
  go_upto_region 1 with (fail)
  rw [HD.out]
  go_cut [1] from 11 to 12 (fun v wx => v = .int .i64 mx ∧ wx = D)
  case first =>
    rcases hmc with ⟨sc, rfl⟩ | ⟨sc, rfl⟩
    all_goals
      go_wp2
      go_meet
      exact ⟨rfl, rfl⟩
  case rest =>
  obtain ⟨rfl, hw⟩ := hcut
  rw [hw]
  clear hw hmc
  go_wp2_with fail
  refine (copy_any a cap _ l _ rfl (HI.out.keep BD.out) hm).mono ?_
  rintro e9 w3 ⟨g, cg, rfl, o3, b3⟩
  obtain ⟨DM, hDM⟩ : ∃ DM, w3.alloc (.cells #[.slice (some ⟨g, 0, none⟩) l.length cg, .int .i64 0] 73) = DM := ⟨_, rfl⟩
  obtain ⟨rfM, bM⟩ := newrf20 hDM o3 HI.out.1 (Nat.lt_of_le_of_lt (Nat.zero_le _) (hlt RD.out))
  obtain ⟨G, hG⟩ : ∃ G, DM.alloc (.cells #[.int .i64 0, .int .i64 0, .int .i64 0, .int .i64 0, .int .i64 0, .int .i64 0, .slice none 0 0] 28) = G := ⟨_, rfl⟩
  have rG : G.heap[DM.heap.size]? = some (.cells #[.int .i64 0, .int .i64 0, .int .i64 0, .int .i64 0, .int .i64 0, .int .i64 0, .slice none 0 0] 28 (0, 0)) := by rw [← hG]; exact Go.heap_alloc_new DM _
  have bG : Below DM.heap.size DM G := by rw [← hG]; exact below_alloc _ _
  have zM : DM.heap.size = w3.heap.size + 1 := by rw [← hDM]; simp
  have HGG : Hid ((w3.alloc (.cells #[.slice (some ⟨g, 0, none⟩) l.length cg, .int .i64 0] 73)).alloc (.cells #[.int .i64 0, .int .i64 0, .int .i64 0, .int .i64 0, .int .i64 0, .int .i64 0, .slice none 0 0] 28) = G) := by show _ = _; rw [hDM]; exact hG
  rw [zM] at rG
  obtain ⟨M, hM⟩ : ∃ M, w3.heap.size = M := ⟨_, rfl⟩
  have HM : Hid (w3.heap.size = M) := hM
  have bT : Below D.heap.size D G := (b3.trans (bM.mono b3.size)).trans (bG.mono (Nat.le_trans b3.size bM.size))
  have zD := hlt RD.out
  rw [hM] at rG rfM
  have zM2 : w.heap.size < M := by have := b3.size; omega
  have S1 : Hid (Yb w G M (M + 1) l 0 #[.int .i64 0, .int .i64 0, .int .i64 0, .int .i64 0, .int .i64 0, .int .i64 0, .slice none 0 0]) := ⟨⟨l, rf_keep rfM bG, fun _ => rfl⟩, rG, by rw [bT.block _ zD]; exact RD.out, BD.out.trans (bT.mono BD.out.size), zM2, Nat.lt_succ_self _⟩
  obtain ⟨K, hK⟩ : ∃ K, M + 1 = K := ⟨_, rfl⟩
  have HK : Hid (M + 1 = K) := hK
  rw [hK] at S1
  have MK : M ≠ K := by omega
  clear o3 b3 hDM rfM bM hG rG bG zM hM bT zD zM2 hK
  go_upto_region 4 with (fail)
  rw [HGG.out]
  try rw [HM.out]
  try rw [HK.out]
  go_wp2_with fail
  refine (from_rel 1 4294967296 M l 0 xb l1 e1 _ S1.out.rd (by omega) Q1.out).mono ?_
  rintro e9 v1 ⟨rfl, rr, tt⟩
  have T1 : Hid (Yb w v1 M K l1 e1 #[.int .i64 0, .int .i64 0, .int .i64 0, .int .i64 0, .int .i64 0, .int .i64 0, .slice none 0 0]) := S1.out.go tt rr
  have x0 := cell_of_row _ _ 0 _ _ _ T1.out.box
  have z0 := frozen_of_row _ _ 0 _ _ T1.out.box
  have S2 : Hid (Yb w (v1.setCell ⟨K, 0, none⟩ (.int .i64 b)) M K l1 e1 #[.int .i64 b, .int .i64 0, .int .i64 0, .int .i64 0, .int .i64 0, .int .i64 0, .slice none 0 0]) := T1.out.put 0 _ rfl
  obtain ⟨W1, hW1⟩ : ∃ W1, v1.setCell ⟨K, 0, none⟩ (.int .i64 b) = W1 := ⟨_, rfl⟩
  have HW1 : Hid _ := hW1
  rw [hW1] at S2
  clear rr tt hW1 S1
  go_upto_region 5 with (fail)
  rw [HW1.out]
  clear x0 z0 T1 HW1
  go_wp2_with fail
  refine (from_rel 1 4096 M l1 e1 p l2 e2 _ S2.out.rd (by omega) Q2.out).mono ?_
  rintro e9 v2 ⟨rfl, rr, tt⟩
  have T2 : Hid (Yb w v2 M K l2 e2 #[.int .i64 b, .int .i64 0, .int .i64 0, .int .i64 0, .int .i64 0, .int .i64 0, .slice none 0 0]) := S2.out.go tt rr
  have x1 := cell_of_row _ _ 1 _ _ _ T2.out.box
  have z1 := frozen_of_row _ _ 1 _ _ T2.out.box
  have S3 : Hid (Yb w (v2.setCell ⟨K, 1, none⟩ (.int .i64 p)) M K l2 e2 #[.int .i64 b, .int .i64 p, .int .i64 0, .int .i64 0, .int .i64 0, .int .i64 0, .slice none 0 0]) := T2.out.put 1 _ rfl
  obtain ⟨W2, hW2⟩ : ∃ W2, v2.setCell ⟨K, 1, none⟩ (.int .i64 p) = W2 := ⟨_, rfl⟩
  have HW2 : Hid _ := hW2
  rw [hW2] at S3
  clear rr tt hW2 S2
  go_upto_region 6 with (fail)
  rw [HW2.out]
  clear x1 z1 T2 HW2
  go_wp2_with fail
  refine (from_rel 1 8 M l2 e2 xw l3 e3 _ S3.out.rd (by omega) Q3.out).mono ?_
  rintro e9 v3 ⟨rfl, rr, tt⟩
  have T3 : Hid (Yb w v3 M K l3 e3 #[.int .i64 b, .int .i64 p, .int .i64 0, .int .i64 0, .int .i64 0, .int .i64 0, .slice none 0 0]) := S3.out.go tt rr
  have x2 := cell_of_row _ _ 2 _ _ _ T3.out.box
  have z2 := frozen_of_row _ _ 2 _ _ T3.out.box
  have S4 : Hid (Yb w (v3.setCell ⟨K, 2, none⟩ (.int .i64 xw)) M K l3 e3 #[.int .i64 b, .int .i64 p, .int .i64 xw, .int .i64 0, .int .i64 0, .int .i64 0, .slice none 0 0]) := T3.out.put 2 _ rfl
  obtain ⟨W3, hW3⟩ : ∃ W3, v3.setCell ⟨K, 2, none⟩ (.int .i64 xw) = W3 := ⟨_, rfl⟩
  have HW3 : Hid _ := hW3
  rw [hW3] at S4
  clear rr tt hW3 S3
  go_upto_region 7 with (fail)
  rw [HW3.out]
  clear x2 z2 T3 HW3
  go_wp2_with fail
  refine (from_rel 1 4096 M l3 e3 xh l4 e4 _ S4.out.rd (by omega) Q4.out).mono ?_
  rintro e9 v4 ⟨rfl, rr, tt⟩
  have T4 : Hid (Yb w v4 M K l4 e4 #[.int .i64 b, .int .i64 p, .int .i64 xw, .int .i64 0, .int .i64 0, .int .i64 0, .slice none 0 0]) := S4.out.go tt rr
  have x3 := cell_of_row _ _ 3 _ _ _ T4.out.box
  have z3 := frozen_of_row _ _ 3 _ _ T4.out.box
  have S5 : Hid (Yb w (v4.setCell ⟨K, 3, none⟩ (.int .i64 xh)) M K l4 e4 #[.int .i64 b, .int .i64 p, .int .i64 xw, .int .i64 xh, .int .i64 0, .int .i64 0, .slice none 0 0]) := T4.out.put 3 _ rfl
  obtain ⟨W4, hW4⟩ : ∃ W4, v4.setCell ⟨K, 3, none⟩ (.int .i64 xh) = W4 := ⟨_, rfl⟩
  have HW4 : Hid _ := hW4
  rw [hW4] at S5
  clear rr tt hW4 S4
  go_upto_region 8 with (fail)
  rw [HW4.out]
  clear x3 z3 T4 HW4
  obtain ⟨c0, c1, c2, c3, c4, c5, c6⟩ := seven S5.out.box
  go_wp2_with fail
  refine (from_rel 0 xh M l4 e4 r l5 e5 _ S5.out.rd (by omega) Q5.out).mono ?_
  rintro e9 v5 ⟨rfl, rr, tt⟩
  have T5 : Hid (Yb w v5 M K l5 e5 #[.int .i64 b, .int .i64 p, .int .i64 xw, .int .i64 xh, .int .i64 0, .int .i64 0, .slice none 0 0]) := S5.out.go tt rr
  have x4 := cell_of_row _ _ 4 _ _ _ T5.out.box
  have z4 := frozen_of_row _ _ 4 _ _ T5.out.box
  have S6 : Hid (Yb w (v5.setCell ⟨K, 4, none⟩ (.int .i64 r)) M K l5 e5 #[.int .i64 b, .int .i64 p, .int .i64 xw, .int .i64 xh, .int .i64 r, .int .i64 0, .slice none 0 0]) := T5.out.put 4 _ rfl
  obtain ⟨W5, hW5⟩ : ∃ W5, v5.setCell ⟨K, 4, none⟩ (.int .i64 r) = W5 := ⟨_, rfl⟩
  have HW5 : Hid _ := hW5
  rw [hW5] at S6
  clear rr tt hW5 S5 c0 c1 c2 c3 c4 c5 c6
  go_upto_region 9 with (fail)
  rw [HW5.out]
  clear x4 z4 T5 HW5
  go_wp2_with fail
  refine (from_rel 0 64 M l5 e5 k l6 e6 _ S6.out.rd (by omega) Q6.out).mono ?_
  rintro e9 v6 ⟨rfl, rr, tt⟩
  have T6 : Hid (Yb w v6 M K l6 e6 #[.int .i64 b, .int .i64 p, .int .i64 xw, .int .i64 xh, .int .i64 r, .int .i64 0, .slice none 0 0]) := S6.out.go tt rr
  have x5 := cell_of_row _ _ 5 _ _ _ T6.out.box
  have z5 := frozen_of_row _ _ 5 _ _ T6.out.box
  have S7 : Hid (Yb w (v6.setCell ⟨K, 5, none⟩ (.int .i64 k)) M K l6 e6 #[.int .i64 b, .int .i64 p, .int .i64 xw, .int .i64 xh, .int .i64 r, .int .i64 k, .slice none 0 0]) := T6.out.put 5 _ rfl
  obtain ⟨W6, hW6⟩ : ∃ W6, v6.setCell ⟨K, 5, none⟩ (.int .i64 k) = W6 := ⟨_, rfl⟩
  have HW6 : Hid _ := hW6
  rw [hW6] at S7
  clear rr tt hW6 S6
  go_upto_region 10 with (fail)
  rw [HW6.out]
  clear x5 z5 T6 HW6
  obtain ⟨c0, c1, c2, c3, c4, c5, c6⟩ := seven S7.out.box
  go_wp2_with fail
  refine (from_rel 0 p M l6 e6 (N : Int) l7 e7 _ S7.out.rd (by omega) Q7.out).mono ?_
  rintro e9 v7 ⟨rfl, rr, tt⟩
  have S8 : Hid (Yb w v7 M K l7 e7 #[.int .i64 b, .int .i64 p, .int .i64 xw, .int .i64 xh, .int .i64 r, .int .i64 k, .slice none 0 0]) := S7.out.go tt rr
  clear rr tt S7 c0 c1 c2 c3 c4 c5 c6
  obtain ⟨c0, c1, c2, c3, c4, c5, c6⟩ := seven S8.out.box
  have mE := rf_err S8.out.rd
  by_cases h7 : e7 = 0
  rotate_left
  · have eb : (e7 == 0) = false := beq_eq_false_iff_ne.2 h7
    have E8 : e8 = e7 := goE_last Q8.out h7
    have HEE : E = e7 := by rw [← HE.out, E8, endV_bad h7]
    have RV : readR l s = (rtz, e7) := by rw [RR.out, HEE, if_neg h7]
    have eb2 : (e7 != 0) = true := bne_iff_ne.2 h7
    obtain ⟨y0, y1, y2, y3, y4, y5, y6⟩ := seven S8.out.res
    obtain ⟨z0, z1, z2, z3, z4, z5, z6⟩ := sevenF S8.out.res
    obtain ⟨LW, hLW⟩ : ∃ LW, layR v7 w.heap.size (.int .i64 0) (.int .i64 0) (.int .i64 0) (.int .i64 0) (.int .i64 0) (.int .i64 0) (.slice none 0 0) = LW := ⟨_, rfl⟩
    have on : Only w.heap.size v7 LW := by rw [← hLW]; exact layR_only _ _ _ _ _ _ _ _ _
    obtain ⟨g0, g1, g2, g3, g4, g5, g6⟩ := seven (by have := layR_row (a := .int .i64 0) (b := .int .i64 0) (c := .int .i64 0) (d := .int .i64 0) (e := .int .i64 0) (f := .int .i64 0) (v := .slice none 0 0) S8.out.res; rw [hLW] at this; exact this)
    have FIN : Hid (RdPost w l s (.returned (.tuple #[.agg #[.int .i64 0, .int .i64 0, .int .i64 0, .int .i64 0, .int .i64 0, .int .i64 0, .slice none 0 0], .int .i64 e7])) LW) := by
      show RdPost _ _ _ _ _
      unfold RdPost
      rw [RV]
      exact ⟨none, 0, rfl, Ow.nil _ _, S8.out.low.trans (on.below (Nat.le_refl _))⟩
    have LV : Hid (((((((v7.setCell ⟨w.heap.size, 0, none⟩ (.int .i64 0)).setCell ⟨w.heap.size, 1, none⟩ (.int .i64 0)).setCell ⟨w.heap.size, 2, none⟩ (.int .i64 0)).setCell ⟨w.heap.size, 3, none⟩ (.int .i64 0)).setCell ⟨w.heap.size, 4, none⟩ (.int .i64 0)).setCell ⟨w.heap.size, 5, none⟩ (.int .i64 0)).setCell ⟨w.heap.size, 6, none⟩ (.slice none 0 0) = LW) := by
      show _ = _
      unfold layR at hLW
      exact hLW
    have EN : Hid (Calls Try.prog 40 #[.pointer (some ⟨M, 0, none⟩)] v7 fun r w' => r = .returned (.int .i64 e7) ∧ v7 = w') := by
      have q := rf_end S8.out.rd
      rw [endV_bad h7] at q
      exact q
    clear hLW on RV HEE E8
    go_wp2_with fail
    refine wp_loop_rounds 1 ?_
    rw [rounds_succ]
    go_wp2_with (go_at_call 40; refine Calls.mono EN.out ?_; rintro q w' ⟨rfl, rfl⟩)
    rw [LV.out]
    refine bodyPost_ret (v := .tuple #[.agg #[.int .i64 0, .int .i64 0, .int .i64 0, .int .i64 0, .int .i64 0, .int .i64 0, .slice none 0 0], .int .i64 e7]) (by simp [results, Try.results19, go_sem, g0, g1, g2, g3, g4, g5, g6]) rfl FIN.out
  subst h7
  obtain ⟨TT, hTT⟩ : ∃ TT, listE k r (List.replicate N 0) = TT := ⟨_, rfl⟩
  have LI : Hid (∀ (W : World) (g : Nat), IsI W (some ⟨g, 0, none⟩) (List.replicate N 0) → Calls Try.prog 22 #[.int .i64 k, .int .i64 r, .slice (some ⟨g, 0, none⟩) N N] W fun e w' => ∃ a' c, e = .returned (.slice a' TT.length c) ∧ Ow w' W.heap.size a' TT c ∧ Below W.heap.size W w') := fun W g hW => by
    have q := dlist_any k r (some ⟨g, 0, none⟩) N (List.replicate N 0) W (by omega) (by omega) hW (by rw [List.length_replicate]; omega)
    rw [hTT, List.length_replicate] at q
    exact q
  have TB : TT.length ≤ 6000 := by
    rw [← hTT]
    unfold listE
    rw [List.length_append, spanE_len, List.length_replicate]
    have := ahead_le (k := k) (r := r) (by omega) (by omega)
    omega
  obtain ⟨zz, hzz⟩ : ∃ zz, ((List.replicate N (0 : Int)).map (Value.int .i64)).toArray = zz := ⟨_, rfl⟩
  have MKI : ∀ w : World, (Instr.makeSlice 47 (.int .i64 (N : Nat)) (.int .i64 (N : Nat))).run Try.prog w = .ok (.slice (some ⟨w.heap.size, 0, none⟩) N N) (w.alloc (.cells zz 3)) := fun w => by rw [← hzz]; exact make_I20 w N (by omega)
  have ZI : Hid (∀ w : World, IsI (w.alloc (.cells zz 3)).drew (some ⟨w.heap.size, 0, none⟩) (List.replicate N 0)) := fun w => by rw [← hzz]; exact zeros_isI w N
  rw [hTT] at Q8
  have G0 : Hid (goE p s TT 0 l7 0 [] = goE p s (TT.drop 0) 0 l7 0 []) := rfl
  have G8 : Hid (goE p s TT 0 l7 0 [] = (es, l8, e8)) := Q8.out
  obtain ⟨TL, hTL⟩ : ∃ TL, TT.length = TL := ⟨_, rfl⟩
  have HTL : Hid (TT.length = TL) := hTL
  rw [hTL] at LI TB
  have KV : K < v7.heap.size := hlt S8.out.box
  clear hTT hzz hTL Q8
  go_upto_region 12 with (fail)
  go_region_held3 (fun w' => w'.cell? ⟨K, 4, none⟩ = some (.int .i64 r) ∧ w'.cell? ⟨K, 5, none⟩ = some (.int .i64 k)) (first | assumption | exact ⟨by assumption, by assumption⟩ | exact ⟨u4, u5⟩ | go_keep)
    (first | (go_at_call 22; go_loud (refine (LI.out _ _ (ZI.out v7)).mono ?_; rintro e9 w9 ⟨ae, ce, rfl, oe, be⟩; have BE : Hid (Below v7.heap.size v7 w9) := ((below_alloc v7 (.cells zz 3)).trans ((Below.ofDrew be).mono (by show v7.heap.size ≤ (v7.alloc (.cells zz 3)).heap.size; simp))); have S9 : Hid (Yb w w9 M K l7 0 #[.int .i64 b, .int .i64 p, .int .i64 xw, .int .i64 xh, .int .i64 r, .int .i64 k, .slice none 0 0]) := S8.out.keep BE.out; have OE : Hid (Ow w9 (K + 1) ae TT ce) := oe.mono (by show K + 1 ≤ (v7.alloc (.cells zz 3)).heap.size; simp; omega); have x6 := cell_of_row _ _ 6 _ _ _ S9.out.box; have z6 := frozen_of_row _ _ 6 _ _ S9.out.box; have S10 : Hid (Yb w (w9.setCell ⟨K, 6, none⟩ (.slice ae TL ce)) M K l7 0 #[.int .i64 b, .int .i64 p, .int .i64 xw, .int .i64 xh, .int .i64 r, .int .i64 k, .slice ae TL ce]) := S9.out.put 6 _ rfl; have u4 := cell_of_row _ _ 4 _ _ _ S10.out.box; have u5 := cell_of_row _ _ 5 _ _ _ S10.out.box; have y4 := cell_of_row _ _ 4 _ _ _ S9.out.box; have y5 := cell_of_row _ _ 5 _ _ _ S9.out.box; clear oe be)))
  all_goals
    have O10 : Hid (Ow (w9.setCell ⟨K, 6, none⟩ (.slice ae TL ce)) (K + 1) ae TT ce) := OE.out.same (fun g o hg ho => by rw [(Only.set K 6 (.slice ae TL ce) w9).block g (by have := (OE.out.ge g hg).1; omega)]; exact ho)
    obtain ⟨W10, hW10⟩ : ∃ W10, w9.setCell ⟨K, 6, none⟩ (.slice ae TL ce) = W10 := ⟨_, rfl⟩
    have HW10 : Hid _ := hW10
    rw [hW10] at S10 O10 u4 u5
    obtain ⟨CSE, hCSE⟩ : ∃ CSE : Array Value, (#[.int .i64 b, .int .i64 p, .int .i64 xw, .int .i64 xh, .int .i64 r, .int .i64 k, .slice ae TL ce] : Array Value) = CSE := ⟨_, rfl⟩
    have SQ : Hid (Lq w W10 M K CSE ae ce ([] ++ TT.drop 0) l7 0) := ⟨by rw [← hCSE]; exact S10.out, O10.out⟩
    have HCSE : Hid ((#[.int .i64 b, .int .i64 p, .int .i64 xw, .int .i64 xh, .int .i64 r, .int .i64 k, .slice ae TL ce] : Array Value) = CSE) := hCSE
    clear hW10 hCSE u4 u5 y4 y5 x6 z6 c0 c1 c2 c3 c4 c5 c6 mE S8 S9 OE MKI
    go_upto_region 13 with (fail)
    rw [HW10.out]
    clear HW10
    go_wp2_with fail
    go_loopw [9, 10] (fun lv iv wr => ∃ (m : Nat) (nx : Int) (acc : List Ent) (l : List Int) (e : Int), m ≤ TL ∧ iv = .int .i64 (m : Nat) ∧ lv = .int .i64 (nx - 1) ∧ acc.length = m ∧ 0 ≤ nx ∧ nx ≤ 4096 + m ∧ Lq w wr M K CSE ae ce (acc ++ TT.drop m) l e ∧ AllB l ∧ goE p s TT 0 l7 0 [] = goE p s (TT.drop m) nx l e acc) (fun _ iv _ => TL - (intOf iv).toNat)
    case atStart => exact ⟨0, 0, [], l7, 0, Nat.zero_le _, rfl, rfl, rfl, by omega, by omega, SQ.out, A7.out, G0.out⟩
    case round =>
      clear SQ G0 S10 O10
      obtain ⟨m, nx, acc, lc, e, hm', rfl, rfl, hac, nx0, nx1, hS, hA, hG⟩ := hrel
      rename World => wr
      have HS : Hid (Lq w wr M K CSE ae ce (acc ++ TT.drop m) lc e) := hS
      have HGO : Hid (goE p s TT 0 l7 0 [] = goE p s (TT.drop m) nx lc e acc) := hG
      have HAC : Hid (acc.length = m) := hac
      have AL : Hid (AllB lc) := hA
      have mE := rf_err HS.out.yb.rd
      have KB : Hid (Yb w wr M K lc e #[.int .i64 b, .int .i64 p, .int .i64 xw, .int .i64 xh, .int .i64 r, .int .i64 k, .slice ae TL ce]) := by show Yb _ _ _ _ _ _ _; rw [HCSE.out]; exact HS.out.yb
      obtain ⟨c0, c1, c2, c3, c4, c5, c6⟩ := seven KB.out.box
      clear hS hG hac hA
      have FINISH : m = TL ∨ e ≠ 0 → endV lc e = E ∧ (e = 0 → (acc ++ TT.drop m) = es) := fun hc => by
        by_cases he : e = 0
        · have hmT : m = TL := by rcases hc with h | h; exact h; exact absurd he h
          have q := HGO.out
          rw [G8.out, hmT, List.drop_of_length_le (by rw [HTL.out]; exact Nat.le_refl _)] at q
          simp only [goE, Prod.mk.injEq] at q
          obtain ⟨q1, q2, q3⟩ := q
          exact ⟨by rw [← HE.out, q2, q3], fun _ => by rw [hmT, List.drop_of_length_le (by rw [HTL.out]; exact Nat.le_refl _), List.append_nil, q1]⟩
        · have q := goE_last (HGO.out.symm.trans G8.out) he
          exact ⟨by rw [← HE.out, q, endV_bad he, endV_bad he], fun h => absurd h he⟩
      by_cases hgo : m < TL ∧ e = 0
      rotate_left
      · obtain ⟨f1, f2⟩ := FINISH (by omega)
        have F2 : Hid (e = 0 → (acc ++ TT.drop m) = es) := f2
        have EN : Hid (Calls Try.prog 40 #[.pointer (some ⟨M, 0, none⟩)] wr fun r w' => r = .returned (.int .i64 E) ∧ wr = w') := by
          have q := rf_end HS.out.yb.rd
          rw [f1] at q
          exact q
        have EZ : Hid (E = 0 → e = 0) := fun q => by
          by_cases he : e = 0
          · exact he
          · rw [endV_bad he] at f1; omega
        obtain ⟨y0, y1, y2, y3, y4, y5, y6⟩ := seven KB.out.res
        obtain ⟨z0, z1, z2, z3, z4, z5, z6⟩ := sevenF KB.out.res
        have hstop : ¬ (m : Int) < (TL : Int) ∨ ((m : Int) < (TL : Int) ∧ (e == 0) = false) := by
          by_cases h : m < TL
          · exact .inr ⟨by omega, beq_eq_false_iff_ne.2 (fun q => hgo ⟨h, q⟩)⟩
          · exact .inl (by omega)
        clear FINISH f1 f2 hgo
        by_cases h0' : E = 0
        · have RV : readR l s = (⟨b, p, xw, xh, r, k, es⟩, 0) := by rw [RR.out, if_pos h0']
          have OES : Hid (Ow wr w.heap.size ae es ce) := by
            have q := HS.out.own.mono (B' := w.heap.size) (by have := HS.out.yb.hM; have := HS.out.yb.hK; omega)
            rw [F2.out (EZ.out h0')] at q
            exact q
          have LES : Hid (es.length = TL) := by
            show _ = _
            have q := go_len TT 0 l7 0 [] (pg := p) (s := s)
            rw [G8.out] at q
            simp only [List.length_nil, Nat.zero_add] at q
            rw [q]; exact HTL.out
          subst h0'
          obtain ⟨LW, hLW⟩ : ∃ LW, layR wr w.heap.size (.int .i64 b) (.int .i64 p) (.int .i64 xw) (.int .i64 xh) (.int .i64 r) (.int .i64 k) (.slice ae TL ce) = LW := ⟨_, rfl⟩
          have on : Only w.heap.size wr LW := by rw [← hLW]; exact layR_only _ _ _ _ _ _ _ _ _
          obtain ⟨g0, g1, g2, g3, g4, g5, g6⟩ := seven (by have := layR_row (a := .int .i64 b) (b := .int .i64 p) (c := .int .i64 xw) (d := .int .i64 xh) (e := .int .i64 r) (f := .int .i64 k) (v := .slice ae TL ce) KB.out.res; rw [hLW] at this; exact this)
          have FIN : Hid (RdPost w l s (.returned (.tuple #[.agg #[.int .i64 b, .int .i64 p, .int .i64 xw, .int .i64 xh, .int .i64 r, .int .i64 k, .slice ae TL ce], .int .i64 0])) LW) := by
            show RdPost _ _ _ _ _
            unfold RdPost
            rw [RV]
            simp only
            refine ⟨ae, ce, by rw [LES.out], OES.out.same (fun g o hg ho => by rw [on.block g (by have := (HS.out.own.ge g hg).1; have := HS.out.yb.hM; have := HS.out.yb.hK; omega)]; exact ho), HS.out.yb.low.trans (on.below (Nat.le_refl _))⟩
          have LV : Hid (((((((wr.setCell ⟨w.heap.size, 0, none⟩ (.int .i64 b)).setCell ⟨w.heap.size, 1, none⟩ (.int .i64 p)).setCell ⟨w.heap.size, 2, none⟩ (.int .i64 xw)).setCell ⟨w.heap.size, 3, none⟩ (.int .i64 xh)).setCell ⟨w.heap.size, 4, none⟩ (.int .i64 r)).setCell ⟨w.heap.size, 5, none⟩ (.int .i64 k)).setCell ⟨w.heap.size, 6, none⟩ (.slice ae TL ce) = LW) := by
            show _ = _
            unfold layR at hLW
            exact hLW
          clear hLW on RV
          rcases hstop with hs1 | ⟨hs1, hs2⟩
          all_goals
            go_wp2_with (go_at_call 40; refine Calls.mono EN.out ?_; rintro q w' ⟨rfl, rfl⟩)
            rw [LV.out]
            refine bodyPost_ret (v := .tuple #[.agg #[.int .i64 b, .int .i64 p, .int .i64 xw, .int .i64 xh, .int .i64 r, .int .i64 k, .slice ae TL ce], .int .i64 0]) (by simp [results, Try.results19, go_sem, g0, g1, g2, g3, g4, g5, g6]) rfl FIN.out
        · have RV : readR l s = (rtz, E) := by rw [RR.out, if_neg h0']
          have eb : (E != 0) = true := by rw [bne_iff_ne]; exact h0'
          obtain ⟨LW, hLW⟩ : ∃ LW, layR wr w.heap.size (.int .i64 0) (.int .i64 0) (.int .i64 0) (.int .i64 0) (.int .i64 0) (.int .i64 0) (.slice none 0 0) = LW := ⟨_, rfl⟩
          have on : Only w.heap.size wr LW := by rw [← hLW]; exact layR_only _ _ _ _ _ _ _ _ _
          obtain ⟨g0, g1, g2, g3, g4, g5, g6⟩ := seven (by have := layR_row (a := .int .i64 0) (b := .int .i64 0) (c := .int .i64 0) (d := .int .i64 0) (e := .int .i64 0) (f := .int .i64 0) (v := .slice none 0 0) KB.out.res; rw [hLW] at this; exact this)
          have FIN : Hid (RdPost w l s (.returned (.tuple #[.agg #[.int .i64 0, .int .i64 0, .int .i64 0, .int .i64 0, .int .i64 0, .int .i64 0, .slice none 0 0], .int .i64 E])) LW) := by
            show RdPost _ _ _ _ _
            unfold RdPost
            rw [RV]
            exact ⟨none, 0, rfl, Ow.nil _ _, HS.out.yb.low.trans (on.below (Nat.le_refl _))⟩
          have LV : Hid (((((((wr.setCell ⟨w.heap.size, 0, none⟩ (.int .i64 0)).setCell ⟨w.heap.size, 1, none⟩ (.int .i64 0)).setCell ⟨w.heap.size, 2, none⟩ (.int .i64 0)).setCell ⟨w.heap.size, 3, none⟩ (.int .i64 0)).setCell ⟨w.heap.size, 4, none⟩ (.int .i64 0)).setCell ⟨w.heap.size, 5, none⟩ (.int .i64 0)).setCell ⟨w.heap.size, 6, none⟩ (.slice none 0 0) = LW) := by
            show _ = _
            unfold layR at hLW
            exact hLW
          clear hLW on RV
          rcases hstop with hs1 | ⟨hs1, hs2⟩
          all_goals
            go_wp2_with (go_at_call 40; refine Calls.mono EN.out ?_; rintro q w' ⟨rfl, rfl⟩)
            rw [LV.out]
            refine bodyPost_ret (v := .tuple #[.agg #[.int .i64 0, .int .i64 0, .int .i64 0, .int .i64 0, .int .i64 0, .int .i64 0, .slice none 0 0], .int .i64 E]) (by simp [results, Try.results19, go_sem, g0, g1, g2, g3, g4, g5, g6]) rfl FIN.out
      obtain ⟨hmn, he0⟩ := hgo
      subst he0
      clear FINISH
      -- ROUND
      have hmi : (m : Int) < (TL : Int) := by omega
      have LQ : (acc ++ TT.drop m).length = TL := by rw [List.length_append, List.length_drop, HAC.out, HTL.out]; omega
      have DR : TT.drop m = rwD (acc ++ TT.drop m) m :: TT.drop (m + 1) := by
        have hm2 : m < TT.length := by rw [HTL.out]; exact hmn
        have q1 : rwD (acc ++ TT.drop m) m = TT[m] := by
          rw [rwD_at (by rw [LQ]; exact hmn), List.getElem_append_right (by rw [HAC.out]; exact Nat.le_refl _)]
          simp [HAC.out]
        rw [q1]; exact List.drop_eq_getElem_cons hm2
      obtain ⟨g, rfl, hg1, hg2, y0r, y1r, y2r, y3r⟩ := HS.out.own.cells m (by rw [LQ]; exact hmn)
      have y0 : wr.cell? ⟨g, m * 4, none⟩ = some (.int .i64 (rwD (acc ++ TT.drop m) m).t) := by rw [rwD_at (by rw [LQ]; exact hmn)]; exact y0r
      clear y0r y1r y2r y3r
      obtain ⟨Q, hQ⟩ : ∃ Q, acc ++ TT.drop m = Q := ⟨_, rfl⟩
      rw [hQ] at HS LQ y0
      have DR2 : TT.drop m = rwD Q m :: TT.drop (m + 1) := by rw [← hQ]; exact DR
      have HQ : Hid (acc ++ TT.drop m = Q) := hQ
      obtain ⟨⟨xt, xi, xf, xn⟩, hx⟩ : ∃ x, rwD Q m = x := ⟨_, rfl⟩
      rw [hx] at DR2 y0
      simp only at y0
      have HX : Hid (rwD Q m = ⟨xt, xi, xf, xn⟩) := hx
      have HLQ : Hid (Q.length = TL) := LQ
      have GO : Hid (goE p s TT 0 l7 0 [] = goE p s (⟨xt, xi, xf, xn⟩ :: TT.drop (m + 1)) nx lc 0 acc) := by show _ = _; rw [HGO.out, DR2]
      have SETT : Hid (∀ y : Ent, Q.set m y = (acc ++ [y]) ++ TT.drop (m + 1)) := fun y => by
        rw [← HQ.out, DR2]
        exact set_tail HAC.out
      have CK6 : Hid (∀ (W : World) (l : List Int) (e : Int), Yb w W M K l e CSE → W.cell? ⟨K, 6, none⟩ = some (.slice (some ⟨g, 0, none⟩) TL ce)) := fun W l e h => by
        rw [← HCSE.out] at h
        exact cell_of_row _ _ 6 _ _ _ h.box
      have CK1 : Hid (∀ (W : World) (l : List Int) (e : Int), Yb w W M K l e CSE → W.cell? ⟨K, 1, none⟩ = some (.int .i64 p)) := fun W l e h => by
        rw [← HCSE.out] at h
        exact cell_of_row _ _ 1 _ _ _ h.box
      obtain ⟨lv, hlv⟩ : ∃ lv, nx - 1 = lv := ⟨_, rfl⟩
      rw [hlv]
      have HLV : Hid (nx - 1 = lv) := hlv
      have hlvb : -1 ≤ lv ∧ lv ≤ 20000 := by omega
      clear hQ hx LQ DR DR2 HQ HGO
      by_cases h3 : xt = 3
      · subst h3
        obtain ⟨pn, hpn⟩ : ∃ pn, p - 1 - nx = pn := ⟨_, rfl⟩
        obtain ⟨pq, hpq⟩ : ∃ pq, p - lv = pq := ⟨_, rfl⟩
        obtain ⟨d, la, ea, QD⟩ : ∃ a b c, numR 0 pn lc 0 = (a, b, c) := ⟨_, _, _, rfl⟩
        obtain ⟨f, l2, e2, QF⟩ : ∃ a b c, numR 1 L la ea = (a, b, c) := ⟨_, _, _, rfl⟩
        obtain ⟨nn, l3, e3, QN⟩ : ∃ a b c, numR 8 65542 l2 e2 = (a, b, c) := ⟨_, _, _, rfl⟩
        have hd := num_in (lo := 0) (hi := pn) (l := lc) (e := 0) AL.out
        have Aa := (num_byte (lo := 0) (hi := pn) (l := lc) (e := 0) AL.out).1
        rw [QD] at hd Aa
        simp only at hd Aa
        have Ab := (num_byte (lo := 1) (hi := L) (l := la) (e := ea) Aa).1
        rw [QF] at Ab
        simp only at Ab
        have Ac := (num_byte (lo := 8) (hi := 65542) (l := l2) (e := e2) Ab).1
        rw [QN] at Ac
        simp only at Ac
        have A3 : Hid (AllB l3) := Ac
        have hp2 : placeR s la ea = ((f, nn), l3, e3) := by unfold placeR; rw [HL.out, QF]; simp only; rw [QN]
        obtain ⟨nd, hnd⟩ : ∃ nd, nx + d = nd := ⟨_, rfl⟩
        have GO2 : Hid (goE p s TT 0 l7 0 [] = goE p s (TT.drop (m + 1)) (nd + 1) l3 e3 (acc ++ [⟨3, nd, f, nn⟩])) := by
          show _ = _
          rw [GO.out, go_span (a := ⟨3, xi, xf, xn⟩) rfl (by rw [hpn]; exact QD) hp2, hnd]
        have NX : Hid (0 ≤ nd + 1 ∧ nd + 1 ≤ 4096 + ((m + 1 : Nat) : Int)) := by
          show _ ∧ _
          have h1 := hd.1
          have h2 := hd.2
          unfold mxz at h2
          split at h2 <;> (constructor <;> omega)
        have hdb : 0 ≤ nd ∧ nd ≤ 30000 := by
          have := NX.out
          have h1 := hd.1
          constructor <;> omega
        have QD' : Hid _ := QD
        have QF' : Hid _ := QF
        have QN' : Hid _ := QN
        have wl1 : IntKind.i64.wrap (lv + 1) = nx := by rw [IntKind.wrap_i64]; omega
        have wl2 : IntKind.i64.wrap (p - lv) = pq := by rw [IntKind.wrap_i64]; omega
        have wl3 : IntKind.i64.wrap (pq - 2) = pn := by rw [IntKind.wrap_i64]; omega
        have wl4 : IntKind.i64.wrap (nx + d) = nd := by rw [IntKind.wrap_i64]; omega
        have hpb : pn ≤ 9223372036854775807 := by omega
        have PRD0 : Hid (RfR wr.drew M lc 0) := HS.out.yb.rd
        clear QD QF QN hd Aa Ab Ac hp2 hpn hpq hnd
        go_upto_region 18 with (fail)
        go_region_held3 (fun w' => w'.cell? ⟨K, 6, none⟩ = some (.slice (some ⟨g, 0, none⟩) TL ce) ∧ w'.cell? ⟨K, 1, none⟩ = some (.int .i64 p)) (first | assumption | exact ⟨by assumption, by assumption⟩ | go_keep)
          (first | (go_at_call 39; (try rw [wl2]); (try rw [wl3]); go_loud (refine (from_rel 0 pn M lc 0 d la ea _ (by first | exact PRD0.out | exact HS.out.yb.rd) hpb QD'.out).mono ?_; rintro e9 v9 ⟨rfl, rr, tt⟩; have P9 : Hid (Lq w v9 M K CSE (some ⟨g, 0, none⟩) ce Q la ea) := HS.out.go (Tg.ofDrew tt) rr; have P10 : Hid (Lq w (v9.setCell ⟨g, m * 4 + 1, none⟩ (.int .i64 nd)) M K CSE (some ⟨g, 0, none⟩) ce (Q.set m { rwD Q m with i := nd }) la ea) := P9.out.setI m (by rw [HLQ.out]; exact hmn) nd; obtain ⟨_, ge, _, _, _, y1, _, _⟩ := P9.out.own.cells m (by rw [HLQ.out]; exact hmn); cases ge; obtain ⟨cur, hcur⟩ := P9.out.own.kind g rfl; have z1 := frozen_of_row _ _ (m * 4 + 1) _ _ hcur; have ka6 := CK6.out _ _ _ P9.out.yb; have ka1 := CK1.out _ _ _ P9.out.yb; have s6 := CK6.out _ _ _ P10.out.yb; have s1 := CK1.out _ _ _ P10.out.yb; clear rr tt hcur)))
        all_goals
          obtain ⟨Q2, hQ2⟩ : ∃ Q2, Q.set m { rwD Q m with i := nd } = Q2 := ⟨_, rfl⟩
          have HQ2 : Hid (Q.set m { rwD Q m with i := nd } = Q2) := hQ2
          have HX2 : Hid (rwD Q2 m = { rwD Q m with i := nd }) := by show _ = _; rw [← hQ2]; exact rwD_set (by rw [HLQ.out]; exact hmn) _
          have HLQ2 : Hid (Q2.length = TL) := by show _ = _; rw [← hQ2, List.length_set]; exact HLQ.out
          rw [hQ2] at P10
          obtain ⟨W0, hW0⟩ : ∃ W0, v9.setCell ⟨g, m * 4 + 1, none⟩ (.int .i64 nd) = W0 := ⟨_, rfl⟩
          have HW0 : Hid _ := hW0
          rw [hW0] at P10 s6 s1
          have y1' : W0.cell? ⟨g, m * 4 + 1, none⟩ = some (.int .i64 nd) := by
            obtain ⟨_, ge, _, _, _, q, _, _⟩ := P10.out.own.cells m (by rw [HLQ2.out]; exact hmn)
            cases ge
            rw [q]
            have e1 := HX2.out
            rw [rwD_at (by rw [HLQ2.out]; exact hmn)] at e1
            rw [e1]
          clear hW0 hQ2 y0 y1 z1 ka6 ka1 s1 c0 c1 c2 c3 c4 c5 c6 mE
          go_upto_region 19 with (fail)
          rw [HW0.out]
          clear HW0
          have PRD2 : Hid (RfR W0.drew M la ea) := P10.out.yb.rd
          have k6 := CK6.out _ _ _ P10.out.yb
          go_upto_region 20 with (fail)
          go_region_held3 (fun w' => w'.cell? ⟨K, 6, none⟩ = some (.slice (some ⟨g, 0, none⟩) TL ce)) (first | assumption | exact s6 | go_keep)
            (first | (go_at_call 39; go_loud (refine (from_rel 1 L M la ea f l2 e2 _ (by first | exact PRD2.out | exact P10.out.yb.rd) L1 QF'.out).mono ?_; rintro e9 va ⟨rfl, rr, tt⟩; have PA : Hid (Lq w va M K CSE (some ⟨g, 0, none⟩) ce Q2 l2 e2) := P10.out.go (Tg.ofDrew tt) rr; obtain ⟨_, ge, _, _, _, _, y2, y3⟩ := PA.out.own.cells m (by rw [HLQ2.out]; exact hmn); cases ge; obtain ⟨cur, hcur⟩ := PA.out.own.kind g rfl; have z2 := frozen_of_row _ _ (m * 4 + 2) _ _ hcur; have ka6 := CK6.out _ _ _ PA.out.yb; have PBx : Hid (Lq w (va.setCell ⟨g, m * 4 + 2, none⟩ (.int .i64 f)) M K CSE (some ⟨g, 0, none⟩) ce _ l2 e2) := PA.out.setF m (by rw [HLQ2.out]; exact hmn) f; have s6 := CK6.out _ _ _ PBx.out.yb; clear rr tt hcur)))
          all_goals
            have PB : Hid (Lq w (va.setCell ⟨g, m * 4 + 2, none⟩ (.int .i64 f)) M K CSE (some ⟨g, 0, none⟩) ce (Q2.set m { rwD Q2 m with f := f }) l2 e2) := PA.out.setF m (by rw [HLQ2.out]; exact hmn) f
            obtain ⟨Q3, hQ3⟩ : ∃ Q3, Q2.set m { rwD Q2 m with f := f } = Q3 := ⟨_, rfl⟩
            have HX3 : Hid (rwD Q3 m = { rwD Q2 m with f := f }) := by show _ = _; rw [← hQ3]; exact rwD_set (by rw [HLQ2.out]; exact hmn) _
            have HLQ3 : Hid (Q3.length = TL) := by show _ = _; rw [← hQ3, List.length_set]; exact HLQ2.out
            have HQ3 : Hid (Q2.set m { rwD Q2 m with f := f } = Q3) := hQ3
            rw [hQ3] at PB
            obtain ⟨Vb, hVb⟩ : ∃ Vb, va.setCell ⟨g, m * 4 + 2, none⟩ (.int .i64 f) = Vb := ⟨_, rfl⟩
            have HVb : Hid _ := hVb
            rw [hVb] at PB s6
            have PRB : Hid (RfR Vb.drew M l2 e2) := PB.out.yb.rd
            clear hVb hQ3 ka6 y2 y3 z2 k6
            go_upto_region 21 with (fail)
            rw [HVb.out]
            clear HVb
            go_region_held3 (fun w' => w'.cell? ⟨K, 6, none⟩ = some (.slice (some ⟨g, 0, none⟩) TL ce)) (first | assumption | exact s6' | go_keep)
              (first | (go_at_call 39; go_loud (refine (from_rel 8 65542 M l2 e2 nn l3 e3 _ (by first | exact PRB.out | exact PB.out.yb.rd) (by omega) QN'.out).mono ?_; rintro e9 vc ⟨rfl, rr, tt⟩; have PC : Hid (Lq w vc M K CSE (some ⟨g, 0, none⟩) ce Q3 l3 e3) := PB.out.go (Tg.ofDrew tt) rr; obtain ⟨_, ge, _, _, _, _, y2, y3⟩ := PC.out.own.cells m (by rw [HLQ3.out]; exact hmn); cases ge; obtain ⟨cur, hcur⟩ := PC.out.own.kind g rfl; have z3 := frozen_of_row _ _ (m * 4 + 3) _ _ hcur; have ka6 := CK6.out _ _ _ PC.out.yb; have PDx : Hid (Lq w (vc.setCell ⟨g, m * 4 + 3, none⟩ (.int .i64 nn)) M K CSE (some ⟨g, 0, none⟩) ce _ l3 e3) := PC.out.setN m (by rw [HLQ3.out]; exact hmn) nn; have s6' := CK6.out _ _ _ PDx.out.yb; clear rr tt hcur)))
            all_goals
              have PD : Hid (Lq w (vc.setCell ⟨g, m * 4 + 3, none⟩ (.int .i64 nn)) M K CSE (some ⟨g, 0, none⟩) ce (Q3.set m { rwD Q3 m with n := nn }) l3 e3) := PC.out.setN m (by rw [HLQ3.out]; exact hmn) nn
              have EQ : Hid (Q3.set m { rwD Q3 m with n := nn } = (acc ++ [⟨3, nd, f, nn⟩]) ++ TT.drop (m + 1)) := by
                show _ = _
                rw [HX3.out, HX2.out, HX.out, ← HQ3.out, List.set_set]
                rw [← HQ2.out, List.set_set]; exact SETT.out _
              rw [EQ.out] at PD
              obtain ⟨Vd, hVd⟩ : ∃ Vd, vc.setCell ⟨g, m * 4 + 3, none⟩ (.int .i64 nn) = Vd := ⟨_, rfl⟩
              have HVd : Hid _ := hVd
              rw [hVd] at PD
              clear hVd s6 s6' ka6 y2 y3 z3
              go_wp2
              rw [HVd.out]
              go_roundw
              case rel => exact ⟨m + 1, nd + 1, acc ++ [⟨3, nd, f, nn⟩], l3, e3, by omega, by go_num, by rw [Int.add_sub_cancel], by rw [List.length_append, HAC.out]; rfl, NX.out.1, NX.out.2, PD.out, A3.out, GO2.out⟩
              case measure => simp [intOf]; omega
      · have tb : (xt == 3) = false := beq_eq_false_iff_ne.2 h3
        obtain ⟨f, l2, e2, QF⟩ : ∃ a b c, numR 1 L lc 0 = (a, b, c) := ⟨_, _, _, rfl⟩
        obtain ⟨nn, l3, e3, QN⟩ : ∃ a b c, numR 8 65542 l2 e2 = (a, b, c) := ⟨_, _, _, rfl⟩
        have Ab := (num_byte (lo := 1) (hi := L) (l := lc) (e := 0) AL.out).1
        rw [QF] at Ab
        simp only at Ab
        have Ac := (num_byte (lo := 8) (hi := 65542) (l := l2) (e := e2) Ab).1
        rw [QN] at Ac
        simp only at Ac
        have A3 : Hid (AllB l3) := Ac
        have hp2 : placeR s lc 0 = ((f, nn), l3, e3) := by unfold placeR; rw [HL.out, QF]; simp only; rw [QN]
        have GO2 : Hid (goE p s TT 0 l7 0 [] = goE p s (TT.drop (m + 1)) nx l3 e3 (acc ++ [⟨xt, xi, f, nn⟩])) := by
          show _ = _
          rw [GO.out, go_else (a := ⟨xt, xi, xf, xn⟩) h3 hp2]
        have NX : Hid (0 ≤ nx ∧ nx ≤ 4096 + ((m + 1 : Nat) : Int)) := by
          show _ ∧ _
          constructor <;> omega
        have QF' : Hid _ := QF
        have QN' : Hid _ := QN
        clear QF QN Ab Ac hp2
        have PRD : Hid (RfR wr.drew M lc 0) := HS.out.yb.rd
        have k6 := CK6.out _ _ _ HS.out.yb
        go_upto_region 20 with (fail)
        go_region_held3 (fun w' => w'.cell? ⟨K, 6, none⟩ = some (.slice (some ⟨g, 0, none⟩) TL ce)) (first | assumption | exact s6 | go_keep)
          (first | (go_at_call 39; go_loud (refine (from_rel 1 L M lc 0 f l2 e2 _ (by first | exact PRD.out | exact HS.out.yb.rd) L1 QF'.out).mono ?_; rintro e9 va ⟨rfl, rr, tt⟩; have PA : Hid (Lq w va M K CSE (some ⟨g, 0, none⟩) ce Q l2 e2) := HS.out.go (Tg.ofDrew tt) rr; obtain ⟨_, ge, _, _, _, _, y2, y3⟩ := PA.out.own.cells m (by rw [HLQ.out]; exact hmn); cases ge; obtain ⟨cur, hcur⟩ := PA.out.own.kind g rfl; have z2 := frozen_of_row _ _ (m * 4 + 2) _ _ hcur; have ka6 := CK6.out _ _ _ PA.out.yb; have PBx : Hid (Lq w (va.setCell ⟨g, m * 4 + 2, none⟩ (.int .i64 f)) M K CSE (some ⟨g, 0, none⟩) ce _ l2 e2) := PA.out.setF m (by rw [HLQ.out]; exact hmn) f; have s6 := CK6.out _ _ _ PBx.out.yb; clear rr tt hcur)))
        all_goals
          have PB : Hid (Lq w (va.setCell ⟨g, m * 4 + 2, none⟩ (.int .i64 f)) M K CSE (some ⟨g, 0, none⟩) ce (Q.set m { rwD Q m with f := f }) l2 e2) := PA.out.setF m (by rw [HLQ.out]; exact hmn) f
          obtain ⟨Q3, hQ3⟩ : ∃ Q3, Q.set m { rwD Q m with f := f } = Q3 := ⟨_, rfl⟩
          have HX3 : Hid (rwD Q3 m = { rwD Q m with f := f }) := by show _ = _; rw [← hQ3]; exact rwD_set (by rw [HLQ.out]; exact hmn) _
          have HLQ3 : Hid (Q3.length = TL) := by show _ = _; rw [← hQ3, List.length_set]; exact HLQ.out
          have HQ3 : Hid (Q.set m { rwD Q m with f := f } = Q3) := hQ3
          rw [hQ3] at PB
          obtain ⟨Vb, hVb⟩ : ∃ Vb, va.setCell ⟨g, m * 4 + 2, none⟩ (.int .i64 f) = Vb := ⟨_, rfl⟩
          have HVb : Hid _ := hVb
          rw [hVb] at PB s6
          have PRB : Hid (RfR Vb.drew M l2 e2) := PB.out.yb.rd
          clear hVb hQ3 ka6 y2 y3 z2 k6
          go_upto_region 21 with (fail)
          rw [HVb.out]
          clear HVb
          go_region_held3 (fun w' => w'.cell? ⟨K, 6, none⟩ = some (.slice (some ⟨g, 0, none⟩) TL ce)) (first | assumption | exact s6' | go_keep)
            (first | (go_at_call 39; go_loud (refine (from_rel 8 65542 M l2 e2 nn l3 e3 _ (by first | exact PRB.out | exact PB.out.yb.rd) (by omega) QN'.out).mono ?_; rintro e9 vc ⟨rfl, rr, tt⟩; have PC : Hid (Lq w vc M K CSE (some ⟨g, 0, none⟩) ce Q3 l3 e3) := PB.out.go (Tg.ofDrew tt) rr; obtain ⟨_, ge, _, _, _, _, y2, y3⟩ := PC.out.own.cells m (by rw [HLQ3.out]; exact hmn); cases ge; obtain ⟨cur, hcur⟩ := PC.out.own.kind g rfl; have z3 := frozen_of_row _ _ (m * 4 + 3) _ _ hcur; have ka6 := CK6.out _ _ _ PC.out.yb; have PDx : Hid (Lq w (vc.setCell ⟨g, m * 4 + 3, none⟩ (.int .i64 nn)) M K CSE (some ⟨g, 0, none⟩) ce _ l3 e3) := PC.out.setN m (by rw [HLQ3.out]; exact hmn) nn; have s6' := CK6.out _ _ _ PDx.out.yb; clear rr tt hcur)))
          all_goals
            have PD : Hid (Lq w (vc.setCell ⟨g, m * 4 + 3, none⟩ (.int .i64 nn)) M K CSE (some ⟨g, 0, none⟩) ce (Q3.set m { rwD Q3 m with n := nn }) l3 e3) := PC.out.setN m (by rw [HLQ3.out]; exact hmn) nn
            have EQ : Hid (Q3.set m { rwD Q3 m with n := nn } = (acc ++ [⟨xt, xi, f, nn⟩]) ++ TT.drop (m + 1)) := by
              show _ = _
              rw [HX3.out, HX.out, ← HQ3.out, List.set_set]
              exact SETT.out _
            rw [EQ.out] at PD
            obtain ⟨Vd, hVd⟩ : ∃ Vd, vc.setCell ⟨g, m * 4 + 3, none⟩ (.int .i64 nn) = Vd := ⟨_, rfl⟩
            have HVd : Hid _ := hVd
            rw [hVd] at PD
            clear hVd s6 s6' ka6 y2 y3 z3
            go_wp2
            rw [HVd.out]
            go_roundw
            case rel => exact ⟨m + 1, nx, acc ++ [⟨xt, xi, f, nn⟩], l3, e3, by omega, by go_num, by rw [HLV.out], by rw [List.length_append, HAC.out]; rfl, NX.out.1, NX.out.2, PD.out, A3.out, GO2.out⟩
            case measure => simp [intOf]; omega
end Go.Proofs.Ytgpkiajakokjmaa
