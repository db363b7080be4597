/- The walk of the law NumReads: whatever bytes are read, by whatever calls, each answers as the document says. -/
import Derived.Test.YtdhamfhicdcdgaaNumRw
import Derived.Deep.RegionHeld3
namespace Go.Proofs.Ytdhamfhicdcdgaa
open Go.RowKit
set_option linter.unusedVariables false

set_option maxRecDepth 100000 in
set_option maxHeartbeats 16000000 in
theorem reads_walk (a : Option Addr) (cap : Nat) (l0 : List Int) (c : Option Addr) (n ccap : Nat) (kd nn mo : Nat → Int) (w : World) (hB : IsB w a l0) (hbig : l0.length ≤ 140737488355328) (hC : IsC w c n kd nn mo) (hn : n ≤ maxLen) :
    Calls Try.prog 5 #[.slice a l0.length cap, .slice c n ccap] w fun e w' => e = .returned (.bool true) ∧ Below w.heap.size w w' := by
  unfold maxLen at hn
  have HB : Hid (IsB w a l0) := hB
  have HC : Hid (IsC w c n kd nn mo) := hC
  clear hB hC
  go_enter Try.func5, Try.ntmps5
  go_wp2_with fail
  refine (alive_any w).mono ?_
  rintro e w1 ⟨rfl, b1⟩
  go_wp2_with fail
  refine (copy_any a cap l0 w1 (isB_keep HB.out b1) hbig).mono ?_
  rintro e w2 ⟨g1, cap1, rfl, g1a, g1b, g1c, g1d, g1e, b2⟩
  have i2 : IsB w2 (some ⟨g1, 0, none⟩) l0 := ⟨HB.out.1, .inr ⟨g1, 0, rfl, g1b, fun i hi => by rw [Nat.zero_add]; exact g1e i hi⟩⟩
  have I2 : Hid (IsB w2 (some ⟨g1, 0, none⟩) l0) := i2
  clear i2 g1e
  go_wp2_with fail
  refine (open_any (some ⟨g1, 0, none⟩) cap1 l0 w2 I2.out hbig (by simp)).mono ?_
  rintro e w3 ⟨B, rfl, hB1, hB2, hR3, b3⟩
  have n1 := b1.size
  have n2 := b2.size
  have n3 := b3.size
  have bw2 : Below w.heap.size w w2 := b1.trans (b2.mono n1)
  have bw3 : Below w.heap.size w w3 := bw2.trans (b3.mono (by omega))
  go_wp2_with fail
  refine (copy_any a cap l0 w3 (isB_keep HB.out bw3) hbig).mono ?_
  rintro e w4 ⟨g3, cap3, rfl, g3a, g3b, g3c, g3d, g3e, b4⟩
  have n4 := b4.size
  have bw4 : Below w.heap.size w w4 := bw3.trans (b4.mono (by omega))
  have b34 : Below w4.heap.size w4 (w4.alloc (.cells #[.slice (some ⟨g3, 0, none⟩) l0.length cap3, .int .i64 0] 38)) := (Below.refl _ w4).alloc (Nat.le_refl _) _
  have both0 : Both w (w4.alloc (.cells #[.slice (some ⟨g3, 0, none⟩) l0.length cap3, .int .i64 0] 38)) g1 B w4.heap.size l0 l0 0 := by
    refine ⟨rd_keep (rd_keep hR3 b4) b34, ⟨some ⟨g3, 0, none⟩, cap3, cell_push _ _ _, g3c, g3d, HB.out.1, .inr ⟨g3, 0, rfl, by omega, g3b, fun i hi => ?_⟩⟩, bw4.trans (b34.mono (by omega)), isB_keep (isB_keep (isB_keep I2.out b3) b4) b34, hbig⟩
    rw [Nat.zero_add]
    exact Lib.cell?_alloc_some _ (g3e i hi)
  have hwg : w.heap.size ≤ g1 := by omega
  have hgB : g1 < B := by omega
  have hBM : B < w4.heap.size := by omega
  obtain ⟨M, hM⟩ : ∃ M, M = w4.heap.size := ⟨_, rfl⟩
  have HM : Hid (M = w4.heap.size) := hM
  rw [← hM] at both0 hBM
  clear hM hR3 b1 b2 b3 b4 b34 g3e bw2 bw3 bw4 I2
  go_wp2
  rw [← HM.out]
  go_loopw [8] (fun i wr => ∃ (k : Nat) (l : List Int) (e : Int), k ≤ n ∧ k ≤ 200 ∧ i = .int .i64 k ∧ Both w wr g1 B M l0 l e) (fun i _ => 200 - (intOf i).toNat)
  case atStart => exact ⟨0, l0, 0, Nat.zero_le _, Nat.zero_le _, rfl, both0⟩
  case round =>
    obtain ⟨k, l, e, hk1, hk2, rfl, hbo⟩ := hrel
    by_cases hlt : k < n ∧ k < 200
    · obtain ⟨hl1, hl2⟩ := hlt
      rcases HC.out with h0 | ⟨cb, co, rfl, hcb, hcc⟩
      · omega
      obtain ⟨x0, x1, x2⟩ := hcc k hl1
      rw [← hbo.2.2.1.cell (p := ⟨cb, co + k * 3, none⟩) hcb] at x0
      rw [← hbo.2.2.1.cell (p := ⟨cb, co + k * 3 + 1, none⟩) hcb] at x1
      rw [← hbo.2.2.1.cell (p := ⟨cb, co + k * 3 + 2, none⟩) hcb] at x2
      clear hcc
      have hMw := both_lt hbo
      have bo : Below wr.heap.size wr (wr.alloc (.cells #[.int .i64 (kd k), .int .i64 (nn k), .int .u64 (mo k)] 40)) := (Below.refl _ wr).alloc (Nat.le_refl _) _
      have hb0 := both_keep hbo bo
      have HB0 : Hid (Both w (wr.alloc (.cells #[.int .i64 (kd k), .int .i64 (nn k), .int .u64 (mo k)] 40)) g1 B M l0 l e) := hb0
      have hll := hb0.2.2.2.2
      clear bo hb0 hbo both0
      by_cases q1 : kd k = 1
      · have p1 : (kd k == 1) = true := by simp [q1]
        clear q1
        obtain ⟨K, hK, hK8⟩ : ∃ K : Nat, clampW (nn k) = K ∧ K ≤ 8 := by
          rcases clampW_cases (nn k) with h | h | h | h | h | h | h | h | h
          all_goals exact ⟨_, h, by decide⟩
        have HK : Hid (clampW (nn k) = K) := hK
        clear hK
        go_wp2_with fail
        go_region_held3 (fun w' => w'.cell? ⟨wr.heap.size, 1, none⟩ = some (.int .i64 (nn k))) (first | assumption | simp) (first
          | (go_at_call 20; refine (fixed_any B l e (nn k) K _ ?_ HK.out hK8).mono ?_; exact HB0.out.1; rintro r5 w5 ⟨rfl, hR5, hg5⟩; have hx5 := hg5.cell (a := ⟨wr.heap.size, 1, none⟩) (v := .int .i64 (nn k)) (by simp) (by intro q; have := Option.some.inj q; simp at this; omega))
          | (go_at_call 21; refine (rfixed_any B M l e (nn k) K _ ?_ HK.out hK8 hll).mono ?_; exact rf_grown (both_drew HB0.out).2.1 hg5 (.inl (Nat.le_refl _)) (by omega); rintro r6 w6 ⟨rfl, hM6, hg6⟩; have hx6 := hg6.cell (a := ⟨wr.heap.size, 1, none⟩) (v := .int .i64 (nn k)) hx5 (by intro q; have := Option.some.inj q; simp at this; omega)))
        obtain ⟨l2, e2, hbt⟩ : ∃ l2 e2, Both w w6 g1 B M l0 l2 e2 := ⟨_, _, both_step (both_drew HB0.out) hwg hgB hBM hg5 hR5 hg6 hM6 (fx_len l e K)⟩
        clear hR5 hg5 hM6 hg6 hx5 hx6
        obtain ⟨a2, cp2, d1, d2, d3, d4, _, _, _⟩ := rf_parts hbt.2.1
        have HT : Hid (Both w _ g1 B M l0 l2 e2) := hbt
        clear hbt d1 d3 d4
        go_wp2_with fail
        go_region_held3 (fun w' => w'.cell? ⟨M, 1, none⟩ = some (.int .i64 e2)) (first | assumption | (simp; assumption) | simp) (first
          | (go_at_call 30; refine (left_any B l2 e2 _ ?_).mono ?_; exact HT.out.1; rintro r9 w9 ⟨rfl, rfl⟩)
          | (go_at_call 31; refine (rrest_any B M l2 e2 _ ?_).mono ?_; exact HT.out.2.1; rintro r9 w9 ⟨rfl, rfl⟩)
          | (go_at_call 32; refine (err_any B l2 e2 _ ?_).mono ?_; exact HT.out.1; rintro r9 w9 ⟨rfl, rfl⟩)
          | (go_at_call 33; refine (end_any B l2 e2 _ ?_).mono ?_; exact HT.out.1; rintro r9 w9 ⟨rfl, rfl⟩)
          | (go_at_call 34; refine (rend_any B M l2 e2 _ ?_).mono ?_; exact HT.out.2.1; rintro r9 w9 ⟨rfl, rfl⟩))
        go_wp2
        go_roundw
        case rel => exact ⟨k + 1, l2, e2, by omega, by omega, by go_num, both_drew HT.out⟩
        case measure => simp [intOf]; omega
      have p1 : (kd k == 1) = false := by rw [beq_eq_false_iff_ne]; exact q1
      clear q1
      by_cases q2 : kd k = 2
      · have p2 : (kd k == 2) = true := by simp [q2]
        clear q2
        go_wp2_with fail
        refine (rvar_any B l e _ HB0.out.1).mono ?_
        rintro r5 w5 ⟨rfl, hR5, hg5⟩
        go_wp2_with fail
        refine (rrvar_any B M l e _ (rf_grown HB0.out.2.1 hg5 (.inl (Nat.le_refl _)) (by omega))).mono ?_
        rintro r6 w6 ⟨rfl, hM6, hg6⟩
        obtain ⟨l2, e2, hbt⟩ : ∃ l2 e2, Both w w6 g1 B M l0 l2 e2 := ⟨_, _, both_step HB0.out hwg hgB hBM hg5 hR5 hg6 hM6 (up_len l e _)⟩
        clear hR5 hg5 hM6 hg6
        obtain ⟨a2, cp2, d1, d2, d3, d4, _, _, _⟩ := rf_parts hbt.2.1
        have HT : Hid (Both w _ g1 B M l0 l2 e2) := hbt
        clear hbt d1 d3 d4
        go_wp2_with fail
        go_region_held3 (fun w' => w'.cell? ⟨M, 1, none⟩ = some (.int .i64 e2)) (first | assumption | (simp; assumption) | simp) (first
          | (go_at_call 30; refine (left_any B l2 e2 _ ?_).mono ?_; exact HT.out.1; rintro r9 w9 ⟨rfl, rfl⟩)
          | (go_at_call 31; refine (rrest_any B M l2 e2 _ ?_).mono ?_; exact HT.out.2.1; rintro r9 w9 ⟨rfl, rfl⟩)
          | (go_at_call 32; refine (err_any B l2 e2 _ ?_).mono ?_; exact HT.out.1; rintro r9 w9 ⟨rfl, rfl⟩)
          | (go_at_call 33; refine (end_any B l2 e2 _ ?_).mono ?_; exact HT.out.1; rintro r9 w9 ⟨rfl, rfl⟩)
          | (go_at_call 34; refine (rend_any B M l2 e2 _ ?_).mono ?_; exact HT.out.2.1; rintro r9 w9 ⟨rfl, rfl⟩))
        go_wp2
        go_roundw
        case rel => exact ⟨k + 1, l2, e2, by omega, by omega, by go_num, both_drew HT.out⟩
        case measure => simp [intOf]; omega
      have p2 : (kd k == 2) = false := by rw [beq_eq_false_iff_ne]; exact q2
      clear q2
      by_cases q3 : kd k = 3
      · have p3 : (kd k == 3) = true := by simp [q3]
        clear q3
        go_wp2_with fail
        go_region_held3 (fun w' => w'.cell? ⟨wr.heap.size, 2, none⟩ = some (.int .u64 (mo k))) (first | assumption | simp) (first
          | (go_at_call 24; refine (upto_any B l e (mo k) _ ?_).mono ?_; exact HB0.out.1; rintro r5 w5 ⟨rfl, hR5, hg5⟩; have hx5 := hg5.cell (a := ⟨wr.heap.size, 2, none⟩) (v := .int .u64 (mo k)) (by simp) (by intro q; have := Option.some.inj q; simp at this; omega))
          | (go_at_call 25; refine (rupto_any B M l e (mo k) _ ?_).mono ?_; exact rf_grown (both_drew HB0.out).2.1 hg5 (.inl (Nat.le_refl _)) (by omega); rintro r6 w6 ⟨rfl, hM6, hg6⟩; have hx6 := hg6.cell (a := ⟨wr.heap.size, 2, none⟩) (v := .int .u64 (mo k)) hx5 (by intro q; have := Option.some.inj q; simp at this; omega)))
        obtain ⟨l2, e2, hbt⟩ : ∃ l2 e2, Both w w6 g1 B M l0 l2 e2 := ⟨_, _, both_step (both_drew HB0.out) hwg hgB hBM hg5 hR5 hg6 hM6 (up_len l e _)⟩
        clear hR5 hg5 hM6 hg6 hx5 hx6
        obtain ⟨a2, cp2, d1, d2, d3, d4, _, _, _⟩ := rf_parts hbt.2.1
        have HT : Hid (Both w _ g1 B M l0 l2 e2) := hbt
        clear hbt d1 d3 d4
        go_wp2_with fail
        go_region_held3 (fun w' => w'.cell? ⟨M, 1, none⟩ = some (.int .i64 e2)) (first | assumption | (simp; assumption) | simp) (first
          | (go_at_call 30; refine (left_any B l2 e2 _ ?_).mono ?_; exact HT.out.1; rintro r9 w9 ⟨rfl, rfl⟩)
          | (go_at_call 31; refine (rrest_any B M l2 e2 _ ?_).mono ?_; exact HT.out.2.1; rintro r9 w9 ⟨rfl, rfl⟩)
          | (go_at_call 32; refine (err_any B l2 e2 _ ?_).mono ?_; exact HT.out.1; rintro r9 w9 ⟨rfl, rfl⟩)
          | (go_at_call 33; refine (end_any B l2 e2 _ ?_).mono ?_; exact HT.out.1; rintro r9 w9 ⟨rfl, rfl⟩)
          | (go_at_call 34; refine (rend_any B M l2 e2 _ ?_).mono ?_; exact HT.out.2.1; rintro r9 w9 ⟨rfl, rfl⟩))
        go_wp2
        go_roundw
        case rel => exact ⟨k + 1, l2, e2, by omega, by omega, by go_num, both_drew HT.out⟩
        case measure => simp [intOf]; omega
      have p3 : (kd k == 3) = false := by rw [beq_eq_false_iff_ne]; exact q3
      clear q3
      by_cases q4 : kd k = 4
      · have p4 : (kd k == 4) = true := by simp [q4]
        clear q4
        obtain ⟨L, hL⟩ : ∃ L : Int, nn k < 0 ∧ L = 0 ∨ nn k = 0 ∧ L = 0 ∨ 0 < nn k ∧ L = nn k := by
          rcases Int.lt_trichotomy 0 (nn k) with h | h | h
          · exact ⟨nn k, .inr (.inr ⟨h, rfl⟩)⟩
          · exact ⟨0, .inr (.inl ⟨h.symm, rfl⟩)⟩
          · exact ⟨0, .inl ⟨h, rfl⟩⟩
        have HL : Hid (nn k < 0 ∧ L = 0 ∨ nn k = 0 ∧ L = 0 ∨ 0 < nn k ∧ L = nn k) := hL
        clear hL
        have Hby : Hid (∀ x ∈ (bsS l e L.toNat).1, 0 ≤ x ∧ x ≤ 255) := bs_byte l e _ HB0.out.1.bytes
        go_wp2_with fail
        refine (bytes_any B l e (nn k) L _ HB0.out.1 HL.out hll).mono ?_
        rintro r5 w5 ⟨a5, cap5, rfl, hF5, hR5, hg5⟩
        have z0 : (wr.alloc (.cells #[.int .i64 (kd k), .int .i64 (nn k), .int .u64 (mo k)] 40)).heap.size = wr.heap.size + 1 := by simp
        rw [z0] at hF5
        have hx5 := hg5.cell (a := ⟨wr.heap.size, 1, none⟩) (v := .int .i64 (nn k)) (by simp) (by intro q; have := Option.some.inj q; simp at this; omega)
        go_wp2_with fail
        refine (rbytes_any B M l e (nn k) L _ (rf_grown HB0.out.2.1 hg5 (.inl (Nat.le_refl _)) (by omega)) HL.out hll).mono ?_
        rintro r6 w6 ⟨a6, cap6, rfl, i6, hM6, hg6⟩
        have hF6 := fresh_grown hF5 hg6 (by omega)
        obtain ⟨l2, e2, hb6⟩ : ∃ l2 e2, Both w w6 g1 B M l0 l2 e2 := ⟨_, _, both_step HB0.out hwg hgB hBM hg5 hR5 hg6 hM6 (bs_left l e _)⟩
        have H6 : Hid (Both w w6 g1 B M l0 l2 e2) := hb6
        have hM6' := both_lt hb6
        clear hR5 hg5 hM6 hg6 hx5 hF5 z0 hb6
        go_wp2_with fail
        refine (same_true a5 a6 _ _ cap5 cap6 _ w6 (fresh_isB Hby.out hF6) i6 rfl rfl).mono ?_
        rintro r7 w7 ⟨rfl, rfl⟩
        clear i6
        generalize (bsS l e L.toNat).1 = D at *
        rcases hF6 with rfl | ⟨g, rfl, hg, hown⟩
        · go_wp2
          refine wp_loop_rounds 1 ?_
          rw [rounds_succ]
          have hbt : Both w w6 g1 B M l0 l2 e2 := H6.out
          obtain ⟨a2, cp2, d1, d2, d3, d4, _, _, _⟩ := rf_parts hbt.2.1
          have HT : Hid (Both w _ g1 B M l0 l2 e2) := hbt
          clear hbt d1 d3 d4
          go_wp2_with fail
          go_region_held3 (fun w' => w'.cell? ⟨M, 1, none⟩ = some (.int .i64 e2)) (first | assumption | (simp; assumption) | simp) (first
            | (go_at_call 30; refine (left_any B l2 e2 _ ?_).mono ?_; exact HT.out.1; rintro r9 w9 ⟨rfl, rfl⟩)
            | (go_at_call 31; refine (rrest_any B M l2 e2 _ ?_).mono ?_; exact HT.out.2.1; rintro r9 w9 ⟨rfl, rfl⟩)
            | (go_at_call 32; refine (err_any B l2 e2 _ ?_).mono ?_; exact HT.out.1; rintro r9 w9 ⟨rfl, rfl⟩)
            | (go_at_call 33; refine (end_any B l2 e2 _ ?_).mono ?_; exact HT.out.1; rintro r9 w9 ⟨rfl, rfl⟩)
            | (go_at_call 34; refine (rend_any B M l2 e2 _ ?_).mono ?_; exact HT.out.2.1; rintro r9 w9 ⟨rfl, rfl⟩))
          go_wp2
          go_roundw
          case rel => exact ⟨k + 1, l2, e2, by omega, by omega, by go_num, both_drew HT.out⟩
          case measure => simp [intOf]; omega
        · obtain ⟨wo, rfl⟩ : ∃ wo : World, wo = wr := ⟨_, rfl⟩
          obtain ⟨m, hm⟩ : ∃ m, D.length = m := ⟨_, rfl⟩
          have hmb : m ≤ maxLen := by
            obtain ⟨_, ⟨q1, _⟩ | ⟨_, _, _, q1, _, _, q2, q3, _⟩⟩ := hown
            · cases q1
            · cases q1; omega
          unfold maxLen at hmb
          rw [hm] at hown ⊢
          go_wp2
          go_loopw [82] (fun i wq => ∃ (j : Nat) (zs : List Int), j ≤ m ∧ i = .int .i64 j ∧ zs.length = m ∧ wq.ownsRow (wo.heap.size + 1) 5 1 (.slice (some ⟨g, 0, none⟩) m cap5) m (zs.map (Value.int .u8)) ∧ w6.grownBy wq (some g)) (fun i _ => m - (intOf i).toNat)
          case atStart => exact ⟨0, D, Nat.zero_le _, rfl, hm, hown, World.grownBy.refl _ _⟩
          case round =>
            obtain ⟨j, zs, hj, rfl, hz, how, hgw⟩ := hrel
            by_cases hjm : j < m
            · have hcj : wr.cell? ⟨g, j, none⟩ = some (.int .u8 (zs.getD j 0)) := by rw [how.cellAt j (by omega)]; simp [List.getD, show j < zs.length by omega]
              have hjz : j < zs.length := by omega
              have hfj := how.frozenAt j
              have hst := how.stored j
              have HST : Hid (∀ u, (wr.setCell ⟨g, j, none⟩ u).ownsRow (wo.heap.size + 1) 5 1 (.slice (some ⟨g, 0, none⟩) m cap5) m ((zs.map (Value.int .u8)).set j u) ∧ wr.grownBy (wr.setCell ⟨g, j, none⟩ u) (some g)) := hst
              clear hst
              go_wp2
              go_roundw
              case rel => exact ⟨j + 1, zs.set j ((zs[j] + 1) % 256), by omega, by go_num, by rw [List.length_set]; exact hz, by rw [List.map_set]; exact (HST.out _).1, grown_two hgw (HST.out _).2⟩
              case measure => simp [intOf]; omega
            · have hbt : Both w wr g1 B M l0 l2 e2 := both_far H6.out hwg hgB hBM (by omega) hgw
              clear how hgw
              obtain ⟨a2, cp2, d1, d2, d3, d4, _, _, _⟩ := rf_parts hbt.2.1
              have HT : Hid (Both w _ g1 B M l0 l2 e2) := hbt
              clear hbt d1 d3 d4
              go_wp2_with fail
              go_region_held3 (fun w' => w'.cell? ⟨M, 1, none⟩ = some (.int .i64 e2)) (first | assumption | (simp; assumption) | simp) (first
                | (go_at_call 30; refine (left_any B l2 e2 _ ?_).mono ?_; exact HT.out.1; rintro r9 w9 ⟨rfl, rfl⟩)
                | (go_at_call 31; refine (rrest_any B M l2 e2 _ ?_).mono ?_; exact HT.out.2.1; rintro r9 w9 ⟨rfl, rfl⟩)
                | (go_at_call 32; refine (err_any B l2 e2 _ ?_).mono ?_; exact HT.out.1; rintro r9 w9 ⟨rfl, rfl⟩)
                | (go_at_call 33; refine (end_any B l2 e2 _ ?_).mono ?_; exact HT.out.1; rintro r9 w9 ⟨rfl, rfl⟩)
                | (go_at_call 34; refine (rend_any B M l2 e2 _ ?_).mono ?_; exact HT.out.2.1; rintro r9 w9 ⟨rfl, rfl⟩))
              go_wp2
              go_roundw
              case rel => exact ⟨k + 1, l2, e2, by omega, by omega, by go_num, both_drew HT.out⟩
              case measure => simp [intOf]; omega
      have p4 : (kd k == 4) = false := by rw [beq_eq_false_iff_ne]; exact q4
      clear q4
      by_cases q5 : kd k = 5
      · have p5 : (kd k == 5) = true := by simp [q5]
        clear q5
        go_wp2_with fail
        refine (fail_any B l e (nn k) _ HB0.out.1).mono ?_
        rintro r5 w5 ⟨rfl, hR5, hg5⟩
        have hx5 := hg5.cell (a := ⟨wr.heap.size, 1, none⟩) (v := .int .i64 (nn k)) (by simp) (by intro q; have := Option.some.inj q; simp at this; omega)
        go_wp2_with fail
        refine (rfail_any B M l e (nn k) _ (rf_grown HB0.out.2.1 hg5 (.inl (Nat.le_refl _)) (by omega))).mono ?_
        rintro r6 w6 ⟨rfl, hM6, hg6⟩
        obtain ⟨l2, e2, hbt⟩ : ∃ l2 e2, Both w w6 g1 B M l0 l2 e2 := ⟨_, _, both_step HB0.out hwg hgB hBM hg5 hR5 hg6 hM6 (Nat.le_refl _)⟩
        clear hR5 hg5 hM6 hg6 hx5
        obtain ⟨a2, cp2, d1, d2, d3, d4, _, _, _⟩ := rf_parts hbt.2.1
        have HT : Hid (Both w _ g1 B M l0 l2 e2) := hbt
        clear hbt d1 d3 d4
        go_wp2_with fail
        go_region_held3 (fun w' => w'.cell? ⟨M, 1, none⟩ = some (.int .i64 e2)) (first | assumption | (simp; assumption) | simp) (first
          | (go_at_call 30; refine (left_any B l2 e2 _ ?_).mono ?_; exact HT.out.1; rintro r9 w9 ⟨rfl, rfl⟩)
          | (go_at_call 31; refine (rrest_any B M l2 e2 _ ?_).mono ?_; exact HT.out.2.1; rintro r9 w9 ⟨rfl, rfl⟩)
          | (go_at_call 32; refine (err_any B l2 e2 _ ?_).mono ?_; exact HT.out.1; rintro r9 w9 ⟨rfl, rfl⟩)
          | (go_at_call 33; refine (end_any B l2 e2 _ ?_).mono ?_; exact HT.out.1; rintro r9 w9 ⟨rfl, rfl⟩)
          | (go_at_call 34; refine (rend_any B M l2 e2 _ ?_).mono ?_; exact HT.out.2.1; rintro r9 w9 ⟨rfl, rfl⟩))
        go_wp2
        go_roundw
        case rel => exact ⟨k + 1, l2, e2, by omega, by omega, by go_num, both_drew HT.out⟩
        case measure => simp [intOf]; omega
      have p5 : (kd k == 5) = false := by rw [beq_eq_false_iff_ne]; exact q5
      clear q5
      obtain ⟨l2, e2, hbt⟩ : ∃ l2 e2, Both w (wr.alloc (.cells #[.int .i64 (kd k), .int .i64 (nn k), .int .u64 (mo k)] 40)) g1 B M l0 l2 e2 := ⟨l, e, HB0.out⟩
      obtain ⟨a2, cp2, d1, d2, d3, d4, _, _, _⟩ := rf_parts hbt.2.1
      have HT : Hid (Both w _ g1 B M l0 l2 e2) := hbt
      clear hbt d1 d3 d4
      go_wp2_with fail
      go_region_held3 (fun w' => w'.cell? ⟨M, 1, none⟩ = some (.int .i64 e2)) (first | assumption | (simp; assumption) | simp) (first
        | (go_at_call 30; refine (left_any B l2 e2 _ ?_).mono ?_; exact HT.out.1; rintro r9 w9 ⟨rfl, rfl⟩)
        | (go_at_call 31; refine (rrest_any B M l2 e2 _ ?_).mono ?_; exact HT.out.2.1; rintro r9 w9 ⟨rfl, rfl⟩)
        | (go_at_call 32; refine (err_any B l2 e2 _ ?_).mono ?_; exact HT.out.1; rintro r9 w9 ⟨rfl, rfl⟩)
        | (go_at_call 33; refine (end_any B l2 e2 _ ?_).mono ?_; exact HT.out.1; rintro r9 w9 ⟨rfl, rfl⟩)
        | (go_at_call 34; refine (rend_any B M l2 e2 _ ?_).mono ?_; exact HT.out.2.1; rintro r9 w9 ⟨rfl, rfl⟩))
      go_wp2
      go_roundw
      case rel => exact ⟨k + 1, l2, e2, by omega, by omega, by go_num, both_drew HT.out⟩
      case measure => simp [intOf]; omega
    · have hbl := hbo.2.2.1
      have I0 : Hid (IsB wr (some ⟨g1, 0, none⟩) l0) := hbo.2.2.2.1
      have HA : Hid (IsB wr a l0) := isB_keep HB.out hbl
      clear hbo both0
      by_cases hl1 : k < n
      all_goals
        go_wp2_with fail
        refine (same_true _ _ _ _ _ _ l0 wr I0.out HA.out rfl rfl).mono ?_
        rintro r9 w9 ⟨rfl, rfl⟩
        go_wp2
        go_ret
        exact ⟨rfl, hbl⟩
end Go.Proofs.Ytdhamfhicdcdgaa
