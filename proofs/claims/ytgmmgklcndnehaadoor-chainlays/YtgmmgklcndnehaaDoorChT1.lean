/- Layer 19: the document's Lay: the walk (whole sectors). -/
import Derived.Test.YtgmmgklcndnehaaDoorGzAI
namespace Go.Proofs.YtgmmgklcndnehaaDoor
open Go.RowKit Go.Maps
set_option linter.unusedVariables false
set_option maxRecDepth 4000

set_option maxRecDepth 20000 in
set_option maxHeartbeats 8000000 in
theorem dlay_whole (a al : Option Addr) (cap cl : Nat) (b l : List Int) (w : World) (hB : IsB w a b) (hbc : b.length ≤ cap) (hcm : cap ≤ maxLen) (hb : b.length ≤ 65542) (hc : l.length = cntC b.length) (hI : IsI w al l) (hx : b.length = 56 * l.length) :
    Calls Tryd.prog 11 #[.slice a b.length cap, .slice al l.length cl] w (DyP w b l) := by
  have BAD : Hid (apC l = false → layEC b.length l = 2) := fun h => by unfold layEC; rw [if_neg (by omega), if_neg (fun q => by rw [h] at q; cases q.2)]
  have GOOD : Hid (apC l = true → layEC b.length l = 0) := fun h => by unfold layEC; rw [if_neg (by omega), if_pos ⟨hc, h⟩]
  have h1 : ¬ (65542 : Int) < (b.length : Int) := by omega
  have lm : l.length ≤ 2000 := by rw [hc]; unfold cntC; omega
  have LT : Hid (∀ i, i < l.length → 56 * i < b.length) := fun i hi => cntC_lt.1 (by rw [← hc]; exact hi)
  have LS : Hid (∀ i, i + 1 < l.length → 56 * i + 56 ≤ b.length) := fun i hi => by have := cntC_lt.1 (by rw [← hc]; exact hi); omega
  have LL : Hid (∀ i, i < l.length → ¬ i + 1 < l.length → b.length ≤ 56 * i + 56) := fun i hi h => by rw [hc] at hi h; unfold cntC at hi h; omega
  have CN : Hid (Calls Tryd.prog 15 #[.int .i64 (b.length : Nat)] w fun e w' => e = .returned (.int .i64 (l.length : Nat)) ∧ w = w') := dcount_of _ _ w (by omega) (by rw [hc])
  have hne : ((l.length : Int) != (l.length : Int)) = false := by simp
  obtain ⟨N, hN⟩ : ∃ N, w.heap.size = N := ⟨_, rfl⟩
  have HN : Hid (w.heap.size = N) := hN
  have BI : Hid (∀ w', Below N w w' → IsI w' al l) := fun w' bb => hI.keep (by rw [hN]; exact bb)
  have BB : Hid (∀ w', Below N w w' → IsB w' a b) := fun w' bb => hB.keep (by rw [hN]; exact bb)
  have HAB : Hid (AllB b) := hB.1
  unfold maxLen at hcm
  have HX : Hid (b.length = 56 * l.length) := hx
  clear hb hI hc hB hN hx
  go_enter Tryd.func11, Tryd.ntmps11
  go_wp2_with (go_at_call 15; refine Calls.mono CN.out ?_; rintro e w' ⟨rfl, rfl⟩)
  go_loop [25] (fun iv => ∃ k : Nat, k ≤ l.length ∧ iv = .int .i64 (k : Nat) ∧ apC (l.take k) = true) (fun iv => l.length - (intOf iv).toNat)
  case atStart => exact ⟨0, Nat.zero_le _, rfl, rfl⟩
  case round =>
    obtain ⟨k, hk, rfl, hap⟩ := hrel
    have HA : Hid (apC (l.take k) = true) := hap
    clear hap
    by_cases hlt : k < l.length
    · obtain ⟨sb, so, rfl, hsb, hcell, s0, s1⟩ := (BI.out w (Below.refl _ _)).at' hlt
      obtain ⟨s, hs⟩ : ∃ s, l[k] = s := ⟨_, rfl⟩
      have HS : Hid (l[k] = s) := hs
      rw [hs] at hcell s0 s1
      clear hs
      by_cases hr1 : s < 1
      · have R : Hid (layEC b.length l = 2) := BAD.out (apC_false_range (List.getElem_mem hlt) (by rw [HS.out]; omega))
        go_wp2
        go_ret2
        exact DyP.bad R.out (by decide) (Below.refl _ _)
      · by_cases hr2 : 65534 < s
        · have R : Hid (layEC b.length l = 2) := BAD.out (apC_false_range (List.getElem_mem hlt) (by rw [HS.out]; omega))
          go_wp2
          go_ret2
          exact DyP.bad R.out (by decide) (Below.refl _ _)
        · go_wp2
          go_loop [8] (fun jv => ∃ j : Nat, j ≤ k ∧ jv = .int .i64 (j : Nat) ∧ ∀ (i : Nat) (hi : i < l.length), i < j → ¬ l[i] = s) (fun jv => k - (intOf jv).toNat)
          case atStart => exact ⟨0, Nat.zero_le _, rfl, fun i _ h => by omega⟩
          case round =>
            obtain ⟨j, hj, rfl, hnj⟩ := hrel
            have HNJ : Hid (∀ (i : Nat) (hi : i < l.length), i < j → ¬ l[i] = s) := hnj
            clear hnj
            by_cases hjk : j < k
            · have hjl : j < l.length := by omega
              obtain ⟨sb', so', e', _, hcj, _, _⟩ := (BI.out w (Below.refl _ _)).at' hjl
              cases e'
              obtain ⟨y, hy⟩ : ∃ y, l[j] = y := ⟨_, rfl⟩
              have HY : Hid (l[j] = y) := hy
              rw [hy] at hcj
              clear hy
              by_cases hys : y = s
              · subst hys
                have R : Hid (layEC b.length l = 2) := BAD.out (apC_false_twice hlt hjk (by rw [HS.out, HY.out]))
                go_wp2
                go_ret2
                exact DyP.bad R.out (by decide) (Below.refl _ _)
              · have hys1 : (y == s) = false := by rw [beq_eq_false_iff_ne]; exact hys
                have NX : Hid (∀ (i : Nat) (hi : i < l.length), i < j + 1 → ¬ l[i] = s) := fun i hi h => by
                  by_cases e : i = j
                  · subst e; rw [HY.out]; exact hys
                  · exact HNJ.out i hi (by omega)
                clear hys
                go_wp2
                go_round
                case rel => exact ⟨j + 1, by omega, by go_num, NX.out⟩
                case measure => simp [intOf]; omega
            · obtain rfl : j = k := by omega
              have NX : Hid (apC (l.take (j + 1)) = true) := apC_take hlt HA.out (by rw [HS.out]; omega) (by rw [HS.out]; exact ne_take HNJ.out)
              go_wp2
              go_round
              case rel => exact ⟨j + 1, by omega, by go_num, NX.out⟩
              case measure => simp [intOf]; omega
    · obtain rfl : k = l.length := by omega
      have AP : Hid (apC l = true) := by have := HA.out; rw [List.take_length] at this; exact this
      have RG : Hid (∀ s ∈ l, 1 ≤ s ∧ s ≤ 65534) := (apC_iff.1 AP.out).1
      go_wp2
      go_loopw [9, 50] (fun ov iv wr => ∃ (ao : Option Addr) (co k : Nat) (qs : List En), k ≤ l.length ∧ ov = .slice ao qs.length co ∧ iv = .int .i64 (k : Nat) ∧ qs.length = k ∧ WrR wr N ao co qs ∧ qs.map (fun x => (x.s, x.b)) = (wrC b l).take k ∧ Below N w wr) (fun _ iv _ => l.length - (intOf iv).toNat)
      case atStart => exact ⟨none, 0, 0, [], Nat.zero_le _, rfl, rfl, rfl, WrR.nil _ _, rfl, Below.refl _ _⟩
      case round =>
        obtain ⟨ao, co, k, qs, hk', rfl, rfl, hql, hW, hmap, hbl⟩ := hrel
        have HW : Hid (WrR wr N ao co qs) := hW
        have HM : Hid (qs.map (fun x => (x.s, x.b)) = (wrC b l).take k) := hmap
        have HB : Hid (Below N w wr) := hbl
        clear hW hmap hbl
        by_cases hkl : k < l.length
        · have kb := LT.out k hkl
          obtain ⟨sb, so, rfl, hsb, hcell, _, _⟩ := (BI.out wr HB.out).at' hkl
          obtain ⟨s, hs⟩ : ∃ s, l[k] = s := ⟨_, rfl⟩
          have sr := RG.out l[k] (List.getElem_mem hkl)
          have eg : l.getD k 0 = s := by rw [getD_at hkl]; exact hs
          rw [hs] at hcell sr
          obtain ⟨nx, hnx⟩ : ∃ nx, l.getD (k + 1) 0 = nx := ⟨_, rfl⟩
          have nr : 0 ≤ nx ∧ nx < 4294967296 := by
            rw [← hnx]
            by_cases h : k + 1 < l.length
            · rw [getD_at h]; have := RG.out l[k + 1] (List.getElem_mem h); omega
            · rw [getD_out (by omega)]; decide
          have nr2 : nx ≤ 18446744073709551615 := by omega
          have WE : Hid (∀ h : k < (wrC b l).length, (wrC b l)[k] = (s, secC (pcC b k) nx)) := fun h => by rw [wrC_at, eg, nxC, hnx]
          have HNX : Hid (l.getD (k + 1) 0 = nx) := hnx
          have hk1 : ((k + 1 < l.length) → ∃ hc2 : wr.cell? ⟨sb, so + (k + 1), none⟩ = some (.int .i64 nx), True) := fun h => by
            obtain ⟨sb', so', e', _, hcj, _, _⟩ := (BI.out wr HB.out).at' h
            cases e'
            rw [← getD_at h, hnx] at hcj
            exact ⟨hcj, trivial⟩
          have HK1 : Hid ((k + 1 < l.length) → ∃ hc2 : wr.cell? ⟨sb, so + (k + 1), none⟩ = some (.int .i64 nx), True) := hk1
          clear hs eg hnx hk1
          obtain ⟨P, hP⟩ : ∃ P, pcC b k = P := ⟨_, rfl⟩
          have PLEN := pcC_len b k
          have PL2 : Hid (P.length ≤ 56) := by show _ ≤ _; rw [← hP]; exact pcC_le b k
          have PALL : Hid (AllB P) := by show AllB P; rw [← hP]; exact pcC_allB HAB.out k
          obtain ⟨F, hF⟩ : ∃ F : Nat, 56 * k = F := ⟨_, rfl⟩
          have fk : (56 : Int) * (k : Int) = (F : Int) := by omega
          have wf : IntKind.i64.wrap ((56 : Int) * (k : Int)) = (F : Int) := by rw [IntKind.wrap_i64]; omega
          have we : IntKind.i64.wrap ((F : Int) + 56) = (F : Int) + 56 := by rw [IntKind.wrap_i64]; omega
          have wk : IntKind.i64.wrap ((k : Int) + 1) = (k : Int) + 1 := by rw [IntKind.wrap_i64]; omega
          have wx : IntKind.u64.wrap nx = nx := by rw [IntKind.wrap_u64]; omega
          have fb : F < b.length := by omega
          obtain ⟨hbb, hnil | ⟨bb, boff, rfl, hbs, hbc'⟩⟩ := BB.out wr HB.out
          · rw [hnil] at fb; simp at fb
          have IP : Hid (IsB wr (some ⟨bb, boff + F, none⟩) P) := by
            have q := (BB.out wr HB.out).part (56 * k) 56 rfl
            rw [hF] at q
            have e : P = (b.drop F).take 56 := by rw [← hP, ← hF]; rfl
            show IsB _ _ _
            rw [e]; exact q
          rw [hP] at WE PLEN
          rw [hF] at PLEN
          obtain ⟨K, hK⟩ : ∃ K, wr.heap.size = K := ⟨_, rfl⟩
          have HK : Hid (wr.heap.size = K) := hK
          have KN : Hid (N ≤ K) := by show _ ≤ _; rw [← hK, ← HN.out]; exact HB.out.size
          have hmk := make_row 56 (by decide) wr
          have zr := zs_row 56 wr
          obtain ⟨wA, hwA⟩ : ∃ wA, wr.alloc (.cells (madeCells #[.int .u8 0] 56) 5) = wA := ⟨_, rfl⟩
          have BA : Hid (Below K wr wA) := by show Below _ _ _; rw [← hwA, ← hK]; exact (Below.refl _ wr).alloc (Nat.le_refl _) _
          rw [hwA] at hmk zr
          rw [hK] at hmk zr
          have RA : Hid (RowB wA K 5 (zs 56)) := zr
          have KA : Hid (K < wA.heap.size) := zr.lt
          have IPA : Hid (IsB wA (some ⟨bb, boff + F, none⟩) P) := IP.out.keep (by rw [hK]; exact BA.out)
          have e56 : ((56 : Nat) : Int) = 56 := rfl
          rw [e56] at hmk
          have hsl : sb < K := by rw [← hK]; exact hsb
          have PC : Hid ((zs 56).take 0 ++ P.take (min P.length 56) ++ (zs 56).drop (0 + min P.length 56) = padC P) := by
            show _ = _
            rw [Nat.min_eq_left PL2.out, List.take_zero, List.nil_append, List.take_length, Nat.zero_add, padC, zs, zs, List.drop_replicate]
          clear hP hF hbb hbs hbc' hK hwA zr sr
          by_cases hkk : k + 1 < l.length
          · have hfit := LS.out k hkk
            have hfit2 : (F : Int) + 56 ≤ (b.length : Int) := by omega
            obtain ⟨hc2, _⟩ := HK1.out hkk
            have hkk2 : (k : Int) + 1 < (l.length : Int) := by omega
            have PN : Hid (P.length = 56) := by show _ = _; rw [PLEN]; omega
            clear PLEN
            go_wp2_with (first
              | (refine wpList_copyB rfl _ _ rfl K 0 56 56 5 (zs 56) P (some ⟨bb, boff + F, none⟩) (56) (cap - F) (min P.length 56) rfl (by first | rfl | (simp [Act.eval]; done) | (simp [Act.eval]; omega)) PN.out.symm (by rw [PN.out]) RA.out IPA.out (by rw [zs_len]; have := PL2.out; omega) ?_; rw [PC.out]; intro w1 r1 o1; have R1 : Hid (RowB w1 K 5 (padC P)) := r1; have B1 : Hid (Below K wr w1) := BA.out.trans (o1.below (Nat.le_refl _)); have K1 : Hid (K < w1.heap.size) := r1.lt; have O1 : Hid (OwnsB w1 K (some ⟨K, 0, none⟩) (padC P) 56) := (by have q := rowB_owns r1 (Nat.le_refl K) (by rw [padC_len PL2.out]; decide); rw [padC_len PL2.out] at q; exact q); have d1 := (B1.out.cell (p := ⟨sb, so + k, none⟩) hsl).trans hcell; clear r1 o1; have d2 := (B1.out.cell (p := ⟨sb, so + (k + 1), none⟩) hsl).trans hc2)
              | (have _ := O3; go_at_call 33; refine (rput_is _ 4 4 (by decide) (by decide) SB.out.1 SB.out.2 _).mono ?_; rintro e w4 ⟨a4, c4, rfl, i4, g4, b4⟩; have I4 : Hid (IsB w4 a4 (putL 4 (sumI (headC P nx)))) := i4; have B4 : Hid (Below K wr w4) := B3.out.trans (b4.mono (Nat.le_of_lt K3.out)); have O4 : Hid (OwnsB w4 K a3 (headC P nx) c3) := O3.out.keep b4; have K4 : Hid (K < w4.heap.size) := Nat.lt_of_lt_of_le K3.out b4.size; clear i4 g4 b4)
              | (go_at_call 33; refine (rput_is nx 4 4 (by decide) (by decide) nr.1 nr2 _).mono ?_; rintro e w2 ⟨a2, c2, rfl, i2, g2, b2⟩; have I2 : Hid (IsB w2 a2 (putL 4 nx)) := i2; have B2 : Hid (Below K wr w2) := B1.out.trans (b2.mono (Nat.le_of_lt K1.out)); have O2 : Hid (OwnsB w2 K (some ⟨K, 0, none⟩) (padC P) 56) := O1.out.keep b2; have K2 : Hid (K < w2.heap.size) := Nat.lt_of_lt_of_le K1.out b2.size; clear i2 g2 b2)
              | (go_at_call 34; refine (rsum_of _ _ _ (headC P nx) _ HL.out.symm (ownsB_isB (headC_allB PALL.out nx) O3.out) (by rw [HL.out]; decide)).mono ?_; rintro e w' ⟨rfl, rfl⟩)
              | (have _ := O4; at_builtin; obtain ⟨ad4, rfl⟩ := put_some I4.out; obtain ⟨a5, c5, w5, h5, o5, g5⟩ := appB_g w4 K (Nat.le_of_lt K4.out) a3 (headC P nx) c3 O4.out ad4 (putL 4 (sumI (headC P nx))) c4 I4.out (by rw [HL.out, putL_len]; decide); rw [HL.out, putL_len, List.length_append, HL.out, putL_len] at h5; refine wpList_bi rfl _ _ 22 rfl _ _ rfl rfl _ _ h5 ?_; have O5 : Hid (OwnsB w5 K a5 (secC P nx) c5) := o5; have B5 : Hid (Below K wr w5) := grown_belowD B4.out g5 (fun j e => (ownB_blk O4.out j e).1) (Nat.le_of_lt K4.out); have W5 : Hid (WrR w5 N ao co qs) := HW.out.keep (by rw [HK.out]; exact B5.out); have N5 : Hid (N ≤ w5.heap.size) := Nat.le_trans KN.out (by have := B5.out.size; rw [HK.out] at this; exact this); obtain ⟨a6, c6, w6, h6, W6, b6⟩ := W5.out.add N5.out ⟨s, a5, c5, secC P nx⟩ ⟨O5.out.mono KN.out, secC_len PL2.out nx, secC_allB PALL.out nx⟩ (by omega); have W6H : Hid (WrR w6 N a6 c6 (qs ++ [⟨s, a5, c5, secC P nx⟩])) := W6; have B6 : Hid (Below N w w6) := (HB.out.trans (B5.out.mono KN.out)).trans b6; clear o5 g5 W6 b6)
              | (have _ := O2; at_builtin; obtain ⟨ad2, rfl⟩ := put_some I2.out; obtain ⟨a3, c3, w3, h3, o3, g3⟩ := appB_g w2 K (Nat.le_of_lt K2.out) (some ⟨K, 0, none⟩) (padC P) 56 O2.out ad2 (putL 4 nx) c2 I2.out (by rw [padC_len PL2.out, putL_len]; decide); rw [padC_len PL2.out, putL_len, List.length_append, padC_len PL2.out, putL_len] at h3; refine wpList_bi rfl _ _ 22 rfl _ _ rfl rfl _ _ h3 ?_; have O3 : Hid (OwnsB w3 K a3 (headC P nx) c3) := o3; have B3 : Hid (Below K wr w3) := grown_belowD B2.out g3 (fun j e => (ownB_blk O2.out j (by rw [padC_len PL2.out]; exact e)).1) (Nat.le_of_lt K2.out); have K3 : Hid (K < w3.heap.size) := Nat.lt_of_lt_of_le K2.out g3.size; have HL : Hid ((headC P nx).length = 60) := headC_len PL2.out nx; have SB : Hid (0 ≤ sumI (headC P nx) ∧ sumI (headC P nx) ≤ 18446744073709551615) := head_sb PALL.out nx; have ws : IntKind.u64.wrap (sumI (headC P nx)) = sumI (headC P nx) := head_ws PALL.out nx; clear o3 g3)
              | (at_builtin; rw [hql] at h6; refine wpList_bi rfl _ _ 26 rfl _ _ rfl rfl _ _ h6 ?_))
            go_roundw
            case rel => exact ⟨a6, c6, k + 1, qs ++ [⟨s, a5, c5, secC P nx⟩], by omega, by simp [hql], by go_num, by simp [hql], W6H.out, by rw [List.map_append, HM.out, List.take_succ_eq_append_getElem (by rw [wrC_len]; exact hkl), WE.out]; rfl, B6.out⟩
            case measure => simp [intOf]; omega
          · have hkk2 : ¬ (k : Int) + 1 < (l.length : Int) := by omega
            have hnx0 : nx = 0 := by rw [← HNX.out]; exact getD_out (by omega)
            subst hnx0
            have hll := LL.out k hkl hkk
            have hfit : F + 56 ≤ b.length := by have := HX.out; omega
            have hfit2 : (F : Int) + 56 ≤ (b.length : Int) := by omega
            have PN : Hid (P.length = 56) := by show _ = _; rw [PLEN]; omega
            clear PLEN
            go_wp2_with (first
              | (refine wpList_copyB rfl _ _ rfl K 0 56 56 5 (zs 56) P (some ⟨bb, boff + F, none⟩) (56) (cap - F) (min P.length 56) rfl (by first | rfl | (simp [Act.eval]; done) | (simp [Act.eval]; omega)) PN.out.symm (by rw [PN.out]) RA.out IPA.out (by rw [zs_len]; have := PL2.out; omega) ?_; rw [PC.out]; intro w1 r1 o1; have R1 : Hid (RowB w1 K 5 (padC P)) := r1; have B1 : Hid (Below K wr w1) := BA.out.trans (o1.below (Nat.le_refl _)); have K1 : Hid (K < w1.heap.size) := r1.lt; have O1 : Hid (OwnsB w1 K (some ⟨K, 0, none⟩) (padC P) 56) := (by have q := rowB_owns r1 (Nat.le_refl K) (by rw [padC_len PL2.out]; decide); rw [padC_len PL2.out] at q; exact q); have d1 := (B1.out.cell (p := ⟨sb, so + k, none⟩) hsl).trans hcell; clear r1 o1)
              | (have _ := O3; go_at_call 33; refine (rput_is _ 4 4 (by decide) (by decide) SB.out.1 SB.out.2 _).mono ?_; rintro e w4 ⟨a4, c4, rfl, i4, g4, b4⟩; have I4 : Hid (IsB w4 a4 (putL 4 (sumI (headC P 0)))) := i4; have B4 : Hid (Below K wr w4) := B3.out.trans (b4.mono (Nat.le_of_lt K3.out)); have O4 : Hid (OwnsB w4 K a3 (headC P 0) c3) := O3.out.keep b4; have K4 : Hid (K < w4.heap.size) := Nat.lt_of_lt_of_le K3.out b4.size; clear i4 g4 b4)
              | (go_at_call 33; refine (rput_is 0 4 4 (by decide) (by decide) nr.1 nr2 _).mono ?_; rintro e w2 ⟨a2, c2, rfl, i2, g2, b2⟩; have I2 : Hid (IsB w2 a2 (putL 4 0)) := i2; have B2 : Hid (Below K wr w2) := B1.out.trans (b2.mono (Nat.le_of_lt K1.out)); have O2 : Hid (OwnsB w2 K (some ⟨K, 0, none⟩) (padC P) 56) := O1.out.keep b2; have K2 : Hid (K < w2.heap.size) := Nat.lt_of_lt_of_le K1.out b2.size; clear i2 g2 b2)
              | (go_at_call 34; refine (rsum_of _ _ _ (headC P 0) _ HL.out.symm (ownsB_isB (headC_allB PALL.out 0) O3.out) (by rw [HL.out]; decide)).mono ?_; rintro e w' ⟨rfl, rfl⟩)
              | (have _ := O4; at_builtin; obtain ⟨ad4, rfl⟩ := put_some I4.out; obtain ⟨a5, c5, w5, h5, o5, g5⟩ := appB_g w4 K (Nat.le_of_lt K4.out) a3 (headC P 0) c3 O4.out ad4 (putL 4 (sumI (headC P 0))) c4 I4.out (by rw [HL.out, putL_len]; decide); rw [HL.out, putL_len, List.length_append, HL.out, putL_len] at h5; refine wpList_bi rfl _ _ 22 rfl _ _ rfl rfl _ _ h5 ?_; have O5 : Hid (OwnsB w5 K a5 (secC P 0) c5) := o5; have B5 : Hid (Below K wr w5) := grown_belowD B4.out g5 (fun j e => (ownB_blk O4.out j e).1) (Nat.le_of_lt K4.out); have W5 : Hid (WrR w5 N ao co qs) := HW.out.keep (by rw [HK.out]; exact B5.out); have N5 : Hid (N ≤ w5.heap.size) := Nat.le_trans KN.out (by have := B5.out.size; rw [HK.out] at this; exact this); obtain ⟨a6, c6, w6, h6, W6, b6⟩ := W5.out.add N5.out ⟨s, a5, c5, secC P 0⟩ ⟨O5.out.mono KN.out, secC_len PL2.out 0, secC_allB PALL.out 0⟩ (by omega); have W6H : Hid (WrR w6 N a6 c6 (qs ++ [⟨s, a5, c5, secC P 0⟩])) := W6; have B6 : Hid (Below N w w6) := (HB.out.trans (B5.out.mono KN.out)).trans b6; clear o5 g5 W6 b6)
              | (have _ := O2; at_builtin; obtain ⟨ad2, rfl⟩ := put_some I2.out; obtain ⟨a3, c3, w3, h3, o3, g3⟩ := appB_g w2 K (Nat.le_of_lt K2.out) (some ⟨K, 0, none⟩) (padC P) 56 O2.out ad2 (putL 4 0) c2 I2.out (by rw [padC_len PL2.out, putL_len]; decide); rw [padC_len PL2.out, putL_len, List.length_append, padC_len PL2.out, putL_len] at h3; refine wpList_bi rfl _ _ 22 rfl _ _ rfl rfl _ _ h3 ?_; have O3 : Hid (OwnsB w3 K a3 (headC P 0) c3) := o3; have B3 : Hid (Below K wr w3) := grown_belowD B2.out g3 (fun j e => (ownB_blk O2.out j (by rw [padC_len PL2.out]; exact e)).1) (Nat.le_of_lt K2.out); have K3 : Hid (K < w3.heap.size) := Nat.lt_of_lt_of_le K2.out g3.size; have HL : Hid ((headC P 0).length = 60) := headC_len PL2.out 0; have SB : Hid (0 ≤ sumI (headC P 0) ∧ sumI (headC P 0) ≤ 18446744073709551615) := head_sb PALL.out 0; have ws : IntKind.u64.wrap (sumI (headC P 0)) = sumI (headC P 0) := head_ws PALL.out 0; clear o3 g3)
              | (at_builtin; rw [hql] at h6; refine wpList_bi rfl _ _ 26 rfl _ _ rfl rfl _ _ h6 ?_))
            go_roundw
            case rel => exact ⟨a6, c6, k + 1, qs ++ [⟨s, a5, c5, secC P 0⟩], by omega, by simp [hql], by go_num, by simp [hql], W6H.out, by rw [List.map_append, HM.out, List.take_succ_eq_append_getElem (by rw [wrC_len]; exact hkl), WE.out]; rfl, B6.out⟩
            case measure => simp [intOf]; omega
        · obtain rfl : k = l.length := by omega
          go_wp2
          go_ret2
          refine ⟨by rw [HN.out]; exact HB.out, .inr ⟨GOOD.out AP.out, ao, co, qs, rfl, by rw [HN.out]; exact HW.out, ?_⟩⟩
          rw [HM.out, List.take_of_length_le (by rw [wrC_len]; exact Nat.le_refl _)]
end Go.Proofs.YtgmmgklcndnehaaDoor
