/- The seventh rule asked: fieldsLead. -/
import Derived.Test.YtebmegghojiegaaDoorAvF
namespace Go.Proofs.YtebmegghojiegaaDoor
open Go.RowKit Go.Maps
set_option linter.unusedVariables false

theorem getL_bd : ∀ (l : List Int), (∀ x ∈ l, 0 ≤ x ∧ x ≤ 255) → 0 ≤ getL l ∧ getL l < 256 ^ l.length
  | [], _ => by simp [getL]
  | x :: l, h => by
    obtain ⟨h1, h2⟩ := getL_bd l (fun y hy => h y (List.mem_cons_of_mem _ hy))
    have h3 := h x List.mem_cons_self
    rw [getL, List.length_cons, Int.pow_succ]
    omega
theorem word_bd {bs : List Int} (h : ∀ x ∈ bs, 0 ≤ x ∧ x ≤ 255) (o : Int) : 0 ≤ wordV bs o ∧ wordV bs o ≤ 18446744073709551615 := by
  unfold wordV
  obtain ⟨h1, h2⟩ := getL_bd ((bs.drop o.toNat).take 8) (fun x hx => h x (List.mem_of_mem_drop (List.mem_of_mem_take hx)))
  refine ⟨h1, ?_⟩
  have : ((256 : Int) ^ ((bs.drop o.toNat).take 8).length) ≤ 256 ^ 8 := by
    have hl : ((bs.drop o.toNat).take 8).length ≤ 8 := by rw [List.length_take]; omega
    generalize ((bs.drop o.toNat).take 8).length = n at hl
    rcases n with _ | _ | _ | _ | _ | _ | _ | _ | _ | n <;> first | decide | omega
  have e : (256 : Int) ^ 8 = 18446744073709551616 := by decide
  omega
set_option maxRecDepth 20000 in
set_option maxHeartbeats 4000000 in
theorem fieldsLead_any (lb ms mi : Nat) (V : Vw) (A : Va) (nf nr : Nat) (f : Int → Option Nat) (i : Nat) (w : World) (h : Lk w lb ms mi V A nf nr f) (hi : i < V.rs.length) (hV : Hold V 4) (r : Bool) (hr : rule7 V i = r) :
    Calls Tryd.prog 74 #[.pointer (some ⟨lb, 0, none⟩), .int .i64 (i : Nat)] w fun e w' => e = .returned (.bool r) ∧ Below w.heap.size w w' := by
  have c3 : w.cell? ⟨lb, 3, none⟩ = some (.slice A.ra A.rn A.rc) := cell_of_row _ _ 3 _ _ _ h.box
  have rl := h.vw.rl
  have rz := h.vw.rz
  obtain ⟨b, off, ea, q0, q1, q2, q3⟩ := h.vw.rs.at i hi
  rw [ea] at c3
  unfold rule7 at hr
  have hlies := hV.lies (Nat.le_refl _) i hi
  have hlive := hV.live (Nat.le_refl _) i hi
  obtain ⟨R, hR⟩ : ∃ R, rwD V.rs i = R := ⟨_, rfl⟩
  rw [hR] at q0 q1 q2 q3 hr hlies hlive
  obtain ⟨gen, lv, kd, x⟩ := R
  simp only at q0 q1 q2 q3 hr hlies hlive
  obtain ⟨rn, hrn⟩ : ∃ rn, A.rn = rn := ⟨_, rfl⟩
  rw [hrn] at c3 rl
  have i0 : (i : Int) < (rn : Int) := by omega
  obtain ⟨E, hE⟩ : ∃ E, w.alloc (.cells #[.int .i64 gen, .bool lv, .int .i64 kd, .int .i64 x] 50) = E := ⟨_, rfl⟩
  have bE : Below w.heap.size w E := by rw [← hE]; exact (Below.refl _ w).alloc (Nat.le_refl _) _
  have rE : E.heap[w.heap.size]? = some (.cells #[.int .i64 gen, .bool lv, .int .i64 kd, .int .i64 x] 50 (0, 0)) := by rw [← hE]; exact Go.heap_alloc_new w _
  have HBE : Hid (Below w.heap.size w E) := bE
  obtain ⟨nb, hnb⟩ : ∃ nb, w.heap.size = nb := ⟨_, rfl⟩
  rw [hnb] at rE
  have d0 : E.cell? ⟨nb, 0, none⟩ = some (.int .i64 gen) := cell_of_row _ _ 0 _ _ _ rE
  have d1 : E.cell? ⟨nb, 1, none⟩ = some (.bool lv) := cell_of_row _ _ 1 _ _ _ rE
  have d2 : E.cell? ⟨nb, 2, none⟩ = some (.int .i64 kd) := cell_of_row _ _ 2 _ _ _ rE
  have d3 : E.cell? ⟨nb, 3, none⟩ = some (.int .i64 x) := cell_of_row _ _ 3 _ _ _ rE
  cases lv with
  | false =>
    have F : Hid (true = r) := by show true = r; rw [← hr]; rfl
    clear h hr hV hlies hlive
    go_enter Tryd.func74, Tryd.ntmps74
    go_wp2
    go_ret
    exact ⟨ret_bool F.out, by first | exact HBE.out | exact hnb ▸ HBE.out⟩
  | true =>
    obtain ⟨x0, x1, _, z1, z2, hpl, hpn⟩ := hlies rfl
    obtain ⟨g1, g2, k0, k1, _⟩ := hlive rfl
    obtain ⟨kj, rfl⟩ : ∃ kj : Nat, kd = (kj : Int) := ⟨kd.toNat, by omega⟩
    obtain ⟨xn, rfl⟩ : ∃ xn : Nat, x = (xn : Int) := ⟨x.toNat, by omega⟩
    rw [Int.toNat_natCast] at hr x1 z1 z2 hpl hpn
    have hkj : kj < V.ks.length := by omega
    obtain ⟨K, hK⟩ : ∃ K, knD V.ks kj = K := ⟨_, rfl⟩
    rw [hK] at hr x1 z1 z2 hpl hpn
    have LE : Hid (Lk E lb ms mi V A nf nr f) := h.keep bE
    obtain ⟨zz, l⟩ := K
    simp only at hr x1 z1 z2 hpl hpn
    obtain ⟨z, rfl⟩ : ∃ z : Nat, zz = (z : Int) := ⟨zz.toNat, by omega⟩
    have HZ : Hid ((knD V.ks ((kj : Int)).toNat).s = (z : Int)) := by show _ = _; rw [Int.toNat_natCast, hK]
    have HRW : Hid (rwD V.rs i = ⟨gen, true, (kj : Int), (xn : Int)⟩) := hR
    have HI : Hid (i < V.rs.length) := hi
    have HV4 : Hid (Hold V 4) := hV
    have HR : Hid ((l.all fun p => leads V (wordV V.bs ((xn : Int) + p))) = r) := hr
    obtain ⟨hp1, hp2⟩ := placed_all l 0 hpl
    have HPL : Hid (∀ p ∈ l, 0 ≤ p ∧ p + 8 ≤ (z : Int)) := hp1
    have HB8 : Hid (∀ x ∈ V.bs, 0 ≤ x ∧ x ≤ 255) := h.vw.bs.1
    have HBL : Hid (xn + z ≤ V.bs.length) := by show _ ≤ _; omega
    have HKK : Hid (knD V.ks kj = ⟨(z : Int), l⟩ ∧ kj < V.ks.length) := ⟨hK, hkj⟩
    have HZ2 : Hid (z ≤ 4096) := by show z ≤ 4096; omega
    have kk0 : (kj : Int) < (A.kn : Int) := by have := h.vw.kl; omega
    have HL16 : Hid (l.length ≤ 16) := hpn
    have HRZ : Hid (V.rs.length ≤ 300) := rz
    obtain ⟨ll, hll⟩ : ∃ ll, l.length = ll := ⟨_, rfl⟩
    have HLL : Hid (l.length = ll) := hll
    have l9 : ll ≤ 16 := by omega
    clear h hr hV hlies hlive x0 x1 z1 z2 hpl hpn g1 g2 k0 k1 hkj hK hp1 hp2 bE rE hR hll hi
    go_enter Tryd.func74, Tryd.ntmps74
    go_wp2_with fail
    refine (bytesOf_any lb ms mi V A nf nr f i _ LE.out HI.out HV4.out gen (kj : Int) (xn : Int) true HRW.out rfl z HZ.out).mono ?_
    rintro e w2 ⟨gb, ob, cb, rfl, hzc, hcm, hib, b2⟩
    have L2 := LE.out.keep b2
    have HL2 : Hid (Lk w2 lb ms mi V A nf nr f) := L2
    have B2 : Hid (Below w.heap.size w w2) := HBE.out.trans (b2.mono HBE.out.size)
    have HIB : Hid (IsB w2 (some ⟨gb, ob, none⟩) ((V.bs.drop xn).take z)) := by have := hib; rw [Int.toNat_natCast] at this; exact this
    have e2 : w2.cell? ⟨nb, 2, none⟩ = some (.int .i64 (kj : Int)) := bcell b2 d2
    have f2 : w2.cell? ⟨lb, 2, none⟩ = some (.slice A.ka A.kn A.kc) := cell_of_row _ _ 2 _ _ _ L2.box
    obtain ⟨gk, ok, la, lc, ea2, e0, e1, hIl, _, _⟩ := L2.vw.ks kj HKK.out.2
    rw [← knD_at HKK.out.2, HKK.out.1] at e0 e1 hIl
    simp only at e0 e1 hIl
    rw [ea2] at f2
    rw [HLL.out] at e1
    have HIL : Hid (IsI w2 la l) := hIl
    clear L2 b2 hib hIl d0 d1 d2 d3
    go_wp2_with fail
    go_quiet (fail)
    go_wp2_with fail
    go_loopw [35] (fun iv wz => ∃ k q : Nat, k ≤ ll ∧ iv = .int .i64 (k : Nat) ∧ wz = w2.drewN q ∧ ∀ m, m < k → leads V (wordV V.bs ((xn : Int) + l.getD m 0)) = true) (fun iv _ => ll - lenW iv)
    case atStart => exact ⟨0, _, Nat.zero_le _, rfl, rfl, fun m hm => by omega⟩
    case round =>
      obtain ⟨k, q, hk, rfl, rfl, hm⟩ := hrel
      have HM : Hid (∀ m, m < k → leads V (wordV V.bs ((xn : Int) + l.getD m 0)) = true) := hm
      clear hm
      by_cases hkl : k < ll
      · have hkl' : k < l.length := by rw [HLL.out]; exact hkl
        obtain ⟨gl, ol, rfl, cl⟩ := HIL.out.get k hkl'
        have st := all_step (P := fun p => leads V (wordV V.bs ((xn : Int) + p))) hkl' HM.out
        obtain ⟨p0, p1⟩ := HPL.out (l.getD k 0) (by simp [List.getD, hkl'])
        obtain ⟨y, hy⟩ : ∃ y, l.getD k 0 = y := ⟨_, rfl⟩
        rw [hy] at cl st p0 p1
        obtain ⟨p, rfl⟩ : ∃ p : Nat, y = (p : Int) := ⟨y.toNat, by omega⟩
        obtain ⟨v, hv⟩ : ∃ v, wordV V.bs ((xn : Int) + (p : Int)) = v := ⟨_, rfl⟩
        have hvb := word_bd HB8.out ((xn : Int) + (p : Int))
        rw [hv] at hvb
        simp only [hv] at st
        have ST : Hid ((leads V v = false → r = false) ∧ (leads V v = true → ∀ m, m < k + 1 → leads V (wordV V.bs ((xn : Int) + l.getD m 0)) = true)) := ⟨fun e => by rw [← HR.out]; exact st.1 e, st.2⟩
        obtain ⟨en, hen⟩ : ∃ en : Nat, p + 8 = en := ⟨_, rfl⟩
        have z4 := HZ2.out
        have wz : IntKind.i64.wrap ((p : Int) + 8) = (en : Int) := by rw [IntKind.wrap_i64]; omega
        have j1 : (en : Int) ≤ (cb : Int) := by omega
        have j2 : (p : Int) ≤ (en : Int) := by omega
        have j3 : ¬ (cb = p) := by omega
        have j5 : en - p = 8 := by omega
        have j6 : IntKind.i64.wrap (p : Int) = (p : Int) := by rw [IntKind.wrap_i64]; omega
        have SLR : ∀ w : World, (Instr.slice 25 (.slice (some ⟨gb, ob, none⟩) z cb) (some (.int .i64 (p : Int))) (some (.int .i64 (en : Int))) none).run Tryd.prog w = .ok (.slice (some ⟨gb, ob + p, none⟩) 8 (cb - p)) w := fun w => by
          rw [sliceB_run w gb ob z cb p en (by omega) (by omega) (by omega), j5]
        have lz : ((V.bs.drop xn).take z).length = z := by rw [List.length_take, List.length_drop]; have := HBL.out; omega
        have IBP : Hid (IsB w2 (some ⟨gb, ob + p, none⟩) ((((V.bs.drop xn).take z).drop p).take 8)) := HIB.out.cut p 8 (by rw [lz]; omega)
        have LB8 : Hid (8 = ((((V.bs.drop xn).take z).drop p).take 8).length) := by show _ = _; rw [List.length_take, List.length_drop, lz]; omega
        have GV : Hid (getL (((((V.bs.drop xn).take z).drop p).take 8).take 8) = v) := by
          show _ = _
          rw [List.take_take, Nat.min_self, word_cut (by omega), ← hv]
          unfold wordV
          rw [show (((xn : Int) + (p : Int)).toNat) = xn + p by omega]
        have kk : (k : Int) < (ll : Int) := by omega
        have VB : Hid (0 ≤ v ∧ v ≤ 18446744073709551615) := hvb
        clear st hv hy p0 p1 hkl' hvb z4 lz hen
        by_cases v0 : v = 0
        · have b0 : (v == 0) = true := by rw [beq_iff_eq]; exact v0
          have b1 : (v != 0) = false := by rw [bne, b0]; rfl
          have NX : Hid (∀ m, m < k + 1 → leads V (wordV V.bs ((xn : Int) + l.getD m 0)) = true) := ST.out.2 (by unfold leads; rw [decide_eq_true v0]; rfl)
          clear v0 ST
          go_wp2_with (go_at_call 61; refine (get_of _ _ 8 _ v _ LB8.out GV.out (IBP.out.drewN _) (by rw [← LB8.out]; unfold maxLen; omega)).mono ?_; rintro e w' ⟨rfl, rfl⟩)
          go_roundw
          case rel => exact ⟨k + 1, _, by omega, by congr 1, rfl, NX.out⟩
          case measure => simp [lenW]; omega
        · have b0 : (v == 0) = false := by rw [beq_eq_false_iff_ne]; exact v0
          have b1 : (v != 0) = true := by rw [bne, b0]; rfl
          obtain ⟨N, hN⟩ : ∃ N, nameH V v = N := ⟨_, rfl⟩
          have HN : Hid (nameH V v = N) := hN
          have nz := nameH_zero HV4.out (Nat.le_refl _) HRZ.out v
          rw [hN] at nz
          by_cases n0 : N = 0
          · subst n0
            have F : Hid (false = r) := by
              show false = r
              refine (ST.out.1 ?_).symm
              unfold leads
              rw [decide_eq_false v0, nz.1 rfl]
              rfl
            clear nz hN v0 ST
            go_wp2_with (first
              | (go_at_call 61; refine (get_of _ _ 8 _ v _ LB8.out GV.out (IBP.out.drewN _) (by rw [← LB8.out]; unfold maxLen; omega)).mono ?_; rintro e w' ⟨rfl, rfl⟩)
              | (go_at_call 60; refine (named_any lb ms mi V A nf nr f v _ (HL2.out.keep (below_drewN (Below.refl _ _) _)) HV4.out VB.out.1 VB.out.2 0 HN.out).mono ?_; rintro e w' ⟨rfl, q9, rfl⟩))
            go_ret
            exact ⟨ret_bool F.out, by first | exact below_drewN B2.out _ | exact below_drewN (below_drewN B2.out _) _ | exact hnb ▸ below_drewN B2.out _ | exact hnb ▸ below_drewN (below_drewN B2.out _) _⟩
          · have b2 : ((N : Int) == 0) = false := by rw [beq_eq_false_iff_ne]; omega
            have NX : Hid (∀ m, m < k + 1 → leads V (wordV V.bs ((xn : Int) + l.getD m 0)) = true) := ST.out.2 (by
              unfold leads
              rw [decide_eq_false v0, Bool.false_or]
              cases e : ownI V.rs (v - V.base) with
              | none => exact absurd (nz.2 e) n0
              | some j => rfl)
            clear nz hN v0 ST n0
            go_wp2_with (first
              | (go_at_call 61; refine (get_of _ _ 8 _ v _ LB8.out GV.out (IBP.out.drewN _) (by rw [← LB8.out]; unfold maxLen; omega)).mono ?_; rintro e w' ⟨rfl, rfl⟩)
              | (go_at_call 60; refine (named_any lb ms mi V A nf nr f v _ (HL2.out.keep (below_drewN (Below.refl _ _) _)) HV4.out VB.out.1 VB.out.2 N HN.out).mono ?_; rintro e w' ⟨rfl, q9, rfl⟩))
            go_roundw
            case rel => exact ⟨k + 1, _, by omega, by congr 1, by first | rfl | exact World.drewN_drewN .., NX.out⟩
            case measure => simp [lenW]; omega
      · obtain rfl : k = ll := by omega
        have F : Hid (true = r) := by
          show true = r
          rw [← HR.out]
          exact (all_done (fun m hm => HM.out m (by rw [HLL.out] at hm; exact hm))).symm
        go_wp2
        go_ret
        exact ⟨ret_bool F.out, by first | exact below_drewN B2.out _ | exact hnb ▸ below_drewN B2.out _⟩
end Go.Proofs.YtebmegghojiegaaDoor
