/- The seventh rule asked: fieldsLead. -/
import Derived.Test.YtbfamjnnlcopiaaGreatDoorGzAP
import Derived.Test.YtbfamjnnlcopiaaGreatDoorGzAK
namespace Go.Proofs.YtbfamjnnlcopiaaGreatDoor
open Go.RowKit Go.Maps
set_option linter.unusedVariables false
set_option maxRecDepth 4000

theorem getL_bd : ∀ (l : List Int), (∀ x ∈ l, 0 ≤ x ∧ x ≤ 255) → 0 ≤ getL l ∧ getL l < 256 ^ l.length
  | [], _ => by simp [getL]
  | x :: l, h => by
    obtain ⟨h1, h2⟩ := getL_bd l (fun y hy => h y (List.mem_cons_of_mem _ hy))
    have h3 := h x List.mem_cons_self
    rw [getL, List.length_cons, Int.pow_succ]
    omega
theorem word_bd {bs : List Int} (h : ∀ x ∈ bs, 0 ≤ x ∧ x ≤ 255) (o : Int) : 0 ≤ wordV bs o ∧ wordV bs o ≤ 18446744073709551615 := by
  unfold wordV
  obtain ⟨h1, h2⟩ := getL_bd ((bs.drop o.toNat).take 8) (fun x hx => h x (List.mem_of_mem_drop (List.mem_of_mem_take hx)))
  refine ⟨h1, ?_⟩
  have : ((256 : Int) ^ ((bs.drop o.toNat).take 8).length) ≤ 256 ^ 8 := by
    have hl : ((bs.drop o.toNat).take 8).length ≤ 8 := by rw [List.length_take]; omega
    generalize ((bs.drop o.toNat).take 8).length = n at hl
    rcases n with _ | _ | _ | _ | _ | _ | _ | _ | _ | n <;> first | decide | omega
  have e : (256 : Int) ^ 8 = 18446744073709551616 := by decide
  omega
set_option maxRecDepth 20000 in
set_option maxHeartbeats 4000000 in
theorem fieldsLead_any (lb ms mi : Nat) (V : Vw) (A : Va) (nf nr : Nat) (f : Int → Option Nat) (i : Nat) (w : World) (h : Lk w lb ms mi V A nf nr f) (hi : i < V.rs.length) (hV : Hold V 4) (r : Bool) (hr : rule7 V i = r) :
    Calls Tryz.prog 123 #[.pointer (some ⟨lb, 0, none⟩), .int .i64 (i : Nat)] w fun e w' => e = .returned (.bool r) ∧ Below w.heap.size w w' := by
  have c3 : w.cell? ⟨lb, 3, none⟩ = some (.slice A.ra A.rn A.rc) := cell_of_row _ _ 3 _ _ _ h.box
  have rl := h.vw.rl
  have rz := h.vw.rz
  obtain ⟨b, off, ea, q0, q1, q2, q3⟩ := h.vw.rs.at i hi
  rw [ea] at c3
  unfold rule7 at hr
  have hlies := hV.lies (Nat.le_refl _) i hi
  have hlive := hV.live (Nat.le_refl _) i hi
  obtain ⟨R, hR⟩ : ∃ R, rwD V.rs i = R := ⟨_, rfl⟩
  rw [hR] at q0 q1 q2 q3 hr hlies hlive
  obtain ⟨gen, lv, kd, x⟩ := R
  simp only at q0 q1 q2 q3 hr hlies hlive
  obtain ⟨rn, hrn⟩ : ∃ rn, A.rn = rn := ⟨_, rfl⟩
  rw [hrn] at c3 rl
  have i0 : (i : Int) < (rn : Int) := by omega
  obtain ⟨E, hE⟩ : ∃ E, w.alloc (.cells #[.int .i64 gen, .bool lv, .int .i64 kd, .int .i64 x] 73) = E := ⟨_, rfl⟩
  have bE : Below w.heap.size w E := by rw [← hE]; exact (Below.refl _ w).alloc (Nat.le_refl _) _
  have rE : E.heap[w.heap.size]? = some (.cells #[.int .i64 gen, .bool lv, .int .i64 kd, .int .i64 x] 73 (0, 0)) := by rw [← hE]; exact Go.heap_alloc_new w _
  have HBE : Hid (Below w.heap.size w E) := bE
  obtain ⟨nb, hnb⟩ : ∃ nb, w.heap.size = nb := ⟨_, rfl⟩
  rw [hnb] at rE
  have d0 : E.cell? ⟨nb, 0, none⟩ = some (.int .i64 gen) := cell_of_row _ _ 0 _ _ _ rE
  have d1 : E.cell? ⟨nb, 1, none⟩ = some (.bool lv) := cell_of_row _ _ 1 _ _ _ rE
  have d2 : E.cell? ⟨nb, 2, none⟩ = some (.int .i64 kd) := cell_of_row _ _ 2 _ _ _ rE
  have d3 : E.cell? ⟨nb, 3, none⟩ = some (.int .i64 x) := cell_of_row _ _ 3 _ _ _ rE
  cases lv with
  | false =>
    have F : Hid (true = r) := by show true = r; rw [← hr]; rfl
    clear h hr hV hlies hlive
    go_enter Tryz.func123, Tryz.ntmps123
    go_wp2
    go_ret
    exact ⟨ret_bool F.out, by first | exact HBE.out | exact hnb ▸ HBE.out⟩
  | true =>
    obtain ⟨x0, x1, _, z1, z2, hpl, hpn⟩ := hlies rfl
    obtain ⟨g1, g2, k0, k1, _⟩ := hlive rfl
    obtain ⟨kj, rfl⟩ : ∃ kj : Nat, kd = (kj : Int) := ⟨kd.toNat, by omega⟩
    obtain ⟨xn, rfl⟩ : ∃ xn : Nat, x = (xn : Int) := ⟨x.toNat, by omega⟩
    rw [Int.toNat_natCast] at hr x1 z1 z2 hpl hpn
    have hkj : kj < V.ks.length := by omega
    obtain ⟨K, hK⟩ : ∃ K, knD V.ks kj = K := ⟨_, rfl⟩
    rw [hK] at hr x1 z1 z2 hpl hpn
    have LE : Hid (Lk E lb ms mi V A nf nr f) := h.keep bE
    obtain ⟨zz, l⟩ := K
    simp only at hr x1 z1 z2 hpl hpn
    obtain ⟨z, rfl⟩ : ∃ z : Nat, zz = (z : Int) := ⟨zz.toNat, by omega⟩
    have HZ : Hid ((knD V.ks ((kj : Int)).toNat).s = (z : Int)) := by show _ = _; rw [Int.toNat_natCast, hK]
    have HRW : Hid (rwD V.rs i = ⟨gen, true, (kj : Int), (xn : Int)⟩) := hR
    have HI : Hid (i < V.rs.length) := hi
    have HV4 : Hid (Hold V 4) := hV
    have HR : Hid ((l.all fun p => leads V (wordV V.bs ((xn : Int) + p))) = r) := hr
    obtain ⟨hp1, hp2⟩ := placed_all l 0 hpl
    have HPL : Hid (∀ p ∈ l, 0 ≤ p ∧ p + 8 ≤ (z : Int)) := hp1
    have HB8 : Hid (∀ x ∈ V.bs, 0 ≤ x ∧ x ≤ 255) := h.vw.bs.1
    have HBL : Hid (xn + z ≤ V.bs.length) := by show _ ≤ _; omega
    have HKK : Hid (knD V.ks kj = ⟨(z : Int), l⟩ ∧ kj < V.ks.length) := ⟨hK, hkj⟩
    have HZ2 : Hid (z ≤ 4096) := by show z ≤ 4096; omega
    have kk0 : (kj : Int) < (A.kn : Int) := by have := h.vw.kl; omega
    have HL16 : Hid (l.length ≤ 16) := hpn
    have HRZ : Hid (V.rs.length ≤ 300) := rz
    obtain ⟨ll, hll⟩ : ∃ ll, l.length = ll := ⟨_, rfl⟩
    have HLL : Hid (l.length = ll) := hll
    have l9 : ll ≤ 16 := by omega
    clear h hr hV hlies hlive x0 x1 z1 z2 hpl hpn g1 g2 k0 k1 hkj hK hp1 hp2 bE rE hR hll hi
    go_enter Tryz.func123, Tryz.ntmps123
    go_wp2_with fail
    refine (bytesOf_any lb ms mi V A nf nr f i _ LE.out HI.out HV4.out gen (kj : Int) (xn : Int) true HRW.out rfl z HZ.out).mono ?_
    rintro e w2 ⟨gb, ob, cb, rfl, hzc, hcm, hib, b2⟩
    have L2 := LE.out.keep b2
    have HL2 : Hid (Lk w2 lb ms mi V A nf nr f) := L2
    have B2 : Hid (Below w.heap.size w w2) := HBE.out.trans (b2.mono HBE.out.size)
    have HIB : Hid (IsB w2 (some ⟨gb, ob, none⟩) ((V.bs.drop xn).take z)) := by have := hib; rw [Int.toNat_natCast] at this; exact this
    have e2 : w2.cell? ⟨nb, 2, none⟩ = some (.int .i64 (kj : Int)) := bcell b2 d2
    have f2 : w2.cell? ⟨lb, 2, none⟩ = some (.slice A.ka A.kn A.kc) := cell_of_row _ _ 2 _ _ _ L2.box
    obtain ⟨gk, ok, la, lc, ea2, e0, e1, hIl, _, _⟩ := L2.vw.ks kj HKK.out.2
    rw [← knD_at HKK.out.2, HKK.out.1] at e0 e1 hIl
    simp only at e0 e1 hIl
    rw [ea2] at f2
    rw [HLL.out] at e1
    have HIL : Hid (IsI w2 la l) := hIl
    clear L2 b2 hib hIl d0 d1 d2 d3
    go_wp2_with fail
    go_quiet (fail)
    go_wp2_with fail
    go_loopw [35] (fun iv wz => ∃ k q : Nat, k ≤ ll ∧ iv = .int .i64 (k : Nat) ∧ wz = w2.drewN q ∧ ∀ m, m < k → leads V (wordV V.bs ((xn : Int) + l.getD m 0)) = true) (fun iv _ => ll - lenW iv)
    case atStart => exact ⟨0, _, Nat.zero_le _, rfl, rfl, fun m hm => by omega⟩
    case round =>
      obtain ⟨k, q, hk, rfl, rfl, hm⟩ := hrel
      have HM : Hid (∀ m, m < k → leads V (wordV V.bs ((xn : Int) + l.getD m 0)) = true) := hm
      clear hm
      by_cases hkl : k < ll
      · have hkl' : k < l.length := by rw [HLL.out]; exact hkl
        obtain ⟨gl, ol, rfl, cl⟩ := HIL.out.get k hkl'
        have st := all_step (P := fun p => leads V (wordV V.bs ((xn : Int) + p))) hkl' HM.out
        obtain ⟨p0, p1⟩ := HPL.out (l.getD k 0) (by simp [List.getD, hkl'])
        obtain ⟨y, hy⟩ : ∃ y, l.getD k 0 = y := ⟨_, rfl⟩
        rw [hy] at cl st p0 p1
        obtain ⟨p, rfl⟩ : ∃ p : Nat, y = (p : Int) := ⟨y.toNat, by omega⟩
        obtain ⟨v, hv⟩ : ∃ v, wordV V.bs ((xn : Int) + (p : Int)) = v := ⟨_, rfl⟩
        have hvb := word_bd HB8.out ((xn : Int) + (p : Int))
        rw [hv] at hvb
        simp only [hv] at st
        have ST : Hid ((leads V v = false → r = false) ∧ (leads V v = true → ∀ m, m < k + 1 → leads V (wordV V.bs ((xn : Int) + l.getD m 0)) = true)) := ⟨fun e => by rw [← HR.out]; exact st.1 e, st.2⟩
        obtain ⟨en, hen⟩ : ∃ en : Nat, p + 8 = en := ⟨_, rfl⟩
        have z4 := HZ2.out
        have wz : IntKind.i64.wrap ((p : Int) + 8) = (en : Int) := by rw [IntKind.wrap_i64]; omega
        have j1 : (en : Int) ≤ (cb : Int) := by omega
        have j2 : (p : Int) ≤ (en : Int) := by omega
        have j3 : ¬ (cb = p) := by omega
        have j5 : en - p = 8 := by omega
        have j6 : IntKind.i64.wrap (p : Int) = (p : Int) := by rw [IntKind.wrap_i64]; omega
        have SLR : ∀ w : World, (Instr.slice 25 (.slice (some ⟨gb, ob, none⟩) z cb) (some (.int .i64 (p : Int))) (some (.int .i64 (en : Int))) none).run Tryz.prog w = .ok (.slice (some ⟨gb, ob + p, none⟩) 8 (cb - p)) w := fun w => by
          rw [sliceB_run w gb ob z cb p en (by omega) (by omega) (by omega), j5]
        have lz : ((V.bs.drop xn).take z).length = z := by rw [List.length_take, List.length_drop]; have := HBL.out; omega
        have IBP : Hid (IsB w2 (some ⟨gb, ob + p, none⟩) ((((V.bs.drop xn).take z).drop p).take 8)) := HIB.out.cut p 8 (by rw [lz]; omega)
        have LB8 : Hid (8 = ((((V.bs.drop xn).take z).drop p).take 8).length) := by show _ = _; rw [List.length_take, List.length_drop, lz]; omega
        have GV : Hid (getL (((((V.bs.drop xn).take z).drop p).take 8).take 8) = v) := by
          show _ = _
          rw [List.take_take, Nat.min_self, word_cut (by omega), ← hv]
          unfold wordV
          rw [show (((xn : Int) + (p : Int)).toNat) = xn + p by omega]
        have kk : (k : Int) < (ll : Int) := by omega
        have VB : Hid (0 ≤ v ∧ v ≤ 18446744073709551615) := hvb
        clear st hv hy p0 p1 hkl' hvb z4 lz hen
        by_cases v0 : v = 0
        · have b0 : (v == 0) = true := by rw [beq_iff_eq]; exact v0
          have b1 : (v != 0) = false := by rw [bne, b0]; rfl
          have NX : Hid (∀ m, m < k + 1 → leads V (wordV V.bs ((xn : Int) + l.getD m 0)) = true) := ST.out.2 (by unfold leads; rw [decide_eq_true v0]; rfl)
          clear v0 ST
          go_wp2_with (go_at_call 69; refine (get_of _ _ 8 _ v _ LB8.out GV.out (IBP.out.drewN _) (by rw [← LB8.out]; unfold maxLen; omega)).mono ?_; rintro e w' ⟨rfl, rfl⟩)
          go_roundw
          case rel => exact ⟨k + 1, _, by omega, by congr 1, rfl, NX.out⟩
          case measure => simp [lenW]; omega
        · have b0 : (v == 0) = false := by rw [beq_eq_false_iff_ne]; exact v0
          have b1 : (v != 0) = true := by rw [bne, b0]; rfl
          obtain ⟨N, hN⟩ : ∃ N, nameH V v = N := ⟨_, rfl⟩
          have HN : Hid (nameH V v = N) := hN
          have nz := nameH_zero HV4.out (Nat.le_refl _) HRZ.out v
          rw [hN] at nz
          by_cases n0 : N = 0
          · subst n0
            have F : Hid (false = r) := by
              show false = r
              refine (ST.out.1 ?_).symm
              unfold leads
              rw [decide_eq_false v0, nz.1 rfl]
              rfl
            clear nz hN v0 ST
            go_wp2_with (first
              | (go_at_call 69; refine (get_of _ _ 8 _ v _ LB8.out GV.out (IBP.out.drewN _) (by rw [← LB8.out]; unfold maxLen; omega)).mono ?_; rintro e w' ⟨rfl, rfl⟩)
              | (go_at_call 132; refine (named_any lb ms mi V A nf nr f v _ (HL2.out.keep (below_drewN (Below.refl _ _) _)) HV4.out VB.out.1 VB.out.2 0 HN.out).mono ?_; rintro e w' ⟨rfl, q9, rfl⟩))
            go_ret
            exact ⟨ret_bool F.out, by first | exact below_drewN B2.out _ | exact below_drewN (below_drewN B2.out _) _ | exact hnb ▸ below_drewN B2.out _ | exact hnb ▸ below_drewN (below_drewN B2.out _) _⟩
          · have b2 : ((N : Int) == 0) = false := by rw [beq_eq_false_iff_ne]; omega
            have NX : Hid (∀ m, m < k + 1 → leads V (wordV V.bs ((xn : Int) + l.getD m 0)) = true) := ST.out.2 (by
              unfold leads
              rw [decide_eq_false v0, Bool.false_or]
              cases e : ownI V.rs (v - V.base) with
              | none => exact absurd (nz.2 e) n0
              | some j => rfl)
            clear nz hN v0 ST n0
            go_wp2_with (first
              | (go_at_call 69; refine (get_of _ _ 8 _ v _ LB8.out GV.out (IBP.out.drewN _) (by rw [← LB8.out]; unfold maxLen; omega)).mono ?_; rintro e w' ⟨rfl, rfl⟩)
              | (go_at_call 132; refine (named_any lb ms mi V A nf nr f v _ (HL2.out.keep (below_drewN (Below.refl _ _) _)) HV4.out VB.out.1 VB.out.2 N HN.out).mono ?_; rintro e w' ⟨rfl, q9, rfl⟩))
            go_roundw
            case rel => exact ⟨k + 1, _, by omega, by congr 1, by first | rfl | exact World.drewN_drewN .., NX.out⟩
            case measure => simp [lenW]; omega
      · obtain rfl : k = ll := by omega
        have F : Hid (true = r) := by
          show true = r
          rw [← HR.out]
          exact (all_done (fun m hm => HM.out m (by rw [HLL.out] at hm; exact hm))).symm
        go_wp2
        go_ret
        exact ⟨ret_bool F.out, by first | exact below_drewN B2.out _ | exact hnb ▸ below_drewN B2.out _⟩
end Go.Proofs.YtbfamjnnlcopiaaGreatDoor

/- Plain mathematics of AuditMoves: pointer fields turned to another base. -/
namespace Go.Proofs.YtbfamjnnlcopiaaGreatDoor
open Go.RowKit
set_option linter.unusedVariables false
set_option maxRecDepth 4000

/-- An address at another base. -/
def mvW (V : Vw) (B : Int) (x : Int) : Int := if x = 0 then 0 else x - V.base + B
/-- The fields at these places turned. -/
def mvS (V : Vw) (B : Int) (b : List Int) (x : Int) : List Int := if wordV V.bs x = 0 then b else overR b x.toNat (putL 8 (wordV V.bs x - V.base + B))
def mvL (V : Vw) (B : Int) (l : List Int) (b : List Int) : List Int := l.foldl (mvS V B) b
/-- A field that may be turned. -/
structure FdO (V : Vw) (B : Int) (n : Nat) (x : Int) : Prop where
  x0 : 0 ≤ x
  x1 : x + 8 ≤ (n : Int)
  wd : wordV V.bs x = 0 ∨ (0 ≤ wordV V.bs x - V.base + B ∧ wordV V.bs x - V.base + B ≤ 18446744073709551615)
theorem mvS_len {V : Vw} {B : Int} {b : List Int} {x : Int} (h : FdO V B b.length x) : (mvS V B b x).length = b.length := by
  unfold mvS
  split
  · rfl
  · exact over_len (by rw [putL_len]; have := h.x0; have := h.x1; omega)
theorem mvS_get {V : Vw} {B : Int} {b : List Int} {x : Int} (h : FdO V B b.length x) {k : Nat} (hk : (k : Int) < x ∨ x + 8 ≤ (k : Int)) : (mvS V B b x)[k]? = b[k]? := by
  unfold mvS
  split
  · rfl
  · exact over_get (by rw [putL_len]; have := h.x0; have := h.x1; omega) (by rw [putL_len]; have := h.x0; omega)
theorem mvS_else {V : Vw} {B : Int} {b : List Int} {x y : Int} (h : FdO V B b.length x) (hy : 0 ≤ y) (hk : y + 8 ≤ x ∨ x + 8 ≤ y) : wordV (mvS V B b x) y = wordV b y := by
  unfold mvS
  split
  · rfl
  · exact wordV_else (by rw [putL_len]; have := h.x0; have := h.x1; omega) hy (by rw [putL_len]; have := h.x0; omega)
theorem mvS_self {V : Vw} {B : Int} {b : List Int} {x : Int} (h : FdO V B b.length x) (hw : wordV b x = wordV V.bs x) : wordV (mvS V B b x) x = mvW V B (wordV V.bs x) := by
  unfold mvS mvW
  have x0 := h.x0
  have x1 := h.x1
  split
  · rename_i e; rw [hw, e]
  · rename_i e
    obtain ⟨o, rfl⟩ : ∃ o : Nat, x = (o : Int) := ⟨x.toNat, by omega⟩
    rcases h.wd with q | q
    · exact absurd q e
    · exact word_self (by simp; omega) q.1 q.2
theorem mvL_snoc (V : Vw) (B : Int) (l b : List Int) (x : Int) : mvL V B (l ++ [x]) b = mvS V B (mvL V B l b) x := by
  unfold mvL; rw [List.foldl_append]; rfl
theorem mvL_len {V : Vw} {B : Int} : ∀ (l b : List Int), (∀ x ∈ l, FdO V B b.length x) → (mvL V B l b).length = b.length
  | [], b, _ => rfl
  | x :: l, b, h => by
    have hx := h x List.mem_cons_self
    have e := mvS_len hx
    show (mvL V B l (mvS V B b x)).length = _
    rw [mvL_len l _ (fun y hy => by rw [e]; exact h y (List.mem_cons_of_mem _ hy)), e]
theorem mvS_all {V : Vw} {B : Int} {b : List Int} {x : Int} (h : AllB b) : AllB (mvS V B b x) := by
  unfold mvS
  split
  · exact h
  · exact over_all h (putL_byte _ _)
theorem mvL_all {V : Vw} {B : Int} : ∀ (l b : List Int), AllB b → AllB (mvL V B l b)
  | [], b, h => h
  | x :: l, b, h => mvL_all l _ (mvS_all h)
theorem mvL_else {V : Vw} {B : Int} : ∀ (l b : List Int), (∀ x ∈ l, FdO V B b.length x) → ∀ y : Int, 0 ≤ y → (∀ x ∈ l, y + 8 ≤ x ∨ x + 8 ≤ y) → wordV (mvL V B l b) y = wordV b y
  | [], b, _, y, _, _ => rfl
  | x :: l, b, h, y, h0, hk => by
    have hx := h x List.mem_cons_self
    show wordV (mvL V B l (mvS V B b x)) y = _
    rw [mvL_else l _ (fun z hz => by rw [mvS_len hx]; exact h z (List.mem_cons_of_mem _ hz)) y h0 (fun z hz => hk z (List.mem_cons_of_mem _ hz)), mvS_else hx h0 (hk x List.mem_cons_self)]
theorem mvL_word {V : Vw} {B : Int} : ∀ (l b : List Int), (∀ x ∈ l, FdO V B b.length x) → l.Pairwise (fun x y => x + 8 ≤ y ∨ y + 8 ≤ x) → (∀ x ∈ l, wordV b x = wordV V.bs x) → ∀ x ∈ l, wordV (mvL V B l b) x = mvW V B (wordV V.bs x)
  | [], b, _, _, _, x, hx => by cases hx
  | a :: l, b, h, hp, hw, x, hx => by
    have ha := h a List.mem_cons_self
    obtain ⟨p1, p2⟩ := List.pairwise_cons.1 hp
    have hl : ∀ z ∈ l, FdO V B (mvS V B b a).length z := fun z hz => by rw [mvS_len ha]; exact h z (List.mem_cons_of_mem _ hz)
    show wordV (mvL V B l (mvS V B b a)) x = _
    rcases List.mem_cons.1 hx with rfl | hx
    · rw [mvL_else l _ hl x ha.x0 (fun z hz => p1 z hz), mvS_self ha (hw x List.mem_cons_self)]
    · exact mvL_word l _ hl p2 (fun z hz => by rw [mvS_else ha (h z (List.mem_cons_of_mem _ hz)).x0 (by have := p1 z hz; omega)]; exact hw z (List.mem_cons_of_mem _ hz)) x hx
/-- Where the pointer fields of the first rows begin. -/
def fldR (V : Vw) (i : Nat) : List Int := (psOf V i).map (fun p => (rwD V.rs i).pl + p)
def fldU (V : Vw) : Nat → List Int
  | 0 => []
  | n + 1 => fldU V n ++ (if (rwD V.rs n).live = true then fldR V n else [])
theorem fldU_mem {V : Vw} {x : Int} : ∀ {n : Nat}, x ∈ fldU V n → ∃ i p, i < n ∧ (rwD V.rs i).live = true ∧ p ∈ psOf V i ∧ x = (rwD V.rs i).pl + p
  | n + 1, h => by
    unfold fldU at h
    rcases List.mem_append.1 h with h | h
    · obtain ⟨i, p, h1, h2⟩ := fldU_mem h
      exact ⟨i, p, by omega, h2⟩
    · by_cases hl : (rwD V.rs n).live = true
      · rw [if_pos hl] at h
        obtain ⟨p, hp, rfl⟩ := List.mem_map.1 h
        exact ⟨n, p, by omega, hl, hp, rfl⟩
      · rw [if_neg hl] at h; cases h
theorem fldU_in {V : Vw} {i : Nat} {p : Int} (hl : (rwD V.rs i).live = true) (hp : p ∈ psOf V i) : ∀ {n : Nat}, i < n → (rwD V.rs i).pl + p ∈ fldU V n
  | n + 1, h => by
    unfold fldU
    rcases Nat.lt_or_eq_of_le (Nat.le_of_lt_succ h) with e | rfl
    · exact List.mem_append_left _ (fldU_in hl hp e)
    · rw [if_pos hl]
      exact List.mem_append_right _ (List.mem_map.2 ⟨p, hp, rfl⟩)
/-- Objects of two live rows lie apart. -/
theorem Hold.objs_apart {V : Vw} {q : Nat} (h : Hold V q) (hq : 5 ≤ q) {i j : Nat} (hi : i < V.rs.length) (hj : j < V.rs.length) (li : (rwD V.rs i).live = true) (lj : (rwD V.rs j).live = true) (hne : i ≠ j) : (rwD V.rs i).pl + (zOf V i : Int) ≤ (rwD V.rs j).pl ∨ (rwD V.rs j).pl + (zOf V j : Int) ≤ (rwD V.rs i).pl := by
  obtain ⟨ja, ka, sa, za⟩ := h.slot (by omega) i hi li
  obtain ⟨jb, kb, sb, zb⟩ := h.slot (by omega) j hj lj
  have := sa.apart h (by omega) sb (fun e => hne (h.alone hq hi hj li lj e))
  omega
theorem fldU_apart {V : Vw} {q : Nat} (h : Hold V q) (hq : 5 ≤ q) : ∀ n, n ≤ V.rs.length → (fldU V n).Pairwise (fun x y => x + 8 ≤ y ∨ y + 8 ≤ x)
  | 0, _ => List.Pairwise.nil
  | n + 1, hn => by
    unfold fldU
    rw [List.pairwise_append]
    refine ⟨fldU_apart h hq n (by omega), ?_, fun x hx y hy => ?_⟩
    · by_cases hl : (rwD V.rs n).live = true
      · rw [if_pos hl]
        unfold fldR
        rw [List.pairwise_map]
        exact ((h.obj (by omega) n (by omega) hl).pw).imp (fun {a b} hab => .inl (by omega))
      · rw [if_neg hl]; exact List.Pairwise.nil
    · by_cases hl : (rwD V.rs n).live = true
      · rw [if_pos hl] at hy
        obtain ⟨p, hp, rfl⟩ := List.mem_map.1 hy
        obtain ⟨i, p', hi, li, hp', rfl⟩ := fldU_mem hx
        have := h.objs_apart hq (by omega) (by omega) li hl (show i ≠ n by omega)
        have := (h.obj (by omega) i (by omega) li).ps p' hp'
        have := (h.obj (by omega) n (by omega) hl).ps p hp
        omega
      · rw [if_neg hl] at hy; cases hy
/-- What a field of a sound view holds. -/
theorem Hold.word {V : Vw} (h : Hold V 7) {i : Nat} (hi : i < V.rs.length) (li : (rwD V.rs i).live = true) {p : Int} (hp : p ∈ psOf V i) : wordV V.bs ((rwD V.rs i).pl + p) = 0 ∨ ∃ j, ownI V.rs (wordV V.bs ((rwD V.rs i).pl + p) - V.base) = some j := by
  have q : rule7 V i = true := h 6 (by decide) i hi
  unfold rule7 at q
  rw [li] at q
  have q : ((knD V.ks (rwD V.rs i).kind.toNat).l.all fun p => leads V (wordV V.bs ((rwD V.rs i).pl + p))) = true := q
  have := List.all_eq_true.1 q p hp
  unfold leads at this
  rw [Bool.or_eq_true] at this
  rcases this with e | e
  · exact .inl (of_decide_eq_true e)
  · exact .inr (Option.isSome_iff_exists.1 e)
theorem Hold.word_in {V : Vw} (h : Hold V 7) {i : Nat} (hi : i < V.rs.length) (li : (rwD V.rs i).live = true) {p : Int} (hp : p ∈ psOf V i) : wordV V.bs ((rwD V.rs i).pl + p) = 0 ∨ (V.base ≤ wordV V.bs ((rwD V.rs i).pl + p) ∧ wordV V.bs ((rwD V.rs i).pl + p) - V.base < V.bs.length) := by
  rcases h.word hi li hp with e | ⟨j, e⟩
  · exact .inl e
  · refine .inr ?_
    by_cases hx : wordV V.bs ((rwD V.rs i).pl + p) - V.base < 0 ∨ (V.bs.length : Int) ≤ wordV V.bs ((rwD V.rs i).pl + p) - V.base
    · rw [own_far h (by decide) hx] at e; cases e
    · omega
theorem Hold.fds {V : Vw} (h : Hold V 7) {B : Int} (hB : 0 ≤ B) (hB2 : B ≤ 1099511627776) : ∀ x ∈ fldU V V.rs.length, FdO V B V.bs.length x := fun x hx => by
  obtain ⟨i, p, hi, li, hp, rfl⟩ := fldU_mem hx
  have O := h.obj (by decide) i hi li
  have := O.ps p hp
  have := O.pl
  have := O.fit
  have r := h.r1 (by decide)
  refine ⟨by omega, by omega, ?_⟩
  rcases h.word_in hi li hp with e | e
  · exact .inl e
  · exact .inr ⟨by omega, by omega⟩
/-- A view at another base. -/
def movV (V : Vw) (B : Int) : Vw := ⟨B, V.pgs, V.ks, V.rs, V.ts, mvL V B (fldU V V.rs.length) V.bs⟩
theorem moved_word {V : Vw} (h : Hold V 7) {B : Int} (hB : 0 ≤ B) (hB2 : B ≤ 1099511627776) {i : Nat} (hi : i < V.rs.length) (li : (rwD V.rs i).live = true) {p : Int} (hp : p ∈ psOf V i) : wordV (movV V B).bs ((rwD V.rs i).pl + p) = mvW V B (wordV V.bs ((rwD V.rs i).pl + p)) :=
  mvL_word _ _ (h.fds hB hB2) (fldU_apart h (by decide) _ (Nat.le_refl _)) (fun _ _ => rfl) _ (fldU_in li hp hi)
theorem moved_hold {V : Vw} (h : Hold V 7) {B : Int} (hg : goodR B) : Hold (movV V B) 7 := by
  have hB : 0 ≤ B ∧ B ≤ 1099511627776 := by unfold goodR at hg; omega
  have hl : (movV V B).bs.length = V.bs.length := mvL_len _ _ (h.fds hB.1 hB.2)
  intro k hk j hj
  match k, hk with
  | 0, _ =>
    have := h.r1 (by decide)
    show rule1 _ = true
    unfold rule1
    rw [hl]
    exact decide_eq_true ⟨this.1, this.2.1, hg, this.2.2.2⟩
  | 1, _ => exact h 1 (by decide) j hj
  | 2, _ => exact h 2 (by decide) j hj
  | 3, _ => exact h 3 (by decide) j hj
  | 4, _ => exact h 4 (by decide) j hj
  | 5, _ => exact h 5 (by decide) j hj
  | 6, _ =>
    have hj' : j < V.rs.length := hj
    show rule7 _ j = true
    unfold rule7
    rw [show (movV V B).rs = V.rs from rfl]
    cases lv : (rwD V.rs j).live with
    | false => rfl
    | true =>
      show ((knD V.ks (rwD V.rs j).kind.toNat).l.all fun p => leads (movV V B) (wordV (movV V B).bs ((rwD V.rs j).pl + p))) = true
      rw [List.all_eq_true]
      intro p hp
      rw [moved_word h hB.1 hB.2 hj' lv hp]
      unfold leads mvW
      rcases h.word hj' lv hp with e | ⟨a, e⟩
      · rw [e]; rfl
      · by_cases e0 : wordV V.bs ((rwD V.rs j).pl + p) = 0
        · rw [e0]; rfl
        · rw [if_neg e0, show (movV V B).rs = V.rs from rfl, show (movV V B).base = B from rfl, show wordV V.bs ((rwD V.rs j).pl + p) - V.base + B - B = wordV V.bs ((rwD V.rs j).pl + p) - V.base by omega, e]
          simp
end Go.Proofs.YtbfamjnnlcopiaaGreatDoor

/- Plain mathematics of layer 17: the image of a span of a sound view. -/
namespace Go.Proofs.YtbfamjnnlcopiaaGreatDoor
set_option linter.unusedVariables false
set_option maxRecDepth 4000

/-- The place of the n-th live slot of a span. -/
def plV (V : Vw) (j n : Nat) : Int := atS (tdD V.ts j) ((tdD V.ts j).l.getD n 0)
/-- A slot's bytes. -/
def slbV (V : Vw) (j : Nat) (x : Int) : List Int := (V.bs.drop x.toNat).take (szT V j).toNat
/-- The pointer fields of the object at a place. -/
def psAt (V : Vw) (x : Int) : List Int := match ownI V.rs x with
  | some i => psOf V i
  | none => []
/-- Those that aren't 0, at n bytes and further. -/
def ofAt (V : Vw) (x : Int) (n : Int) (l : List Int) : List Int := (l.filter (fun p => decide (wordV V.bs (x + p) ≠ 0))).map (fun p => n + p)
/-- The bytes and the places of the first slots. -/
def mkB (V : Vw) (j : Nat) : Nat → List Int
  | 0 => []
  | n + 1 => mkB V j n ++ slbV V j (plV V j n)
def mkO (V : Vw) (j : Nat) : Nat → List Int
  | 0 => []
  | n + 1 => mkO V j n ++ ofAt V (plV V j n) ((mkB V j n).length : Int) (psAt V (plV V j n))
def lvN (V : Vw) (j : Nat) : Nat := (tdD V.ts j).l.length
/-- The image of a span. -/
def makeG (V : Vw) (j : Nat) : Im := ⟨(tdD V.ts j).p, (tdD V.ts j).c, (tdD V.ts j).s, (tdD V.ts j).l, if mkO V j (lvN V j) = [] then 0 else V.base, mkO V j (lvN V j), mkB V j (lvN V j)⟩

theorem getD_mem' {l : List Int} {n : Nat} (h : n < l.length) : l.getD n 0 ∈ l := by
  rw [show l.getD n 0 = l[n] by simp [List.getD, h]]
  exact List.getElem_mem h
theorem plV_slot {V : Vw} {j n : Nat} (hj : j < V.ts.length) (hn : n < lvN V j) : SlotAt V (plV V j n) j ((tdD V.ts j).l.getD n 0) := ⟨hj, getD_mem' hn, rfl⟩
/-- Where a live slot lies. -/
theorem plV_in {V : Vw} (h : Hold V 7) {j n : Nat} (hj : j < V.ts.length) (hn : n < lvN V j) : 0 ≤ plV V j n ∧ plV V j n + szT V j ≤ V.bs.length ∧ 16 ≤ szT V j ∧ szT V j ≤ 4096 := by
  obtain ⟨k0, x1, x2, z, _⟩ := (plV_slot hj hn).facts h (by decide)
  obtain ⟨hr, hp⟩ := h.right (by decide) j hj
  obtain ⟨_, _, _, q, _⟩ := h.r1 (by decide)
  have rt := newE_rt hr.1
  have p0 := rt.p0
  obtain ⟨f1, f2, f3, f4, f5, f6, f7, f8, f9, f10, f11⟩ := rt.facts
  have z2 : szT V j ≤ 4096 := by unfold szT; omega
  exact ⟨by omega, by omega, z, z2⟩
theorem slb_len {V : Vw} (h : Hold V 7) {j n : Nat} (hj : j < V.ts.length) (hn : n < lvN V j) : (slbV V j (plV V j n)).length = (szT V j).toNat := by
  obtain ⟨h1, h2, h3, _⟩ := plV_in h hj hn
  unfold slbV
  rw [List.length_take, List.length_drop]
  omega
theorem mkB_len {V : Vw} (h : Hold V 7) {j : Nat} (hj : j < V.ts.length) : ∀ n, n ≤ lvN V j → (mkB V j n).length = n * (szT V j).toNat
  | 0, _ => by simp [mkB]
  | n + 1, hn => by rw [mkB, List.length_append, mkB_len h hj n (by omega), slb_len h hj (by omega), Nat.add_mul, Nat.one_mul]
/-- The row of the object in a live slot. -/
theorem plV_own {V : Vw} (h : Hold V 7) {j n : Nat} (hj : j < V.ts.length) (hn : n < lvN V j) : ∃ i, ownI V.rs (plV V j n) = some i ∧ i < V.rs.length ∧ (rwD V.rs i).live = true ∧ (rwD V.rs i).pl = plV V j n := by
  have q : rule6 V j = true := h 5 (by decide) j hj
  unfold rule6 at q
  have q := List.all_eq_true.1 q _ (getD_mem' hn)
  obtain ⟨i, hi⟩ := Option.isSome_iff_exists.1 q
  obtain ⟨a, b, c, _⟩ := own_some hi
  exact ⟨i, hi, a, b, c⟩
/-- Its fields lie within the slot. -/
theorem psAt_in {V : Vw} (h : Hold V 7) {j n : Nat} (hj : j < V.ts.length) (hn : n < lvN V j) : placedB (szT V j) 0 (psAt V (plV V j n)) = true ∧ (psAt V (plV V j n)).length ≤ 16 := by
  obtain ⟨i, ho, hi, hl, hp⟩ := plV_own h hj hn
  have e : psAt V (plV V j n) = psOf V i := by unfold psAt; rw [ho]
  obtain ⟨_, _, _, _, _, l6, l7⟩ := h.lies (by decide) i hi hl
  obtain ⟨j', k', a, z⟩ := h.slot (by decide) i hi hl
  have b := plV_slot hj hn
  rw [hp] at a
  have hz : szT V j' = szT V j := by
    obtain ⟨_, a1, a2, a3, _⟩ := a.facts h (by decide)
    obtain ⟨_, b1, b2, b3, _⟩ := b.facts h (by decide)
    have : j' = j := by
      have rise := std_rise (h.std (by decide))
      rcases Nat.lt_trichotomy j' j with q | q | q
      · have := rise j hj j' q; omega
      · exact q
      · have := rise j' a.jl j q; omega
    rw [this]
  rw [hz] at z
  rw [e]
  refine ⟨?_, l7⟩
  have q := (h.obj (by decide) i hi hl).zs
  rw [q] at l6
  exact placed_mono z _ _ l6
end Go.Proofs.YtbfamjnnlcopiaaGreatDoor
