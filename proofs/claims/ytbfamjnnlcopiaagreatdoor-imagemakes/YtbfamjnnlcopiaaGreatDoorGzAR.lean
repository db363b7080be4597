/- The seventh rule asked: fieldsLead. -/
import Derived.Test.YtbfamjnnlcopiaaGreatDoorGzAP
import Derived.Test.YtbfamjnnlcopiaaGreatDoorGzAQ
import Derived.Test.YtbfamjnnlcopiaaGreatDoorGzAJ
namespace Go.Proofs.YtbfamjnnlcopiaaGreatDoor
open Go.RowKit Go.Maps
set_option linter.unusedVariables false
set_option maxRecDepth 4000

theorem getL_bd : ∀ (l : List Int), (∀ x ∈ l, 0 ≤ x ∧ x ≤ 255) → 0 ≤ getL l ∧ getL l < 256 ^ l.length
  | [], _ => by simp [getL]
  | x :: l, h => by
    obtain ⟨h1, h2⟩ := getL_bd l (fun y hy => h y (List.mem_cons_of_mem _ hy))
    have h3 := h x List.mem_cons_self
    rw [getL, List.length_cons, Int.pow_succ]
    omega
theorem word_bd {bs : List Int} (h : ∀ x ∈ bs, 0 ≤ x ∧ x ≤ 255) (o : Int) : 0 ≤ wordV bs o ∧ wordV bs o ≤ 18446744073709551615 := by
  unfold wordV
  obtain ⟨h1, h2⟩ := getL_bd ((bs.drop o.toNat).take 8) (fun x hx => h x (List.mem_of_mem_drop (List.mem_of_mem_take hx)))
  refine ⟨h1, ?_⟩
  have : ((256 : Int) ^ ((bs.drop o.toNat).take 8).length) ≤ 256 ^ 8 := by
    have hl : ((bs.drop o.toNat).take 8).length ≤ 8 := by rw [List.length_take]; omega
    generalize ((bs.drop o.toNat).take 8).length = n at hl
    rcases n with _ | _ | _ | _ | _ | _ | _ | _ | _ | n <;> first | decide | omega
  have e : (256 : Int) ^ 8 = 18446744073709551616 := by decide
  omega
set_option maxRecDepth 20000 in
set_option maxHeartbeats 4000000 in
theorem fieldsLead_any (lb ms mi : Nat) (V : Vw) (A : Va) (nf nr : Nat) (f : Int → Option Nat) (i : Nat) (w : World) (h : Lk w lb ms mi V A nf nr f) (hi : i < V.rs.length) (hV : Hold V 4) (r : Bool) (hr : rule7 V i = r) :
    Calls Tryz.prog 123 #[.pointer (some ⟨lb, 0, none⟩), .int .i64 (i : Nat)] w fun e w' => e = .returned (.bool r) ∧ Below w.heap.size w w' := by
  have c3 : w.cell? ⟨lb, 3, none⟩ = some (.slice A.ra A.rn A.rc) := cell_of_row _ _ 3 _ _ _ h.box
  have rl := h.vw.rl
  have rz := h.vw.rz
  obtain ⟨b, off, ea, q0, q1, q2, q3⟩ := h.vw.rs.at i hi
  rw [ea] at c3
  unfold rule7 at hr
  have hlies := hV.lies (Nat.le_refl _) i hi
  have hlive := hV.live (Nat.le_refl _) i hi
  obtain ⟨R, hR⟩ : ∃ R, rwD V.rs i = R := ⟨_, rfl⟩
  rw [hR] at q0 q1 q2 q3 hr hlies hlive
  obtain ⟨gen, lv, kd, x⟩ := R
  simp only at q0 q1 q2 q3 hr hlies hlive
  obtain ⟨rn, hrn⟩ : ∃ rn, A.rn = rn := ⟨_, rfl⟩
  rw [hrn] at c3 rl
  have i0 : (i : Int) < (rn : Int) := by omega
  obtain ⟨E, hE⟩ : ∃ E, w.alloc (.cells #[.int .i64 gen, .bool lv, .int .i64 kd, .int .i64 x] 73) = E := ⟨_, rfl⟩
  have bE : Below w.heap.size w E := by rw [← hE]; exact (Below.refl _ w).alloc (Nat.le_refl _) _
  have rE : E.heap[w.heap.size]? = some (.cells #[.int .i64 gen, .bool lv, .int .i64 kd, .int .i64 x] 73 (0, 0)) := by rw [← hE]; exact Go.heap_alloc_new w _
  have HBE : Hid (Below w.heap.size w E) := bE
  obtain ⟨nb, hnb⟩ : ∃ nb, w.heap.size = nb := ⟨_, rfl⟩
  rw [hnb] at rE
  have d0 : E.cell? ⟨nb, 0, none⟩ = some (.int .i64 gen) := cell_of_row _ _ 0 _ _ _ rE
  have d1 : E.cell? ⟨nb, 1, none⟩ = some (.bool lv) := cell_of_row _ _ 1 _ _ _ rE
  have d2 : E.cell? ⟨nb, 2, none⟩ = some (.int .i64 kd) := cell_of_row _ _ 2 _ _ _ rE
  have d3 : E.cell? ⟨nb, 3, none⟩ = some (.int .i64 x) := cell_of_row _ _ 3 _ _ _ rE
  cases lv with
  | false =>
    have F : Hid (true = r) := by show true = r; rw [← hr]; rfl
    clear h hr hV hlies hlive
    go_enter Tryz.func123, Tryz.ntmps123
    go_wp2
    go_ret
    exact ⟨ret_bool F.out, by first | exact HBE.out | exact hnb ▸ HBE.out⟩
  | true =>
    obtain ⟨x0, x1, _, z1, z2, hpl, hpn⟩ := hlies rfl
    obtain ⟨g1, g2, k0, k1, _⟩ := hlive rfl
    obtain ⟨kj, rfl⟩ : ∃ kj : Nat, kd = (kj : Int) := ⟨kd.toNat, by omega⟩
    obtain ⟨xn, rfl⟩ : ∃ xn : Nat, x = (xn : Int) := ⟨x.toNat, by omega⟩
    rw [Int.toNat_natCast] at hr x1 z1 z2 hpl hpn
    have hkj : kj < V.ks.length := by omega
    obtain ⟨K, hK⟩ : ∃ K, knD V.ks kj = K := ⟨_, rfl⟩
    rw [hK] at hr x1 z1 z2 hpl hpn
    have LE : Hid (Lk E lb ms mi V A nf nr f) := h.keep bE
    obtain ⟨zz, l⟩ := K
    simp only at hr x1 z1 z2 hpl hpn
    obtain ⟨z, rfl⟩ : ∃ z : Nat, zz = (z : Int) := ⟨zz.toNat, by omega⟩
    have HZ : Hid ((knD V.ks ((kj : Int)).toNat).s = (z : Int)) := by show _ = _; rw [Int.toNat_natCast, hK]
    have HRW : Hid (rwD V.rs i = ⟨gen, true, (kj : Int), (xn : Int)⟩) := hR
    have HI : Hid (i < V.rs.length) := hi
    have HV4 : Hid (Hold V 4) := hV
    have HR : Hid ((l.all fun p => leads V (wordV V.bs ((xn : Int) + p))) = r) := hr
    obtain ⟨hp1, hp2⟩ := placed_all l 0 hpl
    have HPL : Hid (∀ p ∈ l, 0 ≤ p ∧ p + 8 ≤ (z : Int)) := hp1
    have HB8 : Hid (∀ x ∈ V.bs, 0 ≤ x ∧ x ≤ 255) := h.vw.bs.1
    have HBL : Hid (xn + z ≤ V.bs.length) := by show _ ≤ _; omega
    have HKK : Hid (knD V.ks kj = ⟨(z : Int), l⟩ ∧ kj < V.ks.length) := ⟨hK, hkj⟩
    have HZ2 : Hid (z ≤ 4096) := by show z ≤ 4096; omega
    have kk0 : (kj : Int) < (A.kn : Int) := by have := h.vw.kl; omega
    have HL16 : Hid (l.length ≤ 16) := hpn
    have HRZ : Hid (V.rs.length ≤ 300) := rz
    obtain ⟨ll, hll⟩ : ∃ ll, l.length = ll := ⟨_, rfl⟩
    have HLL : Hid (l.length = ll) := hll
    have l9 : ll ≤ 16 := by omega
    clear h hr hV hlies hlive x0 x1 z1 z2 hpl hpn g1 g2 k0 k1 hkj hK hp1 hp2 bE rE hR hll hi
    go_enter Tryz.func123, Tryz.ntmps123
    go_wp2_with fail
    refine (bytesOf_any lb ms mi V A nf nr f i _ LE.out HI.out HV4.out gen (kj : Int) (xn : Int) true HRW.out rfl z HZ.out).mono ?_
    rintro e w2 ⟨gb, ob, cb, rfl, hzc, hcm, hib, b2⟩
    have L2 := LE.out.keep b2
    have HL2 : Hid (Lk w2 lb ms mi V A nf nr f) := L2
    have B2 : Hid (Below w.heap.size w w2) := HBE.out.trans (b2.mono HBE.out.size)
    have HIB : Hid (IsB w2 (some ⟨gb, ob, none⟩) ((V.bs.drop xn).take z)) := by have := hib; rw [Int.toNat_natCast] at this; exact this
    have e2 : w2.cell? ⟨nb, 2, none⟩ = some (.int .i64 (kj : Int)) := bcell b2 d2
    have f2 : w2.cell? ⟨lb, 2, none⟩ = some (.slice A.ka A.kn A.kc) := cell_of_row _ _ 2 _ _ _ L2.box
    obtain ⟨gk, ok, la, lc, ea2, e0, e1, hIl, _, _⟩ := L2.vw.ks kj HKK.out.2
    rw [← knD_at HKK.out.2, HKK.out.1] at e0 e1 hIl
    simp only at e0 e1 hIl
    rw [ea2] at f2
    rw [HLL.out] at e1
    have HIL : Hid (IsI w2 la l) := hIl
    clear L2 b2 hib hIl d0 d1 d2 d3
    go_wp2_with fail
    go_quiet (fail)
    go_wp2_with fail
    go_loopw [35] (fun iv wz => ∃ k q : Nat, k ≤ ll ∧ iv = .int .i64 (k : Nat) ∧ wz = w2.drewN q ∧ ∀ m, m < k → leads V (wordV V.bs ((xn : Int) + l.getD m 0)) = true) (fun iv _ => ll - lenW iv)
    case atStart => exact ⟨0, _, Nat.zero_le _, rfl, rfl, fun m hm => by omega⟩
    case round =>
      obtain ⟨k, q, hk, rfl, rfl, hm⟩ := hrel
      have HM : Hid (∀ m, m < k → leads V (wordV V.bs ((xn : Int) + l.getD m 0)) = true) := hm
      clear hm
      by_cases hkl : k < ll
      · have hkl' : k < l.length := by rw [HLL.out]; exact hkl
        obtain ⟨gl, ol, rfl, cl⟩ := HIL.out.get k hkl'
        have st := all_step (P := fun p => leads V (wordV V.bs ((xn : Int) + p))) hkl' HM.out
        obtain ⟨p0, p1⟩ := HPL.out (l.getD k 0) (by simp [List.getD, hkl'])
        obtain ⟨y, hy⟩ : ∃ y, l.getD k 0 = y := ⟨_, rfl⟩
        rw [hy] at cl st p0 p1
        obtain ⟨p, rfl⟩ : ∃ p : Nat, y = (p : Int) := ⟨y.toNat, by omega⟩
        obtain ⟨v, hv⟩ : ∃ v, wordV V.bs ((xn : Int) + (p : Int)) = v := ⟨_, rfl⟩
        have hvb := word_bd HB8.out ((xn : Int) + (p : Int))
        rw [hv] at hvb
        simp only [hv] at st
        have ST : Hid ((leads V v = false → r = false) ∧ (leads V v = true → ∀ m, m < k + 1 → leads V (wordV V.bs ((xn : Int) + l.getD m 0)) = true)) := ⟨fun e => by rw [← HR.out]; exact st.1 e, st.2⟩
        obtain ⟨en, hen⟩ : ∃ en : Nat, p + 8 = en := ⟨_, rfl⟩
        have z4 := HZ2.out
        have wz : IntKind.i64.wrap ((p : Int) + 8) = (en : Int) := by rw [IntKind.wrap_i64]; omega
        have j1 : (en : Int) ≤ (cb : Int) := by omega
        have j2 : (p : Int) ≤ (en : Int) := by omega
        have j3 : ¬ (cb = p) := by omega
        have j5 : en - p = 8 := by omega
        have j6 : IntKind.i64.wrap (p : Int) = (p : Int) := by rw [IntKind.wrap_i64]; omega
        have SLR : ∀ w : World, (Instr.slice 25 (.slice (some ⟨gb, ob, none⟩) z cb) (some (.int .i64 (p : Int))) (some (.int .i64 (en : Int))) none).run Tryz.prog w = .ok (.slice (some ⟨gb, ob + p, none⟩) 8 (cb - p)) w := fun w => by
          rw [sliceB_run w gb ob z cb p en (by omega) (by omega) (by omega), j5]
        have lz : ((V.bs.drop xn).take z).length = z := by rw [List.length_take, List.length_drop]; have := HBL.out; omega
        have IBP : Hid (IsB w2 (some ⟨gb, ob + p, none⟩) ((((V.bs.drop xn).take z).drop p).take 8)) := HIB.out.cut p 8 (by rw [lz]; omega)
        have LB8 : Hid (8 = ((((V.bs.drop xn).take z).drop p).take 8).length) := by show _ = _; rw [List.length_take, List.length_drop, lz]; omega
        have GV : Hid (getL (((((V.bs.drop xn).take z).drop p).take 8).take 8) = v) := by
          show _ = _
          rw [List.take_take, Nat.min_self, word_cut (by omega), ← hv]
          unfold wordV
          rw [show (((xn : Int) + (p : Int)).toNat) = xn + p by omega]
        have kk : (k : Int) < (ll : Int) := by omega
        have VB : Hid (0 ≤ v ∧ v ≤ 18446744073709551615) := hvb
        clear st hv hy p0 p1 hkl' hvb z4 lz hen
        by_cases v0 : v = 0
        · have b0 : (v == 0) = true := by rw [beq_iff_eq]; exact v0
          have b1 : (v != 0) = false := by rw [bne, b0]; rfl
          have NX : Hid (∀ m, m < k + 1 → leads V (wordV V.bs ((xn : Int) + l.getD m 0)) = true) := ST.out.2 (by unfold leads; rw [decide_eq_true v0]; rfl)
          clear v0 ST
          go_wp2_with (go_at_call 69; refine (get_of _ _ 8 _ v _ LB8.out GV.out (IBP.out.drewN _) (by rw [← LB8.out]; unfold maxLen; omega)).mono ?_; rintro e w' ⟨rfl, rfl⟩)
          go_roundw
          case rel => exact ⟨k + 1, _, by omega, by congr 1, rfl, NX.out⟩
          case measure => simp [lenW]; omega
        · have b0 : (v == 0) = false := by rw [beq_eq_false_iff_ne]; exact v0
          have b1 : (v != 0) = true := by rw [bne, b0]; rfl
          obtain ⟨N, hN⟩ : ∃ N, nameH V v = N := ⟨_, rfl⟩
          have HN : Hid (nameH V v = N) := hN
          have nz := nameH_zero HV4.out (Nat.le_refl _) HRZ.out v
          rw [hN] at nz
          by_cases n0 : N = 0
          · subst n0
            have F : Hid (false = r) := by
              show false = r
              refine (ST.out.1 ?_).symm
              unfold leads
              rw [decide_eq_false v0, nz.1 rfl]
              rfl
            clear nz hN v0 ST
            go_wp2_with (first
              | (go_at_call 69; refine (get_of _ _ 8 _ v _ LB8.out GV.out (IBP.out.drewN _) (by rw [← LB8.out]; unfold maxLen; omega)).mono ?_; rintro e w' ⟨rfl, rfl⟩)
              | (go_at_call 132; refine (named_any lb ms mi V A nf nr f v _ (HL2.out.keep (below_drewN (Below.refl _ _) _)) HV4.out VB.out.1 VB.out.2 0 HN.out).mono ?_; rintro e w' ⟨rfl, q9, rfl⟩))
            go_ret
            exact ⟨ret_bool F.out, by first | exact below_drewN B2.out _ | exact below_drewN (below_drewN B2.out _) _ | exact hnb ▸ below_drewN B2.out _ | exact hnb ▸ below_drewN (below_drewN B2.out _) _⟩
          · have b2 : ((N : Int) == 0) = false := by rw [beq_eq_false_iff_ne]; omega
            have NX : Hid (∀ m, m < k + 1 → leads V (wordV V.bs ((xn : Int) + l.getD m 0)) = true) := ST.out.2 (by
              unfold leads
              rw [decide_eq_false v0, Bool.false_or]
              cases e : ownI V.rs (v - V.base) with
              | none => exact absurd (nz.2 e) n0
              | some j => rfl)
            clear nz hN v0 ST n0
            go_wp2_with (first
              | (go_at_call 69; refine (get_of _ _ 8 _ v _ LB8.out GV.out (IBP.out.drewN _) (by rw [← LB8.out]; unfold maxLen; omega)).mono ?_; rintro e w' ⟨rfl, rfl⟩)
              | (go_at_call 132; refine (named_any lb ms mi V A nf nr f v _ (HL2.out.keep (below_drewN (Below.refl _ _) _)) HV4.out VB.out.1 VB.out.2 N HN.out).mono ?_; rintro e w' ⟨rfl, q9, rfl⟩))
            go_roundw
            case rel => exact ⟨k + 1, _, by omega, by congr 1, by first | rfl | exact World.drewN_drewN .., NX.out⟩
            case measure => simp [lenW]; omega
      · obtain rfl : k = ll := by omega
        have F : Hid (true = r) := by
          show true = r
          rw [← HR.out]
          exact (all_done (fun m hm => HM.out m (by rw [HLL.out] at hm; exact hm))).symm
        go_wp2
        go_ret
        exact ⟨ret_bool F.out, by first | exact below_drewN B2.out _ | exact hnb ▸ below_drewN B2.out _⟩
end Go.Proofs.YtbfamjnnlcopiaaGreatDoor

/- Plain mathematics of AuditMoves: pointer fields turned to another base. -/
namespace Go.Proofs.YtbfamjnnlcopiaaGreatDoor
open Go.RowKit
set_option linter.unusedVariables false
set_option maxRecDepth 4000

/-- What a field of a sound view holds. -/
theorem Hold.word {V : Vw} (h : Hold V 7) {i : Nat} (hi : i < V.rs.length) (li : (rwD V.rs i).live = true) {p : Int} (hp : p ∈ psOf V i) : wordV V.bs ((rwD V.rs i).pl + p) = 0 ∨ ∃ j, ownI V.rs (wordV V.bs ((rwD V.rs i).pl + p) - V.base) = some j := by
  have q : rule7 V i = true := h 6 (by decide) i hi
  unfold rule7 at q
  rw [li] at q
  have q : ((knD V.ks (rwD V.rs i).kind.toNat).l.all fun p => leads V (wordV V.bs ((rwD V.rs i).pl + p))) = true := q
  have := List.all_eq_true.1 q p hp
  unfold leads at this
  rw [Bool.or_eq_true] at this
  rcases this with e | e
  · exact .inl (of_decide_eq_true e)
  · exact .inr (Option.isSome_iff_exists.1 e)
end Go.Proofs.YtbfamjnnlcopiaaGreatDoor

/- Plain mathematics of layer 17: the image of a span of a sound view. -/
namespace Go.Proofs.YtbfamjnnlcopiaaGreatDoor
set_option linter.unusedVariables false
set_option maxRecDepth 4000

/-- The place of the n-th live slot of a span. -/
def plV (V : Vw) (j n : Nat) : Int := atS (tdD V.ts j) ((tdD V.ts j).l.getD n 0)
/-- A slot's bytes. -/
def slbV (V : Vw) (j : Nat) (x : Int) : List Int := (V.bs.drop x.toNat).take (szT V j).toNat
/-- The pointer fields of the object at a place. -/
def psAt (V : Vw) (x : Int) : List Int := match ownI V.rs x with
  | some i => psOf V i
  | none => []
/-- Those that aren't 0, at n bytes and further. -/
def ofAt (V : Vw) (x : Int) (n : Int) (l : List Int) : List Int := (l.filter (fun p => decide (wordV V.bs (x + p) ≠ 0))).map (fun p => n + p)
/-- The bytes and the places of the first slots. -/
def mkB (V : Vw) (j : Nat) : Nat → List Int
  | 0 => []
  | n + 1 => mkB V j n ++ slbV V j (plV V j n)
def mkO (V : Vw) (j : Nat) : Nat → List Int
  | 0 => []
  | n + 1 => mkO V j n ++ ofAt V (plV V j n) ((mkB V j n).length : Int) (psAt V (plV V j n))
def lvN (V : Vw) (j : Nat) : Nat := (tdD V.ts j).l.length
/-- The image of a span. -/
def makeG (V : Vw) (j : Nat) : Im := ⟨(tdD V.ts j).p, (tdD V.ts j).c, (tdD V.ts j).s, (tdD V.ts j).l, if mkO V j (lvN V j) = [] then 0 else V.base, mkO V j (lvN V j), mkB V j (lvN V j)⟩

theorem getD_mem' {l : List Int} {n : Nat} (h : n < l.length) : l.getD n 0 ∈ l := by
  rw [show l.getD n 0 = l[n] by simp [List.getD, h]]
  exact List.getElem_mem h
theorem plV_slot {V : Vw} {j n : Nat} (hj : j < V.ts.length) (hn : n < lvN V j) : SlotAt V (plV V j n) j ((tdD V.ts j).l.getD n 0) := ⟨hj, getD_mem' hn, rfl⟩
/-- Where a live slot lies. -/
theorem plV_in {V : Vw} (h : Hold V 7) {j n : Nat} (hj : j < V.ts.length) (hn : n < lvN V j) : 0 ≤ plV V j n ∧ plV V j n + szT V j ≤ V.bs.length ∧ 16 ≤ szT V j ∧ szT V j ≤ 4096 := by
  obtain ⟨k0, x1, x2, z, _⟩ := (plV_slot hj hn).facts h (by decide)
  obtain ⟨hr, hp⟩ := h.right (by decide) j hj
  obtain ⟨_, _, _, q, _⟩ := h.r1 (by decide)
  have rt := newE_rt hr.1
  have p0 := rt.p0
  obtain ⟨f1, f2, f3, f4, f5, f6, f7, f8, f9, f10, f11⟩ := rt.facts
  have z2 : szT V j ≤ 4096 := by unfold szT; omega
  exact ⟨by omega, by omega, z, z2⟩
theorem slb_len {V : Vw} (h : Hold V 7) {j n : Nat} (hj : j < V.ts.length) (hn : n < lvN V j) : (slbV V j (plV V j n)).length = (szT V j).toNat := by
  obtain ⟨h1, h2, h3, _⟩ := plV_in h hj hn
  unfold slbV
  rw [List.length_take, List.length_drop]
  omega
theorem mkB_len {V : Vw} (h : Hold V 7) {j : Nat} (hj : j < V.ts.length) : ∀ n, n ≤ lvN V j → (mkB V j n).length = n * (szT V j).toNat
  | 0, _ => by simp [mkB]
  | n + 1, hn => by rw [mkB, List.length_append, mkB_len h hj n (by omega), slb_len h hj (by omega), Nat.add_mul, Nat.one_mul]
/-- The row of the object in a live slot. -/
theorem plV_own {V : Vw} (h : Hold V 7) {j n : Nat} (hj : j < V.ts.length) (hn : n < lvN V j) : ∃ i, ownI V.rs (plV V j n) = some i ∧ i < V.rs.length ∧ (rwD V.rs i).live = true ∧ (rwD V.rs i).pl = plV V j n := by
  have q : rule6 V j = true := h 5 (by decide) j hj
  unfold rule6 at q
  have q := List.all_eq_true.1 q _ (getD_mem' hn)
  obtain ⟨i, hi⟩ := Option.isSome_iff_exists.1 q
  obtain ⟨a, b, c, _⟩ := own_some hi
  exact ⟨i, hi, a, b, c⟩
/-- Its fields lie within the slot. -/
theorem psAt_in {V : Vw} (h : Hold V 7) {j n : Nat} (hj : j < V.ts.length) (hn : n < lvN V j) : placedB (szT V j) 0 (psAt V (plV V j n)) = true ∧ (psAt V (plV V j n)).length ≤ 16 := by
  obtain ⟨i, ho, hi, hl, hp⟩ := plV_own h hj hn
  have e : psAt V (plV V j n) = psOf V i := by unfold psAt; rw [ho]
  obtain ⟨_, _, _, _, _, l6, l7⟩ := h.lies (by decide) i hi hl
  obtain ⟨j', k', a, z⟩ := h.slot (by decide) i hi hl
  have b := plV_slot hj hn
  rw [hp] at a
  have hz : szT V j' = szT V j := by
    obtain ⟨_, a1, a2, a3, _⟩ := a.facts h (by decide)
    obtain ⟨_, b1, b2, b3, _⟩ := b.facts h (by decide)
    have : j' = j := by
      have rise := std_rise (h.std (by decide))
      rcases Nat.lt_trichotomy j' j with q | q | q
      · have := rise j hj j' q; omega
      · exact q
      · have := rise j' a.jl j q; omega
    rw [this]
  rw [hz] at z
  rw [e]
  refine ⟨?_, l7⟩
  have q := (h.obj (by decide) i hi hl).zs
  rw [q] at l6
  exact placed_mono z _ _ l6
end Go.Proofs.YtbfamjnnlcopiaaGreatDoor

/- Plain mathematics of layer 17: the image of a span of a sound view is right. -/
namespace Go.Proofs.YtbfamjnnlcopiaaGreatDoor
set_option linter.unusedVariables false
set_option maxRecDepth 4000

theorem placed_from {s : Int} : ∀ (l : List Int) (f g : Int), g ≤ f → placedB s f l = true → placedB s g l = true
  | [], _, _, _, _ => rfl
  | x :: l, f, g, hg, h => by
    rw [placedB, Bool.and_eq_true] at h ⊢
    have h1 := of_decide_eq_true h.1
    exact ⟨decide_eq_true ⟨by omega, h1.2⟩, h.2⟩
theorem placed_app {s s' : Int} (m : List Int) (hs : s' ≤ s) (hm : placedB s s' m = true) : ∀ (l : List Int) (f : Int), f ≤ s' → placedB s' f l = true → placedB s f (l ++ m) = true
  | [], f, hf, _ => placed_from m s' f hf hm
  | x :: l, f, hf, h => by
    rw [placedB, Bool.and_eq_true] at h
    have h1 := of_decide_eq_true h.1
    rw [List.cons_append, placedB, Bool.and_eq_true]
    exact ⟨decide_eq_true ⟨h1.1, by omega, h1.2.2⟩, placed_app m hs hm l (x + 8) (by omega) h.2⟩
theorem placed_filter {s : Int} (q : Int → Bool) : ∀ (l : List Int) (f : Int), placedB s f l = true → placedB s f (l.filter q) = true
  | [], _, _ => rfl
  | x :: l, f, h => by
    rw [placedB, Bool.and_eq_true] at h
    have h1 := of_decide_eq_true h.1
    have h2 := placed_filter q l (x + 8) h.2
    rw [List.filter_cons]
    split
    · rw [placedB, Bool.and_eq_true]
      exact ⟨h.1, h2⟩
    · exact placed_from _ (x + 8) f (by omega) h2
theorem placed_shift {s n : Int} (hn : n % 8 = 0) : ∀ (l : List Int) (f : Int), placedB s f l = true → placedB (n + s) (n + f) (l.map (fun p => n + p)) = true
  | [], _, _ => rfl
  | x :: l, f, h => by
    rw [placedB, Bool.and_eq_true] at h
    have h1 := of_decide_eq_true h.1
    have h2 := placed_shift hn l (x + 8) h.2
    rw [List.map_cons, placedB, Bool.and_eq_true]
    refine ⟨decide_eq_true ⟨by omega, by omega, by omega⟩, ?_⟩
    rw [show n + x + 8 = n + (x + 8) by omega]
    exact h2
/-- A slot's beginning within the image. -/
theorem mk_even {V : Vw} (h : Hold V 7) {j n : Nat} (hj : j < V.ts.length) (hn : n < lvN V j) : ((n * (szT V j).toNat : Nat) : Int) % 8 = 0 := by
  obtain ⟨hr, _⟩ := h.right (by decide) j hj
  have rt := newE_rt hr.1
  have hl : lvN V j ≤ slN (tdD V.ts j).c := live_le hr.2
  obtain ⟨_, _, z, _⟩ := plV_in h hj hn
  by_cases c7 : (tdD V.ts j).c = 7
  · rw [c7] at hl
    have : slN 7 = 1 := rfl
    obtain rfl : n = 0 := by omega
    simp
  · have e : szT V j = sizeI (tdD V.ts j).c := by unfold szT szI; rw [if_neg c7]
    have c0 := rt.c0
    have c1 := rt.c7
    have : (szT V j).toNat % 8 = 0 := by
      rw [e]
      obtain q | q | q | q | q | q | q : (tdD V.ts j).c = 0 ∨ (tdD V.ts j).c = 1 ∨ (tdD V.ts j).c = 2 ∨ (tdD V.ts j).c = 3 ∨ (tdD V.ts j).c = 4 ∨ (tdD V.ts j).c = 5 ∨ (tdD V.ts j).c = 6 := by omega
      all_goals rw [q]; rfl
    have : (n * (szT V j).toNat) % 8 = 0 := by rw [Nat.mul_mod, this, Nat.mul_zero, Nat.zero_mod]
    omega
theorem mkO_placed {V : Vw} (h : Hold V 7) {j : Nat} (hj : j < V.ts.length) : ∀ n, n ≤ lvN V j → placedB ((n * (szT V j).toNat : Nat) : Int) 0 (mkO V j n) = true ∧ (mkO V j n).length ≤ 16 * n
  | 0, _ => ⟨rfl, by simp [mkO]⟩
  | n + 1, hn => by
    obtain ⟨i1, i2⟩ := mkO_placed h hj n (by omega)
    obtain ⟨k1, k2⟩ := psAt_in h hj (n := n) (by omega)
    obtain ⟨z1, z2, z3, z4⟩ := plV_in h hj (n := n) (by omega)
    rw [mkO, mkB_len h hj n (by omega)]
    have e : (((n + 1) * (szT V j).toNat : Nat) : Int) = ((n * (szT V j).toNat : Nat) : Int) + szT V j := by
      rw [Nat.add_mul, Nat.one_mul]
      omega
    refine ⟨?_, ?_⟩
    · rw [e]
      unfold ofAt
      refine placed_app _ (by omega) ?_ _ _ (by omega) i1
      have q := placed_shift (mk_even h hj (n := n) (by omega)) _ _ (placed_filter (fun p => decide (wordV V.bs (plV V j n + p) ≠ 0)) _ _ k1)
      rw [Int.add_zero] at q
      exact q
    · rw [List.length_append]
      unfold ofAt
      rw [List.length_map]
      have := List.length_filter_le (fun p => decide (wordV V.bs (plV V j n + p) ≠ 0)) (psAt V (plV V j n))
      omega
end Go.Proofs.YtbfamjnnlcopiaaGreatDoor

/- Plain mathematics of layer 17: the loops that make an image, the code's and the document's. -/
namespace Go.Proofs.YtbfamjnnlcopiaaGreatDoor
set_option linter.unusedVariables false
set_option maxRecDepth 4000

/-- One field more. -/
theorem ofAt_none (V : Vw) (x n : Int) : ofAt V x n [] = [] := rfl
theorem ofAt_yes {V : Vw} {x n : Int} {l : List Int} {q : Nat} (hq : q < l.length) (h : wordV V.bs (x + l.getD q 0) ≠ 0) : ofAt V x n (l.take (q + 1)) = ofAt V x n (l.take q) ++ [n + l.getD q 0] := by
  have e : l.take (q + 1) = l.take q ++ [l.getD q 0] := by
    rw [List.take_add_one, List.getElem?_eq_getElem hq]
    simp [List.getD, hq]
  unfold ofAt
  rw [e, List.filter_append, List.map_append, List.filter_cons, if_pos (by simpa using h), List.filter_nil, List.map_cons, List.map_nil]
theorem ofAt_no {V : Vw} {x n : Int} {l : List Int} {q : Nat} (hq : q < l.length) (h : wordV V.bs (x + l.getD q 0) = 0) : ofAt V x n (l.take (q + 1)) = ofAt V x n (l.take q) := by
  have e : l.take (q + 1) = l.take q ++ [l.getD q 0] := by
    rw [List.take_add_one, List.getElem?_eq_getElem hq]
    simp [List.getD, hq]
  unfold ofAt
  rw [e, List.filter_append, List.map_append, List.filter_cons, if_neg (by simpa using h), List.filter_nil, List.map_nil, List.append_nil]
/-- What the code's kindsIn has told behind the first rows. -/
structure KinP (V : Vw) (j m : Nat) (K : List Int) : Prop where
  len : K.length = slN (tdD V.ts j).c
  told : ∀ i, i < m → (rwD V.rs i).live = true → ∀ k : Nat, k < slN (tdD V.ts j).c → atS (tdD V.ts j) k = (rwD V.rs i).pl → K.getD k 0 = (rwD V.rs i).kind
theorem KinP.zero (V : Vw) (j : Nat) : KinP V j 0 (List.replicate (slN (tdD V.ts j).c) 0) := ⟨by simp, fun i hi => by omega⟩
theorem KinP.skip {V : Vw} {j m : Nat} {K : List Int} (h : KinP V j m K) {y : Int} {ok : Bool} (hs : SlotR (slN (tdD V.ts j).c) (tdD V.ts j).p (szT V j) (rwD V.rs m).pl y ok) (hn : ¬ (ok = true ∧ (rwD V.rs m).live = true)) : KinP V j (m + 1) K := by
  refine ⟨h.len, fun i hi hl k hk e => ?_⟩
  by_cases q : i = m
  · subst q
    exfalso
    rcases hs with ⟨hok, _⟩ | ⟨_, _, hx⟩
    · exact hn ⟨hok, hl⟩
    · exact hx k hk e.symm
  · exact h.told i (by omega) hl k hk e
theorem KinP.put {V : Vw} (hH : Hold V 7) {j m : Nat} (hj : j < V.ts.length) (hm : m < V.rs.length) {K : List Int} (h : KinP V j m K) {y : Int} (hs : SlotR (slN (tdD V.ts j).c) (tdD V.ts j).p (szT V j) (rwD V.rs m).pl y true) (hl : (rwD V.rs m).live = true) :
    0 ≤ y ∧ y < (K.length : Int) ∧ KinP V j (m + 1) (K.set y.toNat (rwD V.rs m).kind) := by
  rcases hs with ⟨_, k', h1, rfl, h2⟩ | ⟨hf, _⟩
  · have hlen := h.len
    obtain ⟨hr, _⟩ := hH.right (by decide) j hj
    have fa := (newE_rt hr.1).facts
    refine ⟨by omega, by omega, by rw [List.length_set]; exact hlen, fun i hi li k hk e => ?_⟩
    rw [show ((k' : Int)).toNat = k' by omega]
    by_cases q : k' = k
    · subst q
      have e2 : (rwD V.rs i).pl = (rwD V.rs m).pl := by rw [← e, h2]; rfl
      have := hH.alone (by decide) (show i < V.rs.length by omega) hm li hl e2
      subst this
      simp [List.getD, hlen, hk]
    · have im : i ≠ m := fun c => by
        subst c
        apply q
        refine (mul_inj (i := k) (j := k') fa.2.2.2.1 ?_).symm
        unfold atS at e
        unfold szT at h2
        omega
      have := h.told i (by omega) li k hk e
      rw [← this]
      simp [List.getD, q]
  · cases hf
/-- What it tells of a live slot: the kind of the object in it. -/
theorem KinP.ended {V : Vw} (hH : Hold V 7) {j n : Nat} (hj : j < V.ts.length) (hn : n < lvN V j) {K : List Int} (h : KinP V j V.rs.length K) :
    0 ≤ (tdD V.ts j).l.getD n 0 ∧ (tdD V.ts j).l.getD n 0 < (K.length : Int) ∧ 0 ≤ K.getD ((tdD V.ts j).l.getD n 0).toNat 0 ∧ K.getD ((tdD V.ts j).l.getD n 0).toNat 0 < V.ks.length ∧ (knD V.ks (K.getD ((tdD V.ts j).l.getD n 0).toNat 0).toNat).l = psAt V (plV V j n) := by
  obtain ⟨i, ho, hi, hl, hp⟩ := plV_own hH hj hn
  obtain ⟨hr, _⟩ := hH.right (by decide) j hj
  obtain ⟨k0, k1, _⟩ := right_at hr (getD_mem' hn)
  have e := h.told i hi hl ((tdD V.ts j).l.getD n 0).toNat (by omega) (by rw [hp, Int.toNat_of_nonneg k0]; rfl)
  obtain ⟨_, _, q1, q2, _⟩ := hH.live (by decide) i hi hl
  have hlen := h.len
  rw [e]
  refine ⟨k0, by omega, q1, q2, ?_⟩
  unfold psAt
  rw [ho]
  rfl
/-- What the document's loop over the rows has found of a slot behind the first rows. -/
def dmO (V : Vw) (x n : Int) (m : Nat) : List Int := match ownI V.rs x with
  | some i => if i < m then ofAt V x n (psOf V i) else []
  | none => []
theorem dmO_zero (V : Vw) (x n : Int) : dmO V x n 0 = [] := by
  unfold dmO
  cases ownI V.rs x with
  | none => rfl
  | some i => exact if_neg (by omega)
theorem dmO_skip {V : Vw} {x n : Int} {m : Nat} (h : ¬ ((rwD V.rs m).live = true ∧ (rwD V.rs m).pl = x)) : dmO V x n (m + 1) = dmO V x n m := by
  unfold dmO
  cases e : ownI V.rs x with
  | none => rfl
  | some i =>
    obtain ⟨_, h1, h2, _⟩ := own_some e
    have : i ≠ m := fun q => h (by rw [← q]; exact ⟨h1, h2⟩)
    by_cases q : i < m
    · exact (if_pos (by omega)).trans (if_pos q).symm
    · exact (if_neg (by omega)).trans (if_neg q).symm
theorem dmO_hit {V : Vw} (hH : Hold V 7) {x n : Int} {m : Nat} (hm : m < V.rs.length) (h1 : (rwD V.rs m).live = true) (h2 : (rwD V.rs m).pl = x) : dmO V x n m = [] ∧ dmO V x n (m + 1) = ofAt V x n (psOf V m) := by
  have e : ownI V.rs x = some m := by
    have q : rule5 V m = true := hH 4 (by decide) m hm
    unfold rule5 at q
    rw [h1, h2] at q
    simpa using q
  unfold dmO
  rw [e]
  exact ⟨if_neg (by omega), if_pos (by omega)⟩
theorem dmO_end {V : Vw} {x n : Int} : dmO V x n V.rs.length = ofAt V x n (psAt V x) := by
  unfold dmO psAt
  cases e : ownI V.rs x with
  | none => rfl
  | some i => exact if_pos (own_some e).1
end Go.Proofs.YtbfamjnnlcopiaaGreatDoor

/- Plain mathematics of layer 17: an image at another base, and back. -/
namespace Go.Proofs.YtbfamjnnlcopiaaGreatDoor
set_option linter.unusedVariables false
set_option maxRecDepth 4000

end Go.Proofs.YtbfamjnnlcopiaaGreatDoor
