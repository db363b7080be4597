/- Layer 15: fields of a heap, the walk of its function. -/
import Derived.Test.YtgdjlopnhecmjaaGreatDoorGzBG
namespace Go.Proofs.YtgdjlopnhecmjaaGreatDoor
open Go.RowKit Go.Shelf
set_option linter.unusedVariables false
set_option maxRecDepth 4000
attribute [local go_sem] Oper.semAt_some

/-- What a round is given: a field's address, and the address that is in it. -/
def encF (base : Int) (FL : List Int) (B : Nat → List Int) (j : Nat) : Array Value := #[.int .i64 (base + FL.getD j 0), .int .u64 (wordV (B j) (FL.getD j 0))]
section
variable {hb pa pk pc pn mb q Wn : Nat} {base : Int} {ks : List Kn} {P : Nat} {m : List Sg} {N : Nat} {rs : List HRw} {f : Int → Option Nat}
set_option maxRecDepth 100000 in
set_option maxHeartbeats 8000000 in
theorem fields1_steps (n : Nat) (hn : 1 ≤ n) (V : Vw) (hVr : V.rs = rs) (hVk : V.ks = ks) (B : Nat → List Int) (Hc b : Nat) (I : Nat → World → Prop)
    (hI : ∀ j W, I j W → W.cell? ⟨Hc, 0, none⟩ = some (.pointer (some ⟨hb, 0, none⟩)) ∧ ∃ Λ, Ehx W Λ hb pa pk pc pn mb q Wn base (B j) ks P m N rs f)
    (hF : ∀ j, ∀ x ∈ fldU V rs.length, 0 ≤ x ∧ x + 8 ≤ ((B j).length : Int)) (hBl : ∀ j, (B j).length ≤ 1048576)
    (hK : ∀ r, r < rs.length → (rwD rs r).live = true → ∃ k : Nat, (rwD rs r).kind = (k : Int) ∧ k < ks.length) (hP : ∀ r, r < rs.length → (rwD rs r).live = true → 0 ≤ (rwD rs r).pl ∧ (rwD rs r).pl ≤ 1048576) (hL : ∀ k, k < ks.length → (knD ks k).l.length ≤ 16 ∧ ∀ p ∈ (knD ks k).l, 0 ≤ p ∧ p ≤ 4096) :
    SeqSteps Fence.wide n Tryz.prog 186 #[.pointer (some ⟨Hc, 0, none⟩)] (encF base (fldU V rs.length) B) I b (fldU V rs.length).length := by
  intro l J W hbW hJI hJk hY hJ0
  refine callsIn_wide.2 ?_
  show Calls Tryz.prog 186 #[.func (.yield l) #[] #[], .pointer (some ⟨Hc, 0, none⟩)] W _
  have HJ0 : Hid (J 0 W) := hJ0
  have HJI : Hid (∀ j W, J j W → I j W) := hJI
  have HJK : Hid (∀ j W W', J j W → Below W.heap.size W W' → J j W') := hJk
  have HY : Hid (∀ j W1, J j W1 → j < (fldU V rs.length).length → YieldAt Fence.wide (n - 1) Tryz.prog l (encF base (fldU V rs.length) B j) W1 fun e W' => e = .returned (.bool true) ∧ J (j + 1) W' ∧ Kr b W1 W') := hY
  have HI : Hid (∀ j W, J j W → W.cell? ⟨Hc, 0, none⟩ = some (.pointer (some ⟨hb, 0, none⟩)) ∧ ∃ Λ, Ehx W Λ hb pa pk pc pn mb q Wn base (B j) ks P m N rs f) := fun j W h => hI j W (hJI j W h)
  have HF : Hid (∀ j, ∀ x ∈ fldU V rs.length, 0 ≤ x ∧ x + 8 ≤ ((B j).length : Int)) := hF
  have HBL : Hid (∀ j, (B j).length ≤ 1048576) := hBl
  have HK : Hid (∀ r, r < rs.length → (rwD rs r).live = true → ∃ k : Nat, (rwD rs r).kind = (k : Int) ∧ k < ks.length) := hK
  have HP : Hid (∀ r, r < rs.length → (rwD rs r).live = true → 0 ≤ (rwD rs r).pl ∧ (rwD rs r).pl ≤ 1048576) := hP
  have HLL : Hid (∀ k, k < ks.length → (knD ks k).l.length ≤ 16 ∧ ∀ p ∈ (knD ks k).l, 0 ≤ p ∧ p ≤ 4096) := hL
  have HVR : Hid (V.rs = rs ∧ V.ks = ks) := ⟨hVr, hVk⟩
  obtain ⟨c0, Λ0, h0⟩ := HI.out 0 W hJ0
  have H0 : Hid (Ehx W Λ0 hb pa pk pc pn mb q Wn base (B 0) ks P m N rs f) := h0
  have rl : rs.length ≤ 4096 := by
    obtain ⟨Bx, ax, cx, hC, _⟩ := h0.nm
    exact hC.len.1
  have kl : ks.length ≤ 64 := by
    obtain ⟨b0, lb, ar, cr, xs, hT, he, _⟩ := h0.kd
    have := kns_len he; have := hT.len; omega
  obtain ⟨_, _, d2, _, _, _⟩ := h0.cells
  have HBW : Hid (b ≤ W.heap.size) := hbW
  clear hJ0 hJI hJk hY hI hF hBl hK hP hL hVr hVk h0 hbW
  obtain ⟨R, hR⟩ : ∃ R, rs.length = R := ⟨_, rfl⟩
  have HR : Hid (rs.length = R) := hR
  obtain ⟨KL, hKL⟩ : ∃ KL, ks.length = KL := ⟨_, rfl⟩
  have HKL : Hid (ks.length = KL) := hKL
  rw [hR] at rl
  rw [hKL] at kl
  have AL : Hid (∀ (W : World) (Λ : Nat → Nat) (bs : List Int), Ehx W Λ hb pa pk pc pn mb q Wn base bs ks P m N rs f → Calls Tryz.prog 52 #[.pointer (some ⟨pk, 0, none⟩)] W fun e w' => e = .returned (.slice (some ⟨W.heap.size, 0, none⟩) KL KL) ∧ Fk W.heap.size w' W.heap.size ks ∧ Below W.heap.size W w') := fun W Λ bs h => by
    have q := ekall_any h
    rw [hKL] at q
    exact q
  have RW : Hid (∀ (W : World) (Λ : Nat → Nat) (bs : List Int), Ehx W Λ hb pa pk pc pn mb q Wn base bs ks P m N rs f → Calls Tryz.prog 53 #[.pointer (some ⟨pn, 0, none⟩)] W fun e w' => ∃ a' c', e = .returned (.slice a' R c') ∧ Ow w' W.heap.size a' rs c' ∧ Below W.heap.size W w') := fun W Λ bs h => by
    have q := enrows_any h
    rw [hR] at q
    exact q
  clear hR hKL
  go_enter Tryz.func186, Tryz.ntmps186
  go_wp2_with fail
  refine Calls.mono (AL.out _ _ _ H0.out) ?_
  rintro e w1 ⟨rfl, k1, b1⟩
  have K1 : Hid (Fk W.heap.size w1 W.heap.size ks) := k1
  have J1 : Hid (J 0 w1) := HJK.out 0 W w1 HJ0.out b1
  have B1 : Hid (Below W.heap.size W w1) := b1
  obtain ⟨c1, Λ1, h1⟩ := HI.out 0 w1 J1.out
  have H1 : Hid (Ehx w1 Λ1 hb pa pk pc pn mb q Wn base (B 0) ks P m N rs f) := h1
  obtain ⟨_, _, _, _, d4, _⟩ := h1.cells
  clear k1 b1 h1 c0 d2
  go_wp2_with fail
  refine Calls.mono (RW.out _ _ _ H1.out) ?_
  rintro e w2 ⟨a2, cc2, rfl, o2, b2⟩
  have J2 : Hid (J 0 w2) := HJK.out 0 w1 w2 J1.out b2
  obtain ⟨Kg, hKg⟩ : ∃ Kg, W.heap.size = Kg := ⟨_, rfl⟩
  have HKG : Hid (W.heap.size = Kg) := hKg
  have K2 : Hid (Fk b w2 Kg ks) := by
    have q := Fk.kr K1.out (Kr.below b2)
    rw [hKg] at q
    obtain ⟨q1, q2, q3⟩ := q
    have hbK : b ≤ Kg := by rw [← hKg]; exact HBW.out
    exact ⟨hbK, q2, fun k hk => by
      obtain ⟨a, c, e1, e2, e3⟩ := q3 k hk
      exact ⟨a, c, e1, e2, fun ad ea en => ⟨by have := (e3 ad ea en).1; omega, (e3 ad ea en).2⟩⟩⟩
  have R2 : Hid (Fw b w2 a2 rs) := by
    refine ⟨Ow.isWH o2, fun p hp en => ?_⟩
    have q := o2.ge p.block (by rw [hp]; rfl)
    have z1 := B1.out.size
    have z0 := HBW.out
    exact ⟨by omega, q.2⟩
  have Z2 : Hid (b ≤ w2.heap.size) := by have := B1.out.size; have := b2.size; have := HBW.out; show _ ≤ _; omega
  rw [hKg]
  clear o2 b2 c1 d4 hKg
  go_wp2_with fail
  go_loopw [22] (fun iv wr => ∃ r : Nat, r ≤ R ∧ iv = .int .i64 (r : Nat) ∧ J (fldU V r).length wr ∧ Kr b w2 wr) (fun iv _ => R - (intOf iv).toNat)
  case atStart => exact ⟨0, Nat.zero_le _, rfl, J2.out, Kr.refl _ _⟩
  case round =>
    obtain ⟨r, hr, rfl, hJr, hkr⟩ := hrel
    rename World => wr
    have HJR : Hid (J (fldU V r).length wr) := hJr
    have HKR : Hid (Kr b w2 wr) := hkr
    clear hJr hkr
    by_cases hlt : r < R
    · have r0 : (r : Int) < (R : Int) := by omega
      have hrl : r < rs.length := by rw [HR.out]; exact hlt
      have RW3 := R2.out.kr HKR.out
      obtain ⟨bb, off, ea, q0, q1, q2, q3⟩ := RW3.1.at r hrl
      subst ea
      have NEXT : Hid ((rwD rs r).live = false → (fldU V (r + 1)).length = (fldU V r).length) := fun h => by rw [fldU_next, HVR.out.1, if_neg (by rw [h]; decide)]; omega
      have NEXL : Hid ((rwD rs r).live = true → (fldU V (r + 1)).length = (fldU V r).length + (knD ks (rwD rs r).kind.toNat).l.length) := fun h => by rw [fldU_next, HVR.out.1, if_pos h]; unfold psOf; rw [HVR.out.1, HVR.out.2]
      have AT : Hid ((rwD rs r).live = true → ∀ t, t < (knD ks (rwD rs r).kind.toNat).l.length → (fldU V r).length + t < (fldU V rs.length).length ∧ (fldU V rs.length).getD ((fldU V r).length + t) 0 = (rwD rs r).pl + (knD ks (rwD rs r).kind.toNat).l.getD t 0 ∧ (rwD rs r).pl + (knD ks (rwD rs r).kind.toNat).l.getD t 0 ∈ fldU V rs.length) := fun h t ht => by
        have q := fldU_at (V := V) (n := rs.length) hrl (by rw [HVR.out.1]; exact h) (t := t) (by unfold psOf; rw [HVR.out.1, HVR.out.2]; exact ht)
        unfold psOf at q
        rw [HVR.out.1, HVR.out.2] at q
        exact q
      have KI := HK.out r hrl
      have PI := HP.out r hrl
      obtain ⟨X, hX⟩ : ∃ X, rwD rs r = X := ⟨_, rfl⟩
      rw [hX] at q0 q1 q2 q3 NEXT NEXL AT KI PI
      obtain ⟨gen, lv, kd, pl⟩ := X
      simp only at q0 q1 q2 q3 NEXT NEXL AT KI PI
      obtain ⟨G, hG⟩ : ∃ G, wr.alloc (.cells #[.int .i64 gen, .bool lv, .int .i64 kd, .int .i64 pl] 57) = G := ⟨_, rfl⟩
      have rG : G.heap[wr.heap.size]? = some (.cells #[.int .i64 gen, .bool lv, .int .i64 kd, .int .i64 pl] 57 (0, 0)) := by rw [← hG]; exact Go.heap_alloc_new wr _
      have bG : Below wr.heap.size wr G := by rw [← hG]; exact (Below.refl _ wr).alloc (Nat.le_refl _) _
      have HG : Hid (wr.alloc (.cells #[.int .i64 gen, .bool lv, .int .i64 kd, .int .i64 pl] 57) = G) := hG
      have JG : Hid (J (fldU V r).length G) := HJK.out _ wr G HJR.out bG
      have KG : Hid (Kr b w2 G) := HKR.out.trans (Kr.below bG)
      obtain ⟨ng, hng⟩ : ∃ ng, wr.heap.size = ng := ⟨_, rfl⟩
      have HNG : Hid (wr.heap.size = ng) := hng
      have bng : Hid (b ≤ ng) := by have := HKR.out.size; have := Z2.out; show _ ≤ _; omega
      rw [hng] at rG
      have RG : Hid (G.heap[ng]? = some (.cells #[.int .i64 gen, .bool lv, .int .i64 kd, .int .i64 pl] 57 (0, 0))) := rG
      have e1 : G.cell? ⟨ng, 1, none⟩ = some (.bool lv) := cell_of_row _ _ 1 _ _ _ rG
      have e2 : G.cell? ⟨ng, 2, none⟩ = some (.int .i64 kd) := cell_of_row _ _ 2 _ _ _ rG
      clear hX hG rG bG hng RW3
      go_upto_region 4 with (fail)
      rw [HG.out]
      try rw [HNG.out]
      clear q0 q1 q2 q3
      cases lv with
      | false =>
        have E3 : Hid ((fldU V (r + 1)).length = (fldU V r).length) := NEXT.out rfl
        clear NEXT NEXL AT KI PI
        go_wp2
        go_roundw
        case rel => exact ⟨r + 1, by omega, by go_num, by rw [E3.out]; exact JG.out, KG.out⟩
        case measure => simp [intOf]; omega
      | true =>
        obtain ⟨k, hk, hk2⟩ := KI rfl
        obtain ⟨p0, p1⟩ := PI rfl
        subst hk
        rw [Int.toNat_natCast] at NEXL AT
        have E3 : Hid ((fldU V (r + 1)).length = (fldU V r).length + (knD ks k).l.length) := NEXL.out rfl
        have AT2 := AT.out rfl
        obtain ⟨ll1, ll2⟩ := HLL.out k hk2
        have FKG := K2.out.kr KG.out
        obtain ⟨ka, kc, f1, f2, f3⟩ := FKG.2.2 k hk2
        obtain ⟨L, hL⟩ : ∃ L, (knD ks k).l = L := ⟨_, rfl⟩
        rw [hL] at E3 AT2 ll1 ll2 f1 f2 f3
        have ATH : Hid (∀ t, t < L.length → (fldU V r).length + t < (fldU V rs.length).length ∧ (fldU V rs.length).getD ((fldU V r).length + t) 0 = pl + L.getD t 0 ∧ pl + L.getD t 0 ∈ fldU V rs.length) := AT2
        have LL2 : Hid (∀ p ∈ L, 0 ≤ p ∧ p ≤ 4096) := ll2
        have F2 : Hid (IsI G ka L ∧ ∀ ad, ka = some ad → L ≠ [] → b ≤ ad.block ∧ ad.block < G.heap.size) := ⟨f2, f3⟩
        have k0 : (k : Int) < (KL : Int) := by rw [← HKL.out]; omega
        obtain ⟨T, hT⟩ : ∃ T, L.length = T := ⟨_, rfl⟩
        have HT : Hid (L.length = T) := hT
        rw [hT] at f1 ll1
        clear NEXT NEXL AT KI PI AT2 f2 f3 ll2 FKG hL hT
        go_wp2_with fail
        go_loopw [36] (fun iv wx => ∃ t : Nat, t ≤ T ∧ iv = .int .i64 (t : Nat) ∧ J ((fldU V r).length + t) wx ∧ Kr b G wx) (fun iv _ => T - (intOf iv).toNat)
        case atStart => exact ⟨0, Nat.zero_le _, rfl, JG.out, Kr.refl _ _⟩
        case round =>
          obtain ⟨t, ht, rfl, hJt, hkt⟩ := hrel
          rename World => wx
          have HJT : Hid (J ((fldU V r).length + t) wx) := hJt
          have HKT : Hid (Kr b G wx) := hkt
          clear hJt hkt
          by_cases htl : t < T
          · have t0 : (t : Int) < (T : Int) := by omega
            have htL : t < L.length := by rw [HT.out]; exact htl
            obtain ⟨a1, a2', a3⟩ := ATH.out t htL
            obtain ⟨g0, Λt, hx⟩ := HI.out _ wx HJT.out
            have HX : Hid (Ehx wx Λt hb pa pk pc pn mb q Wn base (B ((fldU V r).length + t)) ks P m N rs f) := hx
            obtain ⟨_, y1, _, _, _, _⟩ := hx.cells
            have lo : 256 ≤ base ∧ base ≤ 1099511627776 := by obtain ⟨gg, hA, _⟩ := hx.ar; exact ⟨hA.lo, hA.hi⟩
            have ngb : ng < G.heap.size := Go.Proofs.YtgdjlopnhecmjaaGreatDoor.hlt RG.out
            have rx : wx.heap[ng]? = some (.cells #[.int .i64 gen, .bool true, .int .i64 (k : Nat), .int .i64 pl] 57 (0, 0)) := by rw [HKT.out.block ng bng.out ngb]; exact RG.out
            have x3 : wx.cell? ⟨ng, 3, none⟩ = some (.int .i64 pl) := cell_of_row _ _ 3 _ _ _ rx
            have IX : IsI wx ka L := isI_kr F2.out.1 HKT.out.size (fun ad e en hs => HKT.out.block _ (F2.out.2 ad e en).1 hs)
            obtain ⟨_, hL0 | ⟨lb, lo', eka, _, lc⟩⟩ := IX
            · rw [hL0] at htL; simp at htL
            subst eka
            have lct := lc t htL
            have fin := HF.out ((fldU V r).length + t) _ a3
            have lp := LL2.out (L.getD t 0) (by rw [List.getD_eq_getElem?_getD, List.getElem?_eq_getElem htL]; exact List.getElem_mem htL)
            have hbl := HBL.out ((fldU V r).length + t)
            obtain ⟨p, hp⟩ : ∃ p, L.getD t 0 = p := ⟨_, rfl⟩
            rw [hp] at lct fin lp a2' a3
            obtain ⟨j, hj⟩ : ∃ j, (fldU V r).length + t = j := ⟨_, rfl⟩
            have HJ : Hid ((fldU V r).length + t = j) := hj
            rw [hj] at a1 a2' fin hbl HJT HX
            obtain ⟨wd, we⟩ := word_in fin
            have ENC : encF base (fldU V rs.length) B j = #[.int .i64 (base + pl + p), .int .u64 (wordV (B j) (pl + p))] := by
              unfold encF
              rw [a2', show base + (pl + p) = base + pl + p by omega]
            obtain ⟨Wd, hWd⟩ : ∃ Wd, wordV (B j) (pl + p) = Wd := ⟨_, rfl⟩
            rw [hWd] at ENC
            obtain ⟨fn, tmps, assign, body, hyy, hRR⟩ := HY.out j wx HJT.out a1
            rw [ENC] at hyy
            have w1 : IntKind.i64.wrap (base + pl + p) = base + pl + p := by rw [IntKind.wrap_i64]; omega
            have WD : Hid (Calls Tryz.prog 97 #[.pointer (some ⟨pa, 0, none⟩), .int .i64 (base + pl + p)] wx fun e w' => e = .returned (.tuple #[.int .u64 Wd, .int .i64 0]) ∧ wx = w') := by
              obtain ⟨gg, hA, _⟩ := hx.ar
              have q := zword_any pa gg base (base + pl + p) (B j) wx (by rw [← hj]; exact hA) (by unfold Fits; omega)
              rw [show base + pl + p - base = pl + p by omega, wd, we, hWd] at q
              exact q
            have RR : Hid _ := hRR
            clear hx rx lc a2' a3 fin lp hp wd we ENC hWd hj hRR hbl a1
            go_upto_region 10 with (first
              | (go_at_call 59; refine (eaddr_any HX.out pl (by omega)).mono ?_; rintro e w' ⟨rfl, rfl⟩)
              | (go_at_call 97; refine Calls.mono WD.out ?_; rintro e w' ⟨rfl, rfl⟩))
            refine (wpIn_wide (n := n)).1 ?_
            gi_wp2
            refine RoundIn.mono RR.out ?_
            rintro e W3 ⟨rfl, hJ3, hk3⟩
            gi_wp2
            go_wp2
            go_roundw
            case rel => exact ⟨t + 1, by omega, by go_num, by have := HJ.out; rw [show (fldU V r).length + (t + 1) = j + 1 by omega]; exact hJ3, HKT.out.trans hk3⟩
            case measure => simp [intOf]; omega
          · obtain rfl : T = t := by omega
            have t0 : ¬ (T : Int) < (T : Int) := by omega
            have JE : Hid (J (fldU V (r + 1)).length wx) := by show J _ _; rw [E3.out, HT.out]; exact HJT.out
            have KE : Hid (Kr b w2 wx) := KG.out.trans HKT.out
            go_wp2
            go_roundw
            case rel => exact ⟨r + 1, by omega, by go_num, JE.out, KE.out⟩
            case measure => simp [intOf]; omega
    · obtain rfl : R = r := by omega
      have r0 : ¬ (R : Int) < (R : Int) := by omega
      have JE : Hid (J (fldU V rs.length).length wr) := by show J _ _; rw [HR.out]; exact HJR.out
      go_wp2
      go_end0
      exact ⟨⟨_, rfl⟩, JE.out⟩
end
end Go.Proofs.YtgdjlopnhecmjaaGreatDoor

/- Layer 15: unlink of a heap. -/
namespace Go.Proofs.YtgdjlopnhecmjaaGreatDoor
open Go.RowKit Go.Shelf
set_option linter.unusedVariables false
set_option maxRecDepth 4000
attribute [local go_sem] Oper.semAt_some

section
variable {w : World} {Λ : Nat → Nat} {hb pa pk pc pn mb q W : Nat} {base : Int} {bs : List Int} {ks : List Kn} {P : Nat} {m : List Sg} {N : Nat} {rs : List HRw} {f : Int → Option Nat}
theorem efields_any (w : World) : Calls Tryz.prog 125 #[.pointer (some ⟨hb, 0, none⟩)] w fun e w' => e = .returned (.func (.func 186) #[] #[.pointer (some ⟨w.heap.size, 0, none⟩)]) ∧ w' = w.alloc (.cells #[.pointer (some ⟨hb, 0, none⟩)] 27) := by
  go_enter Tryz.func125, Tryz.ntmps125
  go_wp2
  go_ret
  exact ⟨rfl, rfl⟩
theorem tu_put (w : World) (l : Nat) (o : Obj) : Tu (fun k => k = l) w (w.putObj l o) := ⟨rfl, rfl, rfl, by simp, fun i x hx hn => by rw [World.putObj_heap_other hn]; exact hx⟩
/-- A block that isn't the heap's is another. -/
theorem Ehx.put (h : Ehx w Λ hb pa pk pc pn mb q W base bs ks P m N rs f) (l : Nat) (o : Obj) (hl : Λ l = 0) (h0 : l ≠ 0) (h1 : l ≠ 1) : Ehx (w.putObj l o) Λ hb pa pk pc pn mb q W base bs ks P m N rs f := by
  have t := tu_put w l o
  have hd : ∀ i, i ≠ 0 → ∀ k, Λ k = i → ¬ k = l := fun i hi k e c => by rw [c, hl] at e; omega
  exact ⟨h.tab.tu t (fun e => h0 e.symm) (fun e => h1 e.symm), h.l0, h.l1, t.block hb _ h.box (hd 1 (by decide) hb h.lb), h.lb, h.fa.stay t (hd 2 (by decide)), h.fk.stay t (hd 3 (by decide)), h.fc.stay t (hd 4 (by decide)) (fun e => h0 e.symm) (fun e => h1 e.symm), h.fn.stay t (hd 5 (by decide)), h.fw.stay t (hd 6 (by decide))⟩
theorem Ehm.put {Λ Λ' : Nat → Nat} {w w' : World} (h : Ehm Λ w Λ' w') (l : Nat) (o : Obj) (hl : w.heap.size ≤ l) : Ehm Λ w Λ' (w'.putObj l o) :=
  ⟨h.ext, ⟨h.tu.os, h.tu.tape, h.tu.output, by simp; exact h.tu.size, fun i x hx hn => by rw [World.putObj_heap_other (by have := hlt hx; omega)]; exact h.tu.block i x hx hn⟩, fun k h1 h2 => h.new k h1 (by simpa using h2)⟩
/-- A heap within a range: where it has come, and that the loop's own blocks are not its. -/
def Ein (Λ : Nat → Nat) (w : World) (hb pa pk pc pn mb q W : Nat) (base : Int) (bs : List Int) (ks : List Kn) (P : Nat) (m : List Sg) (N : Nat) (rs : List HRw) (f : Int → Option Nat) (w' : World) : Prop :=
  ∃ Λ', Ehx w' Λ' hb pa pk pc pn mb q W base bs ks P m N rs f ∧ Ehm Λ w Λ' w' ∧ (∀ k, w.heap.size ≤ k → k < w.heap.size + 2 → Λ' k = 0) ∧ ∃ g, g < w.heap.size ∧ IsA w' pa g base bs
theorem Ein.keep {w' w'' : World} (h : Ein Λ w hb pa pk pc pn mb q W base bs ks P m N rs f w') (b : Below w'.heap.size w' w'') : Ein Λ w hb pa pk pc pn mb q W base bs ks P m N rs f w'' := by
  obtain ⟨Λ', h1, h2, h3, g, hg, hA⟩ := h
  obtain ⟨h4, h5⟩ := h1.keep b
  refine ⟨_, h4, h2.trans h5, fun k k1 k2 => ?_, g, hg, Ar.keep hA b⟩
  unfold lab
  by_cases e : k < w'.heap.size
  · rw [if_pos e]; exact h3 k k1 k2
  · rw [if_neg e]
theorem Ein.put {w' : World} (h : Ein Λ w hb pa pk pc pn mb q W base bs ks P m N rs f w') (l : Nat) (o : Obj) (h1 : w.heap.size ≤ l) (h2 : l < w.heap.size + 2) (hz : 2 ≤ w.heap.size) : Ein Λ w hb pa pk pc pn mb q W base bs ks P m N rs f (w'.putObj l o) := by
  obtain ⟨Λ', a1, a2, a3, g, hg, hA⟩ := h
  have hp : Λ' pa = 2 := by obtain ⟨_, _, q, _⟩ := a1.fa; exact q
  have hn : pa ≠ l := fun e => by rw [e, a3 l h1 h2] at hp; omega
  exact ⟨Λ', a1.put l o (a3 l h1 h2) (by omega) (by omega), a2.put l o h1, a3, g, hg, ⟨(World.putObj_heap_other hn).trans hA.box, (World.putObj_heap_other (by omega)).trans hA.row, hA.all, hA.ne, hA.lo, hA.hi, hA.len⟩⟩
theorem eput_g {g : Nat} (h : Ehx w Λ hb pa pk pc pn mb q W base bs ks P m N rs f) (hA : IsA w pa g base bs) (o V : Int) (ho : 0 ≤ o ∧ o ≤ 2097152) (hV : 0 ≤ V ∧ V ≤ 18446744073709551615) :
    Calls Tryz.prog 109 #[.pointer (some ⟨pa, 0, none⟩), .int .i64 (base + o), .int .u64 V] w fun e w' => (∃ E, e = .returned (.int .i64 E)) ∧ (∃ Λ', Ehx w' Λ' hb pa pk pc pn mb q W base (writeR bs o (putL 8 V)) ks P m N rs f ∧ Ehm Λ w Λ' w') ∧ IsA w' pa g base (writeR bs o (putL 8 V)) ∧ Tg g w w' := by
  obtain ⟨g', hA', hG⟩ := h.ar
  have eg : g' = g := by
    have e := hA.box.symm.trans hA'.box
    simp at e
    exact e.symm
  subst eg
  have lo := hA.lo
  have hi' := hA.hi
  have q := putw_any pa g' base (base + o) V bs w hA (by unfold Fits; omega) hV.1 hV.2
  rw [show base + o - base = o by omega] at q
  exact q.mono (fun e w' ⟨e1, e2, e3⟩ => ⟨⟨_, e1⟩, ⟨_, hG w' _ e2 e3⟩, e2, e3⟩)
theorem unL_at {g : Int} {l b : List Int} {j : Nat} (h : j < l.length) : unL g (l.take (j + 1)) b = unS g (unL g (l.take j) b) (l.getD j 0) := by
  rw [List.take_add_one, List.getElem?_eq_getElem h, List.getD_eq_getElem?_getD, List.getElem?_eq_getElem h]
  exact unL_snoc g _ b _
set_option maxRecDepth 100000 in
set_option maxHeartbeats 8000000 in
/-- Each field that leads to a place is made to lead to none. -/
theorem eunlink_any (h : Ehx w Λ hb pa pk pc pn mb q W base bs ks P m N rs f) (V : Vw) (hVr : V.rs = rs) (hVk : V.ks = ks) (x : Int) (hx : 0 ≤ x ∧ x ≤ 1048576)
    (hF : ∀ y ∈ fldU V rs.length, 0 ≤ y ∧ y + 8 ≤ (bs.length : Int)) (hBl : bs.length ≤ 1048576)
    (hK : ∀ r, r < rs.length → (rwD rs r).live = true → ∃ k : Nat, (rwD rs r).kind = (k : Int) ∧ k < ks.length) (hP : ∀ r, r < rs.length → (rwD rs r).live = true → 0 ≤ (rwD rs r).pl ∧ (rwD rs r).pl ≤ 1048576) (hL : ∀ k, k < ks.length → (knD ks k).l.length ≤ 16 ∧ ∀ p ∈ (knD ks k).l, 0 ≤ p ∧ p ≤ 4096) :
    Calls Tryz.prog 93 #[.pointer (some ⟨hb, 0, none⟩), .int .i64 x] w fun e w' => (∃ v, e = .returned v) ∧ ∃ Λ', Ehx w' Λ' hb pa pk pc pn mb q W base (unL (base + x) (fldU V rs.length) bs) ks P m N rs f ∧ Ehm Λ w Λ' w' := by
  have lo : 256 ≤ base ∧ base ≤ 1099511627776 := by obtain ⟨gg, hA, _⟩ := h.ar; exact ⟨hA.lo, hA.hi⟩
  have z2 : 2 ≤ w.heap.size := by have := h.tab.2.1; omega
  obtain ⟨D0, hD0⟩ : ∃ D, w.alloc (.cells #[.pointer (some ⟨hb, 0, none⟩)] 27) = D := ⟨_, rfl⟩
  obtain ⟨D1, hD1⟩ : ∃ D, D0.alloc (.cells #[.int .u64 (base + x)] 37) = D := ⟨_, rfl⟩
  obtain ⟨D2, hD2⟩ : ∃ D, D1.alloc (.cells #[.pointer (some ⟨hb, 0, none⟩)] 27) = D := ⟨_, rfl⟩
  have b0 : Below w.heap.size w D0 := by rw [← hD0]; exact (Below.refl _ w).alloc (Nat.le_refl _) _
  have b1 : Below D0.heap.size D0 D1 := by rw [← hD1]; exact (Below.refl _ D0).alloc (Nat.le_refl _) _
  have b2 : Below D1.heap.size D1 D2 := by rw [← hD2]; exact (Below.refl _ D1).alloc (Nat.le_refl _) _
  have r0 : D0.heap[w.heap.size]? = some (.cells #[.pointer (some ⟨hb, 0, none⟩)] 27 (0, 0)) := by rw [← hD0]; exact Go.heap_alloc_new w _
  have r1 : D1.heap[D0.heap.size]? = some (.cells #[.int .u64 (base + x)] 37 (0, 0)) := by rw [← hD1]; exact Go.heap_alloc_new D0 _
  have r2 : D2.heap[D1.heap.size]? = some (.cells #[.pointer (some ⟨hb, 0, none⟩)] 27 (0, 0)) := by rw [← hD2]; exact Go.heap_alloc_new D1 _
  have s0 := hlt r0
  have s1 := hlt r1
  have s2 := hlt r2
  have zz0 := b0.size
  have zz1 := b1.size
  have zz2 := b2.size
  have bb : Below w.heap.size w D2 := b0.trans ((b1.trans (b2.mono b1.size)).mono b0.size)
  obtain ⟨h0, _⟩ := h.keep b0
  obtain ⟨h3, m3⟩ := h.keep bb
  obtain ⟨Λ3, hΛ3⟩ : ∃ Λ3, lab Λ w.heap.size 0 = Λ3 := ⟨_, rfl⟩
  rw [hΛ3] at h3 m3 h0
  have L3 : ∀ k, w.heap.size ≤ k → Λ3 k = 0 := fun k hk => by rw [← hΛ3]; exact lab_new hk
  have H0 : Hid (Ehx D0 Λ3 hb pa pk pc pn mb q W base bs ks P m N rs f) := h0
  have M3 : Hid (Ehm Λ w Λ3 D2) := m3
  have t0 : D2.heap[w.heap.size]? = some (.cells #[.pointer (some ⟨hb, 0, none⟩)] 27 (0, 0)) := by rw [b2.block _ (by omega), b1.block _ (by omega)]; exact r0
  have t1 : D2.heap[D0.heap.size]? = some (.cells #[.int .u64 (base + x)] 37 (0, 0)) := by rw [b2.block _ (by omega)]; exact r1
  have c0 : D0.cell? ⟨w.heap.size, 0, none⟩ = some (.pointer (some ⟨hb, 0, none⟩)) := cell_of_row _ _ 0 _ _ _ r0
  have c1 : D1.cell? ⟨w.heap.size, 0, none⟩ = some (.pointer (some ⟨hb, 0, none⟩)) := by rw [b1.cell (p := ⟨w.heap.size, 0, none⟩) s0]; exact c0
  obtain ⟨FL, hFL⟩ : ∃ FL, fldU V rs.length = FL := ⟨_, rfl⟩
  obtain ⟨Z0, hZ0⟩ : ∃ Z, w.heap.size = Z := ⟨_, rfl⟩
  obtain ⟨Z1, hZ1⟩ : ∃ Z, D0.heap.size = Z := ⟨_, rfl⟩
  obtain ⟨Z2, hZ2⟩ : ∃ Z, D1.heap.size = Z := ⟨_, rfl⟩
  have HZ0 : Hid (w.heap.size = Z0) := hZ0
  have HZ1 : Hid (D0.heap.size = Z1) := hZ1
  have HZ2 : Hid (D1.heap.size = Z2) := hZ2
  have LZ : Hid (Λ3 Z0 = 0 ∧ Λ3 Z1 = 0 ∧ Λ3 Z2 = 0) := ⟨L3 _ (by omega), L3 _ (by omega), L3 _ (by omega)⟩
  have ZD : Hid (2 ≤ D2.heap.size) := by show _ ≤ _; omega
  rw [hZ0] at t0 c0 c1
  rw [hZ1] at t1
  rw [hZ2] at r2
  have T0 : Hid (D2.heap[Z0]? = some (.cells #[.pointer (some ⟨hb, 0, none⟩)] 27 (0, 0))) := t0
  have T1 : Hid (D2.heap[Z1]? = some (.cells #[.int .u64 (base + x)] 37 (0, 0))) := t1
  have T2 : Hid (D2.heap[Z2]? = some (.cells #[.pointer (some ⟨hb, 0, none⟩)] 27 (0, 0))) := r2
  obtain ⟨BB, hBB⟩ : ∃ BB : Nat → List Int, (fun j => unL (base + x) (FL.take j) bs) = BB := ⟨_, rfl⟩
  have hFd : ∀ y ∈ FL, FdU bs.length y := fun y hy => by rw [← hFL] at hy; exact hF y hy
  have BL : Hid (∀ j, (BB j).length = bs.length) := fun j => by rw [← hBB]; exact unL_len _ _ (fun y hy => hFd y (List.mem_of_mem_take hy))
  have BS : Hid (∀ j, j < FL.length → BB (j + 1) = unS (base + x) (BB j) (FL.getD j 0)) := fun j hj => by rw [← hBB]; exact unL_at hj
  have B0 : Hid (BB 0 = bs) := by rw [← hBB]; rfl
  have BN : Hid (BB FL.length = unL (base + x) FL bs) := by rw [← hBB]; show unL _ (FL.take FL.length) bs = _; rw [List.take_length]
  have IN : Hid (Ein Λ3 D2 hb pa pk pc pn mb q W base bs ks P m N rs f D2) := by
    obtain ⟨g, hA, _⟩ := h3.ar
    exact ⟨Λ3, h3, Ehm.refl _ _, fun k k1 k2 => L3 k (by omega), g, hA.row.lt, hA⟩
  have SEQ : Hid (SeqSteps Fence.wide 9 Tryz.prog 186 #[.pointer (some ⟨Z2, 0, none⟩)] (encF base FL BB) (fun j W' => Ein Λ3 D2 hb pa pk pc pn mb q W base (BB j) ks P m N rs f W') (D2.heap.size + 2) FL.length) := by
    have q := fields1_steps (hb := hb) (pa := pa) (pk := pk) (pc := pc) (pn := pn) (mb := mb) (q := q) (Wn := W) (base := base) (ks := ks) (P := P) (m := m) (N := N) (rs := rs) (f := f) 9 (by decide) V hVr hVk BB Z2 (D2.heap.size + 2) (fun j W' => Ein Λ3 D2 hb pa pk pc pn mb q W base (BB j) ks P m N rs f W')
      (fun j W' hW => by
        obtain ⟨Λ', a1, a2, a3, _⟩ := hW
        exact ⟨cell_of_row _ _ 0 _ _ _ (a2.tu.block _ _ T2.out (by rw [LZ.out.2.2]; omega)), Λ', a1⟩)
      (fun j y hy => by rw [BL.out j]; exact hF y hy) (fun j => by rw [BL.out j]; exact hBl) hK hP hL
    rw [hFL] at q
    exact q
  have HFd : Hid (∀ y ∈ FL, FdU bs.length y) := hFd
  have u1 : IntKind.u64.wrap (base + x) = base + x := by rw [IntKind.wrap_u64]; omega
  have HD0 : Hid (w.alloc (.cells #[.pointer (some ⟨hb, 0, none⟩)] 27) = D0) := hD0
  have HD1 : Hid (D0.alloc (.cells #[.int .u64 (base + x)] 37) = D1) := hD1
  have HD2 : Hid (D1.alloc (.cells #[.pointer (some ⟨hb, 0, none⟩)] 27) = D2) := hD2
  rw [hFL]
  clear h hVr hVk hF hK hP hL hD0 hD1 hD2 b0 b1 b2 r0 r1 r2 s0 s1 s2 zz0 zz1 zz2 bb h0 h3 m3 hΛ3 L3 t0 t1 hFL hZ0 hZ1 hZ2 hBB hFd z2
  refine (callsIn_wide (n := 10)).1 ?_
  refine callsIn_of_wp_marks Tryz.func93 rfl trivial ?_ rfl
  simp only [Tryz.ntmps93, List.size_toArray, List.length_cons, List.length_nil, Nat.reduceAdd, Nat.reduceSub, Array.replicate_succ, Array.replicate_zero, List.push_toArray, List.append_toArray, List.nil_append, List.cons_append]
  refine wpIn_wide.2 ?_
  go_upto_region 1 with (fail)
  rw [HD0.out]
  try rw [HZ0.out]
  go_upto_region 2 with (go_at_call 59; refine (eaddr_any H0.out x (by omega)).mono ?_; rintro e w' ⟨rfl, rfl⟩)
  rw [HD1.out]
  try rw [HZ1.out]
  go_wp2_with (go_at_call 125; refine (efields_any _).mono ?_; rintro e w2 ⟨rfl, rfl⟩)
  rw [HD2.out]
  try rw [HZ2.out]
  refine (wpIn_wide (n := 10)).1 ?_
  refine wpIn_rangeFunc_steps (F := Fence.wide) (n := 10) rfl (by decide) (gf := 186) (lb := #[.pointer (some ⟨Z2, 0, none⟩)]) rfl trivial (enters_of Tryz.func186 (by kernel_rfl) rfl) FL.length (encF base FL BB) (fun j W' => Ein Λ3 D2 hb pa pk pc pn mb q W base (BB j) ks P m N rs f W') SEQ.out (fun _ => rfl) (fun j W' W'' h b => h.keep b) (fun j W' r r' h hl => h.put _ _ (by omega) (by omega) ZD.out)
    (fun j a' => a' = { tmps := #[.pointer (some ⟨hb, 0, none⟩), .int .i64 x, .pointer (some ⟨Z0, 0, none⟩), undef, .pointer (some ⟨Z1, 0, none⟩), .int .i64 (base + FL.getD j 0), .int .u64 (wordV (BB j) (FL.getD j 0)), .pointer (some ⟨hb, 0, none⟩), .int .i64 x, .int .i64 (base + x), .int .u64 (base + x), .pointer (some ⟨hb, 0, none⟩), .func (.func 186) #[] #[.pointer (some ⟨Z2, 0, none⟩)], .int .i64 (base + FL.getD j 0), .int .u64 (wordV (BB j) (FL.getD j 0)), undef, undef, undef, undef, undef, undef, undef, undef, undef], defers := [] })
    ?assign ?body ?done (by show Ein _ _ _ _ _ _ _ _ _ _ _ (BB 0) _ _ _ _ _ _ _; rw [B0.out]; exact IN.out)
  case assign =>
    intro l j W' K hI hj hK
    simp only [encF]
    obtain ⟨o, ho⟩ : ∃ o, FL.getD j 0 = o := ⟨_, rfl⟩
    rw [ho] at hK ⊢
    have HK2 : Hid (∀ a', _ → K a' W') := hK
    clear hK hI ho hj
    gi_wp2
    exact HK2.out _ rfl
  case body =>
    rintro j a' W' ⟨r, hr⟩ hd hI rfl hj
    have HIN : Hid (Ein Λ3 D2 hb pa pk pc pn mb q W base (BB j) ks P m N rs f W') := hI
    obtain ⟨Λ', a1, a2, a3, g, hgl, hA⟩ := hI
    have HA : Hid (g < D2.heap.size ∧ IsA W' pa g base (BB j)) := ⟨hgl, hA⟩
    have HX : Hid (Ehx W' Λ' hb pa pk pc pn mb q W base (BB j) ks P m N rs f) := a1
    have HM : Hid (Ehm Λ3 D2 Λ' W' ∧ ∀ k, D2.heap.size ≤ k → k < D2.heap.size + 2 → Λ' k = 0) := ⟨a2, a3⟩
    have d1 : W'.cell? ⟨Z1, 0, none⟩ = some (.int .u64 (base + x)) := cell_of_row _ _ 0 _ _ _ (a2.tu.block _ _ T1.out (by rw [LZ.out.2.1]; omega))
    have d0 : W'.cell? ⟨Z0, 0, none⟩ = some (.pointer (some ⟨hb, 0, none⟩)) := cell_of_row _ _ 0 _ _ _ (a2.tu.block _ _ T0.out (by rw [LZ.out.1]; omega))
    obtain ⟨_, y1, _, _, _, _⟩ := a1.cells
    have hjm : FL.getD j 0 ∈ FL := by rw [List.getD_eq_getElem?_getD, List.getElem?_eq_getElem hj]; exact List.getElem_mem hj
    have fd := HFd.out _ hjm
    have bs1 := BS.out j hj
    have bl := BL.out j
    obtain ⟨o, ho⟩ : ∃ o, FL.getD j 0 = o := ⟨_, rfl⟩
    rw [ho] at fd bs1 ⊢
    obtain ⟨Wd, hWd⟩ : ∃ Wd, wordV (BB j) o = Wd := ⟨_, rfl⟩
    rw [hWd]
    unfold FdU at fd
    unfold unS at bs1
    rw [hWd] at bs1
    clear a1 a2 a3 hjm ho hWd hgl hA
    by_cases hg : Wd = base + x
    · have e1 : (Wd == base + x) = true := beq_iff_eq.2 hg
      rw [if_pos hg] at bs1
      have WR : writeR (BB j) o (putL 8 0) = BB (j + 1) := by
        rw [bs1]
        unfold writeR
        exact if_pos ⟨by omega, fd.1, by rw [putL_len, bl]; exact fd.2⟩
      have PT : Hid (Calls Tryz.prog 109 #[.pointer (some ⟨pa, 0, none⟩), .int .i64 (base + o), .int .u64 0] W' fun e w' => (∃ E, e = .returned (.int .i64 E)) ∧ stepPost D2 (fun j W' => Ein Λ3 D2 hb pa pk pc pn mb q W base (BB j) ks P m N rs f W') j W' .normal { tmps := #[], defers := [] } w') := by
        have qq := eput_g HX.out HA.out.2 o 0 (by omega) (by omega)
        rw [WR] at qq
        refine qq.mono (fun e w' ⟨e1, ⟨Λ4, h4, m4⟩, h5, h6⟩ => ⟨e1, rfl, ?_, ?_, ?_, ?_⟩)
        · have zW := HM.out.1.tu.size
          refine ⟨Λ4, h4, HM.out.1.trans m4, fun k k1 k2 => ?_, g, HA.out.1, h5⟩
          have hk : k < W'.heap.size := by
            have z1 := Go.Proofs.YtgdjlopnhecmjaaGreatDoor.hlt hd
            have z2 := Go.Proofs.YtgdjlopnhecmjaaGreatDoor.hlt hr
            omega
          rw [m4.ext k hk]
          exact HM.out.2 k k1 k2
        · exact ⟨h6.size, fun k k1 k2 => h6.block k k2 (by have := HA.out.1; omega)⟩
        · have z1 := Go.Proofs.YtgdjlopnhecmjaaGreatDoor.hlt hd
          rw [hd]
          exact m4.tu.block _ _ hd (by rw [HM.out.2 _ (Nat.le_refl _) (by omega)]; omega)
        · rw [hr]
          exact m4.tu.block _ _ hr (by rw [HM.out.2 _ (by omega) (by omega)]; omega)
      clear bs1 WR hg fd bl HIN
      gi_wp2
      refine ⟨trivial, (CallsIn.inRound _ (callsIn_wide.2 PT.out)).mono ?_⟩
      rintro e w4 ⟨⟨E4, rfl⟩, h4⟩
      have H4 : Hid (stepPost D2 (fun j W' => Ein Λ3 D2 hb pa pk pc pn mb q W base (BB j) ks P m N rs f W') j W' .normal { tmps := #[], defers := [] } w4) := h4
      clear h4 PT
      gi_wp2
      exact H4.out
    · have e1 : (Wd == base + x) = false := beq_eq_false_iff_ne.2 hg
      rw [if_neg hg] at bs1
      have FIN : Hid (stepPost D2 (fun j W' => Ein Λ3 D2 hb pa pk pc pn mb q W base (BB j) ks P m N rs f W') j W' .normal { tmps := #[], defers := [] } W') := ⟨rfl, by show Ein _ _ _ _ _ _ _ _ _ _ _ (BB (j + 1)) _ _ _ _ _ _ _; rw [bs1]; exact HIN.out, Kr.refl _ _, rfl, rfl⟩
      clear bs1 hg fd bl HIN
      gi_wp2
      exact FIN.out
  case done =>
    intro W' hI hd
    have FIN : Hid (∃ Λ', Ehx (W'.putObj D2.heap.size (.deferred none)) Λ' hb pa pk pc pn mb q W base (unL (base + x) FL bs) ks P m N rs f ∧ Ehm Λ w Λ' (W'.putObj D2.heap.size (.deferred none))) := by
      have q := hI.put D2.heap.size (.deferred none) (Nat.le_refl _) (by omega) ZD.out
      obtain ⟨Λ', a1, a2, _, _⟩ := q
      rw [BN.out] at a1
      exact ⟨Λ', a1, M3.out.trans a2⟩
    go_wp2
    refine ⟨by simp, .inl ⟨_, _, rfl, run_takeDeferred hd, ?_⟩⟩
    exact ⟨_, results_none rfl _ _ _, ⟨_, rfl⟩, FIN.out⟩
end
end Go.Proofs.YtgdjlopnhecmjaaGreatDoor
