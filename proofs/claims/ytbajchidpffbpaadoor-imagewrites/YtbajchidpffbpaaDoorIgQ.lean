/- Layer 17: Body of the document. -/
import Derived.Test.YtbajchidpffbpaaDoorIgD
import Derived.Test.YtbajchidpffbpaaDoorIgG
import Derived.Test.YtbajchidpffbpaaDoorGtF
namespace Go.Proofs.YtbajchidpffbpaaDoor
open Go.RowKit
set_option linter.unusedVariables false
set_option maxRecDepth 4000

/-- A set of the document's under way, beside bytes of one's own. -/
structure Lr (w wr : World) (b g n : Nat) (f : Nat → Bool) (ao : Option Addr) (H : List Int) (co : Nat) : Prop where
  set : RefAt wr b g n f
  own : OwnsB wr w.heap.size ao H co
  low : Below w.heap.size w wr
  gg : w.heap.size ≤ g
  off : ∀ ad, ao = some ad → ad.block ≠ g
theorem ownsB_only {w w' : World} {base cap G : Nat} {a : Option Addr} {l : List Int} (h : OwnsB w base a l cap) (o : Only G w w') (hne : ∀ ad, a = some ad → ad.block ≠ G) : OwnsB w' base a l cap := by
  obtain ⟨q1, q2 | ⟨g', c', cur, r1, r2, r3, r4⟩⟩ := h
  · exact ⟨q1, .inl q2⟩
  · have e : a = some ⟨g', 0, none⟩ := by injection r1
    exact ⟨q1, .inr ⟨g', c', cur, r1, r2, by rw [o.block g' (hne _ e)]; exact r3, r4⟩⟩
theorem ownsB_lt {w : World} {base cap : Nat} {a : Option Addr} {l : List Int} (h : OwnsB w base a l cap) : ∀ ad, a = some ad → ad.block < w.heap.size := by
  intro ad e
  obtain ⟨q1, ⟨q2, _⟩ | ⟨g', c', cur, r1, r2, r3, r4⟩⟩ := h
  · injection q2 with q2; rw [q2] at e; cases e
  · injection r1 with r1
    rw [r1] at e
    cases e
    exact (Array.getElem?_eq_some_iff.1 r3).1
/-- The first numbers. -/
def headG (xs : List Int) (k : Nat) : List Int := (xs.take k).flatMap varL
theorem headG_succ (xs : List Int) (k : Nat) (h : k < xs.length) : headG xs (k + 1) = headG xs k ++ varL (xs.getD k 0) := by
  unfold headG
  rw [List.take_succ_eq_append_getElem h, List.flatMap_append]
  simp [List.getD, h]
theorem headG_le (xs : List Int) : ∀ k, k ≤ xs.length → (headG xs k).length ≤ 10 * k
  | 0, _ => by simp [headG]
  | k + 1, h => by
    rw [headG_succ xs k (by omega), List.length_append]
    have := headG_le xs k (by omega)
    have := varL_le (xs.getD k 0)
    omega

set_option maxRecDepth 20000 in
set_option maxHeartbeats 8000000 in
theorem dbody_any (p c s base : Int) (la oa ba : Option Addr) (lc oc bc : Nat) (live offs bytes : List Int) (w : World)
    (hL : IsI w la live) (hO : IsI w oa offs) (hB : IsB w ba bytes) (hnb : ba = none → bytes = [] ∧ bc = 0) (hml : live.length ≤ maxLen) (hmo : offs.length ≤ maxLen) (hmb : bytes.length ≤ maxLen) :
    Calls Tryd.prog 10 #[.agg #[.int .i64 p, .int .i64 c, .int .i64 s, .slice la live.length lc, .int .i64 base, .slice oa offs.length oc, .slice ba bytes.length bc]] w fun e w' =>
      ∃ a' c', e = .returned (.tuple #[.slice a' (outG ⟨p, c, s, live, base, offs, bytes⟩).length c', .int .i64 (errG ⟨p, c, s, live, base, offs, bytes⟩)]) ∧ OwnsB w' w.heap.size a' (outG ⟨p, c, s, live, base, offs, bytes⟩) c' ∧ Below w.heap.size w w' := by
  obtain ⟨D, hD, zD, rD, bD⟩ := ibox 36 w p c s la live.length lc base oa offs.length oc ba bytes.length bc
  have HD : Hid (w.alloc (.cells #[.int .i64 p, .int .i64 c, .int .i64 s, .slice la live.length lc, .int .i64 base, .slice oa offs.length oc, .slice ba bytes.length bc] 36) = D) := hD
  have BD : Hid (Below w.heap.size w D) := bD
  have ZD : Hid (D.heap.size = w.heap.size + 1) := zD
  have LD : Hid (IsI D la live) := hL.keep bD
  have OD : Hid (IsI D oa offs) := hO.keep bD
  have YD : Hid (IsB D ba bytes) := hB.keep bD
  have CD : Hid (Ic D w.heap.size p c s la live.length lc base oa offs.length oc ba bytes.length bc) := icell rD
  obtain ⟨c0, c1, c2, c3, c4, c5, c6⟩ := icell rD
  have HML : Hid (live.length ≤ maxLen) := hml
  have HMO : Hid (offs.length ≤ maxLen) := hmo
  have HMB : Hid (bytes.length ≤ maxLen) := hmb
  have HNB : Hid (ba = none → bytes = [] ∧ bc = 0) := hnb
  clear hD zD rD bD hL hO hB hml hmo hmb hnb
  cases h : rightG ⟨p, c, s, live, base, offs, bytes⟩
  · obtain ⟨e1, e2⟩ := out_no h
    have H : Hid (rightG ⟨p, c, s, live, base, offs, bytes⟩ = false) := h
    rw [e1, e2]
    clear h e1 e2
    go_enter Tryd.func10, Tryd.ntmps10
    go_upto_region 1 with (fail)
    rw [HD.out]
    go_wp2_with (go_at_call 14; refine (dright_any p c s base la oa ba _ lc _ oc _ bc live offs bytes false D rfl rfl rfl H.out LD.out OD.out HML.out HMO.out HMB.out).mono ?_; rintro e w1 ⟨rfl, b1⟩; have B1 : Hid (Below w.heap.size w w1) := BD.out.trans (b1.mono BD.out.size); clear b1)
    go_ret2
    exact ⟨none, 0, rfl, World.ownsRow_nil _ _ _ _, B1.out⟩
  obtain ⟨e1, e2⟩ := out_ok h
  have H : Hid (rightG ⟨p, c, s, live, base, offs, bytes⟩ = true) := h
  obtain ⟨h1, h2, h3, h4⟩ := right_parts.1 h
  have h1 : spOk p c s live = true := h1
  have r := newE_rt (spOk_iff.1 h1).1
  have hs : 0 ≤ s ∧ s ≤ 4096 := by
    by_cases hc : c < 7
    · have := r.sm hc; omega
    · have := r.lg (by have := r.c7; omega)
      have := pagesN_large this; omega
  have hq : 0 ≤ base ∧ base ≤ 1099511627776 := by
    rcases h4 with ⟨g1, g2, g3⟩ | ⟨g, _⟩
    · have g1 : 256 ≤ base := g1
      have g2 : base ≤ 1099511627776 := g2
      omega
    · have g : base = 0 := g
      omega
  obtain ⟨s0, s1⟩ := hs
  obtain ⟨q0, q1⟩ := hq
  have p0 := r.p0
  have p1 := r.p1
  have y0 := r.c0
  have y1 := r.c7
  have p2 : p ≤ 4096 := by omega
  have hsz := (size_bd h1).2.2
  have h2 : (bytes.length : Int) = sizeG p c s live := h2
  have h3 : rrightT (bytes.length : Nat) offs = true := h3
  have T0 : Hid (errT offs = 0) := (bytesT_ok (right_wide (by omega) h3)).2
  have BL := body_len h
  obtain ⟨X, hX⟩ : ∃ X, bodyG ⟨p, c, s, live, base, offs, bytes⟩ = X := ⟨_, rfl⟩
  obtain ⟨N, hN⟩ : ∃ N, slN c = N := ⟨_, rfl⟩
  have HN : Hid (slN c = N) := hN
  have RT : Hid (Rt p c s) := r
  have n16 : N ≤ 16 := by have := r.facts.2.1; omega
  have OK : Hid (okL N (-1) live = true) := by show _ = _; rw [← hN]; exact (spOk_iff.1 h1).2
  have EX : Hid (X = headG [p, c, s] 3 ++ bysL (fOf live) ((N + 7) / 8) ++ varL (base / 256) ++ bytesT offs ++ bytes) := by
    show _ = _
    rw [← hX, ← hN]
    simp [bodyG, bitsG, headG]
  have HCL : Hid (clampN (N : Nat) = N) := by show _ = _; rw [clampN, if_neg (by omega), if_neg (by omega)]; omega
  have XB : Hid (∀ x ∈ [p, c, s], 0 ≤ x ∧ x ≤ 4096) := fun x hx => by
    simp at hx
    rcases hx with rfl | rfl | rfl <;> omega
  have bl : (bysL (fOf live) ((N + 7) / 8)).length ≤ 3 := by rw [bysL_len]; omega
  have tl := bytesT_len offs
  have yl : bytes.length ≤ 4096 := by omega
  have vl := varL_le (base / 256)
  have hl3 := headG_le [p, c, s] 3 (by simp)
  have U4 : Hid (IntKind.u64.wrap (IntKind.i64.wrap (base.tdiv 256)) = base / 256) := by show _ = _; rw [Int.tdiv_eq_ediv_of_nonneg q0, IntKind.wrap_i64, IntKind.wrap_u64]; omega
  rw [e1, e2, hX]
  clear h e1 e2 h1 h2 h3 h4 r hsz BL hX hN
  have lm : live.length ≤ 9223372036854775807 := by have := HML.out; unfold maxLen at this; omega
  go_enter Tryd.func10, Tryd.ntmps10
  go_upto_region 1 with (fail)
  rw [HD.out]
  go_wp2_with fail
  refine (dright_any p c s base la oa ba _ lc _ oc _ bc live offs bytes true D rfl rfl rfl H.out LD.out OD.out HML.out HMO.out HMB.out).mono ?_
  rintro e w1 ⟨rfl, b1⟩
  have B1 : Hid (Below D.heap.size D w1) := b1
  obtain ⟨d0, d1, d2, d3, d4, d5, d6⟩ := CD.out.keep b1
  obtain ⟨W2, hW2⟩ : ∃ W2, w1.alloc (.cells #[.int .i64 p, .int .i64 c, .int .i64 s] 3) = W2 := ⟨_, rfl⟩
  have EW2 : Hid (w1.alloc (.cells #[.int .i64 p, .int .i64 c, .int .i64 s] 3) = W2) := hW2
  have b2 : Below w1.heap.size w1 W2 := by rw [← hW2]; exact (Below.refl _ _).alloc (Nat.le_refl _) _
  have r2 : W2.heap[w1.heap.size]? = some (.cells #[.int .i64 p, .int .i64 c, .int .i64 s] 3 (0, 0)) := by rw [← hW2]; exact Go.heap_alloc_new w1 _
  have z2 : w1.heap.size < W2.heap.size := (Array.getElem?_eq_some_iff.1 r2).1
  have B2 : Hid (Below D.heap.size D W2) := b1.trans (b2.mono b1.size)
  have I2 : Hid (∀ j, j < 3 → W2.cell? ⟨w1.heap.size, j, none⟩ = some (.int .i64 ([p, c, s].getD j 0))) := fun j hj => by
    rcases j with _ | _ | _ | j
    · exact cell_of_row _ _ 0 _ _ _ r2
    · exact cell_of_row _ _ 1 _ _ _ r2
    · exact cell_of_row _ _ 2 _ _ _ r2
    · omega
  have BW2 : Hid (Below w.heap.size w W2) := BD.out.trans (B2.out.mono BD.out.size)
  obtain ⟨G2, hG2⟩ : ∃ G2, w1.heap.size = G2 := ⟨_, rfl⟩
  rw [hG2] at I2 z2
  have Z2 : Hid (G2 < W2.heap.size) := z2
  clear b1 b2 r2 hW2 z2 c0 c1 c2 c3 c4 c5 c6
  go_wp2_with fail
  rw [EW2.out]
  clear hG2 d0 d2 d4 d5 d6
  go_loopw [4, 26] (fun ov iv wr => ∃ (j : Nat) (a' : Option Addr) (c' : Nat), j ≤ 3 ∧ iv = .int .i64 (j : Nat) ∧ ov = .slice a' (headG [p, c, s] j).length c' ∧ OwnsB wr W2.heap.size a' (headG [p, c, s] j) c' ∧ Below W2.heap.size W2 wr) (fun _ iv _ => 3 - (intOf iv).toNat)
  case atStart => exact ⟨0, none, 0, by omega, rfl, rfl, World.ownsRow_nil _ _ _ _, Below.refl _ _⟩
  case round =>
    obtain ⟨j, a3, k3, hj, rfl, rfl, o3, b3⟩ := hrel
    rename World => wr
    have O3 : Hid (OwnsB wr W2.heap.size a3 (headG [p, c, s] j) k3) := o3
    have B3 : Hid (Below W2.heap.size W2 wr) := b3
    have hl := headG_le [p, c, s] j hj
    clear o3 b3 d1 d3
    by_cases hlt : j < 3
    · have hcell := (B3.out.cell (p := ⟨G2, j, none⟩) Z2.out).trans (I2.out j hlt)
      have E := headG_succ [p, c, s] j hlt
      obtain ⟨x, hx⟩ : ∃ x, [p, c, s].getD j 0 = x := ⟨_, rfl⟩
      have hxb := XB.out x (by
        rw [← hx]
        rcases j with _ | _ | _ | j
        · simp
        · simp
        · simp
        · omega)
      rw [hx] at hcell E
      obtain ⟨x0, x1⟩ := hxb
      have EH : Hid (headG [p, c, s] (j + 1) = headG [p, c, s] j ++ varL x) := E
      have ux : IntKind.u64.wrap x = x := by rw [IntKind.wrap_u64]; omega
      have vx := varL_le x
      have zz : w.heap.size ≤ wr.heap.size := Nat.le_trans BW2.out.size B3.out.size
      clear hx E
      go_wp2_with fail
      refine (rvarw_any x _ x0 (by omega)).mono ?_
      rintro e w4 ⟨a4, k4, rfl, o4, b4⟩
      have I4 : Hid (IsB w4 a4 (varL x)) := ownsB_isB (varL_byte _ x0 (by omega)) o4
      have M4 : Hid (a4 = none → varL x = [] ∧ k4 = 0) := (rownsB_isL o4).2.2
      have O4 : Hid (OwnsB w4 W2.heap.size a3 (headG [p, c, s] j) k3) := O3.out.keep b4
      have B4 : Hid (Below W2.heap.size W2 w4) := B3.out.trans (b4.mono B3.out.size)
      have z4 : w.heap.size ≤ w4.heap.size := Nat.le_trans zz b4.size
      clear o4 b4
      have z5 : W2.heap.size ≤ w4.heap.size := B4.out.size
      go_wp2_with (at_builtin; refine rwpList_app rfl _ _ rfl W2.heap.size z5 a3 (headG [p, c, s] j) k3 rfl O4.out a4 (varL x) k4 rfl I4.out M4.out (by omega) ?_; rw [← EH.out]; intro a5 k5 w5 o5 b5; have O5 : Hid (OwnsB w5 W2.heap.size a5 (headG [p, c, s] (j + 1)) k5) := o5; have B5 : Hid (Below W2.heap.size W2 w5) := B4.out.trans b5; clear o5 b5)
      go_roundw
      case rel => exact ⟨j + 1, a5, k5, by omega, by go_num, rfl, O5.out, B5.out⟩
      case measure => simp [intOf]; omega
    · obtain rfl : j = 3 := by omega
      obtain ⟨HX, hHX⟩ : ∃ HX, headG [p, c, s] 3 = HX := ⟨_, rfl⟩
      rw [hHX] at O3 EX hl3
      rw [hHX]
      have BW : Hid (Below w.heap.size w wr) := BW2.out.trans (B3.out.mono BW2.out.size)
      have BDr : Hid (Below D.heap.size D wr) := B2.out.trans (B3.out.mono B2.out.size)
      have t1 := (CD.out.keep BDr.out).c1
      clear hHX hl
      go_wp2_with fail
      refine (qslots_rt p c s N _ RT.out HN.out).mono ?_
      rintro e wr' ⟨rfl, rfl⟩
      go_wp2_with fail
      refine (rnew_any _ _).mono ?_
      rw [HCL.out]
      rintro e w6 ⟨rfl, hw6⟩
      have b6 : Below wr.heap.size wr w6 := by rw [← hw6]; exact rnewW_below wr N
      have L6 : Hid (Lr D w6 (wr.heap.size + 1) wr.heap.size N (fOf (live.take 0)) a3 HX k3) := by
        refine ⟨?_, (O3.out.keep b6).mono B2.out.size, BDr.out.trans (b6.mono BDr.out.size), BDr.out.size, fun ad e => by have := ownsB_lt O3.out ad e; omega⟩
        rw [← hw6, List.take_zero, fOf_nil]
        exact rnewW_at wr N (by omega)
      have t3 := ((CD.out.keep BDr.out).keep b6).c3
      have BD6 : Hid (Below D.heap.size D w6) := BDr.out.trans (b6.mono BDr.out.size)
      obtain ⟨SB, hSB⟩ : ∃ SB, wr.heap.size + 1 = SB := ⟨_, rfl⟩
      obtain ⟨SG, hSG⟩ : ∃ SG, wr.heap.size = SG := ⟨_, rfl⟩
      rw [hSB, hSG] at L6
      have GD : Hid (D.heap.size ≤ SG) := by show _ ≤ _; rw [← hSG]; exact BDr.out.size
      rw [hSB]
      clear hw6 b6 hSB hSG t1
      go_wp2
      go_loopw [45] (fun iv wy => ∃ (k : Nat) (t : Int), k ≤ live.length ∧ iv = .int .i64 (k : Nat) ∧ (∀ i : Nat, fOf (live.take k) i = true → (i : Int) ≤ t) ∧ -1 ≤ t ∧ okL N t (live.drop k) = true ∧ Lr D wy SB SG N (fOf (live.take k)) a3 HX k3) (fun iv _ => live.length - (intOf iv).toNat)
      case atStart => exact ⟨0, -1, Nat.zero_le _, rfl, fun i hi => by simp [fOf] at hi, by omega, OK.out, L6.out⟩
      case round =>
        clear L6 t3
        obtain ⟨j, t, hj, rfl, hA, t0, hO, hS⟩ := hrel
        rename World => wy
        have HA : Hid (∀ i : Nat, fOf (live.take j) i = true → (i : Int) ≤ t) := hA
        have HO : Hid (okL N t (live.drop j) = true) := hO
        have HS : Hid (Lr D wy SB SG N (fOf (live.take j)) a3 HX k3) := hS
        have BY : Hid (Below D.heap.size D wy) := hS.low
        clear hA hO hS
        by_cases hlt : j < live.length
        · obtain ⟨hin, h0 | ⟨bb, off, rfl, hba, hc⟩⟩ := LD.out
          · rw [h0] at hlt; simp at hlt
          have hcell := (BY.out.cell (p := ⟨bb, off + j, none⟩) hba).trans (hc j hlt)
          have ST := HO.out
          rw [okL_step N t live j hlt, Bool.and_eq_true, decide_eq_true_eq] at ST
          have FM : Hid (0 ≤ live.getD j 0 → (fun x => if x = (live.getD j 0).toNat then true else fOf (live.take j) x) = fOf (live.take (j + 1))) := fun h0 => fOf_more live j hlt h0
          obtain ⟨x, hx⟩ : ∃ x, live.getD j 0 = x := ⟨_, rfl⟩
          rw [hx] at hcell ST FM
          obtain ⟨⟨x0, x1⟩, hO2⟩ := ST
          obtain ⟨y, rfl⟩ : ∃ y : Nat, x = y := ⟨x.toNat, by omega⟩
          have hp : isP N (y : Int) = true := isP_true.2 (by omega)
          have T : Hid (turn N (fOf (live.take j)) (y : Int) true = fOf (live.take (j + 1))) := by
            show _ = _
            rw [← FM.out (by omega)]
            funext z; rw [← turn_put hp z]; rfl
          have NA : Hid (∀ i : Nat, fOf (live.take (j + 1)) i = true → (i : Int) ≤ (y : Int)) := fun i hi => by
            rw [← FM.out (by omega)] at hi
            by_cases e : i = y
            · omega
            · have hi : (if i = (Int.toNat (y : Int)) then true else fOf (live.take j) i) = true := hi
              rw [if_neg (by simpa using e)] at hi
              have := HA.out i hi
              omega
          have NO : Hid (okL N (y : Int) (live.drop (j + 1)) = true) := hO2
          have yy : (y : Int) ≤ 16 := by omega
          clear hx hc hin hba hp hO2 x0 x1
          go_wp2_with (go_at_call 30; refine (put_any SB SG N (fOf (live.take j)) (y : Int) true wy HS.out.set).mono ?_; rw [T.out]; rintro e w7 ⟨rfl, s7, o7⟩; have S7 : Hid (Lr D w7 SB SG N (fOf (live.take (j + 1))) a3 HX k3) := ⟨s7, ownsB_only HS.out.own o7 HS.out.off, HS.out.low.trans (o7.below HS.out.gg), HS.out.gg, HS.out.off⟩; clear s7 o7)
          go_roundw
          case rel => exact ⟨j + 1, (y : Int), by omega, by go_num, NA.out, by omega, NO.out, S7.out⟩
          case measure => simp [intOf]; omega
        · have F : Hid (Lr D wy SB SG N (fOf live) a3 HX k3) := by have q := HS.out; rw [List.take_of_length_le (by omega)] at q; exact q
          obtain ⟨BS, hBS⟩ : ∃ BS, bysL (fOf live) ((N + 7) / 8) = BS := ⟨_, rfl⟩
          have AS : Hid (AllB BS) := by show AllB _; rw [← hBS]; exact bys_byte _ _
          have SBY : Hid (Calls Tryd.prog 31 #[.pointer (some ⟨SB, 0, none⟩)] wy fun e w' => ∃ a cap, e = .returned (.slice a BS.length cap) ∧ OwnsB w' wy.heap.size a BS cap ∧ Below wy.heap.size wy w') := by rw [← hBS]; exact srbytes_any SB SG N (fOf live) wy F.out.set
          rw [hBS] at EX bl
          clear hBS
          go_wp2_with fail
          refine Calls.mono SBY.out ?_
          rintro e w8 ⟨a8, k8, rfl, o8, b8⟩
          have I8 : Hid (IsB w8 a8 BS) := ownsB_isB AS.out o8
          have M8 : Hid (a8 = none → BS = [] ∧ k8 = 0) := (rownsB_isL o8).2.2
          have O8 : Hid (OwnsB w8 D.heap.size a3 HX k3) := F.out.own.keep b8
          have B8 : Hid (Below D.heap.size D w8) := F.out.low.trans (b8.mono F.out.low.size)
          have z8 := B8.out.size
          clear o8 b8
          obtain ⟨Y9, hY9⟩ : ∃ Y9, HX ++ BS = Y9 := ⟨_, rfl⟩
          obtain ⟨Y11, hY11⟩ : ∃ Y11, Y9 ++ varL (base / 256) = Y11 := ⟨_, rfl⟩
          obtain ⟨Y13, hY13⟩ : ∃ Y13, Y11 ++ bytesT offs = Y13 := ⟨_, rfl⟩
          have EX2 : Hid (Y13 ++ bytes = X) := by show _ = _; rw [EX.out, ← hY13, ← hY11, ← hY9]
          have l9 : Y9.length ≤ 40 := by rw [← hY9, List.length_append]; omega
          have l11 : Y11.length ≤ 60 := by rw [← hY11, List.length_append]; omega
          have l13 : Y13.length ≤ 90000 := by rw [← hY13, List.length_append]; omega
          have HY9 : Hid (HX ++ BS = Y9) := hY9
          have HY11 : Hid (Y9 ++ varL (base / 256) = Y11) := hY11
          have HY13 : Hid (Y11 ++ bytesT offs = Y13) := hY13
          clear hY9 hY11 hY13
          go_wp2_with (first
            | (at_builtin; refine rwpList_app rfl _ _ rfl D.heap.size z8 a3 HX k3 rfl O8.out a8 BS k8 rfl I8.out M8.out (by omega) ?_; rw [HY9.out]; intro a9 k9 w9 o9 b9; have O9 : Hid (OwnsB w9 D.heap.size a9 Y9 k9) := o9; have B9 : Hid (Below D.heap.size D w9) := B8.out.trans b9; have e4 := (CD.out.keep B9.out).c4; clear o9 b9)
            | fail)
          refine (rvarw_any (base / 256) _ (by omega) (by omega)).mono ?_
          rintro e w10 ⟨a10, k10, rfl, o10, b10⟩
          have I10 : Hid (IsB w10 a10 (varL (base / 256))) := ownsB_isB (varL_byte _ (by omega) (by omega)) o10
          have M10 : Hid (a10 = none → varL (base / 256) = [] ∧ k10 = 0) := (rownsB_isL o10).2.2
          have O10 : Hid (OwnsB w10 D.heap.size a9 Y9 k9) := O9.out.keep b10
          have B10 : Hid (Below D.heap.size D w10) := B9.out.trans (b10.mono B9.out.size)
          have z10 := B10.out.size
          clear o10 b10 e4
          go_wp2_with (first
            | (at_builtin; refine rwpList_app rfl _ _ rfl D.heap.size z10 a9 Y9 k9 rfl O10.out a10 (varL (base / 256)) k10 rfl I10.out M10.out (by omega) ?_; rw [HY11.out]; intro a11 k11 w11 o11 b11; have O11 : Hid (OwnsB w11 D.heap.size a11 Y11 k11) := o11; have B11 : Hid (Below D.heap.size D w11) := B10.out.trans b11; have e5 := (CD.out.keep B11.out).c5; clear o11 b11)
            | fail)
          refine (robytes_any oa oc offs _ (OD.out.keep B11.out) HMO.out).mono ?_
          rw [T0.out]
          rintro e w12 ⟨a12, k12, rfl, o12, b12⟩
          have I12 : Hid (IsB w12 a12 (bytesT offs)) := ownsB_isB (bytesT_byte _) o12
          have M12 : Hid (a12 = none → bytesT offs = [] ∧ k12 = 0) := (rownsB_isL o12).2.2
          have O12 : Hid (OwnsB w12 D.heap.size a11 Y11 k11) := O11.out.keep b12
          have B12 : Hid (Below D.heap.size D w12) := B11.out.trans (b12.mono B11.out.size)
          have z12 := B12.out.size
          clear o12 b12 e5
          go_wp2_with (first
            | (at_builtin; have q14 := O14.out; refine rwpList_app rfl _ _ rfl D.heap.size z14 a13 Y13 k13 rfl O14.out ba bytes bc rfl (YD.out.keep B13.out) HNB.out (by omega) ?_; rw [EX2.out]; intro a15 k15 w15 o15 b15; have O15 : Hid (OwnsB w15 D.heap.size a15 X k15) := o15; have B15 : Hid (Below D.heap.size D w15) := B13.out.trans b15; clear o15 b15)
            | (at_builtin; refine rwpList_app rfl _ _ rfl D.heap.size z12 a11 Y11 k11 rfl O12.out a12 (bytesT offs) k12 rfl I12.out M12.out (by omega) ?_; rw [HY13.out]; intro a13 k13 w13 o13 b13; have O14 : Hid (OwnsB w13 D.heap.size a13 Y13 k13) := o13; have B13 : Hid (Below D.heap.size D w13) := B12.out.trans b13; have e6 := (CD.out.keep B13.out).c6; have z14 := B13.out.size; clear o13 b13))
          go_ret2
          exact ⟨a15, k15, rfl, O15.out.mono BD.out.size, BD.out.trans (B15.out.mono BD.out.size)⟩
end Go.Proofs.YtbajchidpffbpaaDoor
