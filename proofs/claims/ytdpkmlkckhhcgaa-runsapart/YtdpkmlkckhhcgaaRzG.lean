/- What the law RunsApart goes through, where the second list has no more than a hundred calls. -/
import Derived.Test.YtdpkmlkckhhcgaaRzD
namespace Go.Proofs.Ytdpkmlkckhhcgaa
open Go.RowKit
set_option linter.unusedVariables false

set_option maxRecDepth 100000 in
set_option maxHeartbeats 16000000 in
theorem runsApart_B (nn : Nat) (a : Option Addr) (cap L : Nat) (kd xx kk : Nat → Int) (am : Option Addr) (capm LM : Nat) (kdm xxm kkm : Nat → Int) (w : World) (hn : nn < 65536) (hC : IsC w a L kd xx kk) (hl : L ≤ maxLen) (hD : IsC w am LM kdm xxm kkm) (hlm : LM ≤ maxLen) (hcase : LM ≤ 100) :
    Calls Try.prog 7 #[.int .u16 (nn : Nat), .slice a L cap, .slice am LM capm] w fun e w' => e = .returned (.bool true) ∧ Below w.heap.size w w' := by
  have HC : Hid (IsC w a L kd xx kk) := hC
  have HD : Hid (IsC w am LM kdm xxm kkm) := hD
  clear hC hD
  unfold maxLen at hlm
  go_enter Try.func7, Try.ntmps7
  go_wp2_with fail
  refine (alive_any _).mono ?_
  rintro e w1 ⟨rfl, b1⟩
  have B1 : Hid (Below w.heap.size w w1) := b1
  clear b1
  go_wp2_with fail
  refine (plays_any nn a cap L kd xx kk w1 hn (HC.out.keep B1.out) hl).mono ?_
  rintro e w2 ⟨b, mb, mg, f, rfl, hP⟩
  obtain ⟨N, hN⟩ : ∃ N, nn % 600 = N := ⟨_, rfl⟩
  have hN6 : N ≤ 65536 := by omega
  rw [hN] at hP
  have P2 : Hid (Played w1 w2 b mb mg N f) := hP
  obtain ⟨l, hlE⟩ : ∃ l, (freeL f N).length = l := ⟨_, rfl⟩
  have EL : Hid ((freeL f N).length = l) := hlE
  have hll : l ≤ N := by rw [← hlE]; exact freeL_len f N
  clear hP hN hlE HC hl
  go_wp2_with fail
  refine (rfree_any mb mg N f _ P2.out.two.ref hN6).mono ?_
  rw [EL.out]
  rintro e w3 ⟨a3, c3, rfl, l3, g3, b3⟩
  have P3 : Hid (Played w1 w3 b mb mg N f) := P2.out.keep b3
  have X3 : Hid (IsL w3 a3 (freeL f N) ∧ (∀ ad : Addr, a3 = some ad → w2.heap.size ≤ ad.block) ∧ Below w2.heap.size w2 w3) := ⟨l3, g3, b3⟩
  clear l3 g3 b3
  go_wp2_with fail
  refine (copy_any (Mine w1.heap.size mb mg) b N f _ P3.out.two.isR hN6).mono ?_
  rintro e w4 ⟨bc, rfl, i4, b4⟩
  obtain ⟨Z2, Z3, Z4, h4⟩ : ∃ Z2 Z3 Z4, Ph1 w1 w4 Z2 Z3 Z4 b mb mg bc N f f a3 := ⟨_, _, _, ph1_start P2.out X3.out.1 X3.out.2.1 X3.out.2.2 i4 b4⟩
  have H4 : Hid (Ph1 w1 w4 Z2 Z3 Z4 b mb mg bc N f f a3) := h4
  clear h4 i4 b4 P2 P3 X3
  go_wp2
  go_loopw [12] (fun iv wr => ∃ (i : Nat) (g : Nat → Bool), i ≤ LM ∧ iv = .int .i64 (i : Nat) ∧ Ph1 w1 wr Z2 Z3 Z4 b mb mg bc N f g a3) (fun iv _ => LM - (intOf iv).toNat)
  case atStart => exact ⟨0, f, Nat.zero_le _, rfl, H4.out⟩
  case round =>
    clear H4
    obtain ⟨i, g, hi, rfl, hP⟩ := hrel
    rename World => wr
    have HP : Hid (Ph1 w1 wr Z2 Z3 Z4 b mb mg bc N f g a3) := hP
    clear hP
    by_cases hlt : i < LM
    · obtain ⟨hrg, h0 | ⟨ba, off, rfl, hba, hc⟩⟩ := HD.out
      · omega
      · obtain ⟨c0, c1, c2⟩ := hc i (by omega)
        obtain ⟨r1, r2⟩ := hrg i (by omega)
        obtain ⟨v0, hv0⟩ : ∃ v, kdm i = v := ⟨_, rfl⟩
        obtain ⟨v1, hv1⟩ : ∃ v, xxm i = v := ⟨_, rfl⟩
        obtain ⟨v2, hv2⟩ : ∃ v, kkm i = v := ⟨_, rfl⟩
        rw [hv0] at c0
        rw [hv1] at c1 r1
        rw [hv2] at c2 r2
        have BW := B1.out.trans (HP.out.low.mono B1.out.size)
        have d0 := bcellL BW hba c0
        have d1 := bcellL BW hba c1
        have d2 := bcellL BW hba c2
        have hlt' : (i : Int) < (LM : Int) := by omega
        have hltb : (i : Int) < 100 := by omega
        clear hc hrg hv0 hv1 hv2 c0 c1 c2 BW
        go_wp2_with (go_at_call 11; refine (do_any (UnS w1.heap.size mb mg Z2 Z4) b mb mg N g v0 v1 v2 _ HP.out.two hN6 r1 r2).mono ?_; rintro e w9 ⟨rfl, f9, t9, u9⟩; have P9 : Hid (Ph1 w1 w9 Z2 Z3 Z4 b mb mg bc N f f9 a3) := HP.out.next t9 u9; clear t9 u9)
        go_roundw
        case rel => exact ⟨i + 1, f9, by omega, by go_num, P9.out⟩
        case measure => simp [intOf]; omega
    · obtain rfl : LM = i := by omega
      obtain ⟨lg, hlg⟩ : ∃ l, (freeL g N).length = l := ⟨_, rfl⟩
      have EG : Hid ((freeL g N).length = lg) := hlg
      have hlgN : lg ≤ N := by rw [← hlg]; exact freeL_len g N
      clear hlg
      go_wp2_with fail
      refine (free_any (UnS w1.heap.size mb mg Z2 Z4) b N g _ HP.out.two.isR hN6).mono ?_
      rw [EG.out]
      rintro e w5 ⟨rfl, r5, b5⟩
      have P5 : Hid (Ph1 w1 w5 Z2 Z3 Z4 b mb mg bc N f g a3) := HP.out.keep b5
      obtain ⟨G, hG⟩ : ∃ G, wr.heap.size = G := ⟨_, rfl⟩
      have hGZ : Z4 ≤ G := by rw [← hG]; exact HP.out.z4
      rw [hG] at r5 ⊢
      have R5 : Hid (Row w5 G (freeL g N)) := r5
      clear r5 b5 hG
      go_wp2_with fail
      refine (free_any (CpS Z3 Z4) bc N f _ P5.out.cp hN6).mono ?_
      rw [EL.out]
      rintro e w6 ⟨rfl, r6, b6⟩
      have P6 : Hid (Ph1 w1 w6 Z2 Z3 Z4 b mb mg bc N f g a3) := P5.out.keep b6
      have R6 : Hid (Row w6 G (freeL g N)) := R5.out.keep b6
      have SM : Hid (Calls Try.prog 12 #[.slice (some ⟨w5.heap.size, 0, none⟩) l l, .slice a3 l c3] w6 fun e w' => e = .returned (.bool true) ∧ ∃ m, w' = w6.drewN m) := by
        have q := same_any (some ⟨w5.heap.size, 0, none⟩) a3 l c3 (freeL f N) w6 (row_isL0 r6) P6.out.was (by rw [EL.out]; omega)
        rw [EL.out] at q
        exact q
      clear r6 b6 R5 P5
      go_wp2_with fail
      refine SM.out.mono ?_
      rintro e w7 ⟨rfl, m7, hw7⟩
      have P7 : Hid (Ph1 w1 w7 Z2 Z3 Z4 b mb mg bc N f g a3) := by rw [hw7]; exact P6.out.keep (belowN m7)
      have R7 : Hid (Row w7 G (freeL g N)) := by rw [hw7]; exact R6.out
      have CL : Hid (Calls Try.prog 15 #[.pointer (some ⟨bc, 0, none⟩)] w7 fun e w' => e = .returned (.int .i64 (N : Nat)) ∧ w7 = w') := len_any (CpS Z3 Z4) bc N f w7 P7.out.cp
      have CM : Hid (Calls Try.prog 15 #[.pointer (some ⟨b, 0, none⟩)] w7 fun e w' => e = .returned (.int .i64 (N : Nat)) ∧ w7 = w') := len_any (UnS w1.heap.size mb mg Z2 Z4) b N g w7 P7.out.two.isR
      obtain ⟨Z7, h8⟩ : ∃ Z7, Ph2 w1 w7 Z2 Z3 Z4 Z7 b mb mg bc N G g f := ⟨_, ph2_start P7.out R7.out hGZ⟩
      have H8 : Hid (Ph2 w1 w7 Z2 Z3 Z4 Z7 b mb mg bc N G g f) := h8
      clear hw7 h8 SM P6 R6 P7 R7 HP
      go_wp2_with fail
      refine CL.out.mono ?_
      rintro e w' ⟨rfl, rfl⟩
      go_wp2_with fail
      refine CM.out.mono ?_
      rintro e w' ⟨rfl, rfl⟩
      clear CL CM
      go_wp2
      go_loopw [14] (fun iv wr => ∃ (i : Nat) (h : Nat → Bool), i ≤ LM ∧ iv = .int .i64 (i : Nat) ∧ Ph2 w1 wr Z2 Z3 Z4 Z7 b mb mg bc N G g h) (fun iv _ => LM - (intOf iv).toNat)
      case atStart => exact ⟨0, f, Nat.zero_le _, rfl, H8.out⟩
      case round =>
        clear H8
        obtain ⟨i, h, hi, rfl, hP⟩ := hrel
        rename World => wy
        have HP : Hid (Ph2 w1 wy Z2 Z3 Z4 Z7 b mb mg bc N G g h) := hP
        clear hP
        by_cases hlt : i < LM
        · obtain ⟨hrg, h0 | ⟨ba, off, rfl, hba, hc⟩⟩ := HD.out
          · omega
          · obtain ⟨c0, c1, c2⟩ := hc i (by omega)
            obtain ⟨r1, r2⟩ := hrg i (by omega)
            obtain ⟨v1, hv1⟩ : ∃ v, xxm i = v := ⟨_, rfl⟩
            obtain ⟨v2, hv2⟩ : ∃ v, kkm i = v := ⟨_, rfl⟩
            rw [hv1] at c1 r1
            rw [hv2] at c2 r2
            have BW := B1.out.trans (HP.out.low.mono B1.out.size)
            have d1 := bcellL BW hba c1
            have d2 := bcellL BW hba c2
            have C1 : Hid (w.cell? ⟨ba, off + i * 3 + 1, none⟩ = some (.int .i64 v1)) := c1
            have CC : Hid (w.cell? ⟨ba, off + i * 3 + 2, none⟩ = some (.int .i64 v2)) := c2
            have hlt' : (i : Int) < (LM : Int) := by omega
            have hltb : (i : Int) < 100 := by omega
            clear hc hrg hv1 hv2 c0 c1 c2 BW
            go_wp2_with fail
            go_region_held3 (fun w' => w'.cell? ⟨ba, off + i * 3 + 1, none⟩ = some (.int .i64 v1) ∧ w'.cell? ⟨ba, off + i * 3 + 2, none⟩ = some (.int .i64 v2)) (first | assumption | exact ⟨by assumption, by assumption⟩ | go_keep)
              ((go_at_call 20; refine (give_any (CpT Z3 Z4 Z7) bc N h v1 v2 _ HP.out.drew.cp HP.out.drew.hS hN6 r1 r2).mono ?_; rintro e w8 ⟨r8, f8, rfl, t8, i8, u8⟩; have P8 : Hid (Ph2 w1 w8 Z2 Z3 Z4 Z7 b mb mg bc N G g f8) := HP.out.drew.next i8 u8; have e1 : w8.cell? ⟨ba, off + i * 3 + 1, none⟩ = some (.int .i64 v1) := bcellL (B1.out.trans (P8.out.low.mono B1.out.size)) hba C1.out; have e2 : w8.cell? ⟨ba, off + i * 3 + 2, none⟩ = some (.int .i64 v2) := bcellL (B1.out.trans (P8.out.low.mono B1.out.size)) hba CC.out; clear t8 i8 u8))
            go_wp2_with fail
            refine (take_any (CpT Z3 Z4 Z7) bc N f8 v2 _ P8.out.cp P8.out.hS hN6 r2).mono ?_
            rintro e w9 ⟨x9, r9, f9, rfl, t9, i9, u9⟩
            have P9 : Hid (Ph2 w1 w9 Z2 Z3 Z4 Z7 b mb mg bc N G g f9) := P8.out.next i9 u9
            clear t9 i9 u9
            go_wp2
            go_roundw
            case rel => exact ⟨i + 1, f9, by omega, by go_num, P9.out⟩
            case measure => simp [intOf]; omega
        · obtain rfl : LM = i := by omega
          go_wp2_with fail
          refine (free_any (UnT w1.heap.size mb mg Z2 Z4 Z7) b N g _ HP.out.og hN6).mono ?_
          rw [EG.out]
          rintro e wa ⟨rfl, ra, ba⟩
          have PA : Hid (Ph2 w1 wa Z2 Z3 Z4 Z7 b mb mg bc N G g h) := HP.out.keep ba
          obtain ⟨Gl, hGl⟩ : ∃ Gl, wy.heap.size = Gl := ⟨_, rfl⟩
          have hGZ7 : Z7 ≤ Gl := by rw [← hGl]; exact HP.out.z7
          rw [hGl] at ra ⊢
          have RA : Hid (Row wa Gl (freeL g N)) := ra
          clear ra ba hGl HP
          go_wp2
          go_loopw [96] (fun iv wx => ∃ (i : Nat) (ys : List (Nat × Nat)), i ≤ lg ∧ iv = .int .i64 (i : Nat) ∧ Row wx Gl ys ∧ ys.length = lg ∧ Only Gl wa wx) (fun iv _ => lg - (intOf iv).toNat)
          case atStart => exact ⟨0, freeL g N, Nat.zero_le _, rfl, RA.out, EG.out, Only.refl _ _⟩
          case round =>
            obtain ⟨i, ys, hi, rfl, hR, hy, hO⟩ := hrel
            rename World => wx
            have HR : Hid (Row wx Gl ys) := hR
            have HO : Hid (Only Gl wa wx) := hO
            have HY : Hid (ys.length = lg) := hy
            by_cases hlt : i < lg
            · have hiy : i < ys.length := by rw [HY.out]; exact hlt
              have e0 := hR.cell0 i hiy
              have e1 := hR.cell1 i hiy
              obtain ⟨y, hyy⟩ : ∃ y, ys[i] = y := ⟨_, rfl⟩
              rw [hyy] at e0 e1
              clear hyy
              have f0 := hR.thawed (i * 2)
              have f1 := hR.thawed (i * 2 + 1)
              have hlt' : (i : Int) < (lg : Int) := by omega
              have RS : Hid (Row ((wx.setCell ⟨Gl, i * 2, none⟩ (.int .i64 ((0 : Nat) : Int))).setCell ⟨Gl, i * 2 + 1, none⟩ (.int .i64 ((0 : Nat) : Int))) Gl (ys.set i (0, 0))) := hR.set2 i 0 0
              clear hR hO hy hiy
              go_wp2
              go_roundw
              case rel => exact ⟨i + 1, _, by omega, by go_num, RS.out, by rw [List.length_set]; exact HY.out, HO.out.trans (Only.set2 _ _ _ _ _ _)⟩
              case measure => simp [intOf]; omega
            · obtain rfl : lg = i := by omega
              obtain ⟨og, nw, lo⟩ := PA.out.only hO hGZ7
              have OG : Hid (IsR wx (UnT w1.heap.size mb mg Z2 Z4 Z7) b N g) := og
              have NW : Hid (Row wx G (freeL g N)) := nw
              have LO : Hid (Below w1.heap.size w1 wx) := lo
              clear og nw lo hR hO hy HR HO HY
              go_wp2_with fail
              refine (free_any (UnT w1.heap.size mb mg Z2 Z4 Z7) b N g _ OG.out hN6).mono ?_
              rw [EG.out]
              rintro e wb ⟨rfl, rb, bb⟩
              have SM : Hid (Calls Try.prog 12 #[.slice (some ⟨wx.heap.size, 0, none⟩) lg lg, .slice (some ⟨G, 0, none⟩) lg lg] wb fun e w' => e = .returned (.bool true) ∧ ∃ m, w' = wb.drewN m) := by
                have q := same_any (some ⟨wx.heap.size, 0, none⟩) (some ⟨G, 0, none⟩) lg lg (freeL g N) wb (row_isL0 rb) (row_isL0 (NW.out.keep bb)) (by rw [EG.out]; omega)
                rw [EG.out] at q
                exact q
              have LB : Hid (Below w.heap.size w wb) := B1.out.trans ((LO.out.trans (bb.mono LO.out.size)).mono B1.out.size)
              clear rb bb
              go_wp2_with fail
              refine SM.out.mono ?_
              rintro e wz ⟨rfl, mz, hz⟩
              have LZ : Hid (Below w.heap.size w wz) := by rw [hz]; exact ⟨LB.out.os, LB.out.tape, LB.out.output, LB.out.size, LB.out.block⟩
              clear hz
              go_wp2
              go_ret
              exact ⟨rfl, LZ.out⟩
end Go.Proofs.Ytdpkmlkckhhcgaa
