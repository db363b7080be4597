/- What the law DiskPlays goes through. -/
import Derived.Test.YtddkmmkhlfjhiaaDlF
namespace Go.Proofs.Ytddkmmkhlfjhiaa
open Go.ChangeShapes Go.WideShapes Go.ChangeAt Go.RowKit Go.Maps
set_option linter.unusedVariables false

set_option maxRecDepth 100000 in
set_option maxHeartbeats 16000000 in
theorem diskPlays_any (n : Int) (a : Option Addr) (cap : Nat) (cs : List Cl) (w : World) (h0 : 0 ≤ n) (h1 : n ≤ 255) (hC : IsC w a cs) (hl : cs.length ≤ maxLen) (hsz : ∀ x ∈ cs, x.b.length ≤ 140737488355328 ∧ x.ks.length ≤ 17592186044416) :
    Calls Try.prog 3 #[.int .u8 n, .slice a cs.length cap] w fun r w' => r = .returned (.bool true) ∧ Below w.heap.size w w' := by
  have HC : Hid (IsC w a cs) := hC
  have HS : Hid (∀ x ∈ cs, x.b.length ≤ 140737488355328 ∧ x.ks.length ≤ 17592186044416) := hsz
  have LW : Hid (∀ bb oo, a = some ⟨bb, oo, none⟩ → cs ≠ [] → bb < w.heap.size) := fun bb oo e hne => by
    rcases hC.at' with h | ⟨b, off, e', hs, _⟩
    · exact absurd h hne
    · rw [e] at e'; cases e'; exact hs
  obtain ⟨N, hN⟩ : ∃ N, 8 + n.toNat % 32 = N := ⟨_, rfl⟩
  have EN : Hid (8 + n.toNat % 32 = N) := hN
  have N8 : 8 ≤ N ∧ N ≤ 39 := by omega
  have H0 : Hid (0 ≤ n ∧ n ≤ 255) := ⟨h0, h1⟩
  clear hC hsz hN h0 h1
  unfold maxLen at hl
  go_enter Try.func3, Try.ntmps3
  go_wp2_with fail
  refine (alive_any _).mono ?_
  rintro e w1 ⟨rfl, b1⟩
  have B1 : Hid (Below w.heap.size w w1) := b1
  have z1 := b1.size
  clear b1
  go_wp2_with fail
  refine (size_any n _ H0.out.1 H0.out.2).mono ?_
  rw [EN.out]
  rintro e w' ⟨rfl, rfl⟩
  go_wp2_with fail
  refine (new_fit N w1 N8.1 (by omega)).mono ?_
  rintro e w2 ⟨rfl, hw2⟩
  have D2 : Hid (IsD w2 w.heap.size (w1.heap.size + 2) 0 (newD N)) := by show IsD _ _ _ _ _; rw [← hw2]; exact newW_is w1 _ N z1 (by omega)
  have B2 : Hid (Below w.heap.size w w2) := by show Below _ _ _; rw [← hw2]; exact B1.out.trans ((newW_below w1 N).mono z1)
  obtain ⟨b, hb⟩ : ∃ b, w1.heap.size + 2 = b := ⟨_, rfl⟩
  rw [hb] at D2 ⊢
  clear hw2 hb B1 z1
  go_wp2_with fail
  refine (size_any n _ H0.out.1 H0.out.2).mono ?_
  rw [EN.out]
  rintro e w' ⟨rfl, rfl⟩
  go_wp2_with fail
  refine (rnew_fit N w2 N8.1 (by omega)).mono ?_
  rintro e w3 ⟨as0, c0, gs, rfl, m3⟩
  have P3 : Hid (Pl w w3 b w2.heap.size 0 (fun _ => True) (newD N)) := ⟨D2.out.keep m3.below, m3.done (by omega) B2.out.size (fun _ _ => trivial), Nat.le_refl _, Nat.le_refl _, B2.out.trans (m3.below.mono B2.out.size)⟩
  obtain ⟨br, hbr⟩ : ∃ br, w2.heap.size = br := ⟨_, rfl⟩
  rw [hbr] at P3 ⊢
  clear m3 hbr B2 D2
  go_wp2_with fail
  go_loopw [9] (fun iv wr => ∃ (i : Nat) (d : Dk), i ≤ cs.length ∧ i ≤ 200 ∧ iv = .int .i64 (i : Nat) ∧ Pl w wr b br i (fun _ => True) d) (fun iv _ => 200 - (intOf iv).toNat)
  case atStart => exact ⟨0, _, Nat.zero_le _, Nat.zero_le _, rfl, P3.out⟩
  case round =>
    clear P3
    obtain ⟨i, d, hi, hi1, rfl, hP⟩ := hrel
    rename World => wr
    have HP : Hid (Pl w wr b br i (fun _ => True) d) := hP
    have zr := hP.low.size
    clear hP
    by_cases hlt : i < cs.length ∧ i < 200
    · obtain ⟨h1, h2⟩ := hlt
      have hC := HC.out.keep HP.out.low
      obtain h0 | ⟨cb, off, rfl, hcb, hcell⟩ := hC.at'
      · rw [h0] at h1; simp at h1
      · have hcbl := LW.out cb off rfl (fun e => by rw [e] at h1; simp at h1)
        obtain ⟨x, hx⟩ : ∃ x, cs[i] = x := ⟨_, rfl⟩
        obtain ⟨q0, q1, q2, q3⟩ := hcell i h1
        have HX : Hid (∀ w', Below w.heap.size w w' → ClOk w' x) := fun w' hb => hx ▸ (HC.out.keep hb).body cs[i] (List.getElem_mem h1)
        have HL : Hid (x.b.length ≤ 140737488355328 ∧ x.ks.length ≤ 17592186044416) := hx ▸ HS.out cs[i] (List.getElem_mem h1)
        rw [hx] at q0 q1 q2 q3
        have d1 : decide ((i : Int) < (cs.length : Int)) = true := by simp; omega
        have d2 : decide ((i : Int) < 200) = true := by simp; omega
        clear hC hcell hx
        obtain ⟨kd, «at», xa, xc, xb, xka, xkc, xks⟩ := x
        dsimp only at q0 q1 q2 q3
        have LB : Hid (xb.length ≤ 140737488355328 ∧ xks.length ≤ 17592186044416) := HL.out
        clear HL
        have XA : Hid ((wr.alloc (.cells #[.int .i64 kd, .int .i64 «at», .slice xa xb.length xc, .slice xka xks.length xkc] 35)).heap[wr.heap.size]? = some (.cells #[.int .i64 kd, .int .i64 «at», .slice xa xb.length xc, .slice xka xks.length xkc] 35 (0, 0))) := Go.heap_alloc_new wr _
        have PA : Hid (Pl w (wr.alloc (.cells #[.int .i64 kd, .int .i64 «at», .slice xa xb.length xc, .slice xka xks.length xkc] 35)) b br i (fun _ => True) d) := HP.out.keep ((Below.refl _ wr).alloc (Nat.le_refl _) _)
        go_wp2_with fail
        generalize wr.alloc (.cells #[.int .i64 kd, .int .i64 «at», .slice xa xb.length xc, .slice xka xks.length xkc] 35) = wA at XA PA ⊢
        have zA := PA.out.low.size
        refine (copy_any _ _ _ xb _ rfl ((HX.out _ PA.out.low).isB) LB.out.1).mono ?_
        rintro e w1 ⟨gi, ci, rfl, o1, b1⟩
        have gw : gi < w1.heap.size := by
          obtain ⟨cur, hcu⟩ := (Buf.ofOwns o1 (HX.out _ PA.out.low).isB.1).block
          exact (Array.getElem?_eq_some_iff.1 hcu).1
        have GI : wA.heap.size ≤ gi := own_ge o1 gi rfl
        have P1 : Hid (Pl w w1 b br i (fun g => g ≠ gi) d) := Pl.keep (wr := wA) ⟨PA.out.isD, PA.out.isR.mono (fun g hg _ => by omega), PA.out.ops, PA.out.pend, PA.out.low⟩ b1
        have X1 : Hid (w1.heap[wr.heap.size]? = some (.cells #[.int .i64 kd, .int .i64 «at», .slice xa xb.length xc, .slice xka xks.length xkc] 35 (0, 0))) := by
          show w1.heap[wr.heap.size]? = _
          rw [b1.block _ (Array.getElem?_eq_some_iff.1 XA.out).1]; exact XA.out
        have O1 : Hid (OwnsB w1 wA.heap.size (some ⟨gi, 0, none⟩) xb ci) := o1
        have AT : Hid (-9223372036854775808 ≤ «at» ∧ «at» ≤ 9223372036854775807) := (HX.out _ PA.out.low).at
        have c0 : w1.cell? ⟨wr.heap.size, 0, none⟩ = some (.int .i64 kd) := cell_of_row _ _ _ _ _ _ X1.out
        have c1 : w1.cell? ⟨wr.heap.size, 1, none⟩ = some (.int .i64 «at») := cell_of_row _ _ _ _ _ _ X1.out
        have c2 : w1.cell? ⟨wr.heap.size, 2, none⟩ = some (.slice xa xb.length xc) := cell_of_row _ _ _ _ _ _ X1.out
        have c3 : w1.cell? ⟨wr.heap.size, 3, none⟩ = some (.slice xka xks.length xkc) := cell_of_row _ _ _ _ _ _ X1.out
        have hgz : w.heap.size ≤ gi := by omega
        clear o1 b1 XA PA HP q0 q1 q2 q3 zr
        generalize wr.heap.size = qc at X1 c0 c1 c2 c3 ⊢
        go_upto_block 2 with (fail)
        go_cut [12] from 56 to 158 (fun v wx => v = .bool true ∧ ∃ d', Pl w wx b br (i + 1) (fun _ => True) d')
        case first =>
          have hkd : kd = 1 ∨ kd = 2 ∨ kd = 3 ∨ kd = 4 ∨ kd = 5 ∨ (kd ≠ 1 ∧ kd ≠ 2 ∧ kd ≠ 3 ∧ kd ≠ 4 ∧ kd ≠ 5) := by omega
          rcases hkd with rfl | rfl | rfl | rfl | rfl | ⟨k1, k2, k3, k4, k5⟩
          · obtain ⟨w1', hw1'⟩ : ∃ w', w' = w1 := ⟨_, rfl⟩
            clear c0 c2 c3 O1 hw1' w1'
            by_cases hc : closedE d «at» = 0
            · have HCL : Hid (closedE d «at» = 0) := hc
              have RL : Hid ((readL d «at»).length = 64 ∧ AllB (readL d «at»)) := readL_ok P1.out.isD.ok hc
              clear hc
              go_wp2_with fail
              refine (read_open _ b i d «at» _ P1.out.isD HCL.out).mono ?_
              rintro e w2 ⟨rfl, r2, b2⟩
              have R2 : Hid (RowB w2 w1.heap.size 71 (readL d «at»)) := r2
              have P2 : Hid (Pl w w2 b br i (fun g => g ≠ gi) d) := P1.out.keep b2
              have s1 : w2.cell? ⟨qc, 1, none⟩ = some (.int .i64 «at») := (b2.cell (p := ⟨qc, 1, none⟩) (Array.getElem?_eq_some_iff.1 X1.out).1).trans c1
              have zq : w.heap.size ≤ w1.heap.size := P1.out.low.size
              generalize w1.heap.size = q at R2 zq ⊢
              clear r2 b2 c1 X1 P1 gw GI
              go_wp2_with fail
              refine (rread_open _ br _ d «at» _ P2.out.isR HCL.out (by have := P2.out.pend; omega)).mono ?_
              rintro e w3 ⟨g, rfl, r3, b3⟩
              have R3 : Hid (RowB w3 q 71 (readL d «at»)) := R2.out.keep b3
              have Y3 : Hid (RowB w3 g 5 (readL d «at»)) := r3
              have P3 : Hid (Pl w w3 b br i (fun g => g ≠ gi) d) := P2.out.keep b3
              clear r3 b3 s1 R2 P2
              go_wp2_with fail
              refine (same_true _ _ _ _ _ _ (readL d «at») _ (R3.out.isB RL.out.2) (Y3.out.isB RL.out.2) RL.out.1.symm RL.out.1.symm).mono ?_
              rintro e w' ⟨rfl, rfl⟩
              have F3 : Hid (Buf w3 q 71 (readL d «at»)) := Buf.ofRow R3.out RL.out.2
              clear Y3
              go_wp2_with fail
              go_loopw [84] (fun iv wx => ∃ (k : Nat) (l' : List Int), k ≤ 64 ∧ iv = .int .i64 (k : Nat) ∧ l'.length = 64 ∧ Buf wx q 71 l' ∧ Only q w3 wx) (fun iv _ => 64 - (intOf iv).toNat)
              case atStart => exact ⟨0, _, Nat.zero_le _, rfl, RL.out.1, F3.out, Only.refl _ _⟩
              case round =>
                obtain ⟨k, l', hk, rfl, hll, hF, hO⟩ := hrel
                rename World => wx
                by_cases hlt : k < 64
                · have hcell := hF.cell (i := k) (by omega)
                  have hfz := hF.thawed k
                  obtain ⟨x, hx⟩ : ∃ x, l'.getD k 0 = x := ⟨_, rfl⟩
                  rw [hx] at hcell
                  have NF : Hid (Buf (wx.setCell ⟨q, k, none⟩ (.int .u8 (IntKind.u8.wrap (x + 1)))) q 71 (l'.set k (IntKind.u8.wrap (x + 1)))) := hF.set (up_byte x)
                  have NO : Hid (Only q w3 (wx.setCell ⟨q, k, none⟩ (.int .u8 (IntKind.u8.wrap (x + 1))))) := hO.trans (Only.set q k _ wx)
                  have LL : Hid ((l'.set k (IntKind.u8.wrap (x + 1))).length = 64) := by show _ = _; rw [List.length_set, hll]
                  clear hF hO hx hll
                  go_wp2
                  go_roundw
                  case rel => exact ⟨k + 1, _, by omega, by go_num, LL.out, NF.out, NO.out⟩
                  case measure => simp [intOf]; omega
                · obtain rfl : k = 64 := by omega
                  have P4 : Hid (Pl w wx b br i (fun g => g ≠ gi) d) := P3.out.only hO R3.out zq rfl rfl (.inl fun l h => by have h2 := R3.out; unfold RowB at h h2; rw [h] at h2; simp at h2)
                  clear hF hO hll
                  go_wp2
                  go_meet
                  exact ⟨rfl, d, P4.out.next⟩
            · have HCL : Hid (closedE d «at» ≠ 0) := hc
              obtain ⟨E, hE⟩ : ∃ E, closedE d «at» = E := ⟨_, rfl⟩
              have EE : Hid (closedE d «at» = E) := hE
              clear hc hE
              go_wp2_with fail
              refine (read_closed _ b i d «at» _ P1.out.isD HCL.out).mono ?_
              rw [EE.out]
              rintro e w' ⟨rfl, rfl⟩
              go_wp2_with fail
              refine (rread_closed _ br _ d «at» _ P1.out.isR HCL.out).mono ?_
              rw [EE.out]
              rintro e w' ⟨rfl, rfl⟩
              go_wp2_with fail
              refine (same_true _ _ _ _ _ _ [] _ ⟨fun x hx => by (cases hx), .inl rfl⟩ ⟨fun x hx => by (cases hx), .inl rfl⟩ rfl rfl).mono ?_
              rintro e w' ⟨rfl, rfl⟩
              go_wp2_with fail
              refine wp_loop_rounds 1 ?_
              rw [rounds_succ]
              go_wp2
              go_meet
              exact ⟨rfl, d, P1.out.next⟩
          · clear c0 c3
            obtain ⟨E, hE⟩ : ∃ E, writeE d «at» xb = E := ⟨_, rfl⟩
            have EE : Hid (writeE d «at» xb = E) := hE
            have DL := writeD_le d «at» xb
            obtain ⟨D, hD⟩ : ∃ D, writeD d «at» xb = D := ⟨_, rfl⟩
            have ED : Hid (writeD d «at» xb = D) := hD
            rw [hD] at DL
            have DL2 : Hid (D.ops ≤ i + 1 ∧ D.pend.length ≤ i + 1) := ⟨by have := DL.1; have := P1.out.ops; omega, by have := DL.2; have := P1.out.pend; omega⟩
            have hgb : wA.heap.size ≤ gi := GI
            have z1 : w.heap.size ≤ w1.heap.size := P1.out.low.size
            have X2 : Hid (∀ w2 w3, Turn w.heap.size KC w1 w2 → Turn w.heap.size KR w2 w3 → w3.cell? ⟨qc, 1, none⟩ = some (.int .i64 «at») ∧ w3.cell? ⟨qc, 2, none⟩ = some (.slice xa xb.length xc)) := fun w2 w3 t2 t3 => by
              have h2 := t3.block qc _ (t2.block qc _ X1.out (.inr rfl)) (.inr rfl)
              exact ⟨cell_of_row _ _ _ _ _ _ h2, cell_of_row _ _ _ _ _ _ h2⟩
            clear hE hD DL
            go_wp2_with fail
            go_region_held3 (fun w' => w'.cell? ⟨qc, 1, none⟩ = some (.int .i64 «at») ∧ w'.cell? ⟨qc, 2, none⟩ = some (.slice xa xb.length xc)) (first | assumption | exact ⟨by assumption, by assumption⟩ | go_keep) (first
              | (go_at_call 17; refine (write_any w.heap.size b i d «at» _ _ _ xb _ P1.out.isD.drew z1 rfl (ownsB_isB (HX.out _ P1.out.low).isB.1 O1.out) (by omega) (by have := P1.out.ops; omega)).mono ?_; rw [EE.out, ED.out]; rintro e w2 ⟨rfl, i2, t2'⟩; have t2 : Turn w.heap.size KC w1 w2 := ⟨t2'.os, t2'.tape, t2'.output, t2'.size, t2'.block⟩; have I2 : Hid (IsD w2 w.heap.size b (i + 1) D) := i2; have T2 : Hid (Turn w.heap.size KC w1 w2) := t2; have z2 : w1.heap.size ≤ w2.heap.size := t2.size; have s1 : w2.cell? ⟨qc, 1, none⟩ = some (.int .i64 «at») := (X2.out _ _ t2 (Turn.refl _ _ _)).1; have s2 : w2.cell? ⟨qc, 2, none⟩ = some (.slice xa xb.length xc) := (X2.out _ _ t2 (Turn.refl _ _ _)).2; clear i2 t2 t2')
              | (go_at_call 18; refine (rwrite_any w.heap.size br (fun g => g ≠ gi) d «at» _ _ _ xb _ (P1.out.isR.turn T2.out) (by omega) (fun g hg => by omega) rfl (HX.out _ (P1.out.low.trans (T2.out.below z1))).isB (by have := P1.out.pend; omega) (by have := P1.out.ops; omega)).mono ?_; rw [EE.out, ED.out]; rintro e w3 ⟨rfl, i3, t3⟩; have I3 : Hid (IsR w3 w.heap.size br (fun g => g ≠ gi) D) := i3; have T3 : Hid (Turn w.heap.size KR w2 w3) := t3; have s3 : w3.cell? ⟨qc, 1, none⟩ = some (.int .i64 «at») := (X2.out _ _ T2.out t3).1; have s4 : w3.cell? ⟨qc, 2, none⟩ = some (.slice xa xb.length xc) := (X2.out _ _ T2.out t3).2; have P3 : Hid (Pl w w3 b br (i + 1) (fun g => g ≠ gi) D) := P1.out.both I2.out T2.out i3 t3 DL2.out.1 DL2.out.2; have O3 : Hid (OwnsB w3 wA.heap.size (some ⟨gi, 0, none⟩) xb ci) := (O1.out.turn T2.out (fun _ => rfl)).turn t3 (fun _ => rfl); clear i3 t3)
              | (go_at_call 16; refine (same_true _ _ _ _ _ _ xb _ (ownsB_isB (HX.out _ P1.out.low).isB.1 O3.out) (HX.out _ P3.out.low).isB rfl rfl).mono ?_; rintro e w' ⟨rfl, rfl⟩))
            have F3 : Hid (Buf w3 gi 5 xb) := Buf.ofOwns O3.out (HX.out _ P1.out.low).isB.1
            obtain ⟨curg, hcurg⟩ := F3.out.block
            have CG : Hid (w3.heap[gi]? = some (.cells curg 5 (0, 0))) := hcurg
            have lb : xb.length ≤ 140737488355328 := LB.out.1
            clear hcurg c1 c2 s1 s2 s3 s4
            go_wp2_with fail
            go_loopw [118] (fun iv wx => ∃ (k : Nat) (l' : List Int), k ≤ xb.length ∧ iv = .int .i64 (k : Nat) ∧ l'.length = xb.length ∧ Buf wx gi 5 l' ∧ Only gi w3 wx) (fun iv _ => xb.length - (intOf iv).toNat)
            case atStart => exact ⟨0, _, Nat.zero_le _, rfl, rfl, F3.out, Only.refl _ _⟩
            case round =>
              obtain ⟨k, l', hk, rfl, hll, hF, hO⟩ := hrel
              rename World => wx
              by_cases hlt : k < xb.length
              · have hcell := hF.cell (i := k) (by omega)
                have hfz := hF.thawed k
                obtain ⟨x, hx⟩ : ∃ x, l'.getD k 0 = x := ⟨_, rfl⟩
                rw [hx] at hcell
                have NF : Hid (Buf (wx.setCell ⟨gi, k, none⟩ (.int .u8 (IntKind.u8.wrap (x + 1)))) gi 5 (l'.set k (IntKind.u8.wrap (x + 1)))) := hF.set (up_byte x)
                have NO : Hid (Only gi w3 (wx.setCell ⟨gi, k, none⟩ (.int .u8 (IntKind.u8.wrap (x + 1))))) := hO.trans (Only.set gi k _ wx)
                have LL : Hid ((l'.set k (IntKind.u8.wrap (x + 1))).length = xb.length) := by show _ = _; rw [List.length_set, hll]
                clear hF hO hx hll
                go_wp2
                go_roundw
                case rel => exact ⟨k + 1, _, by omega, by go_num, LL.out, NF.out, NO.out⟩
                case measure => simp [intOf]; omega
              · obtain rfl : k = xb.length := by omega
                have P4 : Hid (Pl w wx b br (i + 1) (fun g => g ≠ gi) D) := P3.out.only hO CG.out hgz rfl rfl (.inr fun h => h rfl)
                clear hF hO hll
                go_wp2
                go_meet
                exact ⟨rfl, D, ⟨P4.out.isD, P4.out.isR.mono (fun _ _ _ => trivial), P4.out.ops, P4.out.pend, P4.out.low⟩⟩
          · obtain ⟨E, hE⟩ : ∃ E, flushE d = E := ⟨_, rfl⟩
            have EE : Hid (flushE d = E) := hE
            have DL := flushD_le d
            obtain ⟨D, hD⟩ : ∃ D, flushD d = D := ⟨_, rfl⟩
            have ED : Hid (flushD d = D) := hD
            rw [hD] at DL
            have DL2 : Hid (D.ops ≤ i + 1 ∧ D.pend.length ≤ i + 1) := ⟨by have := DL.1; have := P1.out.ops; omega, by have := DL.2; have := P1.out.pend; omega⟩
            have z1 : w.heap.size ≤ w1.heap.size := P1.out.low.size
            clear hE hD DL c1 c2 c3
            go_wp2_with fail
            refine (flush_any w.heap.size b i d _ P1.out.isD z1 (by omega) (by have := P1.out.ops; omega)).mono ?_
            rw [EE.out, ED.out]
            rintro e w2 ⟨rfl, i2, t2⟩
            have I2 : Hid (IsD w2 w.heap.size b i D) := i2
            have T2 : Hid (Turn w.heap.size KC w1 w2) := t2
            have z2 := t2.size
            clear i2 t2 c0
            go_wp2_with fail
            refine (rflush_any w.heap.size br (fun g => g ≠ gi) d _ (P1.out.isR.turn T2.out) (by omega) (fun g hg => by omega) (by have := P1.out.ops; omega) (by have := P1.out.pend; omega)).mono ?_
            rw [EE.out, ED.out]
            rintro e w3 ⟨rfl, i3, t3⟩
            have P3 : Hid (Pl w w3 b br (i + 1) (fun g => g ≠ gi) D) := P1.out.both (I2.out.mono (by omega)) T2.out i3 t3 DL2.out.1 DL2.out.2
            clear i3 t3
            go_wp2
            go_meet
            exact ⟨rfl, D, ⟨P3.out.isD, P3.out.isR.mono (fun _ _ _ => trivial), P3.out.ops, P3.out.pend, P3.out.low⟩⟩
          · have DL := armD_le d «at»
            obtain ⟨D, hD⟩ : ∃ D, armD d «at» = D := ⟨_, rfl⟩
            have ED : Hid (armD d «at» = D) := hD
            rw [hD] at DL
            have DL2 : Hid (D.ops ≤ i + 1 ∧ D.pend.length ≤ i + 1) := ⟨by have := DL.1; have := P1.out.ops; omega, by have := DL.2; have := P1.out.pend; omega⟩
            have z1 : w.heap.size ≤ w1.heap.size := P1.out.low.size
            clear hD DL c2 c3
            go_wp2_with fail
            refine (arm_any w.heap.size b i d «at» _ P1.out.isD AT.out).mono ?_
            rw [ED.out]
            rintro e w2 ⟨rfl, i2, t2⟩
            have I2 : Hid (IsD w2 w.heap.size b i D) := i2
            have T2 : Hid (Turn w.heap.size KC w1 w2) := t2
            have z2 := t2.size
            have s1 : w2.cell? ⟨qc, 1, none⟩ = some (.int .i64 «at») := (t2.cell X1.out rfl).trans c1
            clear i2 t2 c0 c1
            go_wp2_with fail
            refine (rarm_any w.heap.size br (fun g => g ≠ gi) d «at» _ (P1.out.isR.turn T2.out) AT.out).mono ?_
            rw [ED.out]
            rintro e w3 ⟨rfl, i3, t3⟩
            have P3 : Hid (Pl w w3 b br (i + 1) (fun g => g ≠ gi) D) := P1.out.both (I2.out.mono (by omega)) T2.out i3 t3 DL2.out.1 DL2.out.2
            clear i3 t3 s1
            go_wp2
            go_meet
            exact ⟨rfl, D, ⟨P3.out.isD, P3.out.isR.mono (fun _ _ _ => trivial), P3.out.ops, P3.out.pend, P3.out.low⟩⟩
          · have DL := crashD_le d xks
            obtain ⟨D, hD⟩ : ∃ D, crashD d xks = D := ⟨_, rfl⟩
            have ED : Hid (crashD d xks = D) := hD
            rw [hD] at DL
            have DL2 : Hid (D.ops ≤ i + 1 ∧ D.pend.length ≤ i + 1) := ⟨by have := DL.1; have := P1.out.ops; omega, by have := DL.2; have := P1.out.pend; omega⟩
            have z1 : w.heap.size ≤ w1.heap.size := P1.out.low.size
            have BN : Hid (Below w1.heap.size w1 (w1.alloc (.cells #[] 3))) := (Below.refl _ w1).alloc (Nat.le_refl _) _
            have PN : Hid (Pl w (w1.alloc (.cells #[] 3)) b br i (fun g => g ≠ gi) d) := P1.out.keep BN.out
            have ON : Hid (OwnsI (w1.alloc (.cells #[] 3)) w1.heap.size (some ⟨w1.heap.size, 0, none⟩) [] 0) := ownsI_made w1
            have zN : w1.heap.size ≤ (w1.alloc (.cells #[] 3)).heap.size := by simp
            have s3 : (w1.alloc (.cells #[] 3)).cell? ⟨qc, 3, none⟩ = some (.slice xka xks.length xkc) := Lib.cell?_alloc_some _ c3
            have XI : Hid (∀ x ∈ xks, -9223372036854775808 ≤ x ∧ x ≤ 9223372036854775807) := (HX.out _ P1.out.low).isI.1
            have XN : Hid (xka = none → xks = [] ∧ xkc = 0) := (HX.out _ P1.out.low).nilI
            clear hD DL c1 c2
            go_wp2_with (at_builtin; refine wpList_appi rfl _ _ rfl w1.heap.size w1.heap.size zN rfl ON.out _ xks _ rfl (HX.out _ PN.out.low).isI XN.out LB.out.2 ?_; intro a2 c2 w2 o2 b2; have O2 : Hid (OwnsI w2 w1.heap.size a2 xks c2) := o2; have B2 : Hid (Below w1.heap.size w1 w2) := BN.out.trans b2; clear o2 b2)
            have P2 : Hid (Pl w w2 b br i (fun g => g ≠ gi) d) := P1.out.keep B2.out
            have X2 : Hid (w2.heap[qc]? = some (.cells #[.int .i64 5, .int .i64 «at», .slice xa xb.length xc, .slice xka xks.length xkc] 35 (0, 0))) := by
              show w2.heap[qc]? = _
              rw [B2.out.block _ (Array.getElem?_eq_some_iff.1 X1.out).1]; exact X1.out
            have z2 := B2.out.size
            clear s3 c3 c0 ON PN BN zN
            refine (crash_any w.heap.size b i d a2 _ c2 xks _ P2.out.isD (by omega) (by omega) rfl (by have := LB.out.2; omega) (fun w' t' => ownsI_isI XI.out (O2.out.turn t' (fun _ => rfl)))).mono ?_
            rw [ED.out]
            rintro e w3 ⟨rfl, i3, t3⟩
            have I3 : Hid (IsD w3 w.heap.size b i D) := i3
            have T3 : Hid (Turn w.heap.size KC w2 w3) := t3
            have z3 := t3.size
            have s4 : w3.cell? ⟨qc, 3, none⟩ = some (.slice xka xks.length xkc) := cell_of_row _ _ _ _ _ _ (t3.block qc _ X2.out (.inr rfl))
            have L3 : Hid (Below w.heap.size w w3) := P2.out.low.trans (t3.below (by omega))
            clear i3 t3
            go_wp2_with fail
            refine (rcrash_any w.heap.size br (fun g => g ≠ gi) d _ _ _ xks _ (P2.out.isR.turn T3.out) (by omega) (fun g hg => by omega) (by have := P2.out.pend; omega) rfl (by have := LB.out.2; omega) (fun w' t' => (HX.out _ (L3.out.trans (t'.below (by omega)))).isI)).mono ?_
            rw [ED.out]
            rintro e w4 ⟨rfl, i4, t4⟩
            have P4 : Hid (Pl w w4 b br (i + 1) (fun g => g ≠ gi) D) := P2.out.both (I3.out.mono (by omega)) T3.out i4 t4 DL2.out.1 DL2.out.2
            clear i4 t4 s4
            go_wp2
            go_meet
            exact ⟨rfl, D, ⟨P4.out.isD, P4.out.isR.mono (fun _ _ _ => trivial), P4.out.ops, P4.out.pend, P4.out.low⟩⟩
          · clear c1 c2 c3
            have e1 : (kd == 1) = false := by simp [k1]
            have e2 : (kd == 2) = false := by simp [k2]
            have e3 : (kd == 3) = false := by simp [k3]
            have e4 : (kd == 4) = false := by simp [k4]
            have e5 : (kd == 5) = false := by simp [k5]
            go_wp2
            go_meet
            exact ⟨rfl, d, P1.out.next⟩
        case rest =>
          obtain ⟨rfl, d', hP⟩ := hcut
          have P9 : Hid (Pl w wc b br (i + 1) (fun _ => True) d') := hP
          obtain ⟨as0, cs0, gs, aw, cw, hs, hA, _⟩ := hP.isR
          have j1 : wc.cell? ⟨br, 1, none⟩ = some (.slice aw d'.pend.length cw) := hA.cell 1
          have j3 : wc.cell? ⟨br, 3, none⟩ = some (.bool d'.down) := hA.cell 3
          have j4 : wc.cell? ⟨br, 4, none⟩ = some (.int .i64 (d'.ops : Nat)) := hA.cell 4
          clear c0 c1 c2 c3 hA hP X1 O1 P1
          obtain ⟨pl, hpl⟩ : ∃ pl, d'.pend.length = pl := ⟨_, rfl⟩
          have EPL : Hid (d'.pend.length = pl) := hpl
          obtain ⟨dn, hdn⟩ : ∃ dn, d'.down = dn := ⟨_, rfl⟩
          have EDN : Hid (d'.down = dn) := hdn
          obtain ⟨op, hop⟩ : ∃ op, d'.ops = op := ⟨_, rfl⟩
          have EOP : Hid (d'.ops = op) := hop
          rw [hpl] at j1
          rw [hdn] at j3
          rw [hop] at j4
          clear hpl hdn hop
          have t1 : ((pl : Int) != (pl : Int)) = false := by simp
          have t3 : ((op : Int) != (op : Int)) = false := by simp
          cases dn
          all_goals
            go_wp2_with fail
            go_quiet ((first
              | (go_at_call 25; exact (pending_any w.heap.size b (i + 1) d' _ ((P9.out.drewN _).isD)).mono (fun e w'' h => ⟨by rw [h.1, EPL.out], _, h.2.symm⟩))
              | (go_at_call 26; exact (down_any w.heap.size b (i + 1) d' _ ((P9.out.drewN _).isD)).mono (fun e w'' h => ⟨by rw [h.1, EDN.out], _, h.2.symm⟩))
              | (go_at_call 27; exact (ops_any w.heap.size b (i + 1) d' _ ((P9.out.drewN _).isD)).mono (fun e w'' h => ⟨by rw [h.1, EOP.out], _, h.2.symm⟩))))
            go_wp2
            go_roundw
            case rel => exact ⟨i + 1, d', by omega, by omega, by go_num, P9.out.drewN _⟩
            case measure => simp [intOf]; omega
    · obtain ⟨as0, cs0, gs, aw, cw, hs, hA, _⟩ := HP.out.isR
      have k0 : wr.cell? ⟨br, 0, none⟩ = some (.slice as0 gs.length cs0) := hA.cell 0
      have hbrw : br < wr.heap.size := (Array.getElem?_eq_some_iff.1 hA.box).1
      rw [hA.gl] at k0
      have OKD : Hid (DkOk d) := HP.out.isD.ok
      have few := OKD.out.few
      have IL : Hid ((imageL d).length = d.n * 64 ∧ AllB (imageL d)) := ⟨(imageL_len OKD.out).trans (Nat.mul_comm _ _), imageL_allB OKD.out⟩
      have hex : i < cs.length ∧ i = 200 ∨ i = cs.length := by omega
      clear hA hlt
      rcases hex with ⟨h1, rfl⟩ | rfl
      all_goals
        go_wp2_with fail
      all_goals
        go_region_held3 (fun w' => w'.cell? ⟨br, 0, none⟩ = some (.slice as0 d.n cs0)) (first | assumption | go_keep) (first
          | (go_at_call 28; refine (len_any w.heap.size b _ d _ HP.out.isD.drew).mono ?_; rintro e w' ⟨rfl, rfl⟩)
          | (go_at_call 29; refine (image_any w.heap.size b _ d _ HP.out.isD.drew).mono ?_; rintro e w4 ⟨rfl, r4, b4'⟩; have B4 : Hid (Below wr.heap.size wr w4) := ⟨b4'.os, b4'.tape, b4'.output, b4'.size, b4'.block⟩; have R4 : Hid (RowB w4 wr.heap.size 5 (imageL d)) := r4; have s4 : w4.cell? ⟨br, 0, none⟩ = some (.slice as0 d.n cs0) := (B4.out.cell (p := ⟨br, 0, none⟩) hbrw).trans k0; clear r4 b4')
          | (go_at_call 30; refine (rimage_any w.heap.size br _ d _ (HP.out.isR.keep B4.out)).mono ?_; rintro e w5 ⟨a5, c5, rfl, i5, b5⟩; have B5 : Hid (Below w4.heap.size w4 w5) := b5; have I5 : Hid (IsB w5 a5 (imageL d)) := i5; have z4 := B4.out.size; have s5 : w5.cell? ⟨br, 0, none⟩ = some (.slice as0 d.n cs0) := (B5.out.cell (p := ⟨br, 0, none⟩) (by show br < w4.heap.size; omega)).trans s4; clear i5 b5)
          | (go_at_call 16; refine (same_true _ _ _ _ _ _ (imageL d) _ ((R4.out.keep B5.out).isB IL.out.2) I5.out IL.out.1.symm IL.out.1.symm).mono ?_; rintro e w' ⟨rfl, rfl⟩))
        have FB : Hid (Below w.heap.size w w5) := (HP.out.low.trans (B4.out.mono HP.out.low.size)).trans (B5.out.mono (by have := HP.out.low.size; have := B4.out.size; omega))
        go_wp2
        go_ret
        exact ⟨rfl, FB.out⟩
end Go.Proofs.Ytddkmmkhlfjhiaa
