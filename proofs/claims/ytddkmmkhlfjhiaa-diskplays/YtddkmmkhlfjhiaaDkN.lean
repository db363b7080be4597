/- What the law DiskArmed goes through. -/
import Derived.Test.YtddkmmkhlfjhiaaDkM
namespace Go.Proofs.Ytddkmmkhlfjhiaa
open Go.ChangeShapes Go.WideShapes Go.ChangeAt Go.RowKit Go.Maps
set_option linter.unusedVariables false

theorem and31 (x : Int) : ∃ s : Nat, s < 32 ∧ bits BinOp.and IntKind.i64 x 31 = (s : Nat) := by
  have h : bits BinOp.and IntKind.i64 x 31 = IntKind.i64.wrap (((BitVec.ofInt 64 x) &&& (BitVec.ofInt 64 31)).toNat : Int) := rfl
  have h2 : (BitVec.ofInt 64 31).toNat = 31 := by decide
  have h3 : (BitVec.ofInt 64 x).toNat &&& 31 ≤ 31 := Nat.and_le_right
  rw [h, BitVec.toNat_and, h2]
  refine ⟨(BitVec.ofInt 64 x).toNat &&& 31, by omega, ?_⟩
  rw [IntKind.wrap_i64]
  omega

/-- How an armed disk stands: with power, or without. -/
def Up (L : Nat) (d : Dk) (c : Nat) : Prop := d.n = 32 ∧ d.down = false ∧ d.ops = c ∧ d.left = (L : Int) - c ∧ c + 1 ≤ L
def Dn (L : Nat) (d : Dk) (c : Nat) : Prop := d.n = 32 ∧ d.down = true ∧ d.ops + 1 = L ∧ c + 1 ≤ L

theorem up_write {L c s : Nat} {d : Dk} {l : List Int} (h : Up L d c) (hs : s < 32) (hl : l.length ≤ 64) : (writeE d s l = 0 ∧ Up L (writeD d s l) (c + 1)) ∨ (writeE d s l = 14 ∧ Dn L (writeD d s l) c) := by
  obtain ⟨h0, h1, h2, h3, h4⟩ := h
  have hc : closedE d (s : Int) = 0 := closedE_zero.2 ⟨h1, by omega, by omega⟩
  have e1 : writeE d s l = workE d := by rw [writeE, if_pos hc, if_neg (by omega)]
  have e2 : writeD d s l = workD (pushD d s l) := by rw [writeD, if_pos ⟨hc, hl⟩]; rfl
  rw [e1, e2]
  by_cases h5 : d.left = 1
  · right
    refine ⟨by rw [workE, if_pos h5], ?_⟩
    have e3 : workD (pushD d s l) = { pushD d s l with left := 0, down := true } := by rw [workD, if_pos (show (pushD d s l).left = 1 from h5)]
    rw [e3]
    exact ⟨h0, rfl, by show d.ops + 1 = L; omega, h4⟩
  · left
    refine ⟨by rw [workE, if_neg h5], ?_⟩
    have e3 : workD (pushD d s l) = { pushD d s l with left := d.left - 1, ops := d.ops + 1 } := by rw [workD, if_neg (show ¬ (pushD d s l).left = 1 from h5), if_pos (show 1 < (pushD d s l).left by show 1 < d.left; omega)]; rfl
    rw [e3]
    exact ⟨h0, h1, by show d.ops + 1 = c + 1; omega, by show d.left - 1 = (L : Int) - ((c + 1 : Nat) : Int); omega, by omega⟩
theorem up_flush {L c : Nat} {d : Dk} (h : Up L d c) : (flushE d = 0 ∧ Up L (flushD d) (c + 1)) ∨ (flushE d = 14 ∧ ∀ c', c' ≤ c → Dn L (flushD d) c') := by
  obtain ⟨h0, h1, h2, h3, h4⟩ := h
  by_cases h5 : d.left = 1
  · right
    refine ⟨by simp [flushE, h1, workE, h5], fun c' hc' => ?_⟩
    have e3 : flushD d = { d with left := 0, down := true } := by simp [flushD, h1, h5, workD]
    rw [e3]
    exact ⟨h0, rfl, by show d.ops + 1 = L; omega, by omega⟩
  · left
    refine ⟨by simp [flushE, h1, workE, h5], ?_⟩
    have e4 : 1 < d.left := by omega
    have e3 : flushD d = settleD (fun _ => 64) { d with left := d.left - 1, ops := d.ops + 1 } := by simp [flushD, h1, h5, workD, e4]
    rw [e3]
    exact ⟨h0, h1, by show d.ops + 1 = c + 1; omega, by show d.left - 1 = (L : Int) - ((c + 1 : Nat) : Int); omega, by omega⟩
theorem dn_write {L c : Nat} {d : Dk} {i : Int} {l : List Int} (h : Dn L d c) : writeE d i l = 14 ∧ writeD d i l = d := by
  have hc : closedE d i = 14 := by simp [closedE, h.2.1]
  exact ⟨by rw [writeE, if_neg (by omega), hc], by rw [writeD, if_neg (by omega)]⟩
theorem dn_flush {L c : Nat} {d : Dk} (h : Dn L d c) : flushE d = 14 ∧ flushD d = d := ⟨by simp [flushE, h.2.1], by simp [flushD, h.2.1]⟩

/-- What a write and, where it is asked for, a flush make of it. -/
inductive Round1 (L : Nat) (d : Dk) (c : Nat) (s : Nat) (l : List Int) : Prop
  | ok (h1 : writeE d s l = 0) (h2 : Up L (writeD d s l) (c + 1)) : Round1 L d c s l
  | off (h1 : writeE d s l = 14) (h2 : Dn L (writeD d s l) c) : Round1 L d c s l
theorem round1 {L c s : Nat} {d : Dk} {l : List Int} (h : Up L d c ∨ Dn L d c) (hs : s < 32) (hl : l.length ≤ 64) : Round1 L d c s l := by
  rcases h with h | h
  · rcases up_write h hs hl with ⟨a, b⟩ | ⟨a, b⟩
    · exact .ok a b
    · exact .off a b
  · obtain ⟨a, b⟩ := dn_write (i := (s : Int)) (l := l) h
    exact .off a (by rw [b]; exact h)
theorem ops_le {L c : Nat} {d : Dk} (h : Up L d c ∨ Dn L d c) (hL : L ≤ 100) : d.ops ≤ 1000000000 := by
  rcases h with ⟨_, _, h, _, h'⟩ | ⟨_, _, h, h'⟩ <;> omega

/-- A call's cells, copied. -/
theorem armed_many (m : Nat) (a ka : Option Addr) (n cap kn kc : Nat) (w : World) (hn : 100 < n) :
    Calls Try.prog 7 #[.int .u8 (m : Nat), .slice a n cap, .slice ka kn kc] w fun r w' => r = .returned (.bool true) ∧ Below w.heap.size w w' := by
  go_enter Try.func7, Try.ntmps7
  go_wp2_with fail
  refine (alive_any _).mono ?_
  rintro e w1 ⟨rfl, b1⟩
  have B1 : Hid (Below w.heap.size w w1) := b1
  clear b1
  go_wp2_with fail
  refine (new_fit 32 w1 (by decide) (by decide)).mono ?_
  rintro e w2 ⟨rfl, hw2⟩
  have B2 : Hid (Below w.heap.size w w2) := by show Below _ _ _; rw [← hw2]; exact B1.out.trans ((newW_below w1 32).mono B1.out.size)
  clear hw2
  go_wp2
  go_ret
  exact ⟨rfl, B2.out⟩

set_option maxHeartbeats 16000000 in
set_option maxRecDepth 100000 in
theorem armed_few (m : Nat) (a ka : Option Addr) (cap kc : Nat) (cs : List Cl) (ks : List Int) (w : World) (hm : m < 256) (hC : IsC w a cs) (hn : cs.length ≤ 100) (hK : IsI w ka ks) (hks : ks.length ≤ maxLen) :
    Calls Try.prog 7 #[.int .u8 (m : Nat), .slice a cs.length cap, .slice ka ks.length kc] w fun r w' => r = .returned (.bool true) ∧ Below w.heap.size w w' := by
  have HC : Hid (IsC w a cs) := hC
  have HK : Hid (IsI w ka ks) := hK
  have HKL : Hid (ks.length ≤ 9223372036854775807) := hks
  obtain ⟨L0, hL0⟩ : ∃ L0, m % 100 = L0 := ⟨_, rfl⟩
  have hL : L0 < 100 := by omega
  have tm : (m : Int).tmod 100 = (L0 : Nat) := by rw [Int.tmod_eq_emod_of_nonneg (by omega), ← hL0]; omega
  have w1L : IntKind.i64.wrap (L0 : Nat) = (L0 : Nat) := wrap_i64 (by omega)
  have U0 : Hid (Up (L0 + 1) (armD (newD 32) ((L0 : Int) + 1)) 0) := ⟨rfl, rfl, rfl, by simp [armD, newD], by omega⟩
  clear hC hK hks hL0
  go_enter Try.func7, Try.ntmps7
  go_wp2_with fail
  refine (alive_any _).mono ?_
  rintro e w1 ⟨rfl, b1⟩
  have B1 : Hid (Below w.heap.size w w1) := b1
  have z1 := b1.size
  clear b1
  go_wp2_with fail
  refine (new_fit 32 w1 (by decide) (by decide)).mono ?_
  rintro e w2 ⟨rfl, hw2⟩
  have I2 : Hid (IsD w2 w.heap.size (w1.heap.size + 2) 0 (newD 32)) := by show IsD _ _ _ _ _; rw [← hw2]; exact newW_is w1 _ 32 z1 (by decide)
  have B2 : Hid (Below w.heap.size w w2) := by show Below _ _ _; rw [← hw2]; exact B1.out.trans ((newW_below w1 32).mono z1)
  have z2 := B2.out.size
  obtain ⟨b, hb⟩ : ∃ b, w1.heap.size + 2 = b := ⟨_, rfl⟩
  rw [hb] at I2 ⊢
  clear hw2 B1 hb z1
  go_wp2_with fail
  refine (arm_any w.heap.size b 0 (newD 32) ((L0 : Int) + 1) _ I2.out (by omega)).mono ?_
  rintro e w3 ⟨rfl, i3, t3'⟩
  have I3 : Hid (IsD w3 w.heap.size b 0 (armD (newD 32) ((L0 : Int) + 1))) := i3
  have B3 : Hid (Below w.heap.size w w3) := B2.out.trans (t3'.below z2)
  clear i3 t3' I2 B2 z2
  go_wp2
  go_loopw [10, 40] (fun cv iv wr => ∃ (i c : Nat) (d : Dk), i ≤ cs.length ∧ iv = .int .i64 (i : Nat) ∧ cv = .int .i64 (c : Nat) ∧ (Up (L0 + 1) d c ∨ Dn (L0 + 1) d c) ∧ IsD wr w.heap.size b i d ∧ Below w.heap.size w wr) (fun _ iv _ => cs.length - (intOf iv).toNat)
  case atStart => exact ⟨0, 0, _, Nat.zero_le _, rfl, rfl, .inl U0.out, I3.out, B3.out⟩
  case round =>
    clear U0 I3 B3
    obtain ⟨i, c, d, hi, rfl, rfl, hA, hI, hB⟩ := hrel
    rename World => wr
    have HA : Hid (Up (L0 + 1) d c ∨ Dn (L0 + 1) d c) := hA
    have HI : Hid (IsD wr w.heap.size b i d) := hI
    have HB : Hid (Below w.heap.size w wr) := hB
    have hc100 : c ≤ 100 := by rcases hA with h | h <;> have := h.2.2.2 <;> omega
    by_cases hlt : i < cs.length
    · obtain h0 | ⟨cb, off, rfl, hcb, hcell⟩ := HC.out.at'
      · rw [h0] at hlt; simp at hlt
      · obtain ⟨x, hx⟩ : ∃ x, cs[i] = x := ⟨_, rfl⟩
        obtain ⟨q0, q1, q2, q3⟩ := hcell i hlt
        have hX := HC.out.body cs[i] (List.getElem_mem hlt)
        rw [hx] at q0 q1 q2 q3 hX
        have r0 : wr.cell? ⟨cb, off + i * 4, none⟩ = some (.int .i64 x.kd) := (hB.cell (p := ⟨cb, off + i * 4, none⟩) hcb).trans q0
        have r1 : wr.cell? ⟨cb, off + i * 4 + 1, none⟩ = some (.int .i64 x.at) := (hB.cell (p := ⟨cb, off + i * 4 + 1, none⟩) hcb).trans q1
        have r2 : wr.cell? ⟨cb, off + i * 4 + 2, none⟩ = some (.slice x.a x.b.length x.c) := (hB.cell (p := ⟨cb, off + i * 4 + 2, none⟩) hcb).trans q2
        have r3 : wr.cell? ⟨cb, off + i * 4 + 3, none⟩ = some (.slice x.ka x.ks.length x.kc) := (hB.cell (p := ⟨cb, off + i * 4 + 3, none⟩) hcb).trans q3
        have HX : Hid (ClOk w x) := hX
        clear q0 q1 q2 q3 hcell hx hX hA hI hB
        by_cases hbig : 64 < x.b.length
        · have hA1 := HI.out.keep ((Below.refl _ wr).alloc (Nat.le_refl _) (.cells #[.int .i64 x.kd, .int .i64 x.at, .slice x.a x.b.length x.c, .slice x.ka x.ks.length x.kc] 35))
          have HA1 : Hid (IsD (wr.alloc (.cells #[.int .i64 x.kd, .int .i64 x.at, .slice x.a x.b.length x.c, .slice x.ka x.ks.length x.kc] 35)) w.heap.size b (i + 1) d) := hA1.mono (by omega)
          have HB1 : Hid (Below w.heap.size w (wr.alloc (.cells #[.int .i64 x.kd, .int .i64 x.at, .slice x.a x.b.length x.c, .slice x.ka x.ks.length x.kc] 35))) := HB.out.alloc HB.out.size _
          clear hA1
          go_wp2
          go_roundw
          case rel => exact ⟨i + 1, c, d, by omega, by go_num, rfl, HA.out, HA1.out, HB1.out⟩
          case measure => simp [intOf]; omega
        · obtain ⟨s, hs, hand⟩ := and31 x.at
          have HO : Hid (d.ops ≤ 1000000000) := ops_le HA.out (by omega)
          have IA : Hid (IsD (wr.alloc (.cells #[.int .i64 x.kd, .int .i64 x.at, .slice x.a x.b.length x.c, .slice x.ka x.ks.length x.kc] 35)) w.heap.size b i d) := HI.out.keep ((Below.refl _ wr).alloc (Nat.le_refl _) _)
          have BA : Hid (Below w.heap.size w (wr.alloc (.cells #[.int .i64 x.kd, .int .i64 x.at, .slice x.a x.b.length x.c, .slice x.ka x.ks.length x.kc] 35))) := HB.out.alloc HB.out.size _
          have zA := BA.out.size
          rcases round1 HA.out hs (show x.b.length ≤ 64 by omega) with ⟨e1, u1⟩ | ⟨e1, u1⟩
          · have E1 : Hid (writeE d s x.b = 0) := e1
            have U1 : Hid (Up (L0 + 1) (writeD d s x.b) (c + 1)) := u1
            clear e1 u1
            by_cases hk : x.kd = 3
            · have HK3 : Hid (x.kd = 3) := hk
              clear hk
              rcases up_flush U1.out with ⟨f1, v1⟩ | ⟨f1, v1⟩
              · have F1 : Hid (flushE (writeD d s x.b) = 0) := f1
                have V1 : Hid (Up (L0 + 1) (flushD (writeD d s x.b)) (c + 1 + 1)) := v1
                clear f1 v1
                go_wp2_with fail
                refine (write_any w.heap.size b i d s _ _ _ x.b _ IA.out zA rfl (HX.out.isB.keep BA.out) (by omega) HO.out).mono ?_
                rw [E1.out]
                rintro e w4 ⟨rfl, i4, t4'⟩
                have I4 : Hid (IsD w4 w.heap.size b (i + 1) (writeD d s x.b)) := i4
                have B4 : Hid (Below w.heap.size w w4) := BA.out.trans (t4'.below zA)
                have k4 : w4.cell? ⟨wr.heap.size, 0, none⟩ = some (.int .i64 x.kd) := cell_of_row _ _ _ _ _ _ (t4'.block _ _ (Go.heap_alloc_new wr _) (.inr rfl))
                have z4 := B4.out.size
                clear i4 t4' IA BA zA HI HB
                rw [HK3.out] at k4
                go_wp2_with fail
                refine (flush_any w.heap.size b (i + 1) (writeD d s x.b) _ I4.out z4 (by omega) (ops_le (.inl U1.out) (by omega))).mono ?_
                rw [F1.out]
                rintro e w5 ⟨rfl, i5, t5⟩
                have I5 : Hid (IsD w5 w.heap.size b (i + 1) (flushD (writeD d s x.b))) := i5
                have B5 : Hid (Below w.heap.size w w5) := B4.out.trans (t5.below z4)
                clear i5 t5 I4 B4 z4
                go_wp2_with fail
                refine (down_any w.heap.size b (i + 1) (flushD (writeD d s x.b)) _ I5.out).mono ?_
                rw [V1.out.2.1]
                rintro e w' ⟨rfl, rfl⟩
                go_wp2
                go_roundw
                case rel => exact ⟨i + 1, c + 1 + 1, _, by omega, by go_num, by go_num, .inl V1.out, I5.out, B5.out⟩
                case measure => simp [intOf]; omega
              · have F1 : Hid (flushE (writeD d s x.b) = 14) := f1
                have V1 : Hid (Dn (L0 + 1) (flushD (writeD d s x.b)) c) := v1 c (by omega)
                clear f1 v1
                go_wp2_with fail
                refine (write_any w.heap.size b i d s _ _ _ x.b _ IA.out zA rfl (HX.out.isB.keep BA.out) (by omega) HO.out).mono ?_
                rw [E1.out]
                rintro e w4 ⟨rfl, i4, t4'⟩
                have I4 : Hid (IsD w4 w.heap.size b (i + 1) (writeD d s x.b)) := i4
                have B4 : Hid (Below w.heap.size w w4) := BA.out.trans (t4'.below zA)
                have k4 : w4.cell? ⟨wr.heap.size, 0, none⟩ = some (.int .i64 x.kd) := cell_of_row _ _ _ _ _ _ (t4'.block _ _ (Go.heap_alloc_new wr _) (.inr rfl))
                have z4 := B4.out.size
                clear i4 t4' IA BA zA HI HB
                rw [HK3.out] at k4
                go_wp2_with fail
                refine (flush_any w.heap.size b (i + 1) (writeD d s x.b) _ I4.out z4 (by omega) (ops_le (.inl U1.out) (by omega))).mono ?_
                rw [F1.out]
                rintro e w5 ⟨rfl, i5, t5⟩
                have I5 : Hid (IsD w5 w.heap.size b (i + 1) (flushD (writeD d s x.b))) := i5
                have B5 : Hid (Below w.heap.size w w5) := B4.out.trans (t5.below z4)
                clear i5 t5 I4 B4 z4
                go_wp2_with fail
                refine (down_any w.heap.size b (i + 1) (flushD (writeD d s x.b)) _ I5.out).mono ?_
                rw [V1.out.2.1]
                rintro e w' ⟨rfl, rfl⟩
                go_wp2
                go_roundw
                case rel => exact ⟨i + 1, c, _, by omega, by go_num, by go_num, .inr V1.out, I5.out, B5.out⟩
                case measure => simp [intOf]; omega
            · skip
              go_wp2_with fail
              refine (write_any w.heap.size b i d s _ _ _ x.b _ IA.out zA rfl (HX.out.isB.keep BA.out) (by omega) HO.out).mono ?_
              rw [E1.out]
              rintro e w4 ⟨rfl, i4, t4'⟩
              have I4 : Hid (IsD w4 w.heap.size b (i + 1) (writeD d s x.b)) := i4
              have B4 : Hid (Below w.heap.size w w4) := BA.out.trans (t4'.below zA)
              have k4 : w4.cell? ⟨wr.heap.size, 0, none⟩ = some (.int .i64 x.kd) := cell_of_row _ _ _ _ _ _ (t4'.block _ _ (Go.heap_alloc_new wr _) (.inr rfl))
              have z4 := B4.out.size
              clear i4 t4' IA BA zA HI HB
              go_wp2_with fail
              refine (down_any w.heap.size b (i + 1) (writeD d s x.b) _ I4.out).mono ?_
              rw [U1.out.2.1]
              rintro e w' ⟨rfl, rfl⟩
              go_wp2
              go_roundw
              case rel => exact ⟨i + 1, c + 1, _, by omega, by go_num, by go_num, .inl U1.out, I4.out, B4.out⟩
              case measure => simp [intOf]; omega
          · have E1 : Hid (writeE d s x.b = 14) := e1
            have U1 : Hid (Dn (L0 + 1) (writeD d s x.b) c) := u1
            clear e1 u1
            by_cases hk : x.kd = 3
            · have HK3 : Hid (x.kd = 3) := hk
              clear hk
              have F1 : Hid (flushE (writeD d s x.b) = 14) := (dn_flush U1.out).1
              have F2 : Hid (flushD (writeD d s x.b) = writeD d s x.b) := (dn_flush U1.out).2
              go_wp2_with fail
              refine (write_any w.heap.size b i d s _ _ _ x.b _ IA.out zA rfl (HX.out.isB.keep BA.out) (by omega) HO.out).mono ?_
              rw [E1.out]
              rintro e w4 ⟨rfl, i4, t4'⟩
              have I4 : Hid (IsD w4 w.heap.size b (i + 1) (writeD d s x.b)) := i4
              have B4 : Hid (Below w.heap.size w w4) := BA.out.trans (t4'.below zA)
              have k4 : w4.cell? ⟨wr.heap.size, 0, none⟩ = some (.int .i64 x.kd) := cell_of_row _ _ _ _ _ _ (t4'.block _ _ (Go.heap_alloc_new wr _) (.inr rfl))
              have z4 := B4.out.size
              clear i4 t4' IA BA zA HI HB
              rw [HK3.out] at k4
              go_wp2_with fail
              refine (flush_any w.heap.size b (i + 1) (writeD d s x.b) _ I4.out z4 (by omega) (ops_le (.inr U1.out) (by omega))).mono ?_
              rw [F1.out]
              rintro e w5 ⟨rfl, i5, t5⟩
              have I5 : Hid (IsD w5 w.heap.size b (i + 1) (flushD (writeD d s x.b))) := i5
              have B5 : Hid (Below w.heap.size w w5) := B4.out.trans (t5.below z4)
              clear i5 t5 I4 B4 z4
              go_wp2_with fail
              refine (down_any w.heap.size b (i + 1) (flushD (writeD d s x.b)) _ I5.out).mono ?_
              rw [F2.out, U1.out.2.1]
              rintro e w' ⟨rfl, rfl⟩
              go_wp2
              go_roundw
              case rel => exact ⟨i + 1, c, _, by omega, by go_num, by go_num, .inr (by rw [F2.out]; exact U1.out), I5.out, B5.out⟩
              case measure => simp [intOf]; omega
            · skip
              go_wp2_with fail
              refine (write_any w.heap.size b i d s _ _ _ x.b _ IA.out zA rfl (HX.out.isB.keep BA.out) (by omega) HO.out).mono ?_
              rw [E1.out]
              rintro e w4 ⟨rfl, i4, t4'⟩
              have I4 : Hid (IsD w4 w.heap.size b (i + 1) (writeD d s x.b)) := i4
              have B4 : Hid (Below w.heap.size w w4) := BA.out.trans (t4'.below zA)
              have k4 : w4.cell? ⟨wr.heap.size, 0, none⟩ = some (.int .i64 x.kd) := cell_of_row _ _ _ _ _ _ (t4'.block _ _ (Go.heap_alloc_new wr _) (.inr rfl))
              have z4 := B4.out.size
              clear i4 t4' IA BA zA HI HB
              go_wp2_with fail
              refine (down_any w.heap.size b (i + 1) (writeD d s x.b) _ I4.out).mono ?_
              rw [U1.out.2.1]
              rintro e w' ⟨rfl, rfl⟩
              go_wp2
              go_roundw
              case rel => exact ⟨i + 1, c, _, by omega, by go_num, by go_num, .inr U1.out, I4.out, B4.out⟩
              case measure => simp [intOf]; omega
    · obtain rfl : i = cs.length := by omega
      have zB := HB.out.size
      have HO : Hid (d.ops ≤ 1000000000) := ops_le HA.out (by omega)
      have CR : Hid ((crashD d ks).down = false ∧ (crashD d ks).left = 0 ∧ (crashD d ks).pend.length = 0 ∧ (crashD d ks).ops = d.ops) := ⟨rfl, rfl, rfl, rfl⟩
      rcases hA with u | u
      · have U : Hid (Up (L0 + 1) d c) := u
        have l1 : ¬ (c : Int) > (L0 : Int) := by have := u.2.2.2.2; omega
        clear u hI hB HA
        go_wp2_with fail
        refine (down_any w.heap.size b _ d _ HI.out).mono ?_
        rw [U.out.2.1]
        rintro e w' ⟨rfl, rfl⟩
        go_wp2_with fail
        refine (ops_any w.heap.size b _ d _ HI.out).mono ?_
        rw [U.out.2.2.1]
        rintro e w' ⟨rfl, rfl⟩
        go_wp2_with fail
        refine (down_any w.heap.size b _ d _ HI.out).mono ?_
        rw [U.out.2.1]
        rintro e w' ⟨rfl, rfl⟩
        go_wp2_with fail
        refine (down_any w.heap.size b _ d _ HI.out).mono ?_
        rw [U.out.2.1]
        rintro e w' ⟨rfl, rfl⟩
        go_wp2_with fail
        refine (crash_any w.heap.size b _ d ka _ kc ks _ HI.out zB (by omega) rfl HKL.out (fun w' ht => HK.out.keep (HB.out.trans (ht.below zB)))).mono ?_
        rintro e w5 ⟨rfl, i5, t5⟩
        have I5 : Hid (IsD w5 w.heap.size b cs.length (crashD d ks)) := i5
        have B5 : Hid (Below w.heap.size w w5) := HB.out.trans (t5.below zB)
        have z5 := B5.out.size
        clear i5 t5 HI HB zB
        go_wp2_with fail
        refine (down_any w.heap.size b _ (crashD d ks) _ I5.out).mono ?_
        rw [CR.out.1]
        rintro e w' ⟨rfl, rfl⟩
        go_wp2_with fail
        refine (pending_any w.heap.size b _ (crashD d ks) _ I5.out).mono ?_
        rw [CR.out.2.2.1]
        rintro e w' ⟨rfl, rfl⟩
        go_wp2_with fail
        refine (flush_any w.heap.size b _ (crashD d ks) _ I5.out z5 (by omega) (by rw [CR.out.2.2.2]; exact HO.out)).mono ?_
        rw [(flush_calm CR.out.1 CR.out.2.1).1]
        rintro e w6 ⟨rfl, i6, t6⟩
        have B6 : Hid (Below w.heap.size w w6) := B5.out.trans (t6.below z5)
        clear i6 t6
        go_wp2
        go_ret
        exact ⟨rfl, B6.out⟩
      · have U : Hid (Dn (L0 + 1) d c) := u
        have l1 : ¬ (c : Int) > (L0 : Int) := by have := u.2.2.2; omega
        have OP : Hid (d.ops = L0) := by have := u.2.2.1; show d.ops = L0; omega
        clear u hI hB HA
        go_wp2_with fail
        refine (down_any w.heap.size b _ d _ HI.out).mono ?_
        rw [U.out.2.1]
        rintro e w' ⟨rfl, rfl⟩
        go_wp2_with fail
        refine (down_any w.heap.size b _ d _ HI.out).mono ?_
        rw [U.out.2.1]
        rintro e w' ⟨rfl, rfl⟩
        go_wp2_with fail
        refine (ops_any w.heap.size b _ d _ HI.out).mono ?_
        rw [OP.out]
        rintro e w' ⟨rfl, rfl⟩
        go_wp2_with fail
        refine (down_any w.heap.size b _ d _ HI.out).mono ?_
        rw [U.out.2.1]
        rintro e w' ⟨rfl, rfl⟩
        have C0 : Hid (closedE d 0 = 14) := by show closedE d 0 = 14; simp [closedE, U.out.2.1]
        go_wp2_with fail
        refine (read_closed w.heap.size b _ d 0 _ HI.out (by rw [C0.out]; decide)).mono ?_
        rw [C0.out]
        rintro e w' ⟨rfl, rfl⟩
        go_wp2_with fail
        refine (flush_any w.heap.size b _ d _ HI.out zB (by omega) HO.out).mono ?_
        rw [(dn_flush U.out).1, (dn_flush U.out).2]
        rintro e w3 ⟨rfl, i3, t3'⟩
        have I3 : Hid (IsD w3 w.heap.size b cs.length d) := i3
        have B3 : Hid (Below w.heap.size w w3) := HB.out.trans (t3'.below zB)
        have z3 := B3.out.size
        clear i3 t3' HI HB zB
        go_wp2_with fail
        refine (write_any w.heap.size b _ d (-1) none 0 0 [] _ I3.out z3 rfl ⟨by simp, .inl rfl⟩ (by omega) HO.out).mono ?_
        rw [(dn_write U.out).1, (dn_write U.out).2]
        rintro e w4 ⟨rfl, i4, t4'⟩
        have I4 : Hid (IsD w4 w.heap.size b (cs.length + 1) d) := i4
        have B4 : Hid (Below w.heap.size w w4) := B3.out.trans (t4'.below z3)
        have z4 := B4.out.size
        clear i4 t4' I3 B3 z3
        go_wp2_with fail
        refine (crash_any w.heap.size b _ d ka _ kc ks _ I4.out z4 (by omega) rfl HKL.out (fun w' ht => HK.out.keep (B4.out.trans (ht.below z4)))).mono ?_
        rintro e w5 ⟨rfl, i5, t5⟩
        have I5 : Hid (IsD w5 w.heap.size b (cs.length + 1) (crashD d ks)) := i5
        have B5 : Hid (Below w.heap.size w w5) := B4.out.trans (t5.below z4)
        have z5 := B5.out.size
        clear i5 t5 I4 B4 z4
        go_wp2_with fail
        refine (down_any w.heap.size b _ (crashD d ks) _ I5.out).mono ?_
        rw [CR.out.1]
        rintro e w' ⟨rfl, rfl⟩
        go_wp2_with fail
        refine (pending_any w.heap.size b _ (crashD d ks) _ I5.out).mono ?_
        rw [CR.out.2.2.1]
        rintro e w' ⟨rfl, rfl⟩
        go_wp2_with fail
        refine (flush_any w.heap.size b _ (crashD d ks) _ I5.out z5 (by omega) (by rw [CR.out.2.2.2]; exact HO.out)).mono ?_
        rw [(flush_calm CR.out.1 CR.out.2.1).1]
        rintro e w6 ⟨rfl, i6, t6⟩
        have B6 : Hid (Below w.heap.size w w6) := B5.out.trans (t6.below z5)
        clear i6 t6
        go_wp2
        go_ret
        exact ⟨rfl, B6.out⟩
end Go.Proofs.Ytddkmmkhlfjhiaa
