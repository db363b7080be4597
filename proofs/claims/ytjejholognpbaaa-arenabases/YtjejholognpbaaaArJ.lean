/- The document's arena, going on: what Write, Zero and Move of the reference do. -/
import Derived.Test.YtjejholognpbaaaArI
namespace Go.Proofs.Ytjejholognpbaaa
open Go.RowKit
set_option linter.unusedVariables false

/-- So many bytes have been laid. -/
def midR (l : List Int) (o : Nat) (bs : List Int) (i : Nat) : List Int := l.take o ++ bs.take i ++ l.drop (o + i)
theorem midR_len {l : List Int} {o : Nat} {bs : List Int} {i : Nat} (hi : i ≤ bs.length) (h : o + bs.length ≤ l.length) : (midR l o bs i).length = l.length := by
  unfold midR; simp; omega
theorem midR_zero (l : List Int) (o : Nat) (bs : List Int) : midR l o bs 0 = l := by simp [midR]
theorem midR_full (l : List Int) (o : Nat) (bs : List Int) : midR l o bs bs.length = overR l o bs := by simp [midR, overR]
theorem midR_set {l : List Int} {o : Nat} {bs : List Int} {i : Nat} (hi : i < bs.length) (h : o + bs.length ≤ l.length) : (midR l o bs i).set (o + i) (bs.getD i 0) = midR l o bs (i + 1) := by
  have e : l.drop (o + i) = l[o + i]'(by omega) :: l.drop (o + i + 1) := List.drop_eq_getElem_cons (by omega)
  have hl : (l.take o ++ bs.take i).length = o + i := by simp; omega
  unfold midR
  rw [e, List.set_append_right _ _ (by omega), hl, Nat.sub_self, List.set_cons_zero, List.take_succ_eq_append_getElem hi, ← Nat.add_assoc, List.getD_eq_getElem?_getD, List.getElem?_eq_getElem hi, Option.getD_some, List.append_assoc, List.append_assoc, List.append_assoc]
  rfl
theorem AllB.mid {l bs : List Int} (h : AllB l) (hb : AllB bs) (o i : Nat) : AllB (midR l o bs i) := ((h.take _).append (hb.take _)).append (h.drop _)

set_option maxHeartbeats 2000000 in
theorem rwrite_any (b g : Nat) (base x : Int) (l bs : List Int) (a : Option Addr) (n cap : Nat) (w : World) (h : IsM w b g base l) (hx : Fits x) (hn : n = bs.length) (hB : IsB w a bs) (hm : n ≤ maxLen) (hne : bs = [] ∨ ∀ ad, a = some ad → ad.block ≠ g) :
    Calls Try.prog 34 #[.pointer (some ⟨b, 0, none⟩), .int .i64 x, .slice a n cap] w fun e w' => e = .returned (.int .i64 (errR l.length (x - base) bs.length)) ∧ IsM w' b g base (writeR l (x - base) bs) ∧ Tg g w w' := by
  have H : Hid (IsM w b g base l) := h
  have hfn : Fits (n : Int) := by unfold Fits; unfold maxLen at hm; omega
  by_cases hin : inR l.length (x - base) bs.length
  · have EW : Hid (writeR l (x - base) bs = overR l (x - base).toNat bs) := if_pos hin
    rw [errR_in hin, EW.out]
    have HI : Hid (decide (inR l.length (x - base) (n : Nat)) = true) := by show _ = _; rw [hn]; exact decide_eq_true hin
    obtain ⟨o, m, ho, hm', hom⟩ := inR_nat hin
    obtain rfl : n = m := by omega
    have HN : Hid (n = bs.length) := hn
    have hl := h.len
    have h1 := h.lo
    have h2 := h.hi
    have HB : Hid (IsB w a bs) := hB
    have FIN : Hid (∀ wr, IsM wr b g base (midR l o bs n) → IsM wr b g base (overR l o bs)) := fun wr hr => by rw [hn, midR_full] at hr; exact hr
    rw [show (x - base).toNat = o from by omega]
    have NX : Hid (∀ wr i, i < n → IsM wr b g base (midR l o bs i) → IsM (wr.setCell ⟨g, o + i, none⟩ (.int .u8 (bs.getD i 0))) b g base (midR l o bs (i + 1))) := fun wr i hi hr => by
      rw [hn] at hi
      have hom' : o + bs.length ≤ l.length := by omega
      have hr1 := hr.row.set (o + i) (bs.getD i 0)
      rw [midR_set hi hom'] at hr1
      exact hr.turned (Tg.ofOnly (Only.set _ _ _ _)) hr1 (h.all.mid hB.all _ _) (by rw [midR_len (by omega) hom', midR_len (by omega) hom'])
    have ML : Hid (∀ i, i ≤ n → (midR l o bs i).length = l.length) := fun i hi => midR_len (by omega) (by omega)
    clear h hin hB hn hm'
    go_enter Try.func34, Try.ntmps34
    go_wp2_with fail
    refine (rin_of b g base x _ true l _ H.out hx hfn HI.out).mono ?_
    rintro e w' ⟨rfl, q, rfl⟩
    go_wp2
    go_loopw [16] (fun iv wr => ∃ i : Nat, i ≤ n ∧ iv = .int .i64 (i : Nat) ∧ IsM wr b g base (midR l o bs i) ∧ Tg g w wr) (fun iv _ => n - (intOf iv).toNat)
    case atStart => exact ⟨0, Nat.zero_le _, rfl, by rw [midR_zero]; exact H.out.drewN q, (Tg.refl g w).drewN q⟩
    case round =>
      obtain ⟨i, hi, rfl, hr, ht⟩ := hrel
      rename World => wr
      have HR : Hid (IsM wr b g base (midR l o bs i)) := hr
      have HT : Hid (Tg g w wr) := ht
      by_cases hlt : i < n
      · have hne' : ∀ ad, a = some ad → ad.block ≠ g := by
          rcases hne with h0 | h0
          · have := HN.out; rw [h0] at this; simp at this; omega
          · exact h0
        have IB := ht.isB HB.out hne'
        clear hne'
        obtain ⟨hall, h0 | ⟨ba, off, rfl, hba, hc⟩⟩ := IB
        · have := HN.out; rw [h0] at this; simp at this; omega
        · have c0 := hr.cell0
          have c1 := hr.cell1
          rw [ML.out i hi] at c1
          have cb := hc i (by have := HN.out; omega)
          have cg := hr.row.cell (o + i) (by rw [ML.out i hi]; omega)
          have zg := hr.row.thawed (o + i)
          obtain ⟨B, hBv⟩ : ∃ B, bs.getD i 0 = B := ⟨_, rfl⟩
          have NX2 : Hid (IsM (wr.setCell ⟨g, o + i, none⟩ (.int .u8 B)) b g base (midR l o bs (i + 1))) := by show IsM _ _ _ _ _; rw [← hBv]; exact NX.out wr i hlt hr
          rw [hBv] at cb
          have hlt' : (i : Int) < (n : Int) := by omega
          have g1 : IntKind.i64.wrap (x - base) = (o : Int) := by rw [IntKind.wrap_i64]; omega
          have g0 : IntKind.i64.wrap (o : Int) = (o : Int) := by rw [IntKind.wrap_i64]; omega
          have g2 : IntKind.i64.wrap ((o : Int) + (i : Int)) = (o : Int) + (i : Int) := by rw [IntKind.wrap_i64]; omega
          have g3 : (o : Int) + (i : Int) < (l.length : Int) := by omega
          have g4 : ((o : Int) + (i : Int)).toNat = o + i := by omega
          have g5 : (0 : Int) ≤ (o : Int) + (i : Int) := by omega
          clear hr ht hall hc hBv
          go_wp2_with fail
          go_region
          all_goals go_wp2
          all_goals go_roundw
          case rel => exact ⟨i + 1, by omega, by go_num, NX2.out.drew, (HT.out.trans (Tg.ofOnly (Only.set _ _ _ _))).drew⟩
          case measure => simp [intOf]; omega
      · obtain rfl : i = n := by omega
        go_wp2
        go_ret
        exact ⟨rfl, FIN.out _ HR.out, HT.out⟩
  · rw [errR_out hin, show writeR l (x - base) bs = l from if_neg hin]
    have HI : Hid (decide (inR l.length (x - base) (n : Nat)) = false) := by show _ = _; rw [hn]; exact decide_eq_false hin
    clear h hin hB hn
    go_enter Try.func34, Try.ntmps34
    go_wp2_with fail
    refine (rin_of b g base x _ false l _ H.out hx hfn HI.out).mono ?_
    rintro e w' ⟨rfl, q, rfl⟩
    go_wp2
    go_ret
    exact ⟨rfl, H.out.drewN q, (Tg.refl g w).drewN q⟩
set_option maxHeartbeats 1000000 in
theorem rzero_any (b g : Nat) (base x k : Int) (l : List Int) (w : World) (h : IsM w b g base l) (hx : Fits x) (hk : Fits k) :
    Calls Try.prog 35 #[.pointer (some ⟨b, 0, none⟩), .int .i64 x, .int .i64 k] w fun e w' => e = .returned (.int .i64 (errR l.length (x - base) k)) ∧ IsM w' b g base (zeroR l (x - base) k) ∧ Tg g w w' := by
  have H : Hid (IsM w b g base l) := h
  by_cases hin : inR l.length (x - base) k
  · have EW : Hid (zeroR l (x - base) k = overR l (x - base).toNat (List.replicate k.toNat 0)) := if_pos hin
    rw [errR_in hin, EW.out]
    have HI : Hid (decide (inR l.length (x - base) k) = true) := decide_eq_true hin
    obtain ⟨o, m, ho, rfl, hom⟩ := inR_nat hin
    have hl := h.len
    have hgl := h.row.lt
    rw [Int.toNat_natCast]
    have E1 : Hid (errR l.length (x - base) ((List.replicate m (0 : Int)).length : Nat) = 0) := by show _ = _; rw [List.length_replicate]; exact errR_in hin
    have E2 : Hid (writeR l (x - base) (List.replicate m 0) = overR l (x - base).toNat (List.replicate m 0)) := by
      show _ = _
      rw [writeR, if_pos (by rw [List.length_replicate]; exact hin)]
    have MK : ∀ w : World, (Instr.makeSlice 35 (.int .i64 (m : Nat)) (.int .i64 (m : Nat))).run Try.prog w = .ok (.slice (some ⟨w.heap.size, 0, none⟩) m m) (w.alloc (.cells (cellsB (List.replicate m 0)).toArray 5)) := fun w => make_B w _ (by omega)
    have RZ : Hid (∀ w : World, RowB (w.alloc (.cells (cellsB (List.replicate m 0)).toArray 5)) w.heap.size (List.replicate m 0)) := fun w => Go.heap_alloc_new w _
    have BZ : Hid (∀ w : World, Below w.heap.size w (w.alloc (.cells (cellsB (List.replicate m 0)).toArray 5))) := fun w => (Below.refl _ w).alloc (Nat.le_refl _) _
    clear h hin
    go_enter Try.func35, Try.ntmps35
    go_wp2_with fail
    refine (rin_of b g base x _ true l _ H.out hx hk HI.out).mono ?_
    rintro e w' ⟨rfl, q, rfl⟩
    go_wp2_with fail
    refine (rwrite_any b g base x l (List.replicate m 0) _ m m _ ((H.out.drewN q).keep (BZ.out _)) hx (by simp) ((RZ.out _).isB (AllB.zeros m)) (by unfold maxLen; omega) (.inr (by rintro ad hd; cases hd; show w.heap.size ≠ g; omega))).mono ?_
    rw [E1.out, E2.out]
    rintro e w2 ⟨rfl, i2, t2⟩
    have I2 : Hid (IsM w2 b g base (overR l (x - base).toNat (List.replicate m 0))) := i2
    have T2 : Hid (Tg g w w2) := (((Tg.refl g w).drewN q).trans (Tg.ofBelow (BZ.out _))).trans t2
    clear i2 t2
    go_wp2
    go_ret
    exact ⟨rfl, I2.out, T2.out⟩
  · rw [errR_out hin, show zeroR l (x - base) k = l from if_neg hin]
    have HI : Hid (decide (inR l.length (x - base) k) = false) := decide_eq_false hin
    clear h hin
    go_enter Try.func35, Try.ntmps35
    go_wp2_with fail
    refine (rin_of b g base x _ false l _ H.out hx hk HI.out).mono ?_
    rintro e w' ⟨rfl, q, rfl⟩
    go_wp2
    go_ret
    exact ⟨rfl, H.out.drewN q, (Tg.refl g w).drewN q⟩

set_option maxHeartbeats 1000000 in
theorem rmove_any (b g : Nat) (base x y k : Int) (l : List Int) (w : World) (h : IsM w b g base l) (hx : Fits x) (hy : Fits y) (hk : Fits k) :
    Calls Try.prog 36 #[.pointer (some ⟨b, 0, none⟩), .int .i64 x, .int .i64 y, .int .i64 k] w fun e w' => e = .returned (.int .i64 (moveE l.length (x - base) (y - base) k)) ∧ IsM w' b g base (moveR l (x - base) (y - base) k) ∧ Tg g w w' := by
  have H : Hid (IsM w b g base l) := h
  have hgl := h.row.lt
  have hl := h.len
  obtain ⟨R, hR⟩ : ∃ R, readR l (x - base) k = R := ⟨_, rfl⟩
  have ER : Hid (readR l (x - base) k = R) := hR
  by_cases hin : inR l.length (x - base) k
  · have EE : Hid (errR l.length (x - base) k = 0) := errR_in hin
    have hRl : R.length = k.toNat := by rw [← hR]; exact readR_len hin
    have hk0 := hin.1
    have hkl := hin.2.2
    have ho0 := hin.2.1
    by_cases hin2 : inR l.length (y - base) k
    · have EW : Hid (writeR l (y - base) R = moveR l (x - base) (y - base) k) := by
        show _ = _
        rw [moveR, if_pos ⟨hin, hin2⟩, hR, writeR, if_pos (by rw [hRl, Int.toNat_of_nonneg hk0]; exact hin2)]
      have E2 : Hid (errR l.length (y - base) R.length = 0) := errR_in (by rw [hRl, Int.toNat_of_nonneg hk0]; exact hin2)
      have HI2 : Hid (decide (inR l.length (y - base) k) = true) := decide_eq_true hin2
      have hRm : R.length ≤ maxLen := by unfold maxLen; omega
      rw [show moveE l.length (x - base) (y - base) k = 0 from if_pos ⟨hin, hin2⟩]
      have HRM : Hid (R.length ≤ maxLen) := hRm
      clear h hin hin2 hR hRl hkl ho0 hRm
      go_enter Try.func36, Try.ntmps36
      go_wp2_with fail
      refine (rread_any b g base x k l _ H.out hx hk).mono ?_
      rw [EE.out, ER.out]
      rintro e w1 ⟨a1, cap1, rfl, q1, n1, b1⟩
      have B1 : Hid (Below w.heap.size w w1) := b1
      have Q1 : Hid (IsB w1 a1 R) := q1
      have N1 : Hid (∀ ad, a1 = some ad → ad.block ≠ g) := fun ad hd => by have := n1 ad hd; omega
      clear b1 q1 n1
      go_wp2_with fail
      refine (rin_of b g base y k true l _ (H.out.keep B1.out) hy hk HI2.out).mono ?_
      rintro e w' ⟨rfl, q, rfl⟩
      go_wp2_with fail
      refine (rwrite_any b g base y l R _ _ _ _ ((H.out.keep B1.out).drewN q) hy rfl (Q1.out.drewN q) HRM.out (.inr N1.out)).mono ?_
      rw [E2.out, EW.out]
      rintro e w2 ⟨rfl, i2, t2⟩
      have I2 : Hid (IsM w2 b g base (moveR l (x - base) (y - base) k)) := i2
      have T2 : Hid (Tg g w w2) := ((Tg.ofBelow B1.out).drewN q).trans t2
      clear i2 t2
      go_wp2
      go_ret
      exact ⟨rfl, I2.out, T2.out⟩
    · have HI2 : Hid (decide (inR l.length (y - base) k) = false) := decide_eq_false hin2
      rw [show moveE l.length (x - base) (y - base) k = 10 from if_neg (fun e => hin2 e.2), show moveR l (x - base) (y - base) k = l from if_neg (fun e => hin2 e.2)]
      clear h hin hin2 hR hRl hkl ho0
      go_enter Try.func36, Try.ntmps36
      go_wp2_with fail
      refine (rread_any b g base x k l _ H.out hx hk).mono ?_
      rw [EE.out, ER.out]
      rintro e w1 ⟨a1, cap1, rfl, q1, n1, b1⟩
      have B1 : Hid (Below w.heap.size w w1) := b1
      clear b1 q1 n1
      go_wp2_with fail
      refine (rin_of b g base y k false l _ (H.out.keep B1.out) hy hk HI2.out).mono ?_
      rintro e w' ⟨rfl, q, rfl⟩
      go_wp2
      go_ret
      exact ⟨rfl, (H.out.keep B1.out).drewN q, (Tg.ofBelow B1.out).drewN q⟩
  · have EE : Hid (errR l.length (x - base) k = 10) := errR_out hin
    rw [show moveE l.length (x - base) (y - base) k = 10 from if_neg (fun e => hin e.1), show moveR l (x - base) (y - base) k = l from if_neg (fun e => hin e.1)]
    clear h hin hR
    go_enter Try.func36, Try.ntmps36
    go_wp2_with fail
    refine (rread_any b g base x k l _ H.out hx hk).mono ?_
    rw [EE.out, ER.out]
    rintro e w1 ⟨a1, cap1, rfl, q1, n1, b1⟩
    have B1 : Hid (Below w.heap.size w w1) := b1
    clear b1 q1 n1
    go_wp2
    go_ret
    exact ⟨rfl, H.out.keep B1.out, Tg.ofBelow B1.out⟩
end Go.Proofs.Ytjejholognpbaaa
