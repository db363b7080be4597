/- What Image answers: the walk. -/
import Derived.Test.YtgmmgklcndnehaaDoorGzAE
namespace Go.Proofs.YtgmmgklcndnehaaDoor
open Go.RowKit Go.Maps
set_option linter.unusedVariables false
set_option maxRecDepth 4000

def p70 : Oper := { dst := some 24, op := Op.move (Operand.tmp 3), type := 22, pos := "disk.go:142", after := #[], guard := none }
def p71 : Oper := { dst := some 25, op := Op.move (Operand.tmp 4), type := 3, pos := "disk.go:142", after := #[], guard := none }
def p72 : Oper := { dst := some 26, op := Op.binOp BinOp.mul 3 (Operand.tmp 25) (Operand.const (Value.int IntKind.i64 64)) 3, type := 3, pos := "disk.go:142", after := #[{ on := 1, ground := Ground.data }], guard := none }
def p73 : Oper := { dst := some 27, op := Op.slice 22 (Operand.tmp 24) (some (Operand.tmp 26)) none none, type := 22, pos := "disk.go:142", after := #[{ on := 0, ground := Ground.data }, { on := 2, ground := Ground.data }], guard := none }
def p74 : Oper := { dst := some 28, op := Op.slice 85 (Operand.tmp 5) none none none, type := 22, pos := "disk.go:142", after := #[], guard := none }
def p75 : Oper := { dst := some 29, op := Op.call { callee := Callee.builtin Builtin.copy, args := #[Operand.tmp 27, Operand.tmp 28], argTypes := #[22, 22] }, type := 3, pos := "disk.go:142", after := #[{ on := 3, ground := Ground.data }, { on := 4, ground := Ground.data }], guard := none }

set_option maxHeartbeats 8000000 in
theorem image_any (base b m : Nat) (d : Dk) (w : World) (h : IsD w base b m d) :
    Calls Tryd.prog 28 #[.pointer (some ⟨b, 0, none⟩)] w fun e w' => e = .returned (.slice (some ⟨w.heap.size, 0, none⟩) (d.n * 64) (d.n * 64)) ∧ RowB w' w.heap.size 5 (imageL d) ∧ Below w.heap.size w w' := by
  have HOK : Hid (DkOk d) := h.ok
  have few := h.ok.few
  obtain ⟨bs, bn, ap, cp, ns, nn, f, g, h, _, _, _⟩ := h
  have c0 : w.cell? ⟨b, 0, none⟩ = some (.int .i64 (d.n : Nat)) := h.cell 0
  have c1 : w.cell? ⟨b, 1, none⟩ = some (.map (some bs)) := h.cell 1
  have hb0 : b < w.heap.size := (Array.getElem?_eq_some_iff.1 h.box).1
  have hbs : bs < w.heap.size := by obtain ⟨es, c, hq⟩ := h.sure.block; exact (Array.getElem?_eq_some_iff.1 hq).1
  have FIT : Hid (∀ i : Nat, i < d.n → (f i).getD zeros = d.sure i) := h.fit
  have KEY : Hid (∀ i l, f i = some l → ∃ k : Nat, i = k ∧ k < d.n) := h.keys
  obtain ⟨D, hown, hh, hv⟩ := h.sure
  have HH : Hid (∀ i, Maps.has D (.int .i64 i) = (f i).isSome) := hh
  have HV : Hid (∀ i l, f i = some l → ∀ z, D.atKey (.int .i64 i) z = .held (cellsB l)) := hv
  have LEN : Hid (∀ left : Lit → Bool, ∀ i, i < d.n → (toldS f left i).length = 64) := fun left => toldS_len (fun i hi => by rw [FIT.out i hi]; exact (HOK.out.sec i hi).1)
  have hmk := make_row (d.n * 64) (by omega) w
  have ec : ((d.n * 64 : Nat) : Int) = (d.n : Int) * 64 := by omega
  rw [ec] at hmk
  obtain ⟨wA, hwA⟩ : ∃ wA, w.alloc (.cells (madeCells #[.int .u8 0] (d.n * 64)) 5) = wA := ⟨_, rfl⟩
  have BA : Hid (Below w.heap.size w wA) := by show Below _ _ _; rw [← hwA]; exact (Below.refl _ w).alloc (Nat.le_refl _) _
  have SA : Hid (wA.heap.size = w.heap.size + 1) := by show _ = _; rw [← hwA]; simp
  have RA : Hid (RowB wA w.heap.size 5 (secsL (toldS f (Maps.has D)) d.n)) := by
    show wA.heap[w.heap.size]? = _
    rw [← hwA, toldS_start HH.out, Nat.mul_comm 64 d.n, ← made_zero]
    exact Go.heap_alloc_new w _
  have OA : Hid (wA.ownsMap Tryd.prog 3 secElem bs ns D) := owns_same hown (fun o ho hk => same_below BA.out _ o ho hk)
  have a1 : wA.cell? ⟨b, 1, none⟩ = some (.map (some bs)) := (BA.out.cell (p := ⟨b, 1, none⟩) hb0).trans c1
  rw [hwA] at hmk
  have wm := wrap_i64 (x := (d.n : Int) * 64) (by omega)
  have hN : (0 : Int) ≤ (d.n : Int) * 64 := by omega
  clear h hown hh hv hwA c1 ec
  go_enter Tryd.func28, Tryd.ntmps28
  go_wp2_with (first
    | (at_range; refine wpList_range_own _ rfl _ 79 rfl 3 85 law Tryd.underlying79 secElem bs ns D rfl OA.out ?_; intro w0 hrg0 hg0 hs0; have RG0 : Hid (w0.ranges Tryd.prog 3 secElem bs wA.heap.size ns D (Maps.has D) (Maps.size D)) := hrg0; have B0 : Hid (Below w.heap.size w w0) := BA.out.grown hg0 (by rw [SA.out]; omega) (fun j hj => by cases hj); have R0 : Hid (RowB w0 w.heap.size 5 (secsL (toldS f (Maps.has D)) d.n)) := (by show w0.heap[w.heap.size]? = _; rw [hg0.block _ (by rw [SA.out]; omega) (by simp)]; exact RA.out); clear hrg0 hg0 hs0; go_frame))
  obtain ⟨r, hr⟩ : ∃ r, wA.heap.size = r := ⟨_, rfl⟩
  have HR : Hid (r = w.heap.size + 1) := hr.symm.trans SA.out
  rw [hr] at RG0 ⊢
  clear hr a1 hmk c0 BA SA RA OA
  go_loopw [4] (fun _ wr => ∃ (left : Lit → Bool) (cnt : Nat), wr.ranges Tryd.prog 3 secElem bs r ns D left cnt ∧ RowB wr w.heap.size 5 (secsL (toldS f left) d.n) ∧ Below w.heap.size w wr) (fun _ wr => wr.rangeLeft bs r)
  case atStart => exact ⟨_, _, RG0.out, R0.out, B0.out⟩
  case round =>
    clear RG0 R0 B0
    obtain ⟨left, cnt, hrg, hrow, hbel⟩ := hrel
    rename World => wr
    have HG : Hid (wr.ranges Tryd.prog 3 secElem bs r ns D left cnt) := hrg
    have HW : Hid (RowB wr w.heap.size 5 (secsL (toldS f left) d.n)) := hrow
    have HB : Hid (Below w.heap.size w wr) := hbel
    clear hrg hrow hbel
    go_wp2_with (at_next; refine wpList_nextS _ rfl _ rfl bs r ns D f HH.out HV.out left cnt rfl HG.out ?_ ?_)
    · intro hl0
      have E : Hid (secsL (toldS f left) d.n = imageL d) := secsL_congr (fun i hi => by unfold toldS; rw [hl0]; exact FIT.out i hi)
      clear hl0
      go_wp2
      go_ret
      exact ⟨rfl, by rw [← E.out]; exact HW.out, HB.out⟩
    · intro x l w1 cnt1 hfx hlx hrg1 hlt hg1 hs1 hen
      obtain ⟨k, rfl, hkn⟩ := KEY.out x l hfx
      have ET : Hid (toldS f (fun z => left z && !z.sameKey (.int .i64 (k : Nat))) = updS (toldS f left) k l) := toldS_step hfx
      have LL : Hid (l.length = 64 ∧ AllB l) := by
        have := FIT.out k hkn
        rw [hfx] at this
        have e : l = d.sure k := this
        rw [e]; exact HOK.out.sec k hkn
      have G1 : Hid (w1.ranges Tryd.prog 3 secElem bs r ns D (fun z => left z && !z.sameKey (.int .i64 (k : Nat))) cnt1) := hrg1
      have W1 : Hid (RowB w1 w.heap.size 5 (secsL (toldS f left) d.n)) := by
        show w1.heap[w.heap.size]? = _
        rw [hg1.block _ HW.out.lt (by simp; have := HR.out; omega)]
        exact HW.out
      have B1 : Hid (Below w.heap.size w w1) := HB.out.grown hg1 (HB.out.size) (fun j hj => by cases hj; have := HR.out; omega)
      have MS : Hid (wr.rangeLeft bs r = cnt ∧ cnt1 < cnt) := ⟨HG.out.left_eq, hlt⟩
      have hk6 := hkn
      clear hrg1 hg1 hs1 hlt hfx hlx HG HW HB
      have z1 := B1.out.size
      have n1 : w1.heap.size ≠ w.heap.size := by have := W1.out.lt; omega
      go_wp2_with (first
        | (refine wpList_allocB rfl rfl ?_; intro w2 r2 b2 s2; have R2 : Hid (RowB w2 w1.heap.size 85 zeros) := r2; have B2 : Hid (Below w1.heap.size w1 w2) := b2; clear r2 b2 s2)
        | (refine wpList_storeB rfl _ _ rfl w1.heap.size l rfl rfl 85 zeros R2.out zeros_len LL.out.1 ?_; intro w3 r3 o3; have R3 : Hid (RowB w3 w1.heap.size 85 l) := r3; have B3 : Hid (Below w1.heap.size w1 w3) := B2.out.trans (o3.below (Nat.le_refl _)); clear r3 o3; simp only [Act.put]))
      have W3 : Hid (RowB w3 w.heap.size 5 (secsL (toldS f left) d.n)) := W1.out.keep B3.out
      have G3 : Hid (w3.ranges Tryd.prog 3 secElem bs r ns D (fun z => left z && !z.sameKey (.int .i64 (k : Nat))) cnt1) := G1.out.kept (grown_below B3.out none) (by simp) (by simp)
      have SL : Hid ((secsL (toldS f left) d.n).length = 64 * d.n) := secsL_len (LEN.out left)
      have wk := wrap_i64 (x := (k : Int) * 64) (by omega)
      have q1 : (0 : Int) ≤ (k : Int) * 64 := by omega
      have q2 : (k : Int) * 64 ≤ ((d.n * 64 : Nat) : Int) := by omega
      have q3 : ¬ d.n * 64 = k * 64 := by omega
      have q4 : ((k : Int) * 64).toNat = k * 64 := by omega
      have q5 : k * 64 ≤ d.n * 64 := by omega
      have q6 : (k : Int) * 64 ≤ (d.n : Int) * 64 := by omega
      have q7 : ¬ d.n < k := by omega
      go_wp2_with fail
      refine wp_region_held_drew (S := fun _ => True) (by kernel_rfl) trivial (fun _ => ?_)
      refine wpAnyH_take (i := 0) (oi := p70) (v := .slice (some ⟨w.heap.size, 0, none⟩) (d.n * 64) (d.n * 64)) rfl (by kernel_rfl) (by kernel_rfl) (by kernel_rfl) (fun _ _ _ h => h) (.inl ⟨rfl, fun _ _ => rfl⟩) trivial ?_
      simp only [p70, Act.put, List.setIfInBounds_toArray, List.set_cons_succ, List.set_cons_zero]
      refine wpAnyH_take (i := 1) (oi := p71) (v := .int .i64 (k : Nat)) rfl (by kernel_rfl) (by kernel_rfl) (by kernel_rfl) (fun _ _ _ h => h) (.inl ⟨rfl, fun _ _ => rfl⟩) trivial ?_
      simp only [p71, Act.put, List.setIfInBounds_toArray, List.set_cons_succ, List.set_cons_zero]
      refine wpAnyH_take (i := 2) (oi := p72) (v := .int .i64 ((k : Int) * 64)) rfl (by kernel_rfl) (by kernel_rfl) (by kernel_rfl) (fun _ _ _ h => h) (.inl ⟨rfl, by intro wz hz; clear hz; unfold p72; go_simp⟩) trivial ?_
      simp only [p72, Act.put, List.setIfInBounds_toArray, List.set_cons_succ, List.set_cons_zero]
      refine wpAnyH_take (i := 3) (oi := p73) (v := .slice (some ⟨w.heap.size, k * 64, none⟩) (d.n * 64 - k * 64) (d.n * 64 - k * 64)) rfl (by kernel_rfl) (by kernel_rfl) (by kernel_rfl) (fun _ _ _ h => h) (.inl ⟨rfl, by intro wz hz; clear hz; unfold p73; go_simp⟩) trivial ?_
      simp only [p73, Act.put, List.setIfInBounds_toArray, List.set_cons_succ, List.set_cons_zero]
      refine wpAnyH_take (i := 4) (oi := p74) (v := .slice (some ⟨w1.heap.size, 0, none⟩) 64 64) rfl (by kernel_rfl) (by kernel_rfl) (by kernel_rfl) (fun _ _ _ h => h) (.inl ⟨rfl, by intro wz hz; clear hz; unfold p74; go_simp⟩) trivial ?_
      simp only [p74, Act.put, List.setIfInBounds_toArray, List.set_cons_succ, List.set_cons_zero]
      refine wpAnyH_all (rs := [5]) (by kernel_rfl) (by simp) ?_
      intro i hi
      obtain rfl : i = 5 := by simpa using hi
      refine wpOp_plain' (o := p75) rfl rfl ?_
      refine wp_of_step (ops := #[]) rfl (step_copyB rfl _ _ rfl w.heap.size (k * 64) (d.n * 64 - k * 64) (d.n * 64 - k * 64) 5 (secsL (toldS f left) d.n) l (some ⟨w1.heap.size, 0, none⟩) 64 64 64 rfl rfl LL.out.1.symm (by omega) W3.out (R3.out.isB LL.out.2) (by rw [SL.out]; omega) ?_)
      intro w4 r4 o4
      refine ⟨trivial, wpAnyH_done (by kernel_rfl) ?_ _⟩
      simp only [p75, Act.put, List.setIfInBounds_toArray, List.set_cons_succ, List.set_cons_zero]
      have W4 : Hid (RowB w4 w.heap.size 5 (secsL (toldS f (fun z => left z && !z.sameKey (.int .i64 (k : Nat)))) d.n)) := by
        have e := secsL_upd (s := toldS f left) (k := k) (l := l) LL.out.1 (LEN.out left) hk6
        rw [Nat.mul_comm 64 k] at e
        rw [List.take_of_length_le (show l.length ≤ 64 by rw [LL.out.1]; omega), ← e, ← ET.out] at r4
        exact r4
      have G4 : Hid (w4.ranges Tryd.prog 3 secElem bs r ns D (fun z => left z && !z.sameKey (.int .i64 (k : Nat))) cnt1) := World.ranges.kept (w := w3) G3.out (grown_only (w := w3) ⟨o4.os, o4.tape, o4.output, o4.size, o4.block⟩) (by simp; omega) (by simp; have := HR.out; omega)
      have B4 : Hid (Below w.heap.size w w4) := (B1.out.trans (B3.out.mono (by omega))).trans ((⟨o4.os, o4.tape, o4.output, o4.size, o4.block⟩ : Only w.heap.size w3 w4).below (Nat.le_refl _))
      clear r4 o4 hen
      go_wp2
      go_roundw
      case rel => exact ⟨_, _, G4.out, W4.out, B4.out⟩
      case measure =>
        have e1 := G4.out.left_eq
        have e2 := MS.out
        omega
end Go.Proofs.YtgmmgklcndnehaaDoor
