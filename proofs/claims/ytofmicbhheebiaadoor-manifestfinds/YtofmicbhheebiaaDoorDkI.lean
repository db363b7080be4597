/- What settle does. -/
import Derived.Test.YtofmicbhheebiaaDoorDkH
namespace Go.Proofs.YtofmicbhheebiaaDoor
open Go.RowKit Go.Maps
set_option linter.unusedVariables false
set_option maxRecDepth 4000

def intOf : Value → Int
  | .int _ n => n
  | _ => 0

/-! The operations of 's := d.sure[w.at]', whose order the model draws. -/
def s30 : Oper := { dst := some 17, op := Op.move (Operand.tmp 0), type := 26, pos := "disk.go:190", after := #[], guard := none }
def s31 : Oper := { dst := some 18, op := Op.nilCheck (Operand.tmp 17), type := 0, pos := "disk.go:190", after := #[{ on := 0, ground := Ground.data }], guard := none }
def s32 : Oper := { dst := some 19, op := Op.fieldAddr 66 (Operand.tmp 18) 1, type := 0, pos := "disk.go:190", after := #[{ on := 1, ground := Ground.data }], guard := none }
def s33 : Oper := { dst := some 20, op := Op.load 62 (Operand.tmp 19), type := 62, pos := "disk.go:190", after := #[{ on := 2, ground := Ground.data }], guard := none }
def s34 : Oper := { dst := some 21, op := Op.fieldAddr 77 (Operand.tmp 5) 0, type := 0, pos := "disk.go:190", after := #[], guard := none }
def s35 : Oper := { dst := some 22, op := Op.load 3 (Operand.tmp 21), type := 3, pos := "disk.go:190", after := #[{ on := 4, ground := Ground.data }], guard := none }
def s36 : Oper := { dst := some 23, op := Op.lookup 62 (Operand.tmp 20) (Operand.tmp 22) false, type := 74, pos := "disk.go:190", after := #[{ on := 3, ground := Ground.data }, { on := 5, ground := Ground.data }], guard := none }
def s37 : Oper := { dst := some 6, op := Op.alloc 74, type := 0, pos := "disk.go:190", after := #[], guard := none }
def s38 : Oper := { dst := none, op := Op.store 74 (Operand.tmp 6) (Operand.tmp 23), type := 0, pos := "disk.go:190", after := #[{ on := 7, ground := Ground.data }, { on := 6, ground := Ground.data }, { on := 0, ground := Ground.phase }, { on := 1, ground := Ground.phase }, { on := 2, ground := Ground.phase }, { on := 3, ground := Ground.phase }, { on := 4, ground := Ground.phase }, { on := 5, ground := Ground.phase }, { on := 6, ground := Ground.phase }, { on := 7, ground := Ground.phase }], guard := none }

def s40 : Oper := { dst := some 24, op := Op.slice 74 (Operand.tmp 6) none none none, type := 22, pos := "disk.go:191", after := #[], guard := none }
def s41 : Oper := { dst := some 25, op := Op.fieldAddr 77 (Operand.tmp 5) 1, type := 0, pos := "disk.go:191", after := #[], guard := none }
def s42 : Oper := { dst := some 26, op := Op.move (Operand.tmp 1), type := 81, pos := "disk.go:191", after := #[], guard := none }
def s43 : Oper := { dst := some 27, op := Op.move (Operand.tmp 4), type := 3, pos := "disk.go:191", after := #[], guard := none }
def s44 : Oper := { dst := some 28, op := Op.call { callee := Callee.value (Operand.tmp 26), args := #[Operand.tmp 27], argTypes := #[3] }, type := 3, pos := "disk.go:191", after := #[{ on := 2, ground := Ground.data }, { on := 3, ground := Ground.data }], guard := none }
def s45 : Oper := { dst := some 29, op := Op.slice 74 (Operand.tmp 25) none (some (Operand.tmp 28)) none, type := 22, pos := "disk.go:191", after := #[{ on := 1, ground := Ground.data }, { on := 4, ground := Ground.data }], guard := none }
def s46 : Oper := { dst := some 30, op := Op.call { callee := Callee.builtin Builtin.copy, args := #[Operand.tmp 24, Operand.tmp 29], argTypes := #[22, 22] }, type := 3, pos := "disk.go:191", after := #[{ on := 0, ground := Ground.data }, { on := 5, ground := Ground.data }, { on := 4, ground := Ground.chain }], guard := none }

theorem wpOp_plain' {ops : Array Oper} {Q : Exit → Act → World → Prop} {i : Nat} {o : Oper} {K : Act → World → Prop} {a : Act} {w : World} (ho : ops[i]? = some o) (hg : o.guard = none) (h : o.wp Tryd.prog a w K Q) : wpOp Tryd.prog ops Q i K a w := by
  unfold wpOp
  simp only [ho]
  rw [if_pos (by simp [Region.wanted, hg])]
  exact .inl h

set_option maxHeartbeats 8000000 in
theorem settle_any (base b m : Nat) (d : Dk) (fn : Nat) (caps : List Value) (keep : Nat → Nat) (w : World) (h : IsD w base b m d) (hbase : base ≤ w.heap.size) (hm : m ≤ 900000)
    (hent : (match Tryd.prog.funcs[fn]? with | some fn => !(fn.name == "runtime.NumGoroutine") && !fn.body.isNone | none => false) = true)
    (hk : ∀ w' (k : Nat), Turn base KC w w' → k < d.pend.length → Calls Tryd.prog fn ([Value.int .i64 (k : Nat)] ++ caps).toArray w' (fun e w'' => e = .returned (.int .i64 (keep k : Nat)) ∧ w' = w'')) (hk64 : ∀ k, keep k ≤ 64) :
    Calls Tryd.prog 27 #[.pointer (some ⟨b, 0, none⟩), .func (.func fn) #[] caps.toArray] w fun e w' => e = .returned (.tuple #[]) ∧ IsD w' base b m (settleD keep d) ∧ Turn base KC w w' := by
  have HK : Hid (∀ w' (k : Nat), Turn base KC w w' → k < d.pend.length → Calls Tryd.prog fn ([Value.int .i64 (k : Nat)] ++ caps).toArray w' (fun e w'' => e = .returned (.int .i64 (keep k : Nat)) ∧ w' = w'')) := hk
  have HE : Hid ((match Tryd.prog.funcs[fn]? with | some fn => !(fn.name == "runtime.NumGoroutine") && !fn.body.isNone | none => false) = true) := hent
  have HOK : Hid (DkOk d) := h.ok
  obtain ⟨bs, bn, ap, cp, ns, nn, f0, g0, h, hm1, hm2, _⟩ := h
  have h2 : w.cell? ⟨b, 2, none⟩ = some (.slice ap d.pend.length cp) := h.cell 2
  have hne : bs ≠ b := h.apart1
  have GE : Hid (base ≤ b ∧ base ≤ bs) := ⟨h.ge.1, h.ge.2.1⟩
  have C0 : Hid (Settling w w base b bs bn ap cp ns keep d 0 f0) := ⟨h.box, h.sure, h.row, fun i hi => h.fit i hi, h.keys, Turn.refl _ _ _⟩
  have HM : Hid (ns + d.pend.length ≤ m) := hm1
  have hpl : d.pend.length ≤ 900000 := by omega
  have hns : ns + d.pend.length ≤ 900000 := by omega
  clear h hk hent hm1 hm2
  go_enter Tryd.func27, Tryd.ntmps27
  go_wp2
  go_loopw [12] (fun iv wr => ∃ (k : Nat) (f : Int → Option (List Int)), k ≤ d.pend.length ∧ iv = .int .i64 (k : Nat) ∧ Settling w wr base b bs bn ap cp ns keep d k f) (fun iv _ => d.pend.length - (intOf iv).toNat)
  case atStart => exact ⟨0, f0, Nat.zero_le _, rfl, C0.out⟩
  case round =>
    obtain ⟨k, f, hkl, rfl, hC⟩ := hrel
    rename World => wr
    by_cases hlt : k < d.pend.length
    · have HC : Hid (Settling w wr base b bs bn ap cp ns keep d k f) := hC
      have hwr := HOK.out.wr
      obtain ⟨gp, rfl, _, hcp, _, hrg⟩ := hC.row.some hlt (fun x hx => (hwr x hx).2.1)
      have hx := hwr _ (List.getElem_mem hlt)
      obtain ⟨x, hX⟩ : ∃ x, d.pend[k] = x := ⟨_, rfl⟩
      have EX : Hid (d.pend[k] = x) := hX
      rw [hX] at hrg hx
      have HX : Hid (x.at < d.n ∧ x.by.length = 64 ∧ AllB x.by) := hx
      have HRG : Hid (wr.rangeAt gp (k * 65) (cellsX x)) := hrg
      have few := HOK.out.few
      have hxa := hx.1
      have k1 : wr.cell? ⟨b, 1, none⟩ = some (.map (some bs)) := cell_of_row _ _ _ _ _ _ hC.box
      have hbw : b < wr.heap.size := (Array.getElem?_eq_some_iff.1 hC.box).1
      clear hC hX hrg hx hwr C0
      go_wp2_with (first
        | (refine wpList_load_mid rfl 77 _ rfl gp (k * 65) rfl (cellsX x) _ HRG.out Tryd.underlying77 rfl (by rw [size65, cellsX_len HX.out.2.1]) ?_)
        | (refine wpList_allocX rfl rfl ?_; intro w1 r1 b1 s1; have B1 : Hid (Below wr.heap.size wr w1) := b1; have R1 : Hid (RowX w1 wr.heap.size ⟨0, zeros⟩) := r1; have S1 : Hid (w1.heap.size = wr.heap.size + 1) := s1; clear r1 b1 s1)
        | (refine wpList_storeX rfl _ _ rfl wr.heap.size x rfl rfl ⟨0, zeros⟩ R1.out zeros_len HX.out.2.1 ?_; intro w2 r2 o2; have B2 : Hid (Below wr.heap.size wr w2) := B1.out.trans (o2.below (Nat.le_refl _)); have R2 : Hid (RowX w2 wr.heap.size x) := r2; have S2 : Hid (w2.heap.size = wr.heap.size + 1) := o2.size.trans S1.out; clear r2 o2; simp only [Act.put]))
      have c1 : w2.cell? ⟨b, 1, none⟩ = some (.map (some bs)) := (B2.out.cell (p := ⟨b, 1, none⟩) hbw).trans k1
      have c0 := R2.out.cell0
      have M2 : MapS w2 bs (ns + k) f := HC.out.sure.same (fun o ho hk => same_below B2.out _ o ho hk)
      obtain ⟨X, hXe⟩ : ∃ X, (f x.at).getD zeros = X := ⟨_, rfl⟩
      have EXX : Hid ((f x.at).getD zeros = X) := hXe
      have XL : Hid (layAll keep 0 (d.pend.take k) d.sure x.at = X ∧ X.length = 64 ∧ AllB X) := by
        have e1 := HC.out.fit x.at HX.out.1
        rw [hXe] at e1
        have e2 := layAll_ok keep (d.pend.take k) 0 d.sure HOK.out.sec (fun y hy => HOK.out.wr y (List.mem_of_mem_take hy)) x.at HX.out.1
        rw [← e1] at e2
        exact ⟨e1.symm, e2⟩
      clear hXe
      refine wp_region_held_drew (S := fun wz => wz.cell? ⟨b, 1, none⟩ = some (.map (some bs)) ∧ wz.cell? ⟨wr.heap.size, 0, none⟩ = some (.int .i64 (x.at : Nat)) ∧ MapS wz bs (ns + k) f) (by kernel_rfl) ⟨c1, c0, M2.same (fun o ho _ => ho)⟩ (fun hS => ?_)
      have HS : Hid (w2.drew.cell? ⟨b, 1, none⟩ = some (.map (some bs)) ∧ w2.drew.cell? ⟨wr.heap.size, 0, none⟩ = some (.int .i64 (x.at : Nat)) ∧ MapS w2.drew bs (ns + k) f) := hS
      clear hS c1 c0 M2
      refine wpAnyH_take (i := 0) (oi := s30) (v := .pointer (some ⟨b, 0, none⟩)) rfl (by kernel_rfl) (by kernel_rfl) (by kernel_rfl) (fun _ _ _ h => h) (.inl ⟨rfl, fun _ _ => rfl⟩) HS.out ?_
      simp only [s30, Act.put, List.setIfInBounds_toArray, List.set_cons_succ, List.set_cons_zero]
      refine wpAnyH_take (i := 1) (oi := s31) (v := .pointer (some ⟨b, 0, none⟩)) rfl (by kernel_rfl) (by kernel_rfl) (by kernel_rfl) (fun _ _ _ h => h) (.inl ⟨rfl, by intro wz hz; clear hz; unfold s31; go_simp⟩) HS.out ?_
      simp only [s31, Act.put, List.setIfInBounds_toArray, List.set_cons_succ, List.set_cons_zero]
      refine wpAnyH_take (i := 2) (oi := s32) (v := .pointer (some ⟨b, 1, none⟩)) rfl (by kernel_rfl) (by kernel_rfl) (by kernel_rfl) (fun _ _ _ h => h) (.inl ⟨rfl, by intro wz hz; clear hz; unfold s32; go_simp⟩) HS.out ?_
      simp only [s32, Act.put, List.setIfInBounds_toArray, List.set_cons_succ, List.set_cons_zero]
      refine wpAnyH_take (i := 3) (oi := s33) (v := .map (some bs)) rfl (by kernel_rfl) (by kernel_rfl) (by kernel_rfl) (fun _ _ _ h => h) (.inl ⟨rfl, by intro wz hz; obtain ⟨z1, _, _⟩ := hz; unfold s33; go_simp⟩) HS.out ?_
      simp only [s33, Act.put, List.setIfInBounds_toArray, List.set_cons_succ, List.set_cons_zero]
      refine wpAnyH_take (i := 4) (oi := s34) (v := .pointer (some ⟨wr.heap.size, 0, none⟩)) rfl (by kernel_rfl) (by kernel_rfl) (by kernel_rfl) (fun _ _ _ h => h) (.inl ⟨rfl, by intro wz hz; clear hz; unfold s34; go_simp⟩) HS.out ?_
      simp only [s34, Act.put, List.setIfInBounds_toArray, List.set_cons_succ, List.set_cons_zero]
      refine wpAnyH_take (i := 5) (oi := s35) (v := .int .i64 (x.at : Nat)) rfl (by kernel_rfl) (by kernel_rfl) (by kernel_rfl) (fun _ _ _ h => h) (.inl ⟨rfl, by intro wz hz; obtain ⟨_, z1, _⟩ := hz; unfold s35; go_simp⟩) HS.out ?_
      simp only [s35, Act.put, List.setIfInBounds_toArray, List.set_cons_succ, List.set_cons_zero]
      refine wpAnyH_take (i := 6) (oi := s36) (v := .agg (cellsB X).toArray) rfl (by kernel_rfl) (by kernel_rfl) (by kernel_rfl) (fun _ _ _ h => h) (.inl ⟨rfl, by intro wz hz; have z1 := hz.2.2.look (i := (x.at : Int)) (by omega); rw [EXX.out] at z1; clear hz; unfold s36; go_simp⟩) HS.out ?_
      simp only [s36, Act.put, List.setIfInBounds_toArray, List.set_cons_succ, List.set_cons_zero]
      refine wpAnyH_all (rs := [7]) (by kernel_rfl) (by simp) ?_
      intro i hi
      obtain rfl : i = 7 := by simpa using hi
      refine wpOp_plain' (o := s37) rfl rfl ?_
      refine wp_allocB rfl ?_
      simp only [s37, Act.put, List.setIfInBounds_toArray, List.set_cons_succ, List.set_cons_zero]
      obtain ⟨GS, hGS⟩ : ∃ GS, w2.drew.heap.size = GS := ⟨_, rfl⟩
      have hGS2 : GS = wr.heap.size + 1 := hGS.symm.trans S2.out
      have Z3 : Hid (RowB (zeroW w2.drew) GS 74 zeros) := by rw [← hGS]; exact zeroW_row _
      have SA : (zeroW w2.drew).cell? ⟨b, 1, none⟩ = some (.map (some bs)) ∧ (zeroW w2.drew).cell? ⟨wr.heap.size, 0, none⟩ = some (.int .i64 (x.at : Nat)) ∧ MapS (zeroW w2.drew) bs (ns + k) f := ⟨Lib.cell?_alloc_some _ HS.out.1, Lib.cell?_alloc_some _ HS.out.2.1, HS.out.2.2.same (fun o ho _ => old_alloc ho)⟩
      have BA : Hid (Below wr.heap.size wr (zeroW w2.drew)) := (⟨B2.out.os, B2.out.tape, B2.out.output, B2.out.size, B2.out.block⟩ : Below wr.heap.size wr w2.drew).trans ((zeroW_below w2.drew).mono (by rw [hGS]; omega))
      have RA : Hid (RowX (zeroW w2.drew) wr.heap.size x) := old_alloc (w := w2.drew) R2.out
      rw [hGS]
      refine ⟨SA, ?_⟩
      refine wpAnyH_all (rs := [8]) (by kernel_rfl) (by simp) ?_
      intro i hi
      obtain rfl : i = 8 := by simpa using hi
      refine wpOp_plain' (o := s38) rfl rfl ?_
      refine wp_storeB _ _ rfl GS X rfl rfl 74 zeros Z3.out zeros_len XL.out.2.1 ?_
      intro w3 r3 o3
      have B3 : Hid (Below wr.heap.size wr w3) := BA.out.trans (o3.below (by omega))
      have R3 : Hid (RowX w3 wr.heap.size x) := by show w3.heap[wr.heap.size]? = _; rw [o3.block _ (by omega)]; exact RA.out
      have Q3 : Hid (RowB w3 GS 74 X) := r3
      have M3 : Hid (MapS w3 bs (ns + k) f) := HC.out.sure.same (fun o ho hk => same_below B3.out _ o ho hk)
      have c1 : w3.cell? ⟨b, 1, none⟩ = some (.map (some bs)) := (B3.out.cell (p := ⟨b, 1, none⟩) hbw).trans k1
      refine ⟨⟨c1, R3.out.cell0, M3.out⟩, wpAnyH_done (by kernel_rfl) ?_ _⟩
      clear r3 o3 SA BA RA Z3 HS hGS
      simp only [s38, Act.put]
      have hkk := hk64 k
      have T3 : Hid (Turn base KC w w3.drew) := (HC.out.turn.trans (Turn.ofBelow B3.out)).drew
      have C3 : Hid (Calls Tryd.prog fn ([Value.int .i64 (k : Nat)] ++ caps).toArray w3.drew (fun e w'' => e = .returned (.int .i64 (keep k : Nat)) ∧ w3.drew = w'')) := HK.out _ k T3.out hlt
      have L3 : Hid ((x.by.take (keep k)).length = keep k) := by show _ = _; rw [List.length_take, HX.out.2.1]; omega
      have I3 : Hid (IsB w3 (some ⟨wr.heap.size, 1, none⟩) (x.by.take (keep k))) := by
        have := IsB.part (R3.out.isB HX.out.2.2) 0 (keep k) rfl
        rw [List.drop_zero] at this
        exact this
      have f1 : (0 : Int) ≤ (keep k : Nat) := by omega
      have f2 : ((keep k : Nat) : Int) ≤ 64 := by omega
      have HX2 : Hid (X.length = 64) := XL.out.2.1
      have G2 : Hid (GS = wr.heap.size + 1) := hGS2
      clear hGS2
      go_wp2_with fail
      refine wp_region_held_drew (S := fun _ => True) (by kernel_rfl) trivial (fun _ => ?_)
      refine wpAnyH_take (i := 0) (oi := s40) (v := .slice (some ⟨GS, 0, none⟩) 64 64) rfl (by kernel_rfl) (by kernel_rfl) (by kernel_rfl) (fun _ _ _ h => h) (.inl ⟨rfl, by intro wz hz; clear hz; unfold s40; go_simp⟩) trivial ?_
      simp only [s40, Act.put, List.setIfInBounds_toArray, List.set_cons_succ, List.set_cons_zero]
      refine wpAnyH_take (i := 1) (oi := s41) (v := .pointer (some ⟨wr.heap.size, 1, none⟩)) rfl (by kernel_rfl) (by kernel_rfl) (by kernel_rfl) (fun _ _ _ h => h) (.inl ⟨rfl, by intro wz hz; clear hz; unfold s41; go_simp⟩) trivial ?_
      simp only [s41, Act.put, List.setIfInBounds_toArray, List.set_cons_succ, List.set_cons_zero]
      refine wpAnyH_take (i := 2) (oi := s42) (v := .func (.func fn) #[] caps.toArray) rfl (by kernel_rfl) (by kernel_rfl) (by kernel_rfl) (fun _ _ _ h => h) (.inl ⟨rfl, fun _ _ => rfl⟩) trivial ?_
      simp only [s42, Act.put, List.setIfInBounds_toArray, List.set_cons_succ, List.set_cons_zero]
      refine wpAnyH_take (i := 3) (oi := s43) (v := .int .i64 (k : Nat)) rfl (by kernel_rfl) (by kernel_rfl) (by kernel_rfl) (fun _ _ _ h => h) (.inl ⟨rfl, fun _ _ => rfl⟩) trivial ?_
      simp only [s43, Act.put, List.setIfInBounds_toArray, List.set_cons_succ, List.set_cons_zero]
      refine wpAnyH_all (rs := [4]) (by kernel_rfl) (by simp) ?_
      intro i hi
      obtain rfl : i = 4 := by simpa using hi
      refine wpOp_plain' (o := s44) rfl rfl ?_
      refine wp_of_step (ops := #[]) rfl (step_callv rfl _ _ _ rfl fn caps rfl _ rfl _ C3.out HE.out ?_)
      rintro e w4 ⟨rfl, rfl⟩
      refine ⟨_, rfl, trivial, ?_⟩
      simp only [s44, Act.put, List.setIfInBounds_toArray, List.set_cons_succ, List.set_cons_zero]
      refine wpAnyH_take (i := 5) (oi := s45) (v := .slice (some ⟨wr.heap.size, 1, none⟩) (keep k) 64) rfl (by kernel_rfl) (by kernel_rfl) (by kernel_rfl) (fun _ _ _ h => h) (.inl ⟨rfl, by intro wz hz; clear hz; unfold s45; go_simp⟩) trivial ?_
      simp only [s45, Act.put, List.setIfInBounds_toArray, List.set_cons_succ, List.set_cons_zero]
      refine wpAnyH_all (rs := [6]) (by kernel_rfl) (by simp) ?_
      intro i hi
      obtain rfl : i = 6 := by simpa using hi
      refine wpOp_plain' (o := s46) rfl rfl ?_
      refine wp_of_step (ops := #[]) rfl (step_copyB rfl _ _ rfl GS 0 64 64 74 X (x.by.take (keep k)) _ (keep k) _ (keep k) rfl rfl L3.out.symm (by omega) Q3.out I3.out (by rw [HX2.out]; omega) ?_)
      intro w4 r4 o4
      refine ⟨trivial, wpAnyH_done (by kernel_rfl) ?_ _⟩
      simp only [s46, Act.put, List.setIfInBounds_toArray, List.set_cons_succ, List.set_cons_zero]
      obtain ⟨N, hN⟩ : ∃ N, over (keep k) x.by X = N := ⟨_, rfl⟩
      have EN : Hid (over (keep k) x.by X = N) := hN
      have NL : Hid (N.length = 64) := by show _ = _; rw [← hN]; exact over_len HX.out.2.1 XL.out.2.1
      have R4 : Hid (RowB w4 GS 74 N) := by
        have e : X.take 0 ++ (x.by.take (keep k)).take (keep k) ++ X.drop (0 + keep k) = N := by rw [← hN, List.take_take, Nat.min_self, Nat.zero_add, List.take_zero, List.nil_append]; rfl
        rw [e] at r4
        exact r4
      have B4 : Hid (Below wr.heap.size wr w4) := B3.out.trans (⟨o4.os, o4.tape, o4.output, Nat.le_of_eq o4.size.symm, fun j hj => o4.block j (by have := G2.out; omega)⟩ : Below wr.heap.size w3 w4)
      have X4 : Hid (RowX w4 wr.heap.size x) := by show w4.heap[wr.heap.size]? = _; rw [o4.block _ (by have := G2.out; omega)]; exact R3.out
      obtain ⟨w5, hupd, hM5, ht5⟩ := MapS.store (w := w4.drew) (HC.out.sure.same (fun o ho hk => same_below B4.out _ o ho hk)) (by omega) (i := (x.at : Int)) (by omega) N
      have hel := turned_else ht5
      obtain ⟨es, cl, hq⟩ := (HC.out.sure.same (w' := w4) (fun o ho hk => same_below B4.out _ o ho hk)).block
      have a1 : w4.drew.cell? ⟨b, 1, none⟩ = some (.map (some bs)) := (B4.out.cell (p := ⟨b, 1, none⟩) hbw).trans k1
      have a2 : w4.drew.cell? ⟨wr.heap.size, 0, none⟩ = some (.int .i64 (x.at : Nat)) := X4.out.cell0
      have a3 : w4.drew.rangeAt GS 0 (cellsB N) := R4.out.range
      have e1 : w5.cell? ⟨b, 1, none⟩ = some (.map (some bs)) := (World.cell?_of_block (hel.2 b (Ne.symm hne))).trans a1
      have e2 : w5.cell? ⟨wr.heap.size, 0, none⟩ = some (.int .i64 (x.at : Nat)) := (World.cell?_of_block (hel.2 _ (fun e => by rw [← e] at hq; have h4 : w4.heap[wr.heap.size]? = _ := X4.out; rw [h4] at hq; cases hq))).trans a2
      have e3 : w5.rangeAt GS 0 (cellsB N) := fun j v hv => (World.cell?_of_block (hel.2 _ (fun e => by rw [← e] at hq; have h4 : w4.heap[GS]? = _ := R4.out; rw [h4] at hq; cases hq))).trans (a3 j v hv)
      have NX : Hid (Settling w w5 base b bs bn (some ⟨gp, 0, none⟩) cp ns keep d (k + 1) (updF f d.pend[k].at (over (keep k) d.pend[k].by (layAll keep 0 (d.pend.take k) d.sure d.pend[k].at)))) := by
        refine HC.out.next (w4 := w4.drew) hlt (by rw [EX.out]; exact HX.out.1) ⟨B4.out.os, B4.out.tape, B4.out.output, B4.out.size, B4.out.block⟩ ?_ ht5 GE.out.2
        rw [EX.out, XL.out.1, EN.out]
        exact hM5
      have sz : (Tryd.prog.info? 74).map (·.size) = some (cellsB N).length := by rw [size64, cellsB_len, NL.out]
      have ud : Tryd.prog.underlying 74 = some (.array 64 5) := Tryd.underlying74
      clear r4 o4 hN hel hq hM5 ht5
      go_wp2_with fail
      go_region_held3 (fun w' => w'.cell? ⟨b, 1, none⟩ = some (.map (some bs)) ∧ w'.cell? ⟨wr.heap.size, 0, none⟩ = some (.int .i64 (x.at : Nat)) ∧ w'.rangeAt GS 0 (cellsB N)) (first | assumption | exact ⟨by assumption, by assumption, by assumption⟩ | go_keep) (fail)
      clear hupd a1 a2 a3 e1 e2 e3 sz ud
      go_wp2
      go_roundw
      case rel => exact ⟨k + 1, _, by omega, by go_num, NX.out⟩
      case measure => simp [intOf]; omega
    · obtain rfl : k = d.pend.length := by omega
      have hmm := @run_makeMap Tryd.prog
      have k2 : wr.cell? ⟨b, 2, none⟩ = some (.slice ap d.pend.length cp) := cell_of_row _ _ _ _ _ _ hC.box
      have k3 : wr.cell? ⟨b, 3, none⟩ = some (.map (some bn)) := cell_of_row _ _ _ _ _ _ hC.box
      have z2 : wr.frozen? ⟨b, 2, none⟩ = false := frozen_of_row _ _ _ _ _ hC.box
      have z3 : wr.frozen? ⟨b, 3, none⟩ = false := frozen_of_row _ _ _ _ _ hC.box
      have n2 := World.new_ne wr ⟨b, 2, none⟩ k2
      have n3 := World.new_ne wr ⟨b, 3, none⟩ k3
      have bx : Hid (wr.heap[b]? = some (.cells (boxC bs bn ap cp d) 66 (0, 0))) := hC.box
      have bx2 : Hid ((wr.setCell ⟨b, 2, none⟩ (.slice none 0 0)).heap[b]? = some (.cells ((boxC bs bn ap cp d).setIfInBounds 2 (.slice none 0 0)) 66 (0, 0))) := set_same _ _ _ _ _ _ _ bx.out rfl
      have bx3 : Hid (((wr.setCell ⟨b, 2, none⟩ (.slice none 0 0)).setCell ⟨b, 3, none⟩ (.map (some wr.heap.size))).heap[b]? = some (.cells (boxC bs wr.heap.size none 0 (settleD keep d)) 66 (0, 0))) := set_same _ _ _ _ _ _ _ bx2.out (by simp [boxC, settleD])
      have hbl : b < wr.heap.size := (Array.getElem?_eq_some_iff.1 hC.box).1
      have hbsl : bs < wr.heap.size := by obtain ⟨es, c, hq⟩ := hC.sure.block; exact (Array.getElem?_eq_some_iff.1 hq).1
      have FIN : Hid (IsD (((wr.setCell ⟨b, 2, none⟩ (.slice none 0 0)).setCell ⟨b, 3, none⟩ (.map (some wr.heap.size))).alloc (.map #[] 0)) base b m (settleD keep d)) := by
        refine hC.done HOK.out GE.out (by have := hC.turn.size; omega) HM.out ?_ (by omega) (old_alloc bx3.out) ?_
        · have := MapI.made ((wr.setCell ⟨b, 2, none⟩ (.slice none 0 0)).setCell ⟨b, 3, none⟩ (.map (some wr.heap.size)))
          simpa using this
        · intro o ho
          refine old_alloc ?_
          rw [set_else _ _ _ _ _ hne, set_else _ _ _ _ _ hne]
          exact ho
      have TF : Hid (Turn base KC w (((wr.setCell ⟨b, 2, none⟩ (.slice none 0 0)).setCell ⟨b, 3, none⟩ (.map (some wr.heap.size))).alloc (.map #[] 0))) := ((hC.turn.trans (set_turn bx.out GE.out.1)).trans (set_turn bx2.out GE.out.1)).alloc _
      clear hC C0
      go_wp2
      go_end0
      exact ⟨rfl, FIN.out, TF.out⟩
end Go.Proofs.YtofmicbhheebiaaDoor
