/- The walk of ImageWhole. -/
import Derived.Test.YtbfamjnnlcopiaaGreatDoorIiI
import Derived.Test.YtbfamjnnlcopiaaGreatDoorGzBC
import Derived.Test.YtbfamjnnlcopiaaGreatDoorIhJ
import Derived.Test.YtbfamjnnlcopiaaGreatDoorGzBE
import Derived.Test.YtbfamjnnlcopiaaGreatDoorBfA
import Derived.Test.YtbfamjnnlcopiaaGreatDoorGzBF
import Derived.Test.YtbfamjnnlcopiaaGreatDoorGzBB
namespace Go.Proofs.YtbfamjnnlcopiaaGreatDoor
open Go.RowKit
set_option linter.unusedVariables false
set_option maxRecDepth 4000

theorem tg_only {g M : Nat} {A w w' : World} (t : Tg g A w) (o : Only M w w') (h : A.heap.size ≤ M) : Tg g A w' :=
  ⟨o.os.trans t.os, o.tape.trans t.tape, o.output.trans t.output, by have := t.size; have := o.size; omega, fun i hi hne => (o.block i (by omega)).trans (t.block i hi hne)⟩
theorem RowB.tgN {w w' : World} {g : Nat} {l : List Int} (h : RowB w g l) (e : w'.heap[g]? = w.heap[g]?) : RowB w' g l := by
  show w'.heap[g]? = _
  rw [e]; exact h
/-- Bytes copied into a block of bytes. -/
theorem copy_got (w : World) (g o n dn dc : Nat) (l s : List Int) (a : Addr) (sc : Nat) (hg : RowB w g l) (hB : IsB w (some a) s) (hs : s.length = n) (hd : n ≤ dn) (hfit : o + n ≤ l.length) :
    ∃ w1, (∀ ty, (Builtin.copy_ #[25, 25] ty #[.slice (some ⟨g, o, none⟩) dn dc, .slice (some a) n sc]).run Tryz.prog w = .ok (goInt n) w1) ∧ RowB w1 g (overR l o s) ∧ Only g w w1 := by
  have e : (cellsB s).length = n := by rw [cellsB_len]; exact hs
  have hrun := fun ty => run_copy_row (P := Tryz.prog) w 25 25 ty 5 g o dn dc a n sc (cellsB l).toArray 5 (cellsB s) Tryz.underlying25 size1 hg (by rw [e]; exact (Nat.min_eq_left hd).symm) (by
      intro j v hv
      have hj : j < s.length := by rw [hs, ← e]; exact (List.getElem?_eq_some_iff.1 hv).1
      obtain ⟨_, q | ⟨b, off, q, _, hcc⟩⟩ := hB
      · rw [q] at hj; simp at hj
      · cases q
        rw [addr_add, hcc j hj, ← hv, cellsB_at _ j hj]) (by rw [e]; simp [cellsB_len]; omega) (cellsB_one _)
  rw [e] at hrun
  refine ⟨_, hrun, ?_, Only.setRow _ _ _⟩
  have hh := setRow_heap w g _ ((cellsB l).take o ++ cellsB s ++ (cellsB l).drop (o + n)).toArray 5 _ hg
  show (World.setRow _ _ _).heap[g]? = _
  rw [show (cellsB l).toArray.toList = cellsB l from rfl, hh]
  congr 2
  simp [cellsB, overR, hs]
theorem make_B0 (w : World) (n : Nat) (hn : n ≤ 16384) : (Instr.makeSlice 25 (.int .i64 (n : Nat)) (.int .i64 (n : Nat))).run Tryz.prog w = .ok (.slice (some ⟨w.heap.size, 0, none⟩) n n) (w.alloc (.cells (cellsB (List.replicate n 0)).toArray 5)) := make_B w n (by omega)
/-- Noughts. -/
def zB (n : Nat) : Array Value := (cellsB (List.replicate n 0)).toArray
theorem sliceB1_run (w : World) (g off n c lo : Nat) (h2 : lo ≤ n) (h3 : n ≤ c) (h4 : lo < c) : (Instr.slice 25 (.slice (some ⟨g, off, none⟩) n c) (some (.int .i64 (lo : Int))) none none).run Tryz.prog w = .ok (.slice (some ⟨g, off + lo, none⟩) (n - lo) (c - lo)) w := by
  have a1 : (lo : Int) ≤ (n : Int) := by omega
  have a3 : ¬ c = lo := by omega
  simp [go_sem, Tryz.underlying25, a1, a3, addr_add]

def iiw0 : Oper := { dst := some 140, op := Op.move (Operand.tmp 9), type := 25, pos := "law.go:172", after := #[], guard := none }
def iiw1 : Oper := { dst := some 141, op := Op.move (Operand.tmp 22), type := 3, pos := "law.go:172", after := #[], guard := none }
def iiw2 : Oper := { dst := some 142, op := Op.slice 25 (Operand.tmp 140) (some (Operand.tmp 141)) none none, type := 25, pos := "law.go:172", after := #[{ on := 0, ground := Ground.data }, { on := 1, ground := Ground.data }], guard := none }
def iiw3 : Oper := { dst := some 143, op := Op.fieldAddr 35 (Operand.tmp 15) 3, type := 0, pos := "law.go:172", after := #[], guard := none }
def iiw4 : Oper := { dst := some 144, op := Op.load 25 (Operand.tmp 143), type := 25, pos := "law.go:172", after := #[{ on := 3, ground := Ground.data }], guard := none }
def iiw5 : Oper := { dst := some 145, op := Op.move (Operand.tmp 20), type := 3, pos := "law.go:172", after := #[], guard := none }
def iiw6 : Oper := { dst := some 146, op := Op.move (Operand.tmp 18), type := 53, pos := "law.go:172", after := #[], guard := none }
def iiw7 : Oper := { dst := some 147, op := Op.call { callee := Callee.value (Operand.func 20), args := #[Operand.tmp 146], argTypes := #[53] }, type := 3, pos := "law.go:172", after := #[{ on := 6, ground := Ground.data }], guard := none }
def iiw8 : Oper := { dst := some 148, op := Op.binOp BinOp.mul 3 (Operand.tmp 145) (Operand.tmp 147) 3, type := 3, pos := "law.go:172", after := #[{ on := 5, ground := Ground.data }, { on := 7, ground := Ground.data }], guard := none }
def iiw9 : Oper := { dst := some 149, op := Op.move (Operand.tmp 20), type := 3, pos := "law.go:172", after := #[], guard := none }
def iiw10 : Oper := { dst := some 150, op := Op.binOp BinOp.add 3 (Operand.tmp 149) (Operand.const (Value.int IntKind.i64 1)) 3, type := 3, pos := "law.go:172", after := #[{ on := 9, ground := Ground.data }], guard := none }
def iiw11 : Oper := { dst := some 151, op := Op.move (Operand.tmp 18), type := 53, pos := "law.go:172", after := #[], guard := none }
def iiw12 : Oper := { dst := some 152, op := Op.call { callee := Callee.value (Operand.func 20), args := #[Operand.tmp 151], argTypes := #[53] }, type := 3, pos := "law.go:172", after := #[{ on := 11, ground := Ground.data }, { on := 7, ground := Ground.chain }], guard := none }
def iiw13 : Oper := { dst := some 153, op := Op.binOp BinOp.mul 3 (Operand.tmp 150) (Operand.tmp 152) 3, type := 3, pos := "law.go:172", after := #[{ on := 10, ground := Ground.data }, { on := 12, ground := Ground.data }], guard := none }
def iiw14 : Oper := { dst := some 154, op := Op.slice 25 (Operand.tmp 144) (some (Operand.tmp 148)) (some (Operand.tmp 153)) none, type := 25, pos := "law.go:172", after := #[{ on := 4, ground := Ground.data }, { on := 8, ground := Ground.data }, { on := 13, ground := Ground.data }], guard := none }
def iiw15 : Oper := { dst := some 155, op := Op.call { callee := Callee.builtin Builtin.copy, args := #[Operand.tmp 142, Operand.tmp 154], argTypes := #[25, 25] }, type := 3, pos := "law.go:172", after := #[{ on := 2, ground := Ground.data }, { on := 14, ground := Ground.data }, { on := 12, ground := Ground.chain }], guard := none }

theorem make_len17 {V : Vw} (h : Hold V 7) {j : Nat} (hj : j < V.ts.length) : (makeG V j).live.length ≤ 16 ∧ (makeG V j).offs.length ≤ 256 ∧ (makeG V j).bytes.length ≤ 65536 := by
  obtain ⟨hr, _⟩ := h.right (by decide) j hj
  have q1 : lvN V j ≤ slN (tdD V.ts j).c := live_le hr.2
  have q2 : slN (tdD V.ts j).c ≤ 16 := (newE_rt hr.1).facts.2.1
  have hl : lvN V j ≤ 16 := by omega
  have hs : (szT V j).toNat ≤ 4096 := by
    have rt := newE_rt hr.1
    obtain ⟨f1, f2, f3, f4, f5, f6, f7, f8, f9, f10, f11⟩ := rt.facts
    unfold szT
    omega
  refine ⟨?_, ?_, ?_⟩
  · show lvN V j ≤ 16
    omega
  · show (mkO V j (lvN V j)).length ≤ 256
    have := (mkO_placed h hj _ (Nat.le_refl _)).2
    omega
  · show (mkB V j (lvN V j)).length ≤ 65536
    rw [mkB_len h hj _ (Nat.le_refl _)]
    calc lvN V j * (szT V j).toNat ≤ 16 * 4096 := Nat.mul_le_mul hl hs
      _ = 65536 := by decide
set_option maxRecDepth 20000 in
set_option maxHeartbeats 16000000 in
theorem imageWhole_any (V : Vw) (A : Va) (xn : Nat) (w : World) (h : Rv0 w V A) (hk : ∀ k ∈ V.ks, k.l.length ≤ 17592186044416) (ht : ∀ t ∈ V.ts, t.l.length ≤ 17592186044416) (hn : xn ≤ 4294967295) (hT : Tabs w) :
    Calls Tryz.prog 4 #[.agg #[.int .i64 V.base, .int .i64 V.pgs, .slice A.ka A.kn A.kc, .slice A.ra A.rn A.rc, .slice A.sa A.sn A.sc, .slice A.ba A.bn A.bc], .int .u32 (xn : Nat)] w fun e w' => e = .returned (.bool true) ∧ Below w.heap.size w w' := by
  obtain ⟨ka, ra, sa, ba, kn, rn, sn, bn, kc, rc, sc, bc⟩ := A
  obtain ⟨E, hE, bE, rE⟩ := vbox w V ⟨ka, ra, sa, ba, kn, rn, sn, bn, kc, rc, sc, bc⟩
  simp only at hE rE
  have HE : Hid (w.alloc (.cells #[.int .i64 V.base, .int .i64 V.pgs, .slice ka kn kc, .slice ra rn rc, .slice sa sn sc, .slice ba bn bc] 27) = E) := hE
  have BE : Hid (Bl w E) := bE
  have RE : Hid (E.heap[w.heap.size]? = some (.cells #[.int .i64 V.base, .int .i64 V.pgs, .slice ka kn kc, .slice ra rn rc, .slice sa sn sc, .slice ba bn bc] 27 (0, 0))) := rE
  have H0 : Hid (Rv0 E V ⟨ka, ra, sa, ba, kn, rn, sn, bn, kc, rc, sc, bc⟩) := h.keep bE
  have HK : Hid (∀ k ∈ V.ks, k.l.length ≤ 17592186044416) := hk
  have HTS : Hid (∀ t ∈ V.ts, t.l.length ≤ 17592186044416) := ht
  have HT : Hid (Tabs E) := hT.keep bE
  have FIN : Hid (∀ w', Bl E w' → Below w.heap.size w w') := fun w' b => BE.out.trans b
  clear h hk ht hT bE rE hE
  go_enter Tryz.func4, Tryz.ntmps4
  go_upto_region 1 with (fail)
  rw [HE.out]
  go_wp2_with fail
  refine (alive_any17 E HT.out).mono ?_
  rintro e w1 ⟨rfl, b1⟩
  have B1 : Hid (Bl E w1) := b1
  obtain ⟨c0, c1, c2, c3, c4, c5⟩ := six (B1.out.row RE.out)
  clear b1
  go_wp2_with fail
  refine (great_any V ⟨ka, ra, sa, ba, kn, rn, sn, bn, kc, rc, sc, bc⟩ w1 (H0.out.keep B1.out)).mono ?_
  rintro e w2 ⟨r2, rfl, hs, b2⟩
  have B2 : Hid (Bl E w2) := B1.out.trans b2
  clear c0 c1 c2 c3 c4 c5 b2
  cases r2 with
  | true =>
    go_wp2
    go_ret
    exact ⟨rfl, FIN.out _ B2.out⟩
  | false =>
    have SM : Hid (SmallV V) := hs rfl
    clear hs
    have RVE : Hid (Rv E V ⟨ka, ra, sa, ba, kn, rn, sn, bn, kc, rc, sc, bc⟩) := H0.out.small SM.out
    have NM : Hid (Nums V) := RVE.out.nums
    obtain ⟨c0, c1, c2, c3, c4, c5⟩ := six (B2.out.row RE.out)
    go_wp2_with fail
    refine (racheck_any V ⟨ka, ra, sa, ba, kn, rn, sn, bn, kc, rc, sc, bc⟩ w2 (RVE.out.keep B2.out)).mono ?_
    rintro e w3 ⟨r3, x3, rfl, hc3, b3⟩
    have B3 : Hid (Bl E w3) := B2.out.trans b3
    clear c0 c1 c2 c3 c4 c5 b3
    by_cases hH : Hold V 7
    rotate_left
    · have r0 : 0 < r3 := chk_bad hc3 hH
      have hr : (r3 != 0) = true := bne_iff_ne.2 (by omega)
      clear hc3 hH
      go_wp2
      go_ret
      exact ⟨rfl, FIN.out _ B3.out⟩
    obtain ⟨rfl, rfl⟩ := chk_good hc3 hH
    have HH : Hid (Hold V 7) := hH
    clear hc3 hH
    obtain ⟨c0, c1, c2, c3, c4, c5⟩ := six (B3.out.row RE.out)
    obtain ⟨B, hB⟩ : ∃ B : Int, 256 + 256 * (xn : Int) = B := ⟨_, rfl⟩
    obtain ⟨y1, hy1⟩ : ∃ y1 : Int, 256 * (xn : Int) = y1 := ⟨_, rfl⟩
    have a1 : IntKind.i64.wrap (xn : Int) = (xn : Int) := by rw [IntKind.wrap_i64]; omega
    have a2 : IntKind.i64.wrap (256 * (xn : Int)) = y1 := by rw [IntKind.wrap_i64]; omega
    have a3 : IntKind.i64.wrap (256 + y1) = B := by rw [IntKind.wrap_i64]; omega
    have HG : Hid (goodR B) := by show goodR B; unfold goodR; omega
    have HB2 : Hid (0 ≤ B ∧ B ≤ 1099511627776) := ⟨by omega, by omega⟩
    clear hB hy1
    go_wp2_with fail
    refine (amoved_any V ⟨ka, ra, sa, ba, kn, rn, sn, bn, kc, rc, sc, bc⟩ B w3 (RVE.out.keep B3.out) HH.out HB2.out.1 HB2.out.2 HK.out HTS.out).mono ?_
    rintro e w4 ⟨A', gr, gb, rfl, cp, b4⟩
    obtain ⟨ka1, ra1, sa1, ba1, kn1, rn1, sn1, bn1, kc1, rc1, sc1, bc1⟩ := A'
    simp only
    have hl : (movV V B).bs.length = V.bs.length := mvL_len _ _ (HH.out.fds HB2.out.1 HB2.out.2)
    have VML : Hid ((movV V B).bs.length = V.bs.length) := hl
    have NM2 : Hid (Nums (movV V B)) := by
      have q := NM.out
      exact ⟨q.ki, q.si, mvL_all _ _ q.ab, (by have := HB2.out; unfold i64; show -9223372036854775808 ≤ B ∧ B ≤ 9223372036854775807; omega), q.pi, q.ti, q.ri, q.kz, q.rz, q.tz, by rw [hl]; exact q.bz⟩
    have RV4 : Hid (Rv w4 (movV V B) ⟨ka1, ra1, sa1, ba1, kn1, rn1, sn1, bn1, kc1, rc1, sc1, bc1⟩) := cp.rv NM2.out
    have HHM : Hid (Hold (movV V B) 7) := moved_hold HH.out HG.out
    have B4 : Hid (Bl E w4) := B3.out.trans b4
    have BLN : Hid (V.bs.length = bn) := RVE.out.bl
    have SNL : Hid (V.ts.length = sn) := RVE.out.sl
    have b16 : bn ≤ 16384 := by have := RVE.out.bz; have := BLN.out; omega
    have t64 : sn ≤ 64 := by have := RVE.out.tz; have := SNL.out; omega
    have ebn : (movV V B).bs.length = bn := by rw [hl]; exact BLN.out
    have VLB : Hid ((movV V B).bs.length = bn) := ebn
    clear cp b4 c0 c1 c2 c3 c4 c5 hl ebn
    go_wp2_with fail
    refine (dclean_any (movV V B) ⟨ka1, ra1, sa1, ba1, kn1, rn1, sn1, bn1, kc1, rc1, sc1, bc1⟩ w4 RV4.out HHM.out HK.out HTS.out).mono ?_
    rintro e w5 ⟨A3, rfl, iW, b5⟩
    obtain ⟨ka3, ra3, sa3, ba3, kn3, rn3, sn3, bn3, kc3, rc3, sc3, bc3⟩ := A3
    simp only
    simp only at iW
    rw [VLB.out]
    simp only [show (movV V B).base = B from rfl, show (movV V B).pgs = V.pgs from rfl]
    have LVE : lvT (movV V B) (movV V B).ts.length = lvT V V.ts.length := funext (mv_lvT V B V.ts.length)
    rw [LVE] at iW
    obtain ⟨mb5, hmb⟩ : ∃ L, (movV V B).bs = L := ⟨_, rfl⟩
    have HMB : Hid ((movV V B).bs = mb5) := hmb
    rw [hmb] at iW
    have ML : Hid (mb5.length = bn) := by show _ = _; rw [← hmb]; exact VLB.out
    have MA : Hid (AllB mb5) := by show AllB _; rw [← hmb]; exact NM2.out.ab
    obtain ⟨X5, hX5⟩ : ∃ X5, w5.alloc (.cells #[.int .i64 B, .int .i64 V.pgs, .slice ka3 kn3 kc3, .slice ra3 rn3 rc3, .slice sa3 sn3 sc3, .slice ba3 bn bc3] 27) = X5 := ⟨_, rfl⟩
    have HX5 : Hid (w5.alloc (.cells #[.int .i64 B, .int .i64 V.pgs, .slice ka3 kn3 kc3, .slice ra3 rn3 rc3, .slice sa3 sn3 sc3, .slice ba3 bn bc3] 27) = X5) := hX5
    have bX5 : Bl w5 X5 := by rw [← hX5]; exact (Bl.refl w5).alloc _
    obtain ⟨v5, hv5⟩ : ∃ v5, w5.heap.size = v5 := ⟨_, rfl⟩
    have HV5 : Hid (w5.heap.size = v5) := hv5
    have RX5 : Hid (X5.heap[v5]? = some (.cells #[.int .i64 B, .int .i64 V.pgs, .slice ka3 kn3 kc3, .slice ra3 rn3 rc3, .slice sa3 sn3 sc3, .slice ba3 bn bc3] 27 (0, 0))) := by show _ = _; rw [← hv5, ← hX5]; exact Go.heap_alloc_new w5 _
    have IW : Hid (IsB X5 ba3 (mskL (lvT V V.ts.length) mb5)) := iW.keep bX5
    have B5 : Hid (Bl E X5) := (B4.out.trans b5).trans bX5
    have MK : ∀ w : World, (Instr.makeSlice 25 (.int .i64 (bn : Nat)) (.int .i64 (bn : Nat))).run Tryz.prog w = .ok (.slice (some ⟨w.heap.size, 0, none⟩) bn bn) (w.alloc (.cells (zB bn) 5)) := fun w => make_B0 w bn b16
    obtain ⟨X6, hX6⟩ : ∃ X6, X5.alloc (.cells (zB bn) 5) = X6 := ⟨_, rfl⟩
    have HX6 : Hid (X5.alloc (.cells (zB bn) 5) = X6) := hX6
    have b56 : Bl X5 X6 := by rw [← hX6]; exact (Bl.refl X5).alloc _
    obtain ⟨g, hg⟩ : ∃ g, X5.heap.size = g := ⟨_, rfl⟩
    have HGS : Hid (X5.heap.size = g) := hg
    have R0 : Hid (RowB X6 g (mskL (lvT V 0) mb5)) := by
      show RowB _ _ _
      have e1 : lvT V 0 = fun _ => false := rfl
      rw [e1, msk_none, ML.out]
      show X6.heap[g]? = _
      rw [← hg, ← hX6]
      exact Go.heap_alloc_new X5 _
    have Z6 : Hid (X6.heap.size = g + 1) := by show _ = _; rw [← hX6, ← hg]; simp
    have B56 : Hid (Bl X5 X6) := b56
    have FX : Hid (∀ wz, Tg g X6 wz → Bl X5 wz) := fun wz t => Below.trans (show Below X5.heap.size X5 X6 from B56.out) (t.below (by rw [HGS.out]; exact Nat.le_refl _) (Below.size (show Below X5.heap.size X5 X6 from B56.out)))
    have FE : Hid (∀ wz, Tg g X6 wz → Bl E wz) := fun wz t => B5.out.trans (FX.out wz t)
    obtain ⟨c0, c1, c2, c3, c4, c5⟩ := six (B5.out.row RE.out)
    clear iW LVE b5 bX5 hX5 hv5 hX6 b56 hg hmb
    go_upto_region 10 with (fail)
    rw [HX5.out]
    try rw [HV5.out]
    go_upto_region 11 with (fail)
    rw [HX6.out]
    try rw [HGS.out]
    clear c0 c1 c2 c3 c4 c5
    obtain ⟨c0, c1, c2, c3, c4, c5⟩ := six ((FE.out X6 (Tg.refl _ _)).row RE.out)
    go_wp2_with fail
    go_loopw [50] (fun iv wz => ∃ k : Nat, k ≤ sn ∧ iv = .int .i64 (k : Nat) ∧ RowB wz g (mskL (lvT V k) mb5) ∧ Tg g X6 wz) (fun iv _ => sn - lenW iv)
    case atStart => exact ⟨0, Nat.zero_le _, rfl, R0.out, Tg.refl _ _⟩
    case round =>
      clear R0 c0 c1 c2 c3 c4 c5
      obtain ⟨k, hk, rfl, hR, hTg⟩ := hrel
      rename World => wz
      have RZ : Hid (RowB wz g (mskL (lvT V k) mb5)) := hR
      have TZ : Hid (Tg g X6 wz) := hTg
      clear hR hTg
      have BZ : Hid (Bl E wz) := FE.out wz TZ.out
      by_cases hkn : k < sn
      · have hkl : k < V.ts.length := by rw [SNL.out]; exact hkn
        have HKL : Hid (k < V.ts.length) := hkl
        have k0 : (k : Int) < (sn : Int) := by omega
        have k00 : (0 : Int) ≤ (k : Int) := by omega
        obtain ⟨hr, _⟩ := HH.out.right (by decide) k hkl
        obtain ⟨gs, os, la, lc, esa, s0, s1, s2, s3, sI, sm⟩ := RVE.out.ts k hkl
        have esa : sa = some ⟨gs, os, none⟩ := esa
        subst esa
        have e0 : V.ts[k]'hkl = tdD V.ts k := (tdD_at hkl).symm
        rw [e0] at s0 s1 s2 s3 sI sm
        obtain ⟨td, htd⟩ : ∃ td, tdD V.ts k = td := ⟨_, rfl⟩
        rw [htd] at s0 s1 s2 s3 sI sm hr
        obtain ⟨p, c, s, l⟩ := td
        simp only at s0 s1 s2 s3 sI sm
        have HTD : Hid (tdD V.ts k = ⟨p, c, s, l⟩) := htd
        have RT : Hid (Rt p c s) := newE_rt hr.1
        have HNE : Hid (newE p c s = 0 ∧ okL (slN c) (-1) l = true) := hr
        have PI64 : Hid (i64' p) := by
          have q1 := RT.out.p0
          have q2 := RT.out.p1
          have q3 := pgsN_le c s
          show i64' p
          unfold i64'
          omega
        have l16 : l.length ≤ 16 := by
          have q1 : l.length ≤ slN c := live_le hr.2
          have q2 : slN c ≤ 16 := (newE_rt hr.1).facts.2.1
          omega
        have HLM : Hid (l.length ≤ maxLen) := by show _ ≤ _; unfold maxLen; omega
        have LVN : Hid (lvN V k = l.length) := by show (tdD V.ts k).l.length = _; rw [HTD.out]
        obtain ⟨z, hz⟩ : ∃ z : Nat, (szT V k).toNat = z := ⟨_, rfl⟩
        have zz : 16 ≤ szT V k ∧ szT V k ≤ 4096 := by
          have rt : Rt p c s := newE_rt hr.1
          obtain ⟨f1, f2, f3, f4, f5, f6, f7, f8, f9, f10, f11⟩ := rt.facts
          unfold szT
          rw [HTD.out]
          show 16 ≤ szI c s ∧ szI c s ≤ 4096
          omega
        have SZ : Hid (szT V k = (z : Int)) := by show _ = _; omega
        have HZ : Hid ((szT V k).toNat = z) := hz
        have HSZ : Hid (szI c s = (z : Int)) := by have := SZ.out; unfold szT at this; rw [HTD.out] at this; exact this
        have z4 : z ≤ 4096 := by omega
        have z16 : 16 ≤ z := by omega
        obtain ⟨b2, hmv⟩ := make_goes HH.out NM.out.ab HG.out hkl
        have MR := make_right HH.out hkl
        obtain ⟨ml1, ml2, ml3⟩ := make_len17 HH.out hkl
        obtain ⟨m, hm⟩ : ∃ m, makeG V k = m := ⟨_, rfl⟩
        rw [hm] at hmv MR ml1 ml2 ml3
        have mf : p = m.p ∧ c = m.c ∧ s = m.s ∧ l = m.live := by rw [← hm]; unfold makeG; rw [HTD.out]; exact ⟨rfl, rfl, rfl, rfl⟩
        obtain ⟨mp, mc, ms, mlv, bb, offs, bytes⟩ := m
        simp only at mf ml1 ml2 ml3
        obtain ⟨rfl, rfl, rfl, rfl⟩ := mf
        have HMK : Hid (makeG V k = ⟨p, c, s, l, bb, offs, bytes⟩) := hm
        have HMR : Hid (rightG ⟨p, c, s, l, bb, offs, bytes⟩ = true) := MR
        have eby : bytes = mkB V k (lvN V k) := by have e : bytes = (makeG V k).bytes := (by rw [hm]); exact e
        have AYB : Hid (AllB bytes) := by show AllB _; rw [eby]; exact mkB_all NM.out.ab k (lvN V k)
        have EOF : offs = mkO V k (lvN V k) := by have e : offs = (makeG V k).offs := (by rw [hm]); exact e
        obtain ⟨by2, hby2⟩ : ∃ L, mkB (movV V B) k (lvN V k) = L := ⟨_, rfl⟩
        have HMV : Hid (moveG ⟨p, c, s, l, bb, offs, bytes⟩ B bn = (⟨p, c, s, l, b2, offs, by2⟩, 0)) := by
          rw [BLN.out, HTD.out, hby2, ← EOF] at hmv
          exact hmv
        have BYL : Hid (by2.length = l.length * z) := by
          show _ = _
          rw [← hby2]
          have q := mkB_len HHM.out (j := k) hkl (lvN V k) (Nat.le_refl _)
          have q : (mkB (movV V B) k (lvN V k)).length = lvN V k * (szT V k).toNat := q
          rw [q, LVN.out, hz]
        have CHK : Hid (∀ n, n < l.length → (by2.drop (n * z)).take z = (mb5.drop (plV V k n).toNat).take z) := fun n hn => by
          have q := mkB_chunk HHM.out (j := k) hkl (lvN V k) n (by rw [LVN.out]; exact hn) (Nat.le_refl _)
          rw [hby2] at q
          have q : (by2.drop (n * (szT V k).toNat)).take (szT V k).toNat = ((movV V B).bs.drop (plV V k n).toNat).take (szT V k).toNat := q
          rw [hz, HMB.out] at q
          exact q
        have AY2 : Hid (AllB by2) := by show AllB _; rw [← hby2]; exact mkB_all NM2.out.ab k (lvN V k)
        have SCL : Hid (∀ wq, Bl E wq → wq.cell? ⟨gs, os + k * 4, none⟩ = some (.int .i64 p) ∧ wq.cell? ⟨gs, os + k * 4 + 1, none⟩ = some (.int .i64 c) ∧ wq.cell? ⟨gs, os + k * 4 + 2, none⟩ = some (.int .i64 s) ∧ wq.cell? ⟨gs, os + k * 4 + 3, none⟩ = some (.slice la l.length lc)) := fun wq b => ⟨bcell b s0, bcell b s1, bcell b s2, bcell b s3⟩
        have HSI : Hid (IsI E la l) := sI
        obtain ⟨c0, c1, c2, c3, c4, c5⟩ := six (BZ.out.row RE.out)
        clear hm hmv MR hr htd e0 s0 s1 s2 s3 sI sm hby2 EOF hz zz eby
        have MAKE : Hid (Calls Tryz.prog 8 #[.agg #[.int .i64 V.base, .int .i64 V.pgs, .slice ka kn kc, .slice ra rn rc, .slice (some ⟨gs, os, none⟩) sn sc, .slice ba bn bc], .int .i64 (k : Int)] wz fun e w' => ∃ la7 lc7 oa7 oc7 ba7 bc7, e = .returned (.tuple #[.agg #[.int .i64 p, .int .i64 c, .int .i64 s, .slice la7 l.length lc7, .int .i64 bb, .slice oa7 offs.length oc7, .slice ba7 bytes.length bc7], .int .i64 0]) ∧ IsI w' la7 l ∧ IsI w' oa7 offs ∧ OwnsB w' wz.heap.size ba7 bytes bc7 ∧ Below wz.heap.size wz w') := by
          refine (imake_ok V ⟨ka, ra, some ⟨gs, os, none⟩, ba, kn, rn, sn, bn, kc, rc, sc, bc⟩ (k : Int) wz (RVE.out.keep BZ.out) (HT.out.keep BZ.out) HH.out k HKL.out rfl).mono (fun e w' h => ?_)
          unfold MakP at h
          rw [HMK.out] at h
          exact h
        go_wp2_with fail
        refine MAKE.out.mono ?_
        rintro e w7 ⟨la7, lc7, oa7, oc7, ba7, bc7, rfl, iL, iO, iB, b7⟩
        clear c0 c1 c2 c3 c4 c5
        have HMO : Hid (offs.length ≤ maxLen) := by show _ ≤ _; unfold maxLen; omega
        have HMY : Hid (bytes.length ≤ maxLen) := by show _ ≤ _; unfold maxLen; omega
        have HL1 : Hid (l.length ≤ 17592186044416) := by show _ ≤ _; omega
        have HO1 : Hid (offs.length ≤ 17592186044416) := by show _ ≤ _; omega
        have HY1 : Hid (bytes.length ≤ 140737488355328) := by show _ ≤ _; omega
        obtain ⟨X7, hX7, zX7, rX7, bX7⟩ := ibox 35 w7 p c s la7 l.length lc7 bb oa7 offs.length oc7 ba7 bytes.length bc7
        have HX7 : Hid (w7.alloc (.cells #[.int .i64 p, .int .i64 c, .int .i64 s, .slice la7 l.length lc7, .int .i64 bb, .slice oa7 offs.length oc7, .slice ba7 bytes.length bc7] 35) = X7) := hX7
        obtain ⟨N7, hN7⟩ : ∃ N, w7.heap.size = N := ⟨_, rfl⟩
        rw [hN7] at rX7
        have HN7 : Hid (w7.heap.size = N7) := hN7
        have CX7 : Hid (Ic X7 N7 p c s la7 l.length lc7 bb oa7 offs.length oc7 ba7 bytes.length bc7) := icell rX7
        have BZ7 : Hid (Bl wz X7) := Bl.trans b7 bX7
        have BE7 : Hid (Bl E X7) := BZ.out.trans BZ7.out
        have IL7 : Hid (IsI X7 la7 l) := IsI.keep iL bX7
        have IO7 : Hid (IsI X7 oa7 offs) := IsI.keep iO bX7
        have OB7 : Hid (OwnsB X7 wz.heap.size ba7 bytes bc7) := OwnsB.keep iB bX7
        clear iL iO iB b7 hX7 zX7 rX7 bX7 hN7
        go_upto_region 15 with (fail)
        rw [HX7.out]
        try rw [HN7.out]
        obtain ⟨XB, hXB⟩ : ∃ L, bodyG ⟨p, c, s, l, bb, offs, bytes⟩ = L := ⟨_, rfl⟩
        have HXB : Hid (outG ⟨p, c, s, l, bb, offs, bytes⟩ = XB ∧ errG ⟨p, c, s, l, bb, offs, bytes⟩ = 0) := by
          have q := out_ok HMR.out
          rw [hXB] at q
          exact q
        have RBK : Hid (readG XB = (⟨p, c, s, l, bb, offs, bytes⟩, 0)) := by
          have q := read_backG HMR.out
          rw [hXB] at q
          exact q
        have AXB : Hid (AllB XB) := by have q := out_byte ⟨p, c, s, l, bb, offs, bytes⟩ AYB.out; rw [HXB.out.1] at q; exact q
        have XBL : Hid (XB.length ≤ 90000) := by have q := out_len ⟨p, c, s, l, bb, offs, bytes⟩; rw [HXB.out.1] at q; exact q
        have BODY : Hid (Calls Tryz.prog 16 #[.agg #[.int .i64 p, .int .i64 c, .int .i64 s, .slice la7 l.length lc7, .int .i64 bb, .slice oa7 offs.length oc7, .slice ba7 bytes.length bc7]] X7 fun e w' => ∃ a8 k8, e = .returned (.tuple #[.slice a8 XB.length k8, .int .i64 0]) ∧ OwnsB w' X7.heap.size a8 XB k8 ∧ Below X7.heap.size X7 w') := by
          have q := ibody_any p c s bb la7 oa7 ba7 lc7 oc7 bc7 l offs bytes X7 (HT.out.keep BE7.out) IL7.out IO7.out (ownsB_isB AYB.out OB7.out) (rownsB_isL OB7.out).2.2 HLM.out HMO.out HMY.out PI64.out
          rw [HXB.out.1, HXB.out.2] at q
          exact q
        obtain ⟨m0, m1, m2, m3, m4, m5, m6⟩ := CX7.out
        clear hXB
        go_wp2_with fail
        refine BODY.out.mono ?_
        rintro e w8 ⟨a8, k8, rfl, o8, b8⟩
        have BE8 : Hid (Bl E w8) := BE7.out.trans b8
        have BZ8 : Hid (Bl wz w8) := BZ7.out.trans b8
        have READ : Hid (Calls Tryz.prog 17 #[.slice a8 XB.length k8] w8 fun e w' => ∃ la9 lc9 oa9 oc9 ba9 bc9, e = .returned (.tuple #[.agg #[.int .i64 p, .int .i64 c, .int .i64 s, .slice la9 l.length lc9, .int .i64 bb, .slice oa9 offs.length oc9, .slice ba9 bytes.length bc9], .int .i64 0]) ∧ IsI w' la9 l ∧ IsI w' oa9 offs ∧ OwnsB w' w8.heap.size ba9 bytes bc9 ∧ Below w8.heap.size w8 w') := by
          refine (iread_any a8 k8 XB w8 (ownsB_isB AXB.out o8) (by have := XBL.out; omega) (fun h => ((rownsB_isL o8).2.2 h).1) (HT.out.keep BE8.out)).mono (fun e w' h => ?_)
          obtain ⟨m, er, la9, lc9, oa9, oc9, ba9, bc9, hR, he, iL, iO, iF, b9, _⟩ := h
          rw [RBK.out] at hR
          simp only [Prod.mk.injEq] at hR
          obtain ⟨rfl, rfl⟩ := hR
          exact ⟨la9, lc9, oa9, oc9, ba9, bc9, he, iL, iO, fresh_own iF, b9⟩
        clear o8 b8 m0 m1 m2 m3 m4 m5 m6
        go_wp2_with fail
        refine READ.out.mono ?_
        rintro e w9 ⟨la9, lc9, oa9, oc9, ba9, bc9, rfl, iL, iO, iB, b9⟩
        obtain ⟨X9, hX9, zX9, rX9, bX9⟩ := ibox 35 w9 p c s la9 l.length lc9 bb oa9 offs.length oc9 ba9 bytes.length bc9
        have HX9 : Hid (w9.alloc (.cells #[.int .i64 p, .int .i64 c, .int .i64 s, .slice la9 l.length lc9, .int .i64 bb, .slice oa9 offs.length oc9, .slice ba9 bytes.length bc9] 35) = X9) := hX9
        obtain ⟨N9, hN9⟩ : ∃ N, w9.heap.size = N := ⟨_, rfl⟩
        rw [hN9] at rX9
        have HN9 : Hid (w9.heap.size = N9) := hN9
        have RX9 : Hid (X9.heap[N9]? = some (.cells (icells p c s la9 l.length lc9 bb oa9 offs.length oc9 ba9 bytes.length bc9) 35 (0, 0))) := rX9
        have BZ9 : Hid (Bl wz X9) := (BZ8.out.trans b9).trans bX9
        have BE9 : Hid (Bl E X9) := BZ.out.trans BZ9.out
        have NW9 : Hid (wz.heap.size ≤ N9) := by
          have q1 := Below.size (show Below wz.heap.size wz w8 from BZ8.out)
          have q2 := b9.size
          show _ ≤ _
          omega
        have IL9 : Hid (IsI X9 la9 l) := IsI.keep iL bX9
        have IO9 : Hid (IsI X9 oa9 offs) := IsI.keep iO bX9
        have OB9 : Hid (OwnsB X9 w8.heap.size ba9 bytes bc9) := OwnsB.keep iB bX9
        clear iL iO iB b9 hX9 zX9 rX9 bX9 hN9
        go_upto_region 17 with (fail)
        rw [HX9.out]
        try rw [HN9.out]
        have MOVE : Hid (Calls Tryz.prog 18 #[.agg #[.int .i64 p, .int .i64 c, .int .i64 s, .slice la9 l.length lc9, .int .i64 bb, .slice oa9 offs.length oc9, .slice ba9 bytes.length bc9], .int .i64 B, .int .i64 (bn : Nat)] X9 fun e w' => ∃ la10 lc10 oa10 oc10 ba10 bc10, e = .returned (.tuple #[.agg #[.int .i64 p, .int .i64 c, .int .i64 s, .slice la10 l.length lc10, .int .i64 b2, .slice oa10 offs.length oc10, .slice ba10 by2.length bc10], .int .i64 0]) ∧ IsI w' la10 l ∧ IsB w' ba10 by2 ∧ by2.length ≤ bc10 ∧ (∀ ad, la10 = some ad → X9.heap.size ≤ ad.block) ∧ (by2 = [] ∨ ∀ ad, ba10 = some ad → X9.heap.size ≤ ad.block) ∧ Below X9.heap.size X9 w') := by
          refine (imove_anyN p c s bb la9 oa9 ba9 lc9 oc9 bc9 l offs bytes B bn X9 IL9.out IO9.out (ownsB_isB AYB.out OB9.out) HL1.out HO1.out HY1.out (ownsB_cap OB9.out) (HT.out.keep BE9.out) PI64.out).mono (fun e w' h => ?_)
          unfold MoveN at h
          rw [HMV.out] at h
          obtain ⟨la10, lc10, oa10, oc10, ba10, bc10, q1, q2, q3, q4, q5, q6, q8, q7⟩ := h
          exact ⟨la10, lc10, oa10, oc10, ba10, bc10, q1, q2, q4, q5, q6, q8, q7⟩
        obtain ⟨m0, m1, m2, m3, m4, m5, m6⟩ := icell RX9.out
        obtain ⟨c0, c1, c2, c3, c4, c5⟩ := six (BE9.out.row RE.out)
        go_wp2_with fail
        refine MOVE.out.mono ?_
        rintro e w10 ⟨la10, lc10, oa10, oc10, ba10, bc10, rfl, iL, iB, kc, gL, gB, b10⟩
        have R10 : Hid (w10.heap[N9]? = some (.cells (icells p c s la9 l.length lc9 bb oa9 offs.length oc9 ba9 bytes.length bc9) 35 (0, 0))) := Bl.row b10 RX9.out
        have BZ10 : Hid (Bl wz w10) := BZ9.out.trans b10
        have BE10 : Hid (Bl E w10) := BZ.out.trans BZ10.out
        have on := lay7_only w10 N9 (.int .i64 p) (.int .i64 c) (.int .i64 s) (.slice la10 l.length lc10) (.int .i64 b2) (.slice oa10 offs.length oc10) (.slice ba10 by2.length bc10)
        obtain ⟨X10, hX10⟩ : ∃ LW, lay7 w10 N9 (.int .i64 p) (.int .i64 c) (.int .i64 s) (.slice la10 l.length lc10) (.int .i64 b2) (.slice oa10 offs.length oc10) (.slice ba10 by2.length bc10) = LW := ⟨_, rfl⟩
        have rL : X10.heap[N9]? = some (.cells (icells p c s la10 l.length lc10 b2 oa10 offs.length oc10 ba10 by2.length bc10) 35 (0, 0)) := by rw [← hX10]; exact lay7_row R10.out
        have LV : Hid (X10 = (((((((w10.setCell ⟨N9, 0, none⟩ (.int .i64 p)).setCell ⟨N9, 1, none⟩ (.int .i64 c)).setCell ⟨N9, 2, none⟩ (.int .i64 s)).setCell ⟨N9, 3, none⟩ (.slice la10 l.length lc10)).setCell ⟨N9, 4, none⟩ (.int .i64 b2)).setCell ⟨N9, 5, none⟩ (.slice oa10 offs.length oc10)).setCell ⟨N9, 6, none⟩ (.slice ba10 by2.length bc10))) := by show _ = _; rw [← hX10]; rfl
        rw [hX10] at on
        have RL : Hid (X10.heap[N9]? = some (.cells (icells p c s la10 l.length lc10 b2 oa10 offs.length oc10 ba10 by2.length bc10) 35 (0, 0))) := rL
        have GZ : Hid (g < wz.heap.size) := RZ.out.lt
        have NG9 : Hid (N9 ≠ g) := by show _ ≠ _; have := NW9.out; have := GZ.out; omega
        have TX10 : Hid (Tg g X6 X10) := tg_only (TZ.out.trans (Tg.ofBelow (show Below wz.heap.size wz w10 from BZ10.out))) on (by have := NW9.out; have := TZ.out.size; omega)
        have BE10' : Hid (Bl E X10) := FE.out X10 TX10.out
        have RB10 : Hid (RowB X10 g (mskL (lvT V k) mb5)) := by
          have q : RowB w10 g (mskL (lvT V k) mb5) := RowB.keep RZ.out (show Below wz.heap.size wz w10 from BZ10.out)
          exact q.tgN (on.block g (fun e => NG9.out e.symm))
        have IL10 : Hid (IsI X10 la10 l) := iL.tgG (Tg.ofOnly on) (fun ad e => by
          have q1 := gL ad e
          have q2 := row_lt RX9.out
          omega)
        have IB10 : Hid (IsB X10 ba10 by2) := isB_only iB R10.out on
        have LG10 : Hid (∀ ad, la10 = some ad → ad.block ≠ g) := fun ad e => by
          have q1 := gL ad e
          have q2 := Below.size (show Below wz.heap.size wz X9 from BZ9.out)
          have q3 := GZ.out
          omega
        have KC10 : Hid (by2.length ≤ bc10) := kc
        have BG10 : Hid (by2 = [] ∨ ∀ ad, ba10 = some ad → ad.block ≠ g) := gB.elim .inl fun gB => .inr fun ad e => by
          have q1 := gB ad e
          have q2 := Below.size (show Below wz.heap.size wz X9 from BZ9.out)
          have q3 := GZ.out
          omega
        obtain ⟨r0, r1, r2, r3, r4, r5, r6⟩ := icell R10.out
        have fr0 := ithawed R10.out 0
        have fr1 := ithawed R10.out 1
        have fr2 := ithawed R10.out 2
        have fr3 := ithawed R10.out 3
        have fr4 := ithawed R10.out 4
        have fr5 := ithawed R10.out 5
        have fr6 := ithawed R10.out 6
        clear iL iB kc gL gB b10 on hX10 rL m0 m1 m2 m3 m4 m5 m6 c0 c1 c2 c3 c4 c5
        go_upto_region 18 with (fail)
        rw [← LV.out]
        clear r0 r1 r2 r3 r4 r5 r6 fr0 fr1 fr2 fr3 fr4 fr5 fr6
        obtain ⟨c0, c1, c2, c3, c4, c5⟩ := six (BE10'.out.row RE.out)
        obtain ⟨s0, s1, s2, s3⟩ := SCL.out X10 BE10'.out
        go_wp2_with fail
        refine (rof_any p c s la lc l (slN c) true X10 (HSI.out.keep BE10'.out) HLM.out HNE.out.1 rfl HNE.out.2).mono ?_
        rintro e w11 ⟨b11, ⟨hf, _⟩ | ⟨_, mb, mg, rfl, rf, g1, g2⟩⟩
        · cases hf
        have RF : Hid (Ref w11 mb mg p c s (slN c) (fOf l)) := rf
        have B11 : Hid (Bl X10 w11) := b11
        have NGR : Hid (mb ≠ g ∧ mg ≠ g) := by
          have q := RB10.out.lt
          show _ ∧ _
          omega
        have BE11 : Hid (Bl E w11) := BE10'.out.trans b11
        have NK19 : Hid (∀ wq, Below w11.heap.size w11 wq → (wq.cell? ⟨N9, 0, none⟩ = some (.int .i64 p) ∧ wq.cell? ⟨N9, 1, none⟩ = some (.int .i64 c) ∧ wq.cell? ⟨N9, 2, none⟩ = some (.int .i64 s) ∧ wq.cell? ⟨N9, 3, none⟩ = some (.slice la10 l.length lc10) ∧ wq.cell? ⟨N9, 4, none⟩ = some (.int .i64 b2) ∧ wq.cell? ⟨N9, 5, none⟩ = some (.slice oa10 offs.length oc10) ∧ wq.cell? ⟨N9, 6, none⟩ = some (.slice ba10 by2.length bc10)) ∧ (wq.cell? ⟨w.heap.size, 0, none⟩ = some (.int .i64 V.base) ∧ wq.cell? ⟨w.heap.size, 1, none⟩ = some (.int .i64 V.pgs) ∧ wq.cell? ⟨w.heap.size, 2, none⟩ = some (.slice ka kn kc) ∧ wq.cell? ⟨w.heap.size, 3, none⟩ = some (.slice ra rn rc) ∧ wq.cell? ⟨w.heap.size, 4, none⟩ = some (.slice (some ⟨gs, os, none⟩) sn sc) ∧ wq.cell? ⟨w.heap.size, 5, none⟩ = some (.slice ba bn bc)) ∧ (wq.cell? ⟨gs, os + k * 4, none⟩ = some (.int .i64 p) ∧ wq.cell? ⟨gs, os + k * 4 + 1, none⟩ = some (.int .i64 c) ∧ wq.cell? ⟨gs, os + k * 4 + 2, none⟩ = some (.int .i64 s) ∧ wq.cell? ⟨gs, os + k * 4 + 3, none⟩ = some (.slice la l.length lc))) := fun wq b => by
          obtain ⟨j0, j1, j2, j3, j4, j5, j6⟩ := icell (Bl.row (B11.out.trans b) RL.out)
          exact ⟨⟨j0, j1, j2, j3, j4, j5, j6⟩, six ((BE11.out.trans b).row RE.out), SCL.out wq (BE11.out.trans b)⟩
        have LZ : l.length * z ≤ 65536 := by
          calc l.length * z ≤ 16 * 4096 := Nat.mul_le_mul l16 z4
            _ = 65536 := by decide
        obtain ⟨YL, hYL⟩ : ∃ YL, by2.length = YL := ⟨_, rfl⟩
        have HYL : Hid (by2.length = YL) := hYL
        have eYL : YL = l.length * z := by rw [← hYL]; exact BYL.out
        have wl : IntKind.i64.wrap ((l.length : Int) * (z : Int)) = (YL : Int) := by
          have q : ((l.length : Int) * (z : Int)) = (YL : Int) := by rw [eYL]; simp
          rw [q, IntKind.wrap_i64]
          omega
        have HEYL : Hid (YL = l.length * z) := eYL
        rw [hYL] at NK19 RL
        clear b11 rf g1 g2 eYL c0 c1 c2 c3 c4 c5 s0 s1 s2 s3
        rw [hYL]
        clear hYL
        go_wp2_with fail
        go_region_held3 (fun wq => (wq.cell? ⟨N9, 0, none⟩ = some (.int .i64 p) ∧ wq.cell? ⟨N9, 1, none⟩ = some (.int .i64 c) ∧ wq.cell? ⟨N9, 2, none⟩ = some (.int .i64 s) ∧ wq.cell? ⟨N9, 3, none⟩ = some (.slice la10 l.length lc10) ∧ wq.cell? ⟨N9, 4, none⟩ = some (.int .i64 b2) ∧ wq.cell? ⟨N9, 5, none⟩ = some (.slice oa10 offs.length oc10) ∧ wq.cell? ⟨N9, 6, none⟩ = some (.slice ba10 YL bc10)) ∧ (wq.cell? ⟨w.heap.size, 0, none⟩ = some (.int .i64 V.base) ∧ wq.cell? ⟨w.heap.size, 1, none⟩ = some (.int .i64 V.pgs) ∧ wq.cell? ⟨w.heap.size, 2, none⟩ = some (.slice ka kn kc) ∧ wq.cell? ⟨w.heap.size, 3, none⟩ = some (.slice ra rn rc) ∧ wq.cell? ⟨w.heap.size, 4, none⟩ = some (.slice (some ⟨gs, os, none⟩) sn sc) ∧ wq.cell? ⟨w.heap.size, 5, none⟩ = some (.slice ba bn bc)) ∧ (wq.cell? ⟨gs, os + k * 4, none⟩ = some (.int .i64 p) ∧ wq.cell? ⟨gs, os + k * 4 + 1, none⟩ = some (.int .i64 c) ∧ wq.cell? ⟨gs, os + k * 4 + 2, none⟩ = some (.int .i64 s) ∧ wq.cell? ⟨gs, os + k * 4 + 3, none⟩ = some (.slice la l.length lc)))
          (with_reducible first | exact NK19.out _ B12.out | exact NK19.out _ (Below.toDrew (Below.refl _ w11)) | fail)
          (first
          | (go_at_call 21; refine (same_true p c s la10 la _ _ lc10 lc l _ ((IL10.out.keep B11.out).keep (Below.toDrew (Below.refl _ w11))) ((HSI.out.keep BE11.out).keep (Below.toDrew (Below.refl _ w11))) rfl rfl HLM.out).mono ?_; rintro e w12 ⟨rfl, b12⟩; have B12 : Hid (Below w11.heap.size w11 w12) := Below.ofDrew b12; clear b12)
          | (go_at_call 20; refine (rsize_q mb mg (slN c) p c s (fOf l) (z : Int) _ (RF.out.keep (Below.toDrew (Below.refl _ w11))) HSZ.out).mono ?_; rintro e w' ⟨rfl, rfl⟩))
        have BX12 : Hid (Bl X10 w12) := B11.out.trans B12.out
        have RB12 : Hid (RowB w12 g (mskL (lvU V k 0) mb5)) := by show RowB _ _ _; rw [lvU_zero]; exact RowB.keep RB10.out BX12.out
        have TX12 : Hid (Tg g X6 w12) := TX10.out.trans (Tg.ofBelow (show Below X10.heap.size X10 w12 from BX12.out))
        have RL12 : Hid (w12.heap[N9]? = some (.cells (icells p c s la10 l.length lc10 b2 oa10 offs.length oc10 ba10 YL bc10) 35 (0, 0))) := BX12.out.row RL.out
        have RF12 : Hid (Ref w12 mb mg p c s (slN c) (fOf l)) := RF.out.keep B12.out
        have IL12 : Hid (IsI w12 la10 l) := IL10.out.keep BX12.out
        have IB12 : Hid (IsB w12 ba10 by2) := IB10.out.keep BX12.out
        obtain ⟨m0, m1, m2, m3, m4, m5, m6⟩ := icell RL12.out
        go_wp2_with fail
        clear m0 m1 m2 m3 m4 m5 m6 wl
        go_loopw [129] (fun iv wy => ∃ n : Nat, n ≤ l.length ∧ iv = .int .i64 (n : Nat) ∧ RowB wy g (mskL (lvU V k n) mb5) ∧ Tg g w12 wy) (fun iv _ => l.length - lenW iv)
        case atStart => exact ⟨0, Nat.zero_le _, rfl, RB12.out, Tg.refl _ _⟩
        case round =>
          clear RB12
          obtain ⟨n, hn, rfl, hR, hTg⟩ := hrel
          rename World => wy
          have RY : Hid (RowB wy g (mskL (lvU V k n) mb5)) := hR
          have TY : Hid (Tg g w12 wy) := hTg
          clear hR hTg
          by_cases hlt : n < l.length
          · have hnv : n < lvN V k := by rw [LVN.out]; exact hlt
            have HNV : Hid (n < lvN V k) := hnv
            have PI := plV_in HH.out HKL.out hnv
            obtain ⟨y, hy, yl⟩ := lv_slot HH.out HKL.out hnv
            have HYL1 : l.getD n 0 = (y : Int) := by have := hy; rw [HTD.out] at this; exact this
            have YLS : Hid (y < slN c) := by have := yl; rw [HTD.out] at this; exact this
            obtain ⟨X, hX⟩ : ∃ X : Nat, plV V k n = (X : Int) := ⟨(plV V k n).toNat, by omega⟩
            have HX : Hid (256 * p + (y : Int) * szI c s = (X : Int)) := by
              show _ = _
              rw [← hX]
              unfold plV atS
              rw [hy, HTD.out]
            have HXP : Hid (plV V k n = (X : Int)) := hX
            have xz : X + z ≤ bn := by have := PI.2.1; rw [hX, SZ.out, BLN.out] at this; omega
            obtain ⟨_, h0 | ⟨lb, lo', rfl, hlb, hlc⟩⟩ := IL12.out
            · rw [h0] at hlt; simp at hlt
            have hcell : wy.cell? ⟨lb, lo' + n, none⟩ = some (.int .i64 (y : Int)) := by
              have q1 := hlc n hlt
              rw [HYL1] at q1
              rw [World.cell?_of_block (TY.out.block lb hlb (LG10.out _ rfl))]
              exact q1
            have n0 : (n : Int) < (l.length : Int) := by omega
            have nz : n * z + z ≤ YL := by
              have q := Nat.mul_le_mul_right z (show n + 1 ≤ l.length from hlt)
              rw [Nat.add_mul, Nat.one_mul] at q
              have := HEYL.out
              omega
            obtain ⟨gy, oy, eba⟩ : ∃ gy oy, ba10 = some ⟨gy, oy, none⟩ := by
              obtain ⟨_, q | ⟨gy, oy, q, _⟩⟩ := IB12.out
              · have := HYL.out
                rw [q] at this
                simp at this
                omega
              · exact ⟨gy, oy, q⟩
            subst eba
            clear hy hlb hlc yl PI hX HYL1
            go_wp2_with (go_at_call 22; refine (rat_in mb mg (slN c) p c s (fOf l) y _ (RF12.out.tg TY.out NGR.out.1 NGR.out.2) RT.out rfl YLS.out).mono ?_; rw [HX.out]; rintro e w' ⟨rfl, q9, rfl⟩)
            clear hcell
            obtain ⟨Y0, hY0⟩ : ∃ Y0, (wy.drewN q9).drew = Y0 := ⟨_, rfl⟩
            have HY0 : Hid ((wy.drewN q9).drew = Y0) := hY0
            have TY0 : Hid (Tg g w12 Y0) := by show Tg _ _ _; rw [← hY0]; exact (TY.out.drewN q9).drew
            have RY0 : Hid (RowB Y0 g (mskL (lvU V k n) mb5)) := by show RowB _ _ _; rw [← hY0]; exact RY.out
            have RLY : Y0.heap[N9]? = some (.cells (icells p c s (some ⟨lb, lo', none⟩) l.length lc10 b2 oa10 offs.length oc10 (some ⟨gy, oy, none⟩) YL bc10) 35 (0, 0)) := by rw [TY0.out.block N9 (row_lt RL12.out) NG9.out]; exact RL12.out
            have SY : Hid (Y0.cell? ⟨N9, 6, none⟩ = some (.slice (some ⟨gy, oy, none⟩) YL bc10)) := (icell RLY).c6
            have RFY : Hid (Ref Y0 mb mg p c s (slN c) (fOf l)) := RF12.out.tg TY0.out NGR.out.1 NGR.out.2
            obtain ⟨lo, hlo⟩ : ∃ lo : Nat, n * z = lo := ⟨_, rfl⟩
            obtain ⟨hi, hhi⟩ : ∃ hi : Nat, n * z + z = hi := ⟨_, rfl⟩
            obtain ⟨n1, hn1⟩ : ∃ n1 : Nat, n + 1 = n1 := ⟨_, rfl⟩
            have HN1 : Hid (n + 1 = n1) := hn1
            have w1' : IntKind.i64.wrap ((n : Int) + 1) = (n1 : Int) := by rw [IntKind.wrap_i64]; omega
            have YL6 : YL ≤ 65536 := by have := HEYL.out; omega
            have wlo : IntKind.i64.wrap ((n : Int) * (z : Int)) = (lo : Int) := by
              have q : ((n : Int) * (z : Int)) = (lo : Int) := by rw [← hlo]; simp
              rw [q, IntKind.wrap_i64]
              omega
            have whi : IntKind.i64.wrap ((n1 : Int) * (z : Int)) = (hi : Int) := by
              have q : ((n1 : Int) * (z : Int)) = (hi : Int) := by rw [← hhi, ← hn1]; simp [Int.add_mul]
              rw [q, IntKind.wrap_i64]
              omega
            have KCY : YL ≤ bc10 := by have q := KC10.out; rw [HYL.out] at q; exact q
            have IBY : IsB Y0 (some ⟨gy, oy, none⟩) by2 := by
              obtain ⟨q1, q2 | ⟨b, o, e, q3, q4⟩⟩ := IB12.out
              · exact ⟨q1, .inl q2⟩
              · cases e
                exact Tg.isB TY0.out IB12.out (fun ad e => by
                  cases e
                  intro q
                  have q : gy = g := q
                  rcases BG10.out with q5 | q5
                  · have := HYL.out
                    rw [q5] at this
                    simp at this
                    omega
                  · exact q5 _ rfl q)
            have LS : ((by2.drop lo).take z).length = z := by rw [List.length_take, List.length_drop]; have := HYL.out; omega
            have CG := copy_got Y0 g X z (bn - X) (bn - X) (mskL (lvU V k n) mb5) ((by2.drop lo).take z) ⟨gy, oy + lo, none⟩ (bc10 - lo) RY0.out (IBY.cut lo z (by have := HYL.out; omega)) LS (by omega) (by rw [msk_len, ML.out]; exact xz)
            obtain ⟨wc', hrun, rc', onc⟩ := CG
            have NXT : Hid (RowB wc' g (mskL (lvU V k (n + 1)) mb5)) := by
              have q := msk_slot HH.out HKL.out HNV.out (b := mb5) (by rw [ML.out, BLN.out])
              rw [HZ.out, HXP.out, Int.toNat_natCast] at q
              have q2 := CHK.out n hlt
              rw [hlo, HXP.out, Int.toNat_natCast] at q2
              rw [q2, q] at rc'
              exact rc'
            have RUN : Hid (∀ ty, (Builtin.copy_ #[25, 25] ty #[.slice (some ⟨g, X, none⟩) (bn - X) (bn - X), .slice (some ⟨gy, oy + lo, none⟩) z (bc10 - lo)]).run Tryz.prog Y0 = .ok (goInt z) wc') := hrun
            have TC : Hid (Tg g w12 wc') := TY0.out.trans (Tg.ofOnly onc)
            have SC : Hid (wc'.cell? ⟨N9, 6, none⟩ = some (.slice (some ⟨gy, oy, none⟩) YL bc10)) := by show _ = _; rw [onc.cell (p := ⟨N9, 6, none⟩) NG9.out]; exact SY.out
            have SL1 : ∀ w : World, (Instr.slice 25 (.slice (some ⟨g, 0, none⟩) bn bn) (some (.int .i64 (X : Int))) none none).run Tryz.prog w = .ok (.slice (some ⟨g, X, none⟩) (bn - X) (bn - X)) w := fun w => by
              rw [sliceB1_run w g 0 bn bn X (by omega) (Nat.le_refl _) (by omega), Nat.zero_add]
            have SL2 : ∀ w : World, (Instr.slice 25 (.slice (some ⟨gy, oy, none⟩) YL bc10) (some (.int .i64 (lo : Int))) (some (.int .i64 (hi : Int))) none).run Tryz.prog w = .ok (.slice (some ⟨gy, oy + lo, none⟩) z (bc10 - lo)) w := fun w => by
              rw [sliceB_run w gy oy YL bc10 lo hi (by omega) (by omega) (by omega), show hi - lo = z by omega]
            clear hrun rc' onc RLY IBY LS hY0 hlo hhi hn1
            refine wp_region_held_drew (S := (fun wq => wq.cell? ⟨N9, 6, none⟩ = some (.slice (some ⟨gy, oy, none⟩) YL bc10))) (by kernel_rfl) (by rw [HY0.out]; exact SY.out) (fun _ => ?_)
            rw [HY0.out]
            refine wpAnyH_take (i := 0) (oi := iiw0) (v := .slice (some ⟨g, 0, none⟩) bn bn) rfl (by kernel_rfl) (by kernel_rfl) (by kernel_rfl) (fun _ _ _ h => h) (.inl ⟨rfl, by intro wz hz; have hz := hz; unfold iiw0; go_simp⟩) SY.out ?_
            simp only [iiw0, Act.put, List.setIfInBounds_toArray, List.set_cons_succ, List.set_cons_zero]
            refine wpAnyH_take (i := 1) (oi := iiw1) (v := .int .i64 (X : Int)) rfl (by kernel_rfl) (by kernel_rfl) (by kernel_rfl) (fun _ _ _ h => h) (.inl ⟨rfl, by intro wz hz; have hz := hz; unfold iiw1; go_simp⟩) SY.out ?_
            simp only [iiw1, Act.put, List.setIfInBounds_toArray, List.set_cons_succ, List.set_cons_zero]
            refine wpAnyH_take (i := 2) (oi := iiw2) (v := .slice (some ⟨g, X, none⟩) (bn - X) (bn - X)) rfl (by kernel_rfl) (by kernel_rfl) (by kernel_rfl) (fun _ _ _ h => h) (.inl ⟨rfl, by intro wz hz; have hz := hz; unfold iiw2; go_simp⟩) SY.out ?_
            simp only [iiw2, Act.put, List.setIfInBounds_toArray, List.set_cons_succ, List.set_cons_zero]
            refine wpAnyH_take (i := 3) (oi := iiw3) (v := .pointer (some ⟨N9, 6, none⟩)) rfl (by kernel_rfl) (by kernel_rfl) (by kernel_rfl) (fun _ _ _ h => h) (.inl ⟨rfl, by intro wz hz; have hz := hz; unfold iiw3; go_simp⟩) SY.out ?_
            simp only [iiw3, Act.put, List.setIfInBounds_toArray, List.set_cons_succ, List.set_cons_zero]
            refine wpAnyH_take (i := 4) (oi := iiw4) (v := .slice (some ⟨gy, oy, none⟩) YL bc10) rfl (by kernel_rfl) (by kernel_rfl) (by kernel_rfl) (fun _ _ _ h => h) (.inl ⟨rfl, by intro wz hz; have hz := hz; unfold iiw4; go_simp⟩) SY.out ?_
            simp only [iiw4, Act.put, List.setIfInBounds_toArray, List.set_cons_succ, List.set_cons_zero]
            refine wpAnyH_take (i := 5) (oi := iiw5) (v := .int .i64 (n : Int)) rfl (by kernel_rfl) (by kernel_rfl) (by kernel_rfl) (fun _ _ _ h => h) (.inl ⟨rfl, by intro wz hz; have hz := hz; unfold iiw5; go_simp⟩) SY.out ?_
            simp only [iiw5, Act.put, List.setIfInBounds_toArray, List.set_cons_succ, List.set_cons_zero]
            refine wpAnyH_take (i := 6) (oi := iiw6) (v := .pointer (some ⟨mb, 0, none⟩)) rfl (by kernel_rfl) (by kernel_rfl) (by kernel_rfl) (fun _ _ _ h => h) (.inl ⟨rfl, by intro wz hz; have hz := hz; unfold iiw6; go_simp⟩) SY.out ?_
            simp only [iiw6, Act.put, List.setIfInBounds_toArray, List.set_cons_succ, List.set_cons_zero]
            refine wpAnyH_take (i := 9) (oi := iiw9) (v := .int .i64 (n : Int)) rfl (by kernel_rfl) (by kernel_rfl) (by kernel_rfl) (fun _ _ _ h => h) (.inl ⟨rfl, by intro wz hz; have hz := hz; unfold iiw9; go_simp⟩) SY.out ?_
            simp only [iiw9, Act.put, List.setIfInBounds_toArray, List.set_cons_succ, List.set_cons_zero]
            refine wpAnyH_take (i := 10) (oi := iiw10) (v := .int .i64 (n1 : Int)) rfl (by kernel_rfl) (by kernel_rfl) (by kernel_rfl) (fun _ _ _ h => h) (.inl ⟨rfl, by intro wz hz; have hz := hz; unfold iiw10; go_simp⟩) SY.out ?_
            simp only [iiw10, Act.put, List.setIfInBounds_toArray, List.set_cons_succ, List.set_cons_zero]
            refine wpAnyH_take (i := 11) (oi := iiw11) (v := .pointer (some ⟨mb, 0, none⟩)) rfl (by kernel_rfl) (by kernel_rfl) (by kernel_rfl) (fun _ _ _ h => h) (.inl ⟨rfl, by intro wz hz; have hz := hz; unfold iiw11; go_simp⟩) SY.out ?_
            simp only [iiw11, Act.put, List.setIfInBounds_toArray, List.set_cons_succ, List.set_cons_zero]
            refine wpAnyH_ready (rs := [7]) (by kernel_rfl) (by simp) ?_
            refine AllReadyH.cons (o := iiw7) rfl (fun K hK => ?_) AllReadyH.nil
            unfold iiw7
            go_simp
            refine (rsize_q mb mg (slN c) p c s (fOf l) (z : Int) Y0 RFY.out HSZ.out).mono ?_
            rintro e w' ⟨rfl, hw'⟩
            rw [hw']
            clear hw'
            go_wp2_with fail
            refine hK.out _ _ SY.out (fun _ => ?_)
            clear hK K
            try simp only [iiw7, Act.put, List.setIfInBounds_toArray, List.set_cons_succ, List.set_cons_zero]
            refine wpAnyH_take (i := 8) (oi := iiw8) (v := .int .i64 (lo : Int)) rfl (by kernel_rfl) (by kernel_rfl) (by kernel_rfl) (fun _ _ _ h => h) (.inl ⟨rfl, by intro wz hz; have hz := hz; unfold iiw8; go_simp⟩) SY.out ?_
            simp only [iiw8, Act.put, List.setIfInBounds_toArray, List.set_cons_succ, List.set_cons_zero]
            refine wpAnyH_ready (rs := [12]) (by kernel_rfl) (by simp) ?_
            refine AllReadyH.cons (o := iiw12) rfl (fun K hK => ?_) AllReadyH.nil
            unfold iiw12
            go_simp
            refine (rsize_q mb mg (slN c) p c s (fOf l) (z : Int) Y0 RFY.out HSZ.out).mono ?_
            rintro e w' ⟨rfl, hw'⟩
            rw [hw']
            clear hw'
            go_wp2_with fail
            refine hK.out _ _ SY.out (fun _ => ?_)
            clear hK K
            try simp only [iiw12, Act.put, List.setIfInBounds_toArray, List.set_cons_succ, List.set_cons_zero]
            refine wpAnyH_take (i := 13) (oi := iiw13) (v := .int .i64 (hi : Int)) rfl (by kernel_rfl) (by kernel_rfl) (by kernel_rfl) (fun _ _ _ h => h) (.inl ⟨rfl, by intro wz hz; have hz := hz; unfold iiw13; go_simp⟩) SY.out ?_
            simp only [iiw13, Act.put, List.setIfInBounds_toArray, List.set_cons_succ, List.set_cons_zero]
            refine wpAnyH_take (i := 14) (oi := iiw14) (v := .slice (some ⟨gy, oy + lo, none⟩) z (bc10 - lo)) rfl (by kernel_rfl) (by kernel_rfl) (by kernel_rfl) (fun _ _ _ h => h) (.inl ⟨rfl, by intro wz hz; have hz := hz; unfold iiw14; go_simp⟩) SY.out ?_
            simp only [iiw14, Act.put, List.setIfInBounds_toArray, List.set_cons_succ, List.set_cons_zero]
            refine wpAnyH_ready (rs := [15]) (by kernel_rfl) (by simp) ?_
            refine AllReadyH.cons (o := iiw15) rfl (fun K hK => ?_) AllReadyH.nil
            refine step_copyB rfl _ _ rfl (.slice (some ⟨g, X, none⟩) (bn - X) (bn - X)) (.slice (some ⟨gy, oy + lo, none⟩) z (bc10 - lo)) rfl rfl (goInt z) wc' (RUN.out _) ?_
            refine hK.out _ _ SC.out (fun _ => ?_)
            clear hK K
            try simp only [iiw15, Act.put, List.setIfInBounds_toArray, List.set_cons_succ, List.set_cons_zero]
            refine wpAnyH_done (by kernel_rfl) ?_ _
            go_wp2
            go_roundw
            case rel => exact ⟨n1, by have := HN1.out; omega, rfl, (by rw [← HN1.out]; exact NXT.out), TC.out⟩
            case measure => (have hh1 := HN1.out; simp [lenW]; omega)
          · have n0 : ¬ (n : Int) < (l.length : Int) := by omega
            have en : n = lvN V k := by rw [LVN.out]; omega
            have NX : Hid (RowB wy g (mskL (lvT V (k + 1)) mb5)) := by show RowB _ _ _; rw [← lvU_end, ← en]; exact RY.out
            have NT : Hid (Tg g X6 wy) := TX12.out.trans TY.out
            clear en
            go_wp2
            go_roundw
            case rel => exact ⟨k + 1, by omega, by first | rfl | (congr 1), NX.out, NT.out⟩
            case measure => simp [lenW]; omega
      · have k0 : ¬ (k : Int) < (sn : Int) := by omega
        have ek : k = V.ts.length := by have := SNL.out; omega
        have BX : Hid (Bl X5 wz) := FX.out wz TZ.out
        have IG : Hid (IsB wz (some ⟨g, 0, none⟩) (mskL (lvT V V.ts.length) mb5)) := by
          have q := RZ.out
          rw [ek] at q
          refine q.isB ?_
          rw [← cln_end]
          exact cln_byte MA.out _
        have LE : Hid (bn = (mskL (lvT V V.ts.length) mb5).length) := by show _ = _; rw [msk_len, ML.out]
        obtain ⟨k0', k1', k2', k3', k4', k5'⟩ := six (BX.out.row RX5.out)
        clear ek
        go_wp2_with (go_at_call 23; refine (rsame_true (some ⟨g, 0, none⟩) ba3 bn bn bn bc3 (mskL (lvT V V.ts.length) mb5) wz IG.out (IW.out.keep BX.out) LE.out LE.out).mono ?_; rintro e w9 ⟨rfl, rfl⟩)
        go_ret
        exact ⟨rfl, FIN.out _ BZ.out⟩
end Go.Proofs.YtbfamjnnlcopiaaGreatDoor
