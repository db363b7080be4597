/- Layer 18: Rows of the code: a page of rows' bytes. -/
import Derived.Test.YtjalagjnhjaaoaaPhB
namespace Go.Proofs.Ytjalagjnhjaaoaa
open Go.RowKit
set_option linter.unusedVariables false
set_option maxRecDepth 4000

theorem row_pos (x : HRw) : 0 < (rowB x).length := by
  have q : ∀ n, 0 < (varL n).length := fun n => digs_pos 9 n
  unfold rowB
  split
  · rw [List.length_append]; have := q (2 * x.gen + 1); omega
  · exact q _
set_option maxRecDepth 20000 in
set_option maxHeartbeats 8000000 in
/-- A page of rows is written. -/
theorem pwriter_any (a : Option Addr) (cap : Nat) (l : List HRw) (i : Int) (w : World) (h : IsW w a l) (hm : l.length ≤ 17592186044416) (hc : l.length ≤ cap) (hi : -9223372036854775808 ≤ i ∧ i ≤ 9223372036854775807) :
    Calls Try.prog 23 #[.slice a l.length cap, .int .i64 32, .int .i64 i, .func (.func 24) #[] #[]] w fun e w' => ∃ a' c', e = .returned (.tuple #[.slice a' (pgOut l i).1.length c', .int .i64 (pgOut l i).2]) ∧ OwnsB w' w.heap.size a' (pgOut l i).1 c' ∧ Below w.heap.size w w' := by
  have CNT : Hid (Calls Try.prog 14 #[.int .i64 (l.length : Nat), .int .i64 32] w fun e w' => e = .returned (.int .i64 (cntP l.length 32)) ∧ w = w') := pcount_any _ _ w (by omega) (by omega)
  obtain ⟨C, hC⟩ : ∃ C, cntP (l.length : Int) 32 = C := ⟨_, rfl⟩
  have HC : Hid (cntP (l.length : Int) 32 = C) := hC
  rw [hC] at CNT
  have C0 : 0 ≤ C := by rw [← hC]; exact cnt_le.1
  clear hC
  by_cases i0 : i < 0
  · have e : pgOut l i = ([], 2) := if_neg (by omega)
    rw [e]
    go_enter Try.func23, Try.ntmps23
    go_wp2_with (go_at_call 14; refine CNT.out.mono ?_; rintro e w' ⟨rfl, rfl⟩)
    go_ret2
    exact ⟨none, 0, rfl, World.ownsRow_nil _ _ _ _, Below.refl _ _⟩
  by_cases i1 : C ≤ i
  · have e : pgOut l i = ([], 2) := if_neg (by rw [HC.out]; omega)
    rw [e]
    go_enter Try.func23, Try.ntmps23
    go_wp2_with (go_at_call 14; refine CNT.out.mono ?_; rintro e w' ⟨rfl, rfl⟩)
    go_ret2
    exact ⟨none, 0, rfl, World.ownsRow_nil _ _ _ _, Below.refl _ _⟩
  obtain ⟨j, rfl⟩ : ∃ j : Nat, i = (j : Int) := ⟨i.toNat, by omega⟩
  have jl : 32 * j < l.length := (cnt_in (n := l.length) (per := 32) (i := j) (by decide)).1 (by have := HC.out; simp only [Int.cast_ofNat_Int] at *; omega)
  obtain ⟨pl1, pl2, pl3⟩ := pg_len jl
  have PO : Hid (pgOut l (j : Int) = if (pgAt 32 l j).all mayR = true then (pgB rowB (pgAt 32 l j), 0) else ([], 4)) := by
    show _ = _
    unfold pgOut
    rw [if_pos ⟨by omega, by rw [HC.out]; omega⟩, Int.toNat_natCast]
  obtain ⟨gr, off, rfl⟩ : ∃ gr off, a = some ⟨gr, off, none⟩ := by
    rcases h with q | ⟨b, o, e, _⟩
    · rw [q] at jl; simp at jl
    · exact ⟨b, o, e⟩
  have HP : Hid (IsW w (some ⟨gr, off + 32 * j * 4, none⟩) (pgAt 32 l j)) := by
    have q := h.part (32 * j) (pgAt 32 l j).length (by rw [pl1]; omega)
    have e : (l.drop (32 * j)).take (pgAt 32 l j).length = pgAt 32 l j := by
      unfold pgAt
      rw [List.length_take, List.take_eq_take_iff]
      simp
    rw [e] at q
    exact q
  obtain ⟨p, hp⟩ : ∃ p, pgAt 32 l j = p := ⟨_, rfl⟩
  rw [hp] at PO HP pl1 pl2 pl3
  obtain ⟨P, hP⟩ : ∃ P, p.length = P := ⟨_, rfl⟩
  have HPL : Hid (p.length = P) := hP
  rw [hP] at pl1 pl2 pl3
  obtain ⟨lo, hlo⟩ : ∃ lo : Nat, 32 * j = lo := ⟨_, rfl⟩
  rw [hlo] at HP jl pl1
  have w1 : IntKind.i64.wrap ((j : Int) * 32) = (lo : Int) := by rw [IntKind.wrap_i64]; omega
  obtain ⟨l32, hl32⟩ : ∃ x : Nat, lo + 32 = x := ⟨_, rfl⟩
  have w2 : IntKind.i64.wrap ((lo : Int) + 32) = (l32 : Int) := by rw [IntKind.wrap_i64]; omega
  obtain ⟨hi2, hhi, hcase⟩ : ∃ x : Nat, x = min l32 l.length ∧ ((x = l32 ∧ l32 ≤ l.length) ∨ (x = l.length ∧ ¬ l32 ≤ l.length)) := ⟨_, rfl, by omega⟩
  have ePP : P = hi2 - lo := by omega
  have SLR : ∀ w : World, (Instr.slice 22 (.slice (some ⟨gr, off, none⟩) l.length cap) (some (.int .i64 (lo : Int))) (some (.int .i64 (hi2 : Int))) none).run Try.prog w = .ok (.slice (some ⟨gr, off + lo * 4, none⟩) P (cap - lo)) w := fun w => by
    rw [sliceW_run w gr off l.length cap lo hi2 (by omega) (by omega) (by omega), ← ePP]
  have up : IntKind.u64.wrap (P : Int) = (P : Int) := by rw [IntKind.wrap_u64]; omega
  clear h hp hP hlo pl1 ePP hhi hl32
  go_enter Try.func23, Try.ntmps23
  go_upto_region 4 with (go_at_call 14; refine CNT.out.mono ?_; rintro e w' ⟨rfl, rfl⟩)
  go_cut [11] from 16 to 37 (fun v wx => v = .slice (some ⟨gr, off + lo * 4, none⟩) P (cap - lo) ∧ wx = w)
  case first =>
    rcases hcase with ⟨rfl, hle⟩ | ⟨rfl, hle⟩
    · have m1 : (hi2 : Int) ≤ (l.length : Int) := by omega
      have m2 : ¬ (l.length : Int) < (hi2 : Int) := by omega
      go_wp2
      go_meet
      exact ⟨rfl, rfl⟩
    · have m1 : ¬ (l32 : Int) ≤ (l.length : Int) := by omega
      have m2 : (l.length : Int) < (l32 : Int) := by omega
      go_wp2
      go_meet
      exact ⟨rfl, rfl⟩
  case rest =>
    obtain ⟨rfl, hw⟩ := hcut
    rw [hw]
    clear hw hcase SLR
    go_wp2_with fail
    refine (varw_any (P : Int) w (by omega) (by omega)).mono ?_
    rintro e w1 ⟨a1, c1, rfl, o1, b1⟩
    have S0 : Hid (Pb w w1 p 0 a1 c1) := ⟨by have e : varL (p.length : Nat) ++ manyB rowB (p.take 0) = varL (P : Int) := (by rw [HPL.out]; simp [manyB]); rw [e]; exact o1, b1, by simp, by simp [manyB]⟩
    have e0 : (varL (p.length : Nat) ++ manyB rowB (p.take 0)).length = (varL (P : Int)).length := by rw [HPL.out]; simp [manyB]
    have HE0 : Hid ((varL (p.length : Nat) ++ manyB rowB (p.take 0)).length = (varL (P : Int)).length) := e0
    clear o1 b1 e0
    go_wp2_with fail
    go_loopw [12, 44] (fun ov iv wr => ∃ (m : Nat) (a : Option Addr) (c : Nat), m ≤ P ∧ iv = .int .i64 (m : Nat) ∧ ov = .slice a (varL (p.length : Nat) ++ manyB rowB (p.take m)).length c ∧ Pb w wr p m a c) (fun _ iv _ => P - (intOf iv).toNat)
    case atStart => exact ⟨0, a1, c1, Nat.zero_le _, rfl, by rw [HE0.out], S0.out⟩
    case round =>
      clear S0 HE0
      obtain ⟨m, a, c, hm', rfl, rfl, hS⟩ := hrel
      rename World => wr
      have HS : Hid (Pb w wr p m a c) := hS
      clear hS
      obtain ⟨OO, hOO⟩ : ∃ L, varL (p.length : Nat) ++ manyB rowB (p.take m) = L := ⟨_, rfl⟩
      have HOO : Hid (varL (p.length : Nat) ++ manyB rowB (p.take m) = OO) := hOO
      have LOO : Hid (OO.length ≤ 10 + 40 * m) := by
        show _ ≤ _
        rw [← hOO, List.length_append]
        have := HS.out.len
        have := varL_le (p.length : Nat)
        omega
      rw [hOO]
      clear hOO
      by_cases hmn : m < P
      · have hmp : m < p.length := by rw [HPL.out]; exact hmn
        obtain ⟨b, o, eb, q0, q1, q2, q3⟩ := (HP.out.keep HS.out.low).at m hmp
        cases eb
        have m0 : (m : Int) < (P : Int) := by omega
        have MORE : Hid (manyB rowB (p.take (m + 1)) = manyB rowB (p.take m) ++ rowB (rwD p m)) := many_more hmp
        have BAD : Hid (mayR (rwD p m) = false → p.all mayR = false) := all_take hmp
        have OKK : Hid (mayR (rwD p m) = true → ∀ x ∈ p.take (m + 1), mayR x = true) := fun q x hx => by
          rw [List.take_add_one, List.getElem?_eq_getElem hmp] at hx
          rcases List.mem_append.1 hx with hx | hx
          · exact HS.out.ok x hx
          · simp at hx
            rw [hx, ← rwD_at hmp]
            exact q
        obtain ⟨R, hR⟩ : ∃ R, rwD p m = R := ⟨_, rfl⟩
        rw [hR] at q0 q1 q2 q3 MORE BAD OKK
        obtain ⟨gen, lv, kd, pl⟩ := R
        simp only at q0 q1 q2 q3
        obtain ⟨G, hG, rG, bG⟩ := rbox18 wr ⟨gen, lv, kd, pl⟩
        simp only at hG rG
        have HG : Hid (wr.alloc (.cells #[.int .i64 gen, .bool lv, .int .i64 kd, .int .i64 pl] 51) = G) := hG
        obtain ⟨ng, hng⟩ : ∃ ng, wr.heap.size = ng := ⟨_, rfl⟩
        rw [hng] at rG
        have HNG : Hid (wr.heap.size = ng) := hng
        have SG : Hid (Bb w G ng gen lv kd pl OO a c) := ⟨by rw [← HOO.out]; exact OwnsB.keep HS.out.own bG, HS.out.low.trans (bG.mono HS.out.low.size), rG⟩
        have e0 : G.cell? ⟨ng, 0, none⟩ = some (.int .i64 gen) := cell_of_row _ _ 0 _ _ _ rG
        have e1 : G.cell? ⟨ng, 1, none⟩ = some (.bool lv) := cell_of_row _ _ 1 _ _ _ rG
        have e2 : G.cell? ⟨ng, 2, none⟩ = some (.int .i64 kd) := cell_of_row _ _ 2 _ _ _ rG
        have e3 : G.cell? ⟨ng, 3, none⟩ = some (.int .i64 pl) := cell_of_row _ _ 3 _ _ _ rG
        clear hR hG rG bG hng
        go_upto_region 9 with (fail)
        rw [HG.out]
        try rw [HNG.out]
        clear q0 q1 q2 q3
        obtain ⟨v, hv⟩ : ∃ v, mayR ⟨gen, lv, kd, pl⟩ = v := ⟨_, rfl⟩
        have HV : Hid (mayR ⟨gen, lv, kd, pl⟩ = v) := hv
        clear hv
        have CL := prows1_any ⟨gen, lv, kd, pl⟩ G
        simp only at CL
        cases v with
        | false =>
          rw [show rowO ⟨gen, lv, kd, pl⟩ = [] from if_neg (by rw [HV.out]; decide)] at CL
          have HCL : Hid _ := CL
          clear CL
          have e : pgOut l (j : Int) = ([], 4) := by rw [PO.out, if_neg (by rw [BAD.out HV.out]; decide)]
          have HE : Hid (pgOut l (j : Int) = ([], 4)) := e
          clear e
          go_wp2_with fail
          refine Calls.mono HCL.out ?_
          rintro e w2 ⟨a2, c2, rfl, o2, b2⟩
          have Sw2 : Hid (Bb w w2 ng gen lv kd pl OO a c) := SG.out.keep b2
          clear b2 o2 e0 e1 e2 e3
          go_wp2
          go_ret2
          rw [HE.out]
          exact ⟨none, 0, rfl, World.ownsRow_nil _ _ _ _, Sw2.out.low⟩
        | true =>
          rw [show rowO ⟨gen, lv, kd, pl⟩ = rowB ⟨gen, lv, kd, pl⟩ from if_pos HV.out] at CL
          obtain ⟨rl, rb⟩ := row_len HV.out
          have rp := row_pos ⟨gen, lv, kd, pl⟩
          obtain ⟨X, hX⟩ : ∃ X, rowB ⟨gen, lv, kd, pl⟩ = X := ⟨_, rfl⟩
          rw [hX] at CL rl rb rp MORE
          have RB : Hid (AllB X) := rb
          have HCL : Hid _ := CL
          have x0 : ((X.length : Nat) : Int) ≠ 0 := by omega
          have x1 : (((X.length : Nat) : Int) == 0) = false := beq_eq_false_iff_ne.2 x0
          clear CL hX rb x0
          go_wp2_with fail
          refine Calls.mono HCL.out ?_
          rintro e w2 ⟨a2, c2, rfl, o2, b2⟩
          have Sw2 : Hid (Bb w w2 ng gen lv kd pl OO a c) := SG.out.keep b2
          obtain ⟨ad, rfl⟩ : ∃ ad, a2 = some ad := by
            obtain ⟨_, ⟨q, q2⟩ | ⟨g, c', cur, q, _⟩⟩ := o2
            · omega
            · injection q with q
              exact ⟨_, q⟩
          have O2 : Hid (IsB w2 (some ad) X) := ownsB_isB RB.out o2
          have z2 : w.heap.size ≤ w2.heap.size := Sw2.out.low.size
          have lo : OO.length + X.length ≤ 140737488355328 := by have := LOO.out; omega
          clear b2 o2 e0 e1 e2 e3
          go_wp2_with (at_builtin; refine wpList_app rfl _ _ rfl w.heap.size z2 a OO c rfl Sw2.out.own _ X _ rfl O2.out (fun h => by cases h) lo ?_; intro a4 c4 w4 o4 b4; have O4 : Hid (OwnsB w4 w.heap.size a4 (OO ++ X) c4) := o4; have B4 : Hid (Below w.heap.size w w4) := Sw2.out.low.trans b4; clear o4 b4)
          have NX : Hid (Pb w w4 p (m + 1) a4 c4) := by
            refine ⟨?_, B4.out, OKK.out HV.out, ?_⟩
            · rw [MORE.out, ← List.append_assoc, HOO.out]; exact O4.out
            · rw [MORE.out, List.length_append]; have := HS.out.len; omega
          have EL : Hid ((OO ++ X).length = (varL (p.length : Nat) ++ manyB rowB (p.take (m + 1))).length) := by
            show _ = _
            rw [MORE.out, ← List.append_assoc, HOO.out]
          go_roundw
          case rel => exact ⟨m + 1, a4, c4, by omega, by go_num, by rw [← EL.out, List.length_append], NX.out⟩
          case measure => simp [intOf]; omega
      · have m0 : ¬ (m : Int) < (P : Int) := by omega
        have em : p.take m = p := List.take_of_length_le (by rw [HPL.out]; omega)
        have AL : p.all mayR = true := List.all_eq_true.2 (fun x hx => HS.out.ok x (by rw [em]; exact hx))
        have e : pgOut l (j : Int) = (OO, 0) := by
          rw [PO.out, if_pos AL, ← HOO.out, em]
          rfl
        have OF : Hid (OwnsB wr w.heap.size a OO c) := by show OwnsB _ _ _ _ _; rw [← HOO.out]; exact HS.out.own
        have HE : Hid (pgOut l (j : Int) = (OO, 0)) := e
        clear em AL e
        go_wp2
        go_ret2
        rw [HE.out]
        exact ⟨a, c, rfl, OF.out, HS.out.low⟩
set_option maxHeartbeats 2000000 in
/-- Rows. -/
theorem prows_any (a : Option Addr) (cap : Nat) (l : List HRw) (i : Int) (w : World) (h : IsW w a l) (hm : l.length ≤ 17592186044416) (hc : l.length ≤ cap) (hi : -9223372036854775808 ≤ i ∧ i ≤ 9223372036854775807) :
    Calls Try.prog 10 #[.slice a l.length cap, .int .i64 i] w fun e w' => ∃ a' c', e = .returned (.tuple #[.slice a' (pgOut l i).1.length c', .int .i64 (pgOut l i).2]) ∧ OwnsB w' w.heap.size a' (pgOut l i).1 c' ∧ Below w.heap.size w w' := by
  have W := pwriter_any a cap l i w h hm hc hi
  obtain ⟨O, hO⟩ : ∃ O, (pgOut l i).1 = O := ⟨_, rfl⟩
  obtain ⟨E, hE⟩ : ∃ E, (pgOut l i).2 = E := ⟨_, rfl⟩
  rw [hO, hE] at W ⊢
  have HW : Hid _ := W
  clear W hO hE h
  go_enter Try.func10, Try.ntmps10
  go_wp2_with fail
  refine Calls.mono HW.out ?_
  rintro e w2 ⟨a2, c2, rfl, o2, b2⟩
  go_wp2
  go_ret2
  exact ⟨a2, c2, rfl, o2, b2⟩
end Go.Proofs.Ytjalagjnhjaaoaa
