/- Layer 18: Kinds of the code: a page of kinds' bytes. -/
import Derived.Test.YtjalagjnhjaaoaaPhA
import Derived.Test.YtjalagjnhjaaoaaPgG
namespace Go.Proofs.Ytjalagjnhjaaoaa
open Go.RowKit
set_option linter.unusedVariables false
set_option maxRecDepth 4000

set_option maxRecDepth 20000 in
set_option maxHeartbeats 8000000 in
/-- A page of kinds is written. -/
theorem pwritek_any (a : Option Addr) (cap : Nat) (l : List Kd) (i : Int) (w : World) (h : IsK w a l) (hm : l.length ≤ 17592186044416) (hc : l.length ≤ cap) (hi : -9223372036854775808 ≤ i ∧ i ≤ 9223372036854775807) :
    Calls Try.prog 37 #[.slice a l.length cap, .int .i64 16, .int .i64 i, .func (.func 38) #[] #[]] w fun e w' => ∃ a' c', e = .returned (.tuple #[.slice a' (pgOutK (l.map kp) i).1.length c', .int .i64 (pgOutK (l.map kp) i).2]) ∧ OwnsB w' w.heap.size a' (pgOutK (l.map kp) i).1 c' ∧ Below w.heap.size w w' := by
  have CNT : Hid (Calls Try.prog 14 #[.int .i64 (l.length : Nat), .int .i64 16] w fun e w' => e = .returned (.int .i64 (cntP l.length 16)) ∧ w = w') := pcount_any _ _ w (by omega) (by omega)
  obtain ⟨C, hC⟩ : ∃ C, cntP (l.length : Int) 16 = C := ⟨_, rfl⟩
  have HC : Hid (cntP (l.length : Int) 16 = C) := hC
  have HC2 : Hid (cntP ((l.map kp).length : Int) 16 = C) := by show _ = _; rw [List.length_map]; exact hC
  rw [hC] at CNT
  have C0 : 0 ≤ C := by rw [← hC]; exact cnt_le.1
  clear hC
  by_cases i0 : i < 0
  · have e : pgOutK (l.map kp) i = ([], 2) := if_neg (by omega)
    rw [e]
    go_enter Try.func37, Try.ntmps37
    go_wp2_with (go_at_call 14; refine CNT.out.mono ?_; rintro e w' ⟨rfl, rfl⟩)
    go_ret2
    exact ⟨none, 0, rfl, World.ownsRow_nil _ _ _ _, Below.refl _ _⟩
  by_cases i1 : C ≤ i
  · have e : pgOutK (l.map kp) i = ([], 2) := if_neg (by rw [HC2.out]; omega)
    rw [e]
    go_enter Try.func37, Try.ntmps37
    go_wp2_with (go_at_call 14; refine CNT.out.mono ?_; rintro e w' ⟨rfl, rfl⟩)
    go_ret2
    exact ⟨none, 0, rfl, World.ownsRow_nil _ _ _ _, Below.refl _ _⟩
  obtain ⟨j, rfl⟩ : ∃ j : Nat, i = (j : Int) := ⟨i.toNat, by omega⟩
  have jl : 16 * j < l.length := (cnt_in (n := l.length) (per := 16) (i := j) (by decide)).1 (by have := HC.out; simp only [Int.cast_ofNat_Int] at *; omega)
  obtain ⟨pl1, pl2, pl3⟩ := pgk_len jl
  have PO : Hid (pgOutK (l.map kp) (j : Int) = if ((pgAt 16 l j).map kp).all kdOk = true then (pgB kdB ((pgAt 16 l j).map kp), 0) else ([], 4)) := by
    show _ = _
    unfold pgOutK
    rw [if_pos ⟨by omega, by rw [HC2.out]; omega⟩, Int.toNat_natCast, pgk_map]
  obtain ⟨gr, off, rfl⟩ : ∃ gr off, a = some ⟨gr, off, none⟩ := by
    rcases h.at' with q | ⟨b, o, e, _⟩
    · rw [q] at jl; simp at jl
    · exact ⟨b, o, e⟩
  have HP : Hid (IsK w (some ⟨gr, off + 16 * j * 2, none⟩) (pgAt 16 l j)) := by
    have q := h.part (16 * j) (pgAt 16 l j).length (by rw [pl1]; omega)
    have e : (l.drop (16 * j)).take (pgAt 16 l j).length = pgAt 16 l j := by
      unfold pgAt
      rw [List.length_take, List.take_eq_take_iff]
      simp
    rw [e] at q
    exact q
  obtain ⟨p, hp⟩ : ∃ p, pgAt 16 l j = p := ⟨_, rfl⟩
  rw [hp] at PO HP pl1 pl2 pl3
  obtain ⟨P, hP⟩ : ∃ P, p.length = P := ⟨_, rfl⟩
  have HPL : Hid (p.length = P) := hP
  rw [hP] at pl1 pl2 pl3
  obtain ⟨lo, hlo⟩ : ∃ lo : Nat, 16 * j = lo := ⟨_, rfl⟩
  rw [hlo] at HP jl pl1
  have w1 : IntKind.i64.wrap ((j : Int) * 16) = (lo : Int) := by rw [IntKind.wrap_i64]; omega
  obtain ⟨l32, hl32⟩ : ∃ x : Nat, lo + 16 = x := ⟨_, rfl⟩
  have w2 : IntKind.i64.wrap ((lo : Int) + 16) = (l32 : Int) := by rw [IntKind.wrap_i64]; omega
  obtain ⟨hi2, hhi, hcase⟩ : ∃ x : Nat, x = min l32 l.length ∧ ((x = l32 ∧ l32 ≤ l.length) ∨ (x = l.length ∧ ¬ l32 ≤ l.length)) := ⟨_, rfl, by omega⟩
  have ePP : P = hi2 - lo := by omega
  have SLR : ∀ w : World, (Instr.slice 39 (.slice (some ⟨gr, off, none⟩) l.length cap) (some (.int .i64 (lo : Int))) (some (.int .i64 (hi2 : Int))) none).run Try.prog w = .ok (.slice (some ⟨gr, off + lo * 2, none⟩) P (cap - lo)) w := fun w => by
    rw [sliceK_run w gr off l.length cap lo hi2 (by omega) (by omega) (by omega), ← ePP]
  have up : IntKind.u64.wrap (P : Int) = (P : Int) := by rw [IntKind.wrap_u64]; omega
  clear h hp hP hlo pl1 ePP hhi hl32
  go_enter Try.func37, Try.ntmps37
  go_upto_region 4 with (go_at_call 14; refine CNT.out.mono ?_; rintro e w' ⟨rfl, rfl⟩)
  go_cut [11] from 16 to 37 (fun v wx => v = .slice (some ⟨gr, off + lo * 2, none⟩) P (cap - lo) ∧ wx = w)
  case first =>
    rcases hcase with ⟨rfl, hle⟩ | ⟨rfl, hle⟩
    · have m1 : (hi2 : Int) ≤ (l.length : Int) := by omega
      have m2 : ¬ (l.length : Int) < (hi2 : Int) := by omega
      go_wp2
      go_meet
      exact ⟨rfl, rfl⟩
    · have m1 : ¬ (l32 : Int) ≤ (l.length : Int) := by omega
      have m2 : (l.length : Int) < (l32 : Int) := by omega
      go_wp2
      go_meet
      exact ⟨rfl, rfl⟩
  case rest =>
    obtain ⟨rfl, hw⟩ := hcut
    rw [hw]
    clear hw hcase SLR
    go_wp2_with fail
    refine (varw_any (P : Int) w (by omega) (by omega)).mono ?_
    rintro e w1 ⟨a1, c1, rfl, o1, b1⟩
    have S0 : Hid (Qb w w1 p 0 a1 c1) := ⟨by have e : varL (p.length : Nat) ++ manyB kdB ((p.take 0).map kp) = varL (P : Int) := (by rw [HPL.out]; simp [manyB]); rw [e]; exact o1, b1, by simp, by simp [manyB]⟩
    have HE0 : Hid ((varL (p.length : Nat) ++ manyB kdB ((p.take 0).map kp)).length = (varL (P : Int)).length) := by show _ = _; rw [HPL.out]; simp [manyB]
    clear o1 b1
    go_wp2_with fail
    go_loopw [12, 44] (fun ov iv wr => ∃ (m : Nat) (a : Option Addr) (c : Nat), m ≤ P ∧ iv = .int .i64 (m : Nat) ∧ ov = .slice a (varL (p.length : Nat) ++ manyB kdB ((p.take m).map kp)).length c ∧ Qb w wr p m a c) (fun _ iv _ => P - (intOf iv).toNat)
    case atStart => exact ⟨0, a1, c1, Nat.zero_le _, rfl, by rw [HE0.out], S0.out⟩
    case round =>
      clear S0 HE0
      obtain ⟨m, a, c, hm', rfl, rfl, hS⟩ := hrel
      rename World => wr
      have HS : Hid (Qb w wr p m a c) := hS
      clear hS
      obtain ⟨OO, hOO⟩ : ∃ L, varL (p.length : Nat) ++ manyB kdB ((p.take m).map kp) = L := ⟨_, rfl⟩
      have HOO : Hid (varL (p.length : Nat) ++ manyB kdB ((p.take m).map kp) = OO) := hOO
      have LOO : Hid (OO.length ≤ 10 + 180 * m) := by
        show _ ≤ _
        rw [← hOO, List.length_append]
        have := HS.out.len
        have := varL_le (p.length : Nat)
        omega
      rw [hOO]
      clear hOO
      by_cases hmn : m < P
      · have hmp : m < p.length := by rw [HPL.out]; exact hmn
        have KK := HP.out.keep HS.out.low
        obtain h0 | ⟨b, o, eb, hs1, cc⟩ := KK.at'
        · rw [h0] at hmp; simp at hmp
        cases eb
        obtain ⟨q0, q1⟩ := cc m hmp
        obtain ⟨IX, _, MX⟩ := KK.body p[m] (List.getElem_mem hmp)
        have m0 : (m : Int) < (P : Int) := by omega
        have MORE : Hid (manyB kdB ((p.take (m + 1)).map kp) = manyB kdB ((p.take m).map kp) ++ kdB (kp p[m])) := manyk_more hmp
        have BAD : Hid (kdOk (kp p[m]) = false → (p.map kp).all kdOk = false) := fun q => by
          rw [List.all_eq_false]
          exact ⟨kp p[m], List.mem_map.2 ⟨_, List.getElem_mem hmp, rfl⟩, by rw [q]; decide⟩
        have OKK : Hid (kdOk (kp p[m]) = true → ∀ x ∈ p.take (m + 1), kdOk (kp x) = true) := fun q x hx => by
          rw [List.take_add_one, List.getElem?_eq_getElem hmp] at hx
          rcases List.mem_append.1 hx with hx | hx
          · exact HS.out.ok x hx
          · simp at hx
            rw [hx]
            exact q
        obtain ⟨R, hR⟩ : ∃ R, p[m] = R := ⟨_, rfl⟩
        rw [hR] at q0 q1 IX MX MORE BAD OKK
        obtain ⟨s, ka, kc, ps⟩ := R
        simp only [kp] at q0 q1 IX MX MORE BAD OKK
        obtain ⟨G, hG⟩ : ∃ G, wr.alloc (.cells #[.int .i64 s, .slice ka ps.length kc] 54) = G := ⟨_, rfl⟩
        obtain ⟨e0, e1, bG⟩ := newboxk hG
        have HG : Hid (wr.alloc (.cells #[.int .i64 s, .slice ka ps.length kc] 54) = G) := hG
        obtain ⟨ng, hng⟩ : ∃ ng, wr.heap.size = ng := ⟨_, rfl⟩
        rw [hng] at e0 e1
        have HNG : Hid (wr.heap.size = ng) := hng
        have BG : Hid (Below wr.heap.size wr G) := bG
        have IG : Hid (IsI G ka ps) := IX.keep bG
        have MXH : Hid (ps.length ≤ maxLen) := MX
        clear hR hG bG hng KK cc hs1 IX MX
        go_upto_region 9 with (fail)
        rw [HG.out]
        try rw [HNG.out]
        clear q0 q1
        have CL := kbytes_any s ka kc ps G IG.out MXH.out
        by_cases hv : checkK s ps = 0
        · have KOK : Hid (kdOk (s, ps) = true) := decide_eq_true hv
          have xl := kdB_len hv
          have xp : 1 ≤ (bytesK s ps).length := by
            unfold bytesK bodyK
            rw [if_pos hv, List.length_append, List.length_append]
            have q := digs_pos 9 s
            have e : (varL s).length = (digs 9 s).length := rfl
            omega
          have rb : AllB (bytesK s ps) := bytes_byte s ps
          have e4 : manyB kdB ((p.take (m + 1)).map kp) = manyB kdB ((p.take m).map kp) ++ bytesK s ps := by rw [MORE.out]; rfl
          obtain ⟨X, hX⟩ : ∃ X, bytesK s ps = X := ⟨_, rfl⟩
          rw [hX] at CL xl xp rb e4
          have RB : Hid (AllB X) := rb
          have E4 : Hid (manyB kdB ((p.take (m + 1)).map kp) = manyB kdB ((p.take m).map kp) ++ X) := e4
          have HCL : Hid _ := CL
          have x0 : ((X.length : Nat) : Int) ≠ 0 := by omega
          have x1 : (((X.length : Nat) : Int) == 0) = false := beq_eq_false_iff_ne.2 x0
          clear CL hX rb x0 e4 hv
          go_wp2_with fail
          refine Calls.mono HCL.out ?_
          rintro e w2 ⟨a2, c2, rfl, o2, b2⟩
          have B2 : Hid (Below wr.heap.size wr w2) := BG.out.trans (b2.mono BG.out.size)
          obtain ⟨ad, rfl⟩ : ∃ ad, a2 = some ad := by
            obtain ⟨_, ⟨q, q2⟩ | ⟨g, c', cur, q, _⟩⟩ := o2
            · omega
            · injection q with q
              exact ⟨_, q⟩
          have O2 : Hid (IsB w2 (some ad) X) := ownsB_isB RB.out o2
          have L2 : Hid (Below w.heap.size w w2) := HS.out.low.trans (B2.out.mono HS.out.low.size)
          have z2 : w.heap.size ≤ w2.heap.size := L2.out.size
          have W2 : Hid (OwnsB w2 w.heap.size a OO c) := by show OwnsB _ _ _ _ _; rw [← HOO.out]; exact OwnsB.keep HS.out.own B2.out
          have lo : OO.length + X.length ≤ 140737488355328 := by have := LOO.out; omega
          clear b2 o2 e0 e1
          go_wp2_with (at_builtin; refine wpList_app rfl _ _ rfl w.heap.size z2 a OO c rfl W2.out _ X _ rfl O2.out (fun h => by cases h) lo ?_; intro a4 c4 w4 o4 b4; have O4 : Hid (OwnsB w4 w.heap.size a4 (OO ++ X) c4) := o4; have B4 : Hid (Below w.heap.size w w4) := L2.out.trans b4; clear o4 b4)
          have NX : Hid (Qb w w4 p (m + 1) a4 c4) := by
            refine ⟨?_, B4.out, OKK.out KOK.out, ?_⟩
            · rw [E4.out, ← List.append_assoc, HOO.out]; exact O4.out
            · rw [E4.out, List.length_append]; have := HS.out.len; omega
          have EL : Hid ((OO ++ X).length = (varL (p.length : Nat) ++ manyB kdB ((p.take (m + 1)).map kp)).length) := by
            show _ = _
            rw [E4.out, ← List.append_assoc, HOO.out]
          go_roundw
          case rel => exact ⟨m + 1, a4, c4, by omega, by go_num, by rw [← EL.out, List.length_append], NX.out⟩
          case measure => simp [intOf]; omega
        · have KNO : kdOk (s, ps) = false := decide_eq_false hv
          rw [show bytesK s ps = [] from if_neg hv] at CL
          have HCL : Hid _ := CL
          clear CL hv
          have e : pgOutK (l.map kp) (j : Int) = ([], 4) := by rw [PO.out, if_neg (by rw [BAD.out KNO]; decide)]
          have HE : Hid (pgOutK (l.map kp) (j : Int) = ([], 4)) := e
          clear e KNO
          go_wp2_with fail
          refine Calls.mono HCL.out ?_
          rintro e w2 ⟨a2, c2, rfl, o2, b2⟩
          have L2 : Hid (Below w.heap.size w w2) := HS.out.low.trans ((BG.out.trans (b2.mono BG.out.size)).mono HS.out.low.size)
          clear b2 o2 e0 e1
          go_wp2
          go_ret2
          rw [HE.out]
          exact ⟨none, 0, rfl, World.ownsRow_nil _ _ _ _, L2.out⟩
      · have m0 : ¬ (m : Int) < (P : Int) := by omega
        have em : p.take m = p := List.take_of_length_le (by rw [HPL.out]; omega)
        have AL : (p.map kp).all kdOk = true := List.all_eq_true.2 (fun x hx => by
          obtain ⟨y, hy, rfl⟩ := List.mem_map.1 hx
          exact HS.out.ok y (by rw [em]; exact hy))
        have e : pgOutK (l.map kp) (j : Int) = (OO, 0) := by
          rw [PO.out, if_pos AL, ← HOO.out, em]
          unfold pgB
          rw [List.length_map]
        have OF : Hid (OwnsB wr w.heap.size a OO c) := by show OwnsB _ _ _ _ _; rw [← HOO.out]; exact HS.out.own
        have HE : Hid (pgOutK (l.map kp) (j : Int) = (OO, 0)) := e
        clear em AL e
        go_wp2
        go_ret2
        rw [HE.out]
        exact ⟨a, c, rfl, OF.out, HS.out.low⟩
set_option maxHeartbeats 2000000 in
/-- Kinds. -/
theorem pkinds_any (a : Option Addr) (cap : Nat) (l : List Kd) (i : Int) (w : World) (h : IsK w a l) (hm : l.length ≤ 17592186044416) (hc : l.length ≤ cap) (hi : -9223372036854775808 ≤ i ∧ i ≤ 9223372036854775807) :
    Calls Try.prog 18 #[.slice a l.length cap, .int .i64 i] w fun e w' => ∃ a' c', e = .returned (.tuple #[.slice a' (pgOutK (l.map kp) i).1.length c', .int .i64 (pgOutK (l.map kp) i).2]) ∧ OwnsB w' w.heap.size a' (pgOutK (l.map kp) i).1 c' ∧ Below w.heap.size w w' := by
  have W := pwritek_any a cap l i w h hm hc hi
  obtain ⟨O, hO⟩ : ∃ O, (pgOutK (l.map kp) i).1 = O := ⟨_, rfl⟩
  obtain ⟨E, hE⟩ : ∃ E, (pgOutK (l.map kp) i).2 = E := ⟨_, rfl⟩
  rw [hO, hE] at W ⊢
  have HW : Hid _ := W
  clear W hO hE h
  go_enter Try.func18, Try.ntmps18
  go_wp2_with fail
  refine Calls.mono HW.out ?_
  rintro e w2 ⟨a2, c2, rfl, o2, b2⟩
  go_wp2
  go_ret2
  exact ⟨a2, c2, rfl, o2, b2⟩
end Go.Proofs.Ytjalagjnhjaaoaa
