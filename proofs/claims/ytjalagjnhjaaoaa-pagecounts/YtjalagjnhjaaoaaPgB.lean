/- Layer 18: Rows of the document: a page of rows' bytes. -/
import Derived.Test.YtjalagjnhjaaoaaPgA
import Derived.Test.YtjalagjnhjaaoaaKdG
namespace Go.Proofs.Ytjalagjnhjaaoaa
open Go.RowKit
set_option linter.unusedVariables false
set_option maxRecDepth 4000

/-- What Rows answers. -/
def pgOut (l : List HRw) (i : Int) : List Int × Int :=
  if 0 ≤ i ∧ i < cntP l.length 32 then (if (pgAt 32 l i.toNat).all mayR = true then (pgB rowB (pgAt 32 l i.toNat), 0) else ([], 4)) else ([], 2)
theorem sliceW_run (w : World) (g off n c lo hi : Nat) (h1 : lo ≤ hi) (h2 : hi ≤ c) (h3 : lo < c) : (Instr.slice 22 (.slice (some ⟨g, off, none⟩) n c) (some (.int .i64 (lo : Int))) (some (.int .i64 (hi : Int))) none).run Try.prog w = .ok (.slice (some ⟨g, off + lo * 4, none⟩) (hi - lo) (c - lo)) w := by
  have a1 : (lo : Int) ≤ (hi : Int) := by omega
  have a2 : (hi : Int) ≤ (c : Int) := by omega
  have a3 : ¬ c = lo := by omega
  simp [go_sem, a1, a2, a3, addr_add]
theorem IsW.part {w : World} {g off : Nat} {l : List HRw} (h : IsW w (some ⟨g, off, none⟩) l) (lo n : Nat) (hn : lo + n ≤ l.length) : IsW w (some ⟨g, off + lo * 4, none⟩) ((l.drop lo).take n) := by
  rcases h with h | ⟨b, o, e, hb, hc⟩
  · left; subst h; simp
  · cases e
    right
    refine ⟨g, off + lo * 4, rfl, hb, fun i hi => ?_⟩
    have hi' : lo + i < l.length := by
      rw [List.length_take, List.length_drop] at hi
      omega
    have q := hc (lo + i) hi'
    have e : ((l.drop lo).take n)[i] = l[lo + i] := by simp
    rw [e, show off + lo * 4 + i * 4 = off + (lo + i) * 4 by omega]
    exact q
theorem pg_len {l : List HRw} {j : Nat} (h : 32 * j < l.length) : (pgAt 32 l j).length = min (32 * j + 32) l.length - 32 * j ∧ 1 ≤ (pgAt 32 l j).length ∧ (pgAt 32 l j).length ≤ 32 := by
  unfold pgAt
  rw [List.length_take, List.length_drop]
  omega
theorem all_take {l : List HRw} {m : Nat} (hm : m < l.length) (h : mayR (rwD l m) = false) : l.all mayR = false := by
  rw [rwD_at hm] at h
  rw [List.all_eq_false]
  exact ⟨_, List.getElem_mem hm, by rw [h]; decide⟩
theorem many_more {l : List HRw} {m : Nat} (hm : m < l.length) : manyB rowB (l.take (m + 1)) = manyB rowB (l.take m) ++ rowB (rwD l m) := by
  have e : l.take (m + 1) = l.take m ++ [l[m]] := by rw [List.take_add_one, List.getElem?_eq_getElem hm]; rfl
  unfold manyB
  rw [rwD_at hm, e, List.flatMap_append]
  simp

/-- Under way. -/
structure Pb (w wr : World) (p : List HRw) (m : Nat) (a : Option Addr) (c : Nat) : Prop where
  own : OwnsB wr w.heap.size a (varL (p.length : Nat) ++ manyB rowB (p.take m)) c
  low : Below w.heap.size w wr
  ok : ∀ x ∈ p.take m, mayR x = true
  len : (manyB rowB (p.take m)).length ≤ 40 * m
theorem row_len {x : HRw} (h : mayR x = true) : (rowB x).length ≤ 40 ∧ AllB (rowB x) := by
  refine ⟨?_, rowT.byt h⟩
  unfold rowB
  split
  · rw [List.length_append, List.length_append]
    have := varL_le (2 * x.gen + 1)
    have := varL_le x.kind
    have := varL_le x.pl
    omega
  · have := varL_le (2 * x.gen)
    omega
/-- Bytes appended to one's own: what else is there stays. -/
theorem appB_g18 (w : World) (base : Nat) (hbase : base ≤ w.heap.size) (as0 : Option Addr) (L : List Int) (cs : Nat) (hown : OwnsB w base as0 L cs) (ad : Addr) (l : List Int) (cx : Nat) (hB : IsB w (some ad) l) (hlen : L.length + l.length ≤ 140737488355328) :
    ∃ a' cap' w', (Builtin.append_ #[24, 24] 24 #[.slice as0 L.length cs, .slice (some ad) l.length cx]).run Try.prog w = .ok (.slice a' (L ++ l).length cap') w' ∧ OwnsB w' base a' (L ++ l) cap' ∧ w.grownBy w' (Value.slice as0 L.length cs).ownBlock := by
  obtain ⟨i0, hi, hz0, hz1, hz2⟩ := info_parts Try.info5
  obtain ⟨v', w', h1, h2, h3, _⟩ := run_append_own (P := Try.prog) w base 24 24 5 i0 (.int .u8 0) 1 1 Try.underlying24 hi hz0 hz1 hz2 rfl (by decide) _ L.length (L.map (Value.int .u8)) hown ad l.length cx (l.map (Value.int .u8)) (by simp) (by
      intro j u hj
      have hjn : j < l.length := by
        have := (List.getElem?_eq_some_iff.1 hj).1
        simpa using this
      obtain ⟨_, rfl | ⟨b, off, e, _, hc⟩⟩ := hB
      · simp at hjn
      · cases e
        rw [addr_add, hc j hjn]
        have e : (l.map (Value.int .u8))[j]? = some (Value.int .u8 (l.getD j 0)) := by simp [List.getD, List.getElem?_eq_getElem hjn]
        rw [e] at hj
        exact hj) (by intro u hu; obtain ⟨x, _, rfl⟩ := List.mem_map.1 hu; rfl) (by unfold maxLen; omega) (by omega) hbase
  obtain ⟨a', cap', rfl⟩ := owns_form h2
  exact ⟨a', cap', w', by rw [List.length_append]; exact h1, by simpa [OwnsB] using h2, h3⟩
theorem wpList_runb {ops : Array Oper} {rest : List Oper} {o : Oper} {a : Act} {Q : Exit → Act → World → Prop} {w : World} (hgd : o.guard = none) (hty : o.type = 24) (s x : Operand)
    (ho : o.op = .call { callee := .builtin .append, args := #[s, x], argTypes := #[24, 24] }) (v1 v2 v' : Value) (w' : World) (hs : a.eval s = v1) (hx : a.eval x = v2)
    (hrun : (Builtin.append_ #[24, 24] 24 #[v1, v2]).run Try.prog w = .ok v' w') (h : wpList Try.prog ops Q rest (a.put o.dst v') w') : wpList Try.prog ops Q (o :: rest) a w := by
  refine wpList_plain hgd fun K' hK' => ?_
  unfold Oper.wp
  simp [execOp, ho, hty, resolve, invoke, builtin, hs, hx, hrun, Result.andThen]
  exact hK' _ _ h
/-- Bytes of one's own, and a row's box beside them. -/
structure Bb (w wr : World) (ng : Nat) (gen : Int) (lv : Bool) (kd pl : Int) (O : List Int) (a : Option Addr) (c : Nat) : Prop where
  own : OwnsB wr w.heap.size a O c
  low : Below w.heap.size w wr
  box : wr.heap[ng]? = some (.cells #[.int .i64 gen, .bool lv, .int .i64 kd, .int .i64 pl] 51 (0, 0))
theorem Bb.keep {w wr w' : World} {ng : Nat} {gen : Int} {lv : Bool} {kd pl : Int} {O : List Int} {a : Option Addr} {c : Nat} (h : Bb w wr ng gen lv kd pl O a c) (b : Below wr.heap.size wr w') : Bb w w' ng gen lv kd pl O a c :=
  ⟨OwnsB.keep h.own b, h.low.trans (b.mono h.low.size), by rw [b.block ng (Array.getElem?_eq_some_iff.1 h.box).1]; exact h.box⟩
/-- A number's digits more. -/
theorem Bb.var {w wr wa : World} {ng : Nat} {gen : Int} {lv : Bool} {kd pl : Int} {O : List Int} {a aa : Option Addr} {c ca : Nat} {n : Int} (h : Bb w wr ng gen lv kd pl O a c) (b : Below wr.heap.size wr wa) (o : OwnsB wa wr.heap.size aa (varL n) ca) (h0 : 0 ≤ n) (h1 : n ≤ 18446744073709551615) (hl : O.length ≤ 100000) :
    ∃ a' c' w', (Builtin.append_ #[24, 24] 24 #[.slice a O.length c, .slice aa (varL n).length ca]).run Try.prog wa = .ok (.slice a' (O ++ varL n).length c') w' ∧ Bb w w' ng gen lv kd pl (O ++ varL n) a' c' := by
  have h2 := h.keep b
  obtain ⟨ad, rfl⟩ : ∃ ad, aa = some ad := by
    obtain ⟨_, ⟨q, q2⟩ | ⟨g, c', cur, q, _⟩⟩ := o
    · have := digs_pos 9 n
      have e : (varL n).length = (digs 9 n).length := rfl
      omega
    · injection q with q
      exact ⟨_, q⟩
  obtain ⟨a', c', w', hrun, o', g'⟩ := appB_g18 wa w.heap.size (Nat.le_trans h.low.size b.size) a O c h2.own ad (varL n) ca (ownsB_isB (varL_byte n h0 h1) o) (by have := varL_le n; omega)
  have hk : ∀ k, (Value.slice a O.length c).ownBlock = some k → w.heap.size ≤ k := own_ge h2.own
  refine ⟨a', c', w', hrun, o', h2.low.trans ⟨g'.os, g'.tape, g'.output, g'.size, fun k hk' => g'.block k (by have := h2.low.size; omega) (fun e => by have := hk k e.symm; omega)⟩, ?_⟩
  rw [g'.block ng (Array.getElem?_eq_some_iff.1 h2.box).1 (fun e => ?_)]
  · exact h2.box
  · obtain ⟨_, ⟨q, _⟩ | ⟨gg, c2, cur, q, _, q3, _⟩⟩ := h2.own
    · rw [q] at e; simp [Value.ownBlock] at e
    · rw [q] at e
      simp [Value.ownBlock] at e
      subst e
      have q4 := h2.box
      rw [q3] at q4
      cases q4
set_option maxRecDepth 20000 in
set_option maxHeartbeats 8000000 in
/-- Rows of the document. -/
theorem drows_any (a : Option Addr) (cap : Nat) (l : List HRw) (i : Int) (w : World) (h : IsW w a l) (hm : l.length ≤ 17592186044416) (hc : l.length ≤ cap) (hi : -9223372036854775808 ≤ i ∧ i ≤ 9223372036854775807) :
    Calls Try.prog 11 #[.slice a l.length cap, .int .i64 i] w fun e w' => ∃ a' c', e = .returned (.tuple #[.slice a' (pgOut l i).1.length c', .int .i64 (pgOut l i).2]) ∧ OwnsB w' w.heap.size a' (pgOut l i).1 c' ∧ Below w.heap.size w w' := by
  have CNT : Hid (Calls Try.prog 15 #[.int .i64 (l.length : Nat), .int .i64 32] w fun e w' => e = .returned (.int .i64 (cntP l.length 32)) ∧ w = w') := dcount_any _ _ w (by omega) (by omega)
  obtain ⟨C, hC⟩ : ∃ C, cntP (l.length : Int) 32 = C := ⟨_, rfl⟩
  have HC : Hid (cntP (l.length : Int) 32 = C) := hC
  rw [hC] at CNT
  have C0 : 0 ≤ C := by rw [← hC]; exact cnt_le.1
  clear hC
  by_cases i0 : i < 0
  · have e : pgOut l i = ([], 2) := if_neg (by omega)
    rw [e]
    go_enter Try.func11, Try.ntmps11
    go_wp2_with (go_at_call 15; refine CNT.out.mono ?_; rintro e w' ⟨rfl, rfl⟩)
    go_ret2
    exact ⟨none, 0, rfl, World.ownsRow_nil _ _ _ _, Below.refl _ _⟩
  by_cases i1 : C ≤ i
  · have e : pgOut l i = ([], 2) := if_neg (by rw [HC.out]; omega)
    rw [e]
    go_enter Try.func11, Try.ntmps11
    go_wp2_with (go_at_call 15; refine CNT.out.mono ?_; rintro e w' ⟨rfl, rfl⟩)
    go_ret2
    exact ⟨none, 0, rfl, World.ownsRow_nil _ _ _ _, Below.refl _ _⟩
  obtain ⟨j, rfl⟩ : ∃ j : Nat, i = (j : Int) := ⟨i.toNat, by omega⟩
  have jl : 32 * j < l.length := (cnt_in (n := l.length) (per := 32) (i := j) (by decide)).1 (by have := HC.out; simp only [Int.cast_ofNat_Int] at *; omega)
  obtain ⟨pl1, pl2, pl3⟩ := pg_len jl
  have PO : Hid (pgOut l (j : Int) = if (pgAt 32 l j).all mayR = true then (pgB rowB (pgAt 32 l j), 0) else ([], 4)) := by
    show _ = _
    unfold pgOut
    rw [if_pos ⟨by omega, by rw [HC.out]; omega⟩, Int.toNat_natCast]
  obtain ⟨gr, off, rfl⟩ : ∃ gr off, a = some ⟨gr, off, none⟩ := by
    rcases h with q | ⟨b, o, e, _⟩
    · rw [q] at jl; simp at jl
    · exact ⟨b, o, e⟩
  have HP : Hid (IsW w (some ⟨gr, off + 32 * j * 4, none⟩) (pgAt 32 l j)) := by
    have q := h.part (32 * j) (pgAt 32 l j).length (by rw [pl1]; omega)
    have e : (l.drop (32 * j)).take (pgAt 32 l j).length = pgAt 32 l j := by
      unfold pgAt
      rw [List.length_take, List.take_eq_take_iff]
      simp
    rw [e] at q
    exact q
  obtain ⟨p, hp⟩ : ∃ p, pgAt 32 l j = p := ⟨_, rfl⟩
  rw [hp] at PO HP pl1 pl2 pl3
  obtain ⟨P, hP⟩ : ∃ P, p.length = P := ⟨_, rfl⟩
  have HPL : Hid (p.length = P) := hP
  rw [hP] at pl1 pl2 pl3
  obtain ⟨lo, hlo⟩ : ∃ lo : Nat, 32 * j = lo := ⟨_, rfl⟩
  rw [hlo] at HP jl pl1
  have w1 : IntKind.i64.wrap (32 * (j : Int)) = (lo : Int) := by rw [IntKind.wrap_i64]; omega
  obtain ⟨l32, hl32⟩ : ∃ x : Nat, lo + 32 = x := ⟨_, rfl⟩
  have w2 : IntKind.i64.wrap ((lo : Int) + 32) = (l32 : Int) := by rw [IntKind.wrap_i64]; omega
  obtain ⟨hi2, hhi, hcase⟩ : ∃ x : Nat, x = min l32 l.length ∧ ((x = l32 ∧ l32 ≤ l.length) ∨ (x = l.length ∧ ¬ l32 ≤ l.length)) := ⟨_, rfl, by omega⟩
  have ePP : P = hi2 - lo := by omega
  have SLR : ∀ w : World, (Instr.slice 22 (.slice (some ⟨gr, off, none⟩) l.length cap) (some (.int .i64 (lo : Int))) (some (.int .i64 (hi2 : Int))) none).run Try.prog w = .ok (.slice (some ⟨gr, off + lo * 4, none⟩) P (cap - lo)) w := fun w => by
    rw [sliceW_run w gr off l.length cap lo hi2 (by omega) (by omega) (by omega), ← ePP]
  have up : IntKind.u64.wrap (P : Int) = (P : Int) := by rw [IntKind.wrap_u64]; omega
  clear h hp hP hlo pl1 ePP hhi hl32
  go_enter Try.func11, Try.ntmps11
  go_upto_region 3 with (go_at_call 15; refine CNT.out.mono ?_; rintro e w' ⟨rfl, rfl⟩)
  go_cut [6] from 10 to 28 (fun v wx => v = .slice (some ⟨gr, off + lo * 4, none⟩) P (cap - lo) ∧ wx = w)
  case first =>
    rcases hcase with ⟨rfl, hle⟩ | ⟨rfl, hle⟩
    · have m1 : (hi2 : Int) ≤ (l.length : Int) := by omega
      have m2 : ¬ (l.length : Int) < (hi2 : Int) := by omega
      go_wp2
      go_meet
      exact ⟨rfl, rfl⟩
    · have m1 : ¬ (l32 : Int) ≤ (l.length : Int) := by omega
      have m2 : (l.length : Int) < (l32 : Int) := by omega
      go_wp2
      go_meet
      exact ⟨rfl, rfl⟩
  case rest =>
    obtain ⟨rfl, hw⟩ := hcut
    rw [hw]
    clear hw hcase SLR
    go_wp2_with fail
    refine (rvarw_any (P : Int) w (by omega) (by omega)).mono ?_
    rintro e w1 ⟨a1, c1, rfl, o1, b1⟩
    have S0 : Hid (Pb w w1 p 0 a1 c1) := ⟨by have e : varL (p.length : Nat) ++ manyB rowB (p.take 0) = varL (P : Int) := (by rw [HPL.out]; simp [manyB]); rw [e]; exact o1, b1, by simp, by simp [manyB]⟩
    have e0 : (varL (p.length : Nat) ++ manyB rowB (p.take 0)).length = (varL (P : Int)).length := by rw [HPL.out]; simp [manyB]
    have HE0 : Hid ((varL (p.length : Nat) ++ manyB rowB (p.take 0)).length = (varL (P : Int)).length) := e0
    clear o1 b1 e0
    go_wp2_with fail
    go_loopw [7, 35] (fun ov iv wr => ∃ (m : Nat) (a : Option Addr) (c : Nat), m ≤ P ∧ iv = .int .i64 (m : Nat) ∧ ov = .slice a (varL (p.length : Nat) ++ manyB rowB (p.take m)).length c ∧ Pb w wr p m a c) (fun _ iv _ => P - (intOf iv).toNat)
    case atStart => exact ⟨0, a1, c1, Nat.zero_le _, rfl, by rw [HE0.out], S0.out⟩
    case round =>
      clear S0 HE0
      obtain ⟨m, a, c, hm', rfl, rfl, hS⟩ := hrel
      rename World => wr
      have HS : Hid (Pb w wr p m a c) := hS
      clear hS
      obtain ⟨OO, hOO⟩ : ∃ L, varL (p.length : Nat) ++ manyB rowB (p.take m) = L := ⟨_, rfl⟩
      have HOO : Hid (varL (p.length : Nat) ++ manyB rowB (p.take m) = OO) := hOO
      have LOO : Hid (OO.length ≤ 10 + 40 * m) := by
        show _ ≤ _
        rw [← hOO, List.length_append]
        have := HS.out.len
        have := varL_le (p.length : Nat)
        omega
      rw [hOO]
      clear hOO
      by_cases hmn : m < P
      · have hmp : m < p.length := by rw [HPL.out]; exact hmn
        obtain ⟨b, o, eb, q0, q1, q2, q3⟩ := (HP.out.keep HS.out.low).at m hmp
        cases eb
        have m0 : (m : Int) < (P : Int) := by omega
        have MORE : Hid (manyB rowB (p.take (m + 1)) = manyB rowB (p.take m) ++ rowB (rwD p m)) := many_more hmp
        have BAD : Hid (mayR (rwD p m) = false → p.all mayR = false) := all_take hmp
        have OKK : Hid (mayR (rwD p m) = true → ∀ x ∈ p.take (m + 1), mayR x = true) := fun q x hx => by
          rw [List.take_add_one, List.getElem?_eq_getElem hmp] at hx
          rcases List.mem_append.1 hx with hx | hx
          · exact HS.out.ok x hx
          · simp at hx
            rw [hx, ← rwD_at hmp]
            exact q
        obtain ⟨R, hR⟩ : ∃ R, rwD p m = R := ⟨_, rfl⟩
        rw [hR] at q0 q1 q2 q3 MORE BAD OKK
        obtain ⟨gen, lv, kd, pl⟩ := R
        simp only at q0 q1 q2 q3
        obtain ⟨G, hG, rG, bG⟩ := rbox18 wr ⟨gen, lv, kd, pl⟩
        simp only at hG rG
        have HG : Hid (wr.alloc (.cells #[.int .i64 gen, .bool lv, .int .i64 kd, .int .i64 pl] 51) = G) := hG
        obtain ⟨ng, hng⟩ : ∃ ng, wr.heap.size = ng := ⟨_, rfl⟩
        rw [hng] at rG
        have HNG : Hid (wr.heap.size = ng) := hng
        have SG : Hid (Bb w G ng gen lv kd pl OO a c) := ⟨by rw [← HOO.out]; exact OwnsB.keep HS.out.own bG, HS.out.low.trans (bG.mono HS.out.low.size), rG⟩
        have e0 : G.cell? ⟨ng, 0, none⟩ = some (.int .i64 gen) := cell_of_row _ _ 0 _ _ _ rG
        have e1 : G.cell? ⟨ng, 1, none⟩ = some (.bool lv) := cell_of_row _ _ 1 _ _ _ rG
        have e2 : G.cell? ⟨ng, 2, none⟩ = some (.int .i64 kd) := cell_of_row _ _ 2 _ _ _ rG
        have e3 : G.cell? ⟨ng, 3, none⟩ = some (.int .i64 pl) := cell_of_row _ _ 3 _ _ _ rG
        clear hR hG rG bG hng
        go_upto_region 8 with (fail)
        rw [HG.out]
        try rw [HNG.out]
        clear q0 q1 q2 q3
        obtain ⟨v, hv⟩ : ∃ v, mayR ⟨gen, lv, kd, pl⟩ = v := ⟨_, rfl⟩
        have HV : Hid (mayR ⟨gen, lv, kd, pl⟩ = v) := hv
        clear hv
        go_wp2_with fail
        refine (dmay_any ⟨gen, lv, kd, pl⟩ v G HV.out).mono ?_
        rintro e w2 ⟨rfl, b2⟩
        have Sw2 : Hid (Bb w w2 ng gen lv kd pl OO a c) := SG.out.keep b2
        clear b2 e0 e1 e2 e3
        cases v with
        | false =>
          have e : pgOut l (j : Int) = ([], 4) := by rw [PO.out, if_neg (by rw [BAD.out HV.out]; decide)]
          have HE : Hid (pgOut l (j : Int) = ([], 4)) := e
          clear e
          go_wp2
          go_ret2
          rw [HE.out]
          exact ⟨none, 0, rfl, World.ownsRow_nil _ _ _ _, Sw2.out.low⟩
        | true =>
          have e0 := cell_of_row _ _ 0 _ _ _ Sw2.out.box
          have e1 := cell_of_row _ _ 1 _ _ _ Sw2.out.box
          have e2 := cell_of_row _ _ 2 _ _ _ Sw2.out.box
          have e3 := cell_of_row _ _ 3 _ _ _ Sw2.out.box
          have LwB : Hid (OO.length ≤ 100000) := by show _ ≤ _; have := LOO.out; omega
          cases lv with
          | false =>
            obtain ⟨g0, g1, k0, a0⟩ := may_dead.1 HV.out
            have u1 : IntKind.i64.wrap (2 * gen) = 2 * gen := by rw [IntKind.wrap_i64]; omega
            have u2 : IntKind.u64.wrap (2 * gen) = 2 * gen := by rw [IntKind.wrap_u64]; omega
            clear k0 a0
            go_wp2_with fail
            refine (rvarw_any (2 * gen) w2 (by omega) (by omega)).mono ?_
            rintro e wA ⟨aawA, cawA, rfl, oowA, bbwA⟩
            obtain ⟨awB, cwB, wB, runwB, nxwB⟩ := Sw2.out.var bbwA oowA (by omega) (by omega) LwB.out
            obtain ⟨OwB, hOwB⟩ : ∃ L, OO ++ varL (2 * gen) = L := ⟨_, rfl⟩
            have HOwB : Hid (OO ++ varL (2 * gen) = OwB) := hOwB
            rw [hOwB] at runwB nxwB
            have SwB : Hid (Bb w wB ng gen false kd pl OwB awB cwB) := nxwB
            have RUNwB : Hid _ := runwB
            have e0 := cell_of_row _ _ 0 _ _ _ nxwB.box
            have e1 := cell_of_row _ _ 1 _ _ _ nxwB.box
            have e2 := cell_of_row _ _ 2 _ _ _ nxwB.box
            have e3 := cell_of_row _ _ 3 _ _ _ nxwB.box
            clear bbwA oowA runwB nxwB hOwB
            go_wp2_with (at_builtin; refine wpList_runb rfl rfl _ _ rfl (.slice a OO.length c) (.slice aawA (varL (2 * gen)).length cawA) _ _ rfl rfl RUNwB.out ?_)
            have NX : Hid (Pb w wB p (m + 1) awB cwB) := by
              have e4 : manyB rowB (p.take (m + 1)) = manyB rowB (p.take m) ++ varL (2 * gen) := by rw [MORE.out]; congr 1
              refine ⟨?_, SwB.out.low, OKK.out HV.out, ?_⟩
              · rw [e4, ← List.append_assoc, HOO.out, HOwB.out]; exact SwB.out.own
              · rw [e4, List.length_append]; have := varL_le (2 * gen); have := HS.out.len; omega
            have EL : Hid (OwB.length = (varL (p.length : Nat) ++ manyB rowB (p.take (m + 1))).length) := by
              show _ = _
              rw [MORE.out, ← List.append_assoc, HOO.out, ← HOwB.out]
              rfl
            clear e0 e1 e2 e3 u1 u2
            go_wp2
            go_roundw
            case rel => exact ⟨m + 1, awB, cwB, by omega, by go_num, by rw [EL.out], NX.out⟩
            case measure => simp [intOf]; omega
          | true =>
            obtain ⟨g0, g1, k0, k1, a0, a1'⟩ := may_live.1 HV.out
            have u0 : IntKind.i64.wrap (2 * gen) = 2 * gen := by rw [IntKind.wrap_i64]; omega
            have u1 : IntKind.i64.wrap (2 * gen + 1) = 2 * gen + 1 := by rw [IntKind.wrap_i64]; omega
            have u2 : IntKind.u64.wrap (2 * gen + 1) = 2 * gen + 1 := by rw [IntKind.wrap_u64]; omega
            have u3 : IntKind.u64.wrap kd = kd := by rw [IntKind.wrap_u64]; omega
            have u4 : IntKind.u64.wrap pl = pl := by rw [IntKind.wrap_u64]; omega
            go_wp2_with fail
            refine (rvarw_any (2 * gen + 1) w2 (by omega) (by omega)).mono ?_
            rintro e wA ⟨aawA, cawA, rfl, oowA, bbwA⟩
            obtain ⟨awB, cwB, wB, runwB, nxwB⟩ := Sw2.out.var bbwA oowA (by omega) (by omega) LwB.out
            obtain ⟨OwB, hOwB⟩ : ∃ L, OO ++ varL (2 * gen + 1) = L := ⟨_, rfl⟩
            have HOwB : Hid (OO ++ varL (2 * gen + 1) = OwB) := hOwB
            rw [hOwB] at runwB nxwB
            have SwB : Hid (Bb w wB ng gen true kd pl OwB awB cwB) := nxwB
            have RUNwB : Hid _ := runwB
            have e0 := cell_of_row _ _ 0 _ _ _ nxwB.box
            have e1 := cell_of_row _ _ 1 _ _ _ nxwB.box
            have e2 := cell_of_row _ _ 2 _ _ _ nxwB.box
            have e3 := cell_of_row _ _ 3 _ _ _ nxwB.box
            clear bbwA oowA runwB nxwB hOwB
            go_wp2_with (at_builtin; refine wpList_runb rfl rfl _ _ rfl (.slice a OO.length c) (.slice aawA (varL (2 * gen + 1)).length cawA) _ _ rfl rfl RUNwB.out ?_)
            have LwD : Hid (OwB.length ≤ 100000) := by show _ ≤ _; rw [← HOwB.out, List.length_append]; have := varL_le (2 * gen + 1); have := LOO.out; omega
            go_wp2_with fail
            refine (rvarw_any (kd) wB (by omega) (by omega)).mono ?_
            rintro e wC ⟨aawC, cawC, rfl, oowC, bbwC⟩
            obtain ⟨awD, cwD, wD, runwD, nxwD⟩ := SwB.out.var bbwC oowC (by omega) (by omega) LwD.out
            obtain ⟨OwD, hOwD⟩ : ∃ L, OwB ++ varL (kd) = L := ⟨_, rfl⟩
            have HOwD : Hid (OwB ++ varL (kd) = OwD) := hOwD
            rw [hOwD] at runwD nxwD
            have SwD : Hid (Bb w wD ng gen true kd pl OwD awD cwD) := nxwD
            have RUNwD : Hid _ := runwD
            have e0 := cell_of_row _ _ 0 _ _ _ nxwD.box
            have e1 := cell_of_row _ _ 1 _ _ _ nxwD.box
            have e2 := cell_of_row _ _ 2 _ _ _ nxwD.box
            have e3 := cell_of_row _ _ 3 _ _ _ nxwD.box
            clear bbwC oowC runwD nxwD hOwD
            go_wp2_with (at_builtin; refine wpList_runb rfl rfl _ _ rfl (.slice awB OwB.length cwB) (.slice aawC (varL (kd)).length cawC) _ _ rfl rfl RUNwD.out ?_)
            have LwF : Hid (OwD.length ≤ 100000) := by show _ ≤ _; rw [← HOwD.out, List.length_append, ← HOwB.out, List.length_append]; have := varL_le (2 * gen + 1); have := varL_le kd; have := LOO.out; omega
            go_wp2_with fail
            refine (rvarw_any (pl) wD (by omega) (by omega)).mono ?_
            rintro e wE ⟨aawE, cawE, rfl, oowE, bbwE⟩
            obtain ⟨awF, cwF, wF, runwF, nxwF⟩ := SwD.out.var bbwE oowE (by omega) (by omega) LwF.out
            obtain ⟨OwF, hOwF⟩ : ∃ L, OwD ++ varL (pl) = L := ⟨_, rfl⟩
            have HOwF : Hid (OwD ++ varL (pl) = OwF) := hOwF
            rw [hOwF] at runwF nxwF
            have SwF : Hid (Bb w wF ng gen true kd pl OwF awF cwF) := nxwF
            have RUNwF : Hid _ := runwF
            have e0 := cell_of_row _ _ 0 _ _ _ nxwF.box
            have e1 := cell_of_row _ _ 1 _ _ _ nxwF.box
            have e2 := cell_of_row _ _ 2 _ _ _ nxwF.box
            have e3 := cell_of_row _ _ 3 _ _ _ nxwF.box
            clear bbwE oowE runwF nxwF hOwF
            go_wp2_with (at_builtin; refine wpList_runb rfl rfl _ _ rfl (.slice awD OwD.length cwD) (.slice aawE (varL (pl)).length cawE) _ _ rfl rfl RUNwF.out ?_)
            have NX : Hid (Pb w wF p (m + 1) awF cwF) := by
              have e4 : manyB rowB (p.take (m + 1)) = manyB rowB (p.take m) ++ (varL (2 * gen + 1) ++ (varL kd ++ varL pl)) := by rw [MORE.out]; congr 1
              refine ⟨?_, SwF.out.low, OKK.out HV.out, ?_⟩
              · rw [e4, ← List.append_assoc, HOO.out, ← List.append_assoc, HOwB.out, ← List.append_assoc, HOwD.out, HOwF.out]; exact SwF.out.own
              · rw [e4, List.length_append, List.length_append, List.length_append]; have := varL_le (2 * gen + 1); have := varL_le kd; have := varL_le pl; have := HS.out.len; omega
            have EL : Hid (OwF.length = (varL (p.length : Nat) ++ manyB rowB (p.take (m + 1))).length) := by
              show _ = _
              have e5 : rowB ⟨gen, true, kd, pl⟩ = varL (2 * gen + 1) ++ (varL kd ++ varL pl) := if_pos rfl
              rw [MORE.out, e5, ← List.append_assoc, HOO.out, ← List.append_assoc, HOwB.out, ← List.append_assoc, HOwD.out, HOwF.out]
            clear e0 e1 e2 e3 u0 u1 u2 u3 u4
            go_wp2
            go_roundw
            case rel => exact ⟨m + 1, awF, cwF, by omega, by go_num, by rw [EL.out], NX.out⟩
            case measure => simp [intOf]; omega
      · have m0 : ¬ (m : Int) < (P : Int) := by omega
        have em : p.take m = p := List.take_of_length_le (by rw [HPL.out]; omega)
        have AL : p.all mayR = true := List.all_eq_true.2 (fun x hx => HS.out.ok x (by rw [em]; exact hx))
        have e : pgOut l (j : Int) = (OO, 0) := by
          rw [PO.out, if_pos AL, ← HOO.out, em]
          rfl
        have OF : Hid (OwnsB wr w.heap.size a OO c) := by show OwnsB _ _ _ _ _; rw [← HOO.out]; exact HS.out.own
        have HE : Hid (pgOut l (j : Int) = (OO, 0)) := e
        clear em AL e
        go_wp2
        go_ret2
        rw [HE.out]
        exact ⟨a, c, rfl, OF.out, HS.out.low⟩
end Go.Proofs.Ytjalagjnhjaaoaa
