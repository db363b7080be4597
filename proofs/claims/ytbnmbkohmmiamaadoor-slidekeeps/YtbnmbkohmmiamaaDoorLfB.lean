/- The walk of the law SlideTight. -/
import Derived.Test.YtbnmbkohmmiamaaDoorLdA
import Derived.Test.YtbnmbkohmmiamaaDoorSlU
import Derived.Test.YtbnmbkohmmiamaaDoorLeA
import Derived.Test.YtbnmbkohmmiamaaDoorLeF
namespace Go.Proofs.YtbnmbkohmmiamaaDoor
open Go.RowKit
set_option linter.unusedVariables false


theorem enter_run (f : Nat) (vs : Array Value) (w : World) (hf : (match Tryd.prog.funcs[f]? with | some fn => !(fn.name == "runtime.NumGoroutine") && !fn.body.isNone | none => false) = true) : (callFunc f vs).run Tryd.prog w = .ok (.enter f vs) w := by
  unfold callFunc
  simp only [Sem.run_bind, go_sem]
  cases hq : Tryd.prog.funcs[f]? with
  | none => rw [hq] at hf; cases hf
  | some fn =>
    rw [hq] at hf
    simp at hf
    simp [hf.1, hq]
    intro h
    rw [h] at hf
    simp at hf
/-- A call of a Go function by its contract, in a region that draws. -/
theorem step_call {ops : Array Oper} {o : Oper} {a : Act} {K : Act → World → Prop} {Q : Exit → Act → World → Prop} {E : Prop} {w : World} (hgd : o.guard = none) (f : Nat) (xs : List Operand) (ts : Array TypeId)
    (ho : o.op = .call { callee := .value (.func f), args := xs.toArray, argTypes := ts }) (vs : List Value) (hx : xs.map a.eval = vs) (R : Ending → World → Prop) (C : Calls Tryd.prog f vs.toArray w R)
    (hf : (match Tryd.prog.funcs[f]? with | some fn => !(fn.name == "runtime.NumGoroutine") && !fn.body.isNone | none => false) = true) (h : ∀ e w', R e w' → ∃ v, e = .returned v ∧ K (a.put o.dst v) w') :
    if Region.wanted o (yielded ops a.tmps) = true then Oper.wp Tryd.prog o a w K Q else E := by
  have hw : Region.wanted o (yielded ops a.tmps) = true := by simp [Region.wanted, hgd]
  rw [if_pos hw]
  subst hx
  obtain ⟨dst, op, type, pos, after, guard⟩ := o
  simp only at ho
  subst ho
  unfold Oper.wp
  have e1 : execOp a.eval { dst, op := .call { callee := .value (.func f), args := xs.toArray, argTypes := ts }, type, pos, after, guard } = callFunc f (#[] ++ xs.toArray.map a.eval ++ #[]) := rfl
  rw [e1, show (#[] : Array Value) ++ xs.toArray.map a.eval ++ #[] = (xs.map a.eval).toArray from by simp, enter_run f _ w hf]
  refine C.mono ?_
  intro e w' hR
  obtain ⟨v, rfl, hK⟩ := h e w' hR
  exact hK

theorem ent_csize : (match Tryd.prog.funcs[19]? with | some fn => !(fn.name == "runtime.NumGoroutine") && !fn.body.isNone | none => false) = true := by kernel_rfl
/-- Eight counts as the cells of an array. -/
def cells8 (f : Nat → Nat) : Array Value := #[.int .i64 (f 0 : Nat), .int .i64 (f 1 : Nat), .int .i64 (f 2 : Nat), .int .i64 (f 3 : Nat), .int .i64 (f 4 : Nat), .int .i64 (f 5 : Nat), .int .i64 (f 6 : Nat), .int .i64 (f 7 : Nat)]
theorem cells8_at (f : Nat → Nat) (k : Nat) (h : k < 8) : (cells8 f)[k]? = some (.int .i64 (f k : Nat)) := by
  rcases k with _ | _ | _ | _ | _ | _ | _ | _ | k <;> first | rfl | omega
theorem cells8_set (f : Nat → Nat) (k : Nat) (h : k < 8) (v : Nat) : (cells8 f).setIfInBounds k (.int .i64 (v : Nat)) = cells8 (fun j => if j = k then v else f j) := by
  rcases k with _ | _ | _ | _ | _ | _ | _ | _ | k <;> first | rfl | omega
theorem cells8_ext {f f' : Nat → Nat} (e : ∀ k, k < 8 → f k = f' k) : cells8 f = cells8 f' := by
  unfold cells8
  rw [e 0 (by decide), e 1 (by decide), e 2 (by decide), e 3 (by decide), e 4 (by decide), e 5 (by decide), e 6 (by decide), e 7 (by decide)]
theorem size_arr8 : (Tryd.prog.info? 48).map (·.size) = some 8 := by kernel_rfl
theorem index_arr8 (f : Nat → Nat) (k : Nat) (hk : k < 8) (w : World) :
    (Instr.index 48 (.agg (cells8 f)) (.int .i64 (k : Nat))).run Tryd.prog w = .ok (.int .i64 ((f k : Nat) : Int)) w := by
  have e := cells8_at f k hk
  simp [Instr.index, asIntOf, Sem.run_bind, run_underlying Tryd.underlying48, hk, Tryd.sizeOf3, part, Tryd.isAgg3, e]
/-- The counts in their block. -/
def Arr8 (w : World) (g : Nat) (f : Nat → Nat) : Prop := w.heap[g]? = some (.cells (cells8 f) 48 (0, 0))
theorem Arr8.cell {w : World} {g : Nat} {f : Nat → Nat} (h : Arr8 w g f) (k : Nat) (hk : k < 8) : w.cell? ⟨g, k, none⟩ = some (.int .i64 (f k : Nat)) := by
  rw [cell_of_row _ _ k _ _ _ h]; exact cells8_at f k hk
theorem Arr8.stored {w : World} {g : Nat} {f : Nat → Nat} (h : Arr8 w g f) (k : Nat) (hk : k < 8) (v : Nat) : Arr8 (w.setCell ⟨g, k, none⟩ (.int .i64 (v : Nat))) g (fun j => if j = k then v else f j) := by
  unfold Arr8
  rw [heap_put h, cells8_set f k hk]
theorem pU_lek (m : List Sn) (F : Nat → Nat → Bool) : ∀ (k c : Nat), pU m F c k ≤ k
  | 0, _ => Nat.le_refl _
  | k + 1, c => by
    have := pU_lek m F k c
    rw [pU]
    split <;> omega
theorem hltA {w : World} {g : Nat} {o : Obj} (h : w.heap[g]? = some o) : g < w.heap.size := by
  rcases Nat.lt_or_ge g w.heap.size with q | q
  · exact q
  · rw [Array.getElem?_eq_none q] at h; cases h
theorem Arr8.thawed {w : World} {g : Nat} {f : Nat → Nat} (h : Arr8 w g f) (k : Nat) : w.frozen? ⟨g, k, none⟩ = false := frozen_of_row w g k _ _ h
theorem Arr8.keep {w w' : World} {g : Nat} {f : Nat → Nat} (h : Arr8 w g f) (hb : Below w.heap.size w w') : Arr8 w' g f := by
  unfold Arr8
  rw [hb.block g (hltA h)]
  exact h
theorem Arr8.ext {w : World} {g : Nat} {f f' : Nat → Nat} (h : Arr8 w g f) (e : ∀ k, k < 8 → f k = f' k) : Arr8 w g f' := by
  unfold Arr8
  rw [← cells8_ext e]
  exact h
set_option maxRecDepth 20000 in
set_option maxHeartbeats 8000000 in
theorem slideTight_any (HP : PlanC) (P : Int) (a : Option Addr) (n cap : Nat) (ts : List Td) (w : World) (hT : Tabs w) (h : RdT w a ts) (hn : ts.length = n) (hn9 : n ≤ 9223372036854775807) (hr : ∀ t ∈ ts, -9223372036854775808 ≤ t.p ∧ t.p ≤ 9223372036854775807) :
    Calls Tryd.prog 6 #[.int .i64 P, .slice a n cap] w fun e w' => e = .returned (.bool true) ∧ Below w.heap.size w w' := by
  have HPL : Hid PlanC := HP
  have HT : Hid (Tabs w) := hT
  have H : Hid (RdT w a ts) := h
  have HN : Hid (ts.length = n) := hn
  have HRG : Hid (∀ t ∈ ts, -9223372036854775808 ≤ t.p ∧ t.p ≤ 9223372036854775807) := hr
  clear HP hT h hn hr
  go_enter Tryd.func6, Tryd.ntmps6
  go_wp2_with fail
  refine (alive_any HPL.out _ HT.out).mono ?_
  rintro e w1 ⟨rfl, b1⟩
  have B1 : Hid (Below w.heap.size w w1) := b1
  clear b1
  by_cases hbig : 300 < n
  · have hb : (300 : Int) < (n : Int) := by omega
    go_wp2
    go_ret
    exact ⟨rfl, B1.out⟩
  have hb : ¬ ((300 : Int) < (n : Int)) := by omega
  have hn1 : n ≤ 300 := by omega
  go_wp2_with fail
  refine (HPL.out P a n cap ts _ (HT.out.keep B1.out) (H.out.keep B1.out) HN.out (by omega) HRG.out).mono ?_
  rintro e w2 hpp
  cases hstd : stdB P ts with
  | false =>
    obtain ⟨rfl, b2⟩ := hpp.no hstd
    have B2 : Hid (Below w.heap.size w w2) := B1.out.trans (b2.mono B1.out.size)
    have HS : Hid (stdB P ts = false) := hstd
    clear hpp b2 hstd
    go_wp2_with (go_at_call 12; refine (lright_any P a n cap ts _ (HT.out.keep B2.out) (H.out.keep B2.out) HN.out (by omega) HRG.out false HS.out).mono ?_; rintro e w3 ⟨rfl, b3⟩; have B3 : Hid (Below w.heap.size w w3) := B2.out.trans (b3.mono B2.out.size); clear b3)
    go_ret
    exact ⟨rfl, B3.out⟩
  | true =>
    obtain ⟨a1, n1, c1, a2, n2, c2, rfl, h1, h2, ht, hv, b2⟩ := hpp.yes hstd
    have hP : 1 ≤ P ∧ P ≤ 4096 := by
      unfold stdB at hstd
      rw [Bool.and_eq_true] at hstd
      exact of_decide_eq_true hstd.1
    obtain ⟨P, rfl⟩ : ∃ p : Nat, P = p := ⟨P.toNat, by omega⟩
    obtain ⟨hS, hI⟩ := std_of hstd
    have hIc := inF_cls hI (fun i hi => (hS.ok i hi).c7)
    have RS := rows_std hstd
    have hS2 := aft_std (P := P) hS hIc (by omega)
    have nums := planT_num (F := FT ts) hS
    obtain ⟨hSA, hIA⟩ := std_of hS2
    have SLD := aft_slid hIc
    have NEED := plan_need hS hIc
    have AEND := aft_endU hIc (kept (ts.map snT) (FT ts)).length (Nat.le_refl _)
    have ALEN := aft_len (ts.map snT) (FT ts)
    have AES : endU (ts.map snT) (clsF (ts.map snT) (FT ts) 7) (ts.map snT).length = (((kept (ts.map snT) (FT ts)).take (kept (ts.map snT) (FT ts)).length).map (fun j => (sn (ts.map snT) j).k)).sum := by rw [end_sum, List.take_length]; rfl
    have RSA := rows_std hS2
    unfold aftM aftF at SLD AEND
    unfold aftM at ALEN
    obtain ⟨m, hm⟩ : ∃ m, ts.map snT = m := ⟨_, rfl⟩
    obtain ⟨F, hF⟩ : ∃ F, FT ts = F := ⟨_, rfl⟩
    rw [hm] at hS RS h1 ht nums hS2 hSA hIA SLD NEED AEND ALEN AES RSA
    rw [hF] at RS h1 ht nums hS2 hSA hIA SLD NEED AEND ALEN AES RSA
    obtain ⟨T, hTT⟩ : ∃ T, planT m F = T := ⟨_, rfl⟩
    rw [hTT] at h1 ht nums hS2 hSA hIA SLD AEND ALEN RSA
    obtain ⟨ma, hma⟩ : ∃ ma, T.map snT = ma := ⟨_, rfl⟩
    obtain ⟨Fa, hFa⟩ : ∃ Fa, FT T = Fa := ⟨_, rfl⟩
    rw [hma] at hSA hIA SLD AEND ALEN RSA
    rw [hFa] at hIA SLD AEND RSA
    have MLA : ma.length = n1 := by rw [← hma, List.length_map, h1]
    have ML : m.length = n := by rw [← hm, List.length_map, HN.out]
    have PAGES : Hid (endU ma Fa n1 = needN (szU m F n)) := by
      show _ = _
      rw [← ML, ← NEED, AES, ← MLA, ALEN]
      exact AEND
    have hTl : n1 ≤ 300 := by
      rw [← MLA, ALEN]
      have := keepL_len m (clsF m F 7) m.length
      unfold kept
      omega
    have B2 : Hid (Below w.heap.size w w2) := B1.out.trans (b2.mono B1.out.size)
    have RT : Hid (RdT w2 a1 T) := ht.rd (fun t ht x hx => (nums t ht).2 x hx)
    have N1 : Hid (T.length = n1) := h1
    have NR : Hid (∀ t ∈ T, -9223372036854775808 ≤ t.p ∧ t.p ≤ 9223372036854775807) := fun t ht => (nums t ht).1
    have HS : Hid (Std P m) := hS
    have HSA : Hid (Std P ma) := hSA
    have HIA : Hid (InF ma Fa) := hIA
    have HSL : Hid (Slid ma Fa) := SLD
    have HRS : Hid (rowsT m F = ts) := RS
    have HRA : Hid (rowsT ma Fa = T) := RSA
    have S2 : Hid (stdB (P : Int) T = true) := hS2
    have HML : Hid (m.length = n) := ML
    have HMA : Hid (ma.length = n1) := MLA
    have PART : Hid (∀ c, c ≤ 7 → pU ma Fa c ma.length ≤ 1) := fun c hc => slid_part SLD (fun i hi h7 => large_one hSA hi h7) c hc
    have ENDB : Hid (∀ k, k ≤ n1 → endU ma Fa k ≤ 4096) := fun k hk => by
      have := (end_le hSA Fa k (by omega)).2
      have := hSA.most
      omega
    clear hpp b2 hstd ht hv h1 h2 nums hS hI hIc hS2 hSA hIA SLD NEED AEND ALEN AES RS RSA hm hF hTT hma hFa ML MLA hP
    have I0 : Hid (∃ L, Li w2 w2 L 3 none (szU m F 0) 0 ∧ ∀ k, k < w2.heap.size → L k = 0) := ⟨fun _ => 0, Li.nil _ _ _ _, fun _ _ => rfl⟩
    go_wp2_with fail
    go_loopw [8, 39] (fun sv iv wr => ∃ (i : Nat) (L : Nat → Nat) (sa : Option Addr) (ns cs : Nat), i ≤ n ∧ iv = .int .i64 (i : Nat) ∧ sv = .slice sa ns cs ∧ (szU m F i).length = ns ∧ Li w2 wr L 3 sa (szU m F i) cs ∧ (∀ k, k < w2.heap.size → L k = 0) ∧ Below w2.heap.size w2 wr) (fun _ iv _ => n - lenW iv)
    case atStart =>
      obtain ⟨L, q1, q2⟩ := I0.out
      exact ⟨0, L, none, 0, 0, Nat.zero_le _, rfl, rfl, rfl, q1, q2, Below.refl _ _⟩
    case round =>
      obtain ⟨i, L, sa, ns, cs, hi, rfl, rfl, hns, hli, hlow, hbr⟩ := hrel
      rename World => wr
      have LI : Hid (Li w2 wr L 3 sa (szU m F i) cs) := hli
      have LOW : Hid (∀ k, k < w2.heap.size → L k = 0) := hlow
      have BR : Hid (Below w2.heap.size w2 wr) := hbr
      have NS : Hid ((szU m F i).length = ns) := hns
      clear hli hlow hbr hns I0
      by_cases hin : i < n
      · have hit : i < ts.length := by rw [HN.out]; exact hin
        have him : i < m.length := by rw [HML.out]; exact hin
        obtain ⟨g, off, la, lk, rfl, q0', q1', q2', q3', _, _⟩ := (H.out.keep (B2.out.trans (BR.out.mono B2.out.size))) i hit
        have ERI : ts[i] = rowI m i (lsL (F i) (sn m i).sl) := by
          have e1 : ts[i] = (rowsT m F)[i]'(by rw [rowsT_len]; exact him) := by congr 1; exact HRS.out.symm
          rw [e1, rowsT_at]
        rw [ERI] at q0' q1' q2' q3'
        have q0 : wr.cell? ⟨g, off + i * 4, none⟩ = some (.int .i64 ((sn m i).pg : Int)) := q0'
        have q1 : wr.cell? ⟨g, off + i * 4 + 1, none⟩ = some (.int .i64 ((sn m i).cl : Int)) := q1'
        have q2 : wr.cell? ⟨g, off + i * 4 + 2, none⟩ = some (.int .i64 ((sn m i).bts : Int)) := q2'
        have q3 : wr.cell? ⟨g, off + i * 4 + 3, none⟩ = some (.slice la (lsL (F i) (sn m i).sl).length lk) := q3'
        have OKi := HS.out.ok i him
        have SZN : szU m F (i + 1) = szU m F i ++ List.replicate (cnt (F i) (sn m i).sl) (szv m i) := rfl
        have SZL : Hid (ns ≤ 4800) := by show ns ≤ 4800; rw [← NS.out]; have := szU_len HS.out F i (by omega); omega
        have CB := cnt_le (F i) (sn m i).sl
        have SLB0 := OKi.facts.2.1
        rw [lsL_len] at q3
        obtain ⟨N, hNN⟩ : ∃ N, cnt (F i) (sn m i).sl = N := ⟨_, rfl⟩
        rw [hNN] at q3 SZN CB
        have SZN : Hid (szU m F (i + 1) = szU m F i ++ List.replicate N (szv m i)) := SZN
        have N16 : N ≤ 16 := by omega
        obtain ⟨pg, hpg⟩ : ∃ pg, (sn m i).pg = pg := ⟨_, rfl⟩
        obtain ⟨cl, hcl⟩ : ∃ cl, (sn m i).cl = cl := ⟨_, rfl⟩
        obtain ⟨bt, hbt⟩ : ∃ bt, (sn m i).bts = bt := ⟨_, rfl⟩
        have C7 := OKi.c7
        rw [hpg] at q0
        rw [hcl] at q1 C7
        rw [hbt] at q2
        have i0 : (i : Int) < (n : Int) := by omega
        clear q0' q1' q2' q3' ERI hNN hpg CB SLB0
        by_cases hc7 : cl < 7
        · skip
          have hb0 : (sn m i).bts = 0 := OKi.sm (by rw [hcl]; exact hc7)
          rw [hbt] at hb0
          subst hb0
          have SZ : Hid (sizeI (cl : Int) = (clZ cl : Int)) := sizeI_Z cl hc7
          have ZP := clZ_pos cl hc7
          obtain ⟨Z, hZ⟩ : ∃ Z, clZ cl = Z := ⟨_, rfl⟩
          rw [hZ] at SZ ZP
          have VX : Hid (szv m i = (Z : Int)) := by
            show _ = _
            unfold szv
            rw [hcl, hbt, SZ.out]
            have := ZP.1
            omega
          have mx0 : (0 : Int) < (Z : Int) := by have := ZP.1; omega
          have mx1 : ¬ ((Z : Int) < 0) := by omega
          have mx2 : ¬ ((Z : Int) = 0) := by omega
          have mx3 : ¬ (Z = 0) := by omega
          have mx4 : 0 < Z := by omega
          have ZB : Z ≤ 128 := ZP.2.1
          clear hZ ZP
          obtain ⟨E, hE⟩ : ∃ E, wr.alloc (.cells #[.int .i64 (pg : Nat), .int .i64 (cl : Nat), .int .i64 0, .slice la N lk] 46) = E := ⟨_, rfl⟩
          have HE : Hid (wr.alloc (.cells #[.int .i64 (pg : Nat), .int .i64 (cl : Nat), .int .i64 0, .slice la N lk] 46) = E) := hE
          have bE : Below wr.heap.size wr E := by rw [← hE]; exact (Below.refl _ wr).alloc (Nat.le_refl _) _
          have RE : Hid (E.heap[wr.heap.size]? = some (.cells #[.int .i64 (pg : Nat), .int .i64 (cl : Nat), .int .i64 0, .slice la N lk] 46 (0, 0))) := by show _ = _; rw [← hE]; exact Go.heap_alloc_new wr _
          have WE : ∀ Zz, Wk Zz L wr (cutL L wr.heap.size) E := fun Zz => Wk.fresh bE
          have LIE : Hid (Li w2 E (cutL L wr.heap.size) 3 sa (szU m F i ++ List.replicate 0 (szv m i)) cs) := by
            show Li _ _ _ _ _ _ _
            rw [List.replicate_zero, List.append_nil]
            exact LI.out.wk (Z := fun _ => False) (fun h => h) (WE _)
          have ZE : Hid (cutL L wr.heap.size wr.heap.size = 0) := cutL_new (Nat.le_refl _)
          have BEE : Hid (Below w2.heap.size w2 E) := BR.out.trans (bE.mono BR.out.size)
          have LOE : Hid (∀ k, k < w2.heap.size → cutL L wr.heap.size k = 0) := fun k hk => by
            show (if k < wr.heap.size then L k else 0) = 0
            rw [if_pos (by have := BR.out.size; omega)]; exact LOW.out k hk
          obtain ⟨L3, hL3⟩ : ∃ L3, cutL L wr.heap.size = L3 := ⟨_, rfl⟩
          rw [hL3] at LIE ZE LOE
          obtain ⟨eb, heb⟩ : ∃ eb, wr.heap.size = eb := ⟨_, rfl⟩
          have HEB : Hid (wr.heap.size = eb) := heb
          rw [heb] at ZE RE
          have e3 : E.cell? ⟨eb, 3, none⟩ = some (.slice la N lk) := cell_of_row _ _ 3 _ _ _ RE.out
          clear hE bE WE hL3 heb OKi
          go_upto_region 12 with (fail)
          rw [HE.out, HEB.out]
          go_wp2_with fail
          go_loopw [8, 46] (fun sv tv wz => ∃ (t : Nat) (L : Nat → Nat) (sa : Option Addr) (ns' cs : Nat), t ≤ N ∧ tv = .int .i64 (t : Nat) ∧ sv = .slice sa ns' cs ∧ ns + t = ns' ∧ Li w2 wz L 3 sa (szU m F i ++ List.replicate t (szv m i)) cs ∧ (∀ k, k < w2.heap.size → L k = 0) ∧ Below w2.heap.size w2 wz ∧ wz.heap[eb]? = some (.cells #[.int .i64 (pg : Nat), .int .i64 (cl : Nat), .int .i64 0, .slice la N lk] 46 (0, 0)) ∧ L eb = 0) (fun _ tv _ => N - lenW tv)
          case atStart => exact ⟨0, L3, sa, ns, cs, Nat.zero_le _, rfl, rfl, rfl, LIE.out, LOE.out, BEE.out, RE.out, ZE.out⟩
          case round =>
            clear e3 q0 q1 q2 q3
            obtain ⟨t, L4, sa4, ns4, cs4, ht, rfl, rfl, hns4, hli4, hlow4, hb4, hr4, hz4⟩ := hrel
            rename World => wz
            have LI4 : Hid (Li w2 wz L4 3 sa4 (szU m F i ++ List.replicate t (szv m i)) cs4) := hli4
            have LOW4 : Hid (∀ k, k < w2.heap.size → L4 k = 0) := hlow4
            have B4 : Hid (Below w2.heap.size w2 wz) := hb4
            have R4 : Hid (wz.heap[eb]? = some (.cells #[.int .i64 (pg : Nat), .int .i64 (cl : Nat), .int .i64 0, .slice la N lk] 46 (0, 0))) := hr4
            have Z4 : Hid (L4 eb = 0) := hz4
            have NSv := NS.out
            have SLB := SZL.out
            clear hli4 hlow4 hb4 hr4 hz4
            by_cases htN : t < N
            · obtain ⟨D, hD⟩ : ∃ D, wz.drew.alloc (.cells #[.int .i64 (Z : Nat)] 3) = D := ⟨_, rfl⟩
              have LD4 : Li w2 wz.drew L4 3 sa4 (szU m F i ++ List.replicate t (szv m i)) cs4 := LI4.out.wk (Z := fun _ => False) (fun h => h) (Wk.below (Below.refl _ wz).drew)
              obtain ⟨a5, c5, w5, L5, run5, li5, wk5⟩ := li_app LD4 B4.out.size ns4 (by rw [List.length_append, List.length_replicate]; omega) ((Z : Nat) : Int) (by omega) D hD
              have wk5' : Wk (fun y => y = 3) L4 wz L5 w5 := (Wk.below (Below.refl _ wz).drew).trans wk5
              obtain ⟨b5, l5⟩ := wk5'.bel (by omega) LOW4.out B4.out
              obtain ⟨r5, z5⟩ := wk5'.box (by omega) R4.out Z4.out
              have LI5 : Hid (Li w2 w5 L5 3 a5 (szU m F i ++ List.replicate (t + 1) (szv m i)) c5) := by
                show Li _ _ _ _ _ _ _
                rw [List.replicate_succ', ← List.append_assoc, VX.out]
                rw [VX.out] at li5
                exact li5
              have L5L : Hid (∀ k, k < w2.heap.size → L5 k = 0) := l5
              have B5 : Hid (Below w2.heap.size w2 w5) := b5
              have R5 : Hid (w5.heap[eb]? = some (.cells #[.int .i64 (pg : Nat), .int .i64 (cl : Nat), .int .i64 0, .slice la N lk] 46 (0, 0))) := r5
              have Z5 : Hid (L5 eb = 0) := z5
              have d1 : wz.cell? ⟨eb, 1, none⟩ = some (.int .i64 (cl : Nat)) := cell_of_row _ _ 1 _ _ _ R4.out
              have d2 : wz.cell? ⟨eb, 2, none⟩ = some (.int .i64 0) := cell_of_row _ _ 2 _ _ _ R4.out
              have TB : Hid (TabC wz.drew) := (HT.out.keep (B2.out.trans (B4.out.mono B2.out.size))).1
              have CZ : Hid (Calls Tryd.prog 19 #[.int .i64 (cl : Nat)] wz.drew fun e w' => e = .returned (.int .i64 (Z : Int)) ∧ wz.drew = w') := by
                have q := csize_any ((cl : Nat) : Int) wz.drew TB.out (by omega) (by omega)
                rw [SZ.out] at q
                exact q
              have t0 : (t : Int) < (N : Int) := by omega
              clear li5 wk5 wk5' b5 l5 r5 z5 LD4 TB
              go_wp2_with fail
              go_region_law (first
                | (refine step_app rfl (.tmp 48) (.tmp 55) 44 rfl (.slice sa4 ns4 cs4) (.slice (some ⟨wz.heap.size, 0, none⟩) 1 1) (by simp [Act.eval]) (by simp [Act.eval]) (.slice a5 (ns4 + 1) c5) w5 run5 ?_)
                | (refine step_call rfl 19 _ _ rfl [.int .i64 (cl : Nat)] (by simp [Act.eval]) _ CZ.out ent_csize ?_; rintro e w' ⟨rfl, rfl⟩; refine ⟨_, rfl, ?_⟩))
              all_goals
                go_wp2
                go_roundw
                case rel => exact ⟨t + 1, L5, a5, ns4 + 1, c5, by omega, by congr 1, rfl, by omega, LI5.out, L5L.out, B5.out, R5.out, Z5.out⟩
                case measure => simp [lenW]; omega
            · obtain rfl : t = N := by omega
              have NI : Hid (Li w2 wz L4 3 sa4 (szU m F (i + 1)) cs4) := by show Li _ _ _ _ _ _ _; rw [SZN.out]; exact LI4.out
              have NN : Hid ((szU m F (i + 1)).length = ns4) := by show _ = _; rw [SZN.out, List.length_append, List.length_replicate]; omega
              go_wp2
              go_roundw
              case rel => exact ⟨i + 1, L4, sa4, ns4, cs4, by omega, by congr 1, rfl, NN.out, NI.out, LOW4.out, B4.out⟩
              case measure => simp [lenW]; omega
        · skip
          obtain rfl : cl = 7 := by omega
          have h7 := OKi.lg hcl
          rw [hbt] at h7
          obtain ⟨_, blo, bhi⟩ := pagesN_large h7
          have SZ : Hid (sizeI ((7 : Nat) : Int) = 0) := by show _ = _; decide
          have VX : Hid (szv m i = (bt : Int)) := by
            show _ = _
            unfold szv
            rw [hcl, hbt, SZ.out]
            omega
          obtain ⟨B, hB⟩ : ∃ B : Int, (bt : Int) = B := ⟨_, rfl⟩
          rw [hB] at q2 VX
          have mx0 : (0 : Int) < B := by omega
          have mx1 : ¬ (B < 0) := by omega
          have mx2 : ¬ (B = 0) := by omega
          have BB : B ≤ 9223372036854775807 := by omega
          have mx5 : (B < 0) = False := eq_false mx1
          have mx6 : (if B < 0 then (0 : Int) else B) = B := if_neg mx1
          clear h7 hB blo bhi hbt
          obtain ⟨E, hE⟩ : ∃ E, wr.alloc (.cells #[.int .i64 (pg : Nat), .int .i64 7, .int .i64 B, .slice la N lk] 46) = E := ⟨_, rfl⟩
          have HE : Hid (wr.alloc (.cells #[.int .i64 (pg : Nat), .int .i64 7, .int .i64 B, .slice la N lk] 46) = E) := hE
          have bE : Below wr.heap.size wr E := by rw [← hE]; exact (Below.refl _ wr).alloc (Nat.le_refl _) _
          have RE : Hid (E.heap[wr.heap.size]? = some (.cells #[.int .i64 (pg : Nat), .int .i64 7, .int .i64 B, .slice la N lk] 46 (0, 0))) := by show _ = _; rw [← hE]; exact Go.heap_alloc_new wr _
          have WE : ∀ Zz, Wk Zz L wr (cutL L wr.heap.size) E := fun Zz => Wk.fresh bE
          have LIE : Hid (Li w2 E (cutL L wr.heap.size) 3 sa (szU m F i ++ List.replicate 0 (szv m i)) cs) := by
            show Li _ _ _ _ _ _ _
            rw [List.replicate_zero, List.append_nil]
            exact LI.out.wk (Z := fun _ => False) (fun h => h) (WE _)
          have ZE : Hid (cutL L wr.heap.size wr.heap.size = 0) := cutL_new (Nat.le_refl _)
          have BEE : Hid (Below w2.heap.size w2 E) := BR.out.trans (bE.mono BR.out.size)
          have LOE : Hid (∀ k, k < w2.heap.size → cutL L wr.heap.size k = 0) := fun k hk => by
            show (if k < wr.heap.size then L k else 0) = 0
            rw [if_pos (by have := BR.out.size; omega)]; exact LOW.out k hk
          obtain ⟨L3, hL3⟩ : ∃ L3, cutL L wr.heap.size = L3 := ⟨_, rfl⟩
          rw [hL3] at LIE ZE LOE
          obtain ⟨eb, heb⟩ : ∃ eb, wr.heap.size = eb := ⟨_, rfl⟩
          have HEB : Hid (wr.heap.size = eb) := heb
          rw [heb] at ZE RE
          have e3 : E.cell? ⟨eb, 3, none⟩ = some (.slice la N lk) := cell_of_row _ _ 3 _ _ _ RE.out
          clear hE bE WE hL3 heb OKi
          go_upto_region 12 with (fail)
          rw [HE.out, HEB.out]
          go_wp2_with fail
          go_loopw [8, 46] (fun sv tv wz => ∃ (t : Nat) (L : Nat → Nat) (sa : Option Addr) (ns' cs : Nat), t ≤ N ∧ tv = .int .i64 (t : Nat) ∧ sv = .slice sa ns' cs ∧ ns + t = ns' ∧ Li w2 wz L 3 sa (szU m F i ++ List.replicate t (szv m i)) cs ∧ (∀ k, k < w2.heap.size → L k = 0) ∧ Below w2.heap.size w2 wz ∧ wz.heap[eb]? = some (.cells #[.int .i64 (pg : Nat), .int .i64 7, .int .i64 B, .slice la N lk] 46 (0, 0)) ∧ L eb = 0) (fun _ tv _ => N - lenW tv)
          case atStart => exact ⟨0, L3, sa, ns, cs, Nat.zero_le _, rfl, rfl, rfl, LIE.out, LOE.out, BEE.out, RE.out, ZE.out⟩
          case round =>
            clear e3 q0 q1 q2 q3
            obtain ⟨t, L4, sa4, ns4, cs4, ht, rfl, rfl, hns4, hli4, hlow4, hb4, hr4, hz4⟩ := hrel
            rename World => wz
            have LI4 : Hid (Li w2 wz L4 3 sa4 (szU m F i ++ List.replicate t (szv m i)) cs4) := hli4
            have LOW4 : Hid (∀ k, k < w2.heap.size → L4 k = 0) := hlow4
            have B4 : Hid (Below w2.heap.size w2 wz) := hb4
            have R4 : Hid (wz.heap[eb]? = some (.cells #[.int .i64 (pg : Nat), .int .i64 7, .int .i64 B, .slice la N lk] 46 (0, 0))) := hr4
            have Z4 : Hid (L4 eb = 0) := hz4
            have NSv := NS.out
            have SLB := SZL.out
            clear hli4 hlow4 hb4 hr4 hz4
            by_cases htN : t < N
            · obtain ⟨D, hD⟩ : ∃ D, wz.drew.alloc (.cells #[.int .i64 B] 3) = D := ⟨_, rfl⟩
              have LD4 : Li w2 wz.drew L4 3 sa4 (szU m F i ++ List.replicate t (szv m i)) cs4 := LI4.out.wk (Z := fun _ => False) (fun h => h) (Wk.below (Below.refl _ wz).drew)
              obtain ⟨a5, c5, w5, L5, run5, li5, wk5⟩ := li_app LD4 B4.out.size ns4 (by rw [List.length_append, List.length_replicate]; omega) B (by omega) D hD
              have wk5' : Wk (fun y => y = 3) L4 wz L5 w5 := (Wk.below (Below.refl _ wz).drew).trans wk5
              obtain ⟨b5, l5⟩ := wk5'.bel (by omega) LOW4.out B4.out
              obtain ⟨r5, z5⟩ := wk5'.box (by omega) R4.out Z4.out
              have LI5 : Hid (Li w2 w5 L5 3 a5 (szU m F i ++ List.replicate (t + 1) (szv m i)) c5) := by
                show Li _ _ _ _ _ _ _
                rw [List.replicate_succ', ← List.append_assoc, VX.out]
                rw [VX.out] at li5
                exact li5
              have L5L : Hid (∀ k, k < w2.heap.size → L5 k = 0) := l5
              have B5 : Hid (Below w2.heap.size w2 w5) := b5
              have R5 : Hid (w5.heap[eb]? = some (.cells #[.int .i64 (pg : Nat), .int .i64 7, .int .i64 B, .slice la N lk] 46 (0, 0))) := r5
              have Z5 : Hid (L5 eb = 0) := z5
              have d1 : wz.cell? ⟨eb, 1, none⟩ = some (.int .i64 7) := cell_of_row _ _ 1 _ _ _ R4.out
              have d2 : wz.cell? ⟨eb, 2, none⟩ = some (.int .i64 B) := cell_of_row _ _ 2 _ _ _ R4.out
              have TB : Hid (TabC wz.drew) := (HT.out.keep (B2.out.trans (B4.out.mono B2.out.size))).1
              have CZ : Hid (Calls Tryd.prog 19 #[.int .i64 7] wz.drew fun e w' => e = .returned (.int .i64 0) ∧ wz.drew = w') := by
                have q := csize_any ((7 : Nat) : Int) wz.drew TB.out (by omega) (by omega)
                rw [SZ.out] at q
                exact q
              have t0 : (t : Int) < (N : Int) := by omega
              clear li5 wk5 wk5' b5 l5 r5 z5 LD4 TB
              go_wp2_with fail
              go_region_law (first
                | (refine step_app rfl (.tmp 48) (.tmp 55) 44 rfl (.slice sa4 ns4 cs4) (.slice (some ⟨wz.heap.size, 0, none⟩) 1 1) (by simp [Act.eval]) (by simp [Act.eval]) (.slice a5 (ns4 + 1) c5) w5 run5 ?_)
                | (refine step_call rfl 19 _ _ rfl [.int .i64 7] (by simp [Act.eval]) _ CZ.out ent_csize ?_; rintro e w' ⟨rfl, rfl⟩; refine ⟨_, rfl, ?_⟩))
              all_goals
                go_wp2
                go_roundw
                case rel => exact ⟨t + 1, L5, a5, ns4 + 1, c5, by omega, by congr 1, rfl, by omega, LI5.out, L5L.out, B5.out, R5.out, Z5.out⟩
                case measure => simp [lenW]; omega
            · obtain rfl : t = N := by omega
              have NI : Hid (Li w2 wz L4 3 sa4 (szU m F (i + 1)) cs4) := by show Li _ _ _ _ _ _ _; rw [SZN.out]; exact LI4.out
              have NN : Hid ((szU m F (i + 1)).length = ns4) := by show _ = _; rw [SZN.out, List.length_append, List.length_replicate]; omega
              go_wp2
              go_roundw
              case rel => exact ⟨i + 1, L4, sa4, ns4, cs4, by omega, by congr 1, rfl, NN.out, NI.out, LOW4.out, B4.out⟩
              case measure => simp [lenW]; omega
      · obtain rfl : i = n := by omega
        have ISZ : Hid (IsI wr sa (szU m F i)) := ownsI_isI (fun x hx => by have := szU_all HS.out F i (Nat.le_of_eq HML.out.symm) x hx; omega) LI.out.1
        have ZB : ns ≤ 4800 := by rw [← NS.out]; have := szU_len HS.out F i (Nat.le_of_eq HML.out.symm); omega
        have ZH : Hid (ns ≤ 4800) := ZB
        clear ZB
        go_wp2_with fail
        go_loopw [11, 61] (fun pv lv wz => ∃ (k : Nat) (e : Nat), k ≤ n1 ∧ lv = .int .i64 (k : Nat) ∧ pv = .int .i64 (e : Nat) ∧ endU ma Fa k = e ∧ Arr8 wz wr.heap.size (fun c => pU ma Fa c k) ∧ Below wr.heap.size wr wz) (fun _ lv _ => n1 - lenW lv)
        case atStart => exact ⟨0, 0, Nat.zero_le _, rfl, rfl, rfl, Go.heap_alloc_new wr _, (Below.refl _ wr).alloc (Nat.le_refl _) _⟩
        case round =>
          obtain ⟨k, e, hk, rfl, rfl, hend, harr, hbz⟩ := hrel
          rename World => wz
          have AR : Hid (Arr8 wz wr.heap.size (fun c => pU ma Fa c k)) := harr
          have BZ : Hid (Below wr.heap.size wr wz) := hbz
          have HEN : Hid (endU ma Fa k = e) := hend
          have BW : Hid (Below w.heap.size w wz) := B2.out.trans ((BR.out.trans (BZ.out.mono BR.out.size)).mono B2.out.size)
          clear hend harr hbz
          by_cases hkn : k < n1
          · have hkT : k < T.length := by rw [N1.out]; exact hkn
            have hkm : k < ma.length := by rw [HMA.out]; exact hkn
            obtain ⟨g9, off9, la9, lk9, rfl, q0', q1', q2', q3', qI', qL'⟩ := (RT.out.keep (BR.out.trans (BZ.out.mono BR.out.size))) k hkT
            have ERI : T[k] = rowI ma k (lsL (Fa k) (sn ma k).sl) := by
              have e1 : T[k] = (rowsT ma Fa)[k]'(by rw [rowsT_len]; exact hkm) := by congr 1; exact HRA.out.symm
              rw [e1, rowsT_at]
            rw [ERI] at q0' q1' q2' q3' qI' qL'
            have PGE := HSL.out.pg k hkm
            rw [HEN.out] at PGE
            have RT9 := HSA.out.rt k hkm
            have FOF := fOf_ls (f := Fa k) (n := (sn ma k).sl) (HIA.out k hkm)
            have OKL : okL (sn ma k).sl (-1) (lsL (Fa k) (sn ma k).sl) = true := ls_ok _ _
            have HAS := HSL.out.has k hkm
            have NXT : endU ma Fa (k + 1) = e + (sn ma k).k := by rw [endU, HEN.out, if_pos HAS]
            have NPU : ∀ c, pU ma Fa c (k + 1) = pU ma Fa c k + if (sn ma k).cl = c ∧ partB ma Fa k = true then 1 else 0 := fun c => rfl
            have EB1 := ENDB.out (k + 1) (by omega)
            rw [NXT] at EB1
            unfold partB at NPU
            unfold hasS at HAS
            have HAS := of_decide_eq_true HAS
            have C7 := (HSA.out.ok k hkm).c7
            have FAC := RT9.facts
            obtain ⟨V, hV⟩ : ∃ V, cnt (Fa k) (sn ma k).sl = V := ⟨_, rfl⟩
            have VLE := cnt_le (Fa k) (sn ma k).sl
            have PUB : Hid (∀ c, pU ma Fa c k ≤ k) := pU_lek ma Fa k
            rw [hV] at HAS NPU VLE
            have q0 : wz.cell? ⟨g9, off9 + k * 4, none⟩ = some (.int .i64 ((sn ma k).pg : Int)) := q0'
            have q1 : wz.cell? ⟨g9, off9 + k * 4 + 1, none⟩ = some (.int .i64 ((sn ma k).cl : Int)) := q1'
            have q2 : wz.cell? ⟨g9, off9 + k * 4 + 2, none⟩ = some (.int .i64 ((sn ma k).bts : Int)) := q2'
            have q3 : wz.cell? ⟨g9, off9 + k * 4 + 3, none⟩ = some (.slice la9 (lsL (Fa k) (sn ma k).sl).length lk9) := q3'
            have qI : Hid (IsI wz la9 (lsL (Fa k) (sn ma k).sl)) := qI'
            have qL : Hid ((lsL (Fa k) (sn ma k).sl).length ≤ maxLen) := qL'
            clear q0' q1' q2' q3' qI' qL' ERI
            rw [PGE] at q0 RT9
            obtain ⟨G, hG⟩ : ∃ G, (sn ma k).k = G := ⟨_, rfl⟩
            have GE : pgsN ((sn ma k).cl : Int) ((sn ma k).bts : Int) = G := hG
            rw [hG] at NXT EB1
            obtain ⟨S, hS⟩ : ∃ S, (sn ma k).sl = S := ⟨_, rfl⟩
            have SE : slN ((sn ma k).cl : Int) = S := hS
            have SI := FAC.2.2.1
            rw [SE] at SI
            have G1 := FAC.2.2.2.2.2.2.1
            have G2 := FAC.2.2.2.2.2.2.2.1
            rw [GE] at G1 G2
            have S16 := FAC.2.1
            rw [SE] at S16
            rw [hS] at q3 qI qL FOF OKL NPU VLE hV
            obtain ⟨cl, hcl⟩ : ∃ cl, (sn ma k).cl = cl := ⟨_, rfl⟩
            obtain ⟨bt, hbt⟩ : ∃ bt, (sn ma k).bts = bt := ⟨_, rfl⟩
            rw [hcl] at q1 RT9 SE GE SI C7 NPU
            rw [hbt] at q2 RT9 GE
            obtain ⟨l, hl⟩ : ∃ l, lsL (Fa k) S = l := ⟨_, rfl⟩
            rw [hl] at q3 qI qL FOF OKL
            rw [← FOF] at hV
            have HRT : Hid (Rt (e : Int) (cl : Int) (bt : Int)) := RT9
            have HSE : Hid (slN (cl : Int) = S) := SE
            have HSI : Hid (slotsI (cl : Int) = (S : Int)) := SI
            have HGE : Hid (pgsN (cl : Int) (bt : Int) = G) := GE
            have HV : Hid (cnt (fOf l) (slN (cl : Int)) = V) := by show _ = _; rw [SE]; exact hV
            have HOK : Hid (okL (slN (cl : Int)) (-1) l = true) := by show _ = _; rw [SE]; exact OKL
            have HNE : Hid (newE (e : Int) (cl : Int) (bt : Int) = 0) := newE_of RT9
            have HNX : Hid (endU ma Fa (k + 1) = e + G) := NXT
            have HNP : Hid (∀ c, pU ma Fa c (k + 1) = pU ma Fa c k + if cl = c ∧ decide (V < S) = true then 1 else 0) := NPU
            clear FAC FOF OKL NXT NPU RT9 GE SE SI PGE hG hS hcl hbt hl hV
            obtain ⟨E, hE⟩ : ∃ E, wz.alloc (.cells #[.int .i64 (e : Nat), .int .i64 (cl : Nat), .int .i64 (bt : Nat), .slice la9 l.length lk9] 46) = E := ⟨_, rfl⟩
            have BE : Hid (Below wz.heap.size wz E) := by show Below _ _ _; rw [← hE]; exact (Below.refl _ wz).alloc (Nat.le_refl _) _
            have RE : E.heap[wz.heap.size]? = some (.cells (dcells (e : Nat) (cl : Nat) (bt : Nat) la9 l.length lk9) 46 (0, 0)) := by rw [← hE]; exact Go.heap_alloc_new wz _
            have HEE : Hid (wz.alloc (.cells #[.int .i64 (e : Nat), .int .i64 (cl : Nat), .int .i64 (bt : Nat), .slice la9 l.length lk9] 46) = E) := hE
            obtain ⟨eb, heb⟩ : ∃ eb, wz.heap.size = eb := ⟨_, rfl⟩
            have HEB : Hid (wz.heap.size = eb) := heb
            rw [heb] at RE
            have e0 := dcell0 RE
            have e1 := dcell1 RE
            have e2 := dcell2 RE
            have e3 := dcell3 RE
            have LEB : Hid (eb < E.heap.size) := hltA RE
            have TE : Hid (Tabs E) := (HT.out.keep BW.out).keep BE.out
            have IE : Hid (IsI E la9 l) := qI.out.keep BE.out
            have AE : Hid (Arr8 E wr.heap.size (fun c => pU ma Fa c k)) := AR.out.keep BE.out
            have k0 : (k : Int) < (n1 : Int) := by omega
            clear hE heb RE
            go_upto_region 22 with (fail)
            rw [HEE.out, HEB.out]
            go_wp2_with fail
            refine (of_ok (e : Nat) (cl : Nat) (bt : Nat) la9 lk9 l _ TE.out IE.out qL.out HNE.out HOK.out).mono ?_
            rintro e' w5 ⟨sb, b, g2, rfl, sp5⟩
            have SP : Hid (SpanAt w5 sb b g2 (e : Nat) (cl : Nat) (bt : Nat) (fOf l)) := sp5.at'
            have BX : Hid (Bx w5 sb (e : Nat) (cl : Nat) (bt : Nat)) := sp5.at'.box
            have B5 : Hid (Below wr.heap.size wr w5) := BZ.out.trans ((BE.out.trans (sp5.low.mono BE.out.size)).mono BZ.out.size)
            have T5 : Hid (Tabs w5) := TE.out.keep sp5.low
            have A5 : Hid (Arr8 w5 wr.heap.size (fun c => pU ma Fa c k)) := AE.out.keep sp5.low
            have f0 := bcell sp5.low e0
            have f1 := bcell sp5.low e1
            have vne : ¬ ((V : Int) = 0) := by omega
            have vne2 : ¬ (V = 0) := by omega
            clear sp5 e0 e1 e2 e3 q0 q1 q2 q3
            by_cases hVS : V < S
            · have vs : (V : Int) < (S : Int) := by omega
              have c8 : cl < 8 := by omega
              have hcj := A5.out.cell cl c8
              have hzj := A5.out.thawed cl
              have hnj := PUB.out cl
              obtain ⟨Q, hQ⟩ : ∃ Q, pU ma Fa cl k = Q := ⟨_, rfl⟩
              have HQ : Hid (pU ma Fa cl k = Q) := hQ
              have hcj2 : w5.cell? ⟨wr.heap.size, cl, none⟩ = some (.int .i64 (Q : Nat)) := by rw [← hQ]; exact hcj
              have hnQ : Q ≤ 300 := by rw [← hQ]; omega
              obtain ⟨gb, hgb⟩ : ∃ gb, wr.heap.size = gb := ⟨_, rfl⟩
              have HGB : Hid (wr.heap.size = gb) := hgb
              have A6 : Hid (Arr8 (w5.setCell ⟨wr.heap.size, cl, none⟩ (.int .i64 ((Q + 1 : Nat) : Nat))) wr.heap.size (fun c => pU ma Fa c (k + 1))) := by
                refine (A5.out.stored cl c8 (Q + 1)).ext fun c hc => ?_
                rw [HNP.out, decide_eq_true hVS]
                by_cases e : c = cl
                · subst e; rw [if_pos rfl, if_pos ⟨rfl, rfl⟩, HQ.out]
                · rw [if_neg e, if_neg (by intro h; exact e h.1.symm)]; rfl
              have B6 : Hid (Below wr.heap.size wr (w5.setCell ⟨wr.heap.size, cl, none⟩ (.int .i64 ((Q + 1 : Nat) : Nat)))) := B5.out.setCell (Nat.le_refl _) _
              clear hcj hQ hnj hgb HGB
              go_wp2_with (first
                | (go_at_call 21; refine (live_any sb b g2 _ _ _ _ _ SP.out).mono ?_; rw [HV.out]; rintro e w' ⟨rfl, rfl⟩)
                | (go_at_call 22; refine (pages_any sb _ _ _ _ BX.out T5.out.1 HRT.out.c0 HRT.out.c7).mono ?_; rw [HGE.out]; rintro e w' ⟨rfl, rfl⟩)
                | (go_at_call 23; refine (slots_any sb _ _ _ _ BX.out T5.out.1 HRT.out.c0 HRT.out.c7).mono ?_; rw [HSI.out]; rintro e w' ⟨rfl, rfl⟩))
              go_roundw
              case rel => exact ⟨k + 1, e + G, by omega, by congr 1, by go_num, HNX.out, by have := A6.out; simpa using this, by have := B6.out; simpa using this⟩
              case measure => simp [lenW]; omega
            · have vs : ¬ ((V : Int) < (S : Int)) := by omega
              have A6 : Hid (Arr8 w5 wr.heap.size (fun c => pU ma Fa c (k + 1))) := by
                refine A5.out.ext fun c hc => ?_
                rw [HNP.out, decide_eq_false hVS, if_neg (by intro h; exact absurd h.2 (by decide))]; rfl
              go_wp2_with (first
                | (go_at_call 21; refine (live_any sb b g2 _ _ _ _ _ SP.out).mono ?_; rw [HV.out]; rintro e w' ⟨rfl, rfl⟩)
                | (go_at_call 22; refine (pages_any sb _ _ _ _ BX.out T5.out.1 HRT.out.c0 HRT.out.c7).mono ?_; rw [HGE.out]; rintro e w' ⟨rfl, rfl⟩)
                | (go_at_call 23; refine (slots_any sb _ _ _ _ BX.out T5.out.1 HRT.out.c0 HRT.out.c7).mono ?_; rw [HSI.out]; rintro e w' ⟨rfl, rfl⟩))
              go_roundw
              case rel => exact ⟨k + 1, e + G, by omega, by congr 1, by go_num, HNX.out, A6.out, B5.out⟩
              case measure => simp [lenW]; omega
          · obtain rfl : k = n1 := by omega
            have hbk : wz.heap[wr.heap.size]? = some (.cells (cells8 fun c => pU ma Fa c k) 48 (0, 0)) := AR.out
            have EPG : Hid (e = needN (szU m F i)) := by show _ = _; rw [← HEN.out]; exact PAGES.out
            have TZ : Hid (Tabs wz) := HT.out.keep BW.out
            have RZ : Hid (RdT wz a1 T) := RT.out.keep (BR.out.trans (BZ.out.mono BR.out.size))
            have NDC : Hid (Calls Tryd.prog 24 #[.slice sa ns cs] wz fun e' w' => e' = .returned (.int .i64 (e : Nat)) ∧ Below wz.heap.size wz w') := by
              have q := need_any sa cs (szU m F i) wz TZ.out.1 (ISZ.out.keep BZ.out) (by have := ZH.out; have := NS.out; omega)
              rw [NS.out, ← EPG.out] at q
              exact q
            have PUL : Hid (∀ c, c < 8 → pU ma Fa c k ≤ 1) := fun c hc => by have := PART.out c (by omega); rw [HMA.out] at this; exact this
            go_wp2_with (refine wpList_load_row rfl 48 _ rfl wr.heap.size rfl 48 (cells8 fun c => pU ma Fa c k) (0, 0) _ hbk Tryd.underlying48 rfl size_arr8 ?_)
            go_loop [100] (fun iv => ∃ c : Nat, c ≤ 8 ∧ iv = .int .i64 (c : Nat)) (fun iv => 8 - (intOf iv).toNat)
            case atStart => exact ⟨0, Nat.zero_le _, rfl⟩
            case round =>
              obtain ⟨c, hc, rfl⟩ := hrel
              by_cases h8 : c < 8
              · have hidx := index_arr8 (fun c => pU ma Fa c k) c h8
                have hle := PUL.out c h8
                obtain ⟨Q, hQ⟩ : ∃ Q, pU ma Fa c k = Q := ⟨_, rfl⟩
                simp only [hQ] at hidx hle
                have q1 : ¬ ((1 : Int) < (Q : Int)) := by omega
                have c0 : (c : Int) < 8 := by omega
                clear hQ
                go_wp2
                go_round
                case rel => exact ⟨c + 1, by omega, by go_num⟩
                case measure => simp [intOf]; omega
              · obtain rfl : c = 8 := by omega
                go_wp2_with (first
                  | (go_at_call 24; refine NDC.out.mono ?_; rintro e w' ⟨rfl, b9⟩; have B9 : Hid (Below wz.heap.size wz w') := b9; clear b9)
                  | (go_at_call 12; refine (lright_any (P : Int) a1 k c1 T _ (TZ.out.keep B9.out) (RZ.out.keep B9.out) N1.out (by omega) NR.out true S2.out).mono ?_; rintro e w3 ⟨rfl, b3⟩; have B3 : Hid (Below w.heap.size w w3) := BW.out.trans ((B9.out.trans (b3.mono B9.out.size)).mono BW.out.size); clear b3))
                go_ret
                exact ⟨rfl, B3.out⟩
end Go.Proofs.YtbnmbkohmmiamaaDoor
