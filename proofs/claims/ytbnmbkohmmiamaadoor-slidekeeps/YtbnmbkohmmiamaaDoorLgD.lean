/- The walk of the law SlideKeeps. -/
import Derived.Test.YtbnmbkohmmiamaaDoorLgAC
import Derived.Test.YtbnmbkohmmiamaaDoorSlVX
import Derived.Test.YtbnmbkohmmiamaaDoorLfB
import Derived.ChangeKeysEq
namespace Go.Proofs.YtbnmbkohmmiamaaDoor
open Go.RowKit
set_option linter.unusedVariables false

theorem step_copy {ops : Array Oper} {o : Oper} {a : Act} {K : Act → World → Prop} {Q : Exit → Act → World → Prop} {E : Prop} {w : World} (hgd : o.guard = none) (s x : Operand) (t : TypeId)
    (ho : o.op = .call { callee := .builtin .copy, args := #[s, x], argTypes := #[t, t] }) (v1 v2 : Value) (hs : a.eval s = v1) (hx : a.eval x = v2) (v' : Value) (w' : World)
    (hr : (Builtin.copy_ #[t, t] o.type #[v1, v2]).run Tryd.prog w = .ok v' w') (h : K (a.put o.dst v') w') :
    if Region.wanted o (yielded ops a.tmps) = true then Oper.wp Tryd.prog o a w K Q else E := by
  have hw : Region.wanted o (yielded ops a.tmps) = true := by simp [Region.wanted, hgd]
  rw [if_pos hw]
  unfold Oper.wp execOp
  simp only [ho, resolve, invoke, builtin, Sem.run_bind, Sem.run_pure, Result.andThen_ok, List.map_toArray, List.map_cons, List.map_nil, hs, hx, hr]
  exact h
theorem fold_take {α : Type} {V : List Mv} {j : Nat} (h : j < V.length) (b : Nat → α) : (V.take (j + 1)).foldl (fun x v => mvB v x) b = mvB V[j] ((V.take j).foldl (fun x v => mvB v x) b) := by
  rw [List.take_succ_eq_append_getElem h, List.foldl_append]
  rfl
theorem Tryd.cellsIntP : Tryd.prog.cellsOf 3 = 1 := by kernel_rfl
theorem neq2 (w : World) (x y : Int) : (binOp .neq 43 (.agg #[.int .i64 x, .int .i64 y]) (.agg #[.int .i64 x, .int .i64 y])).run Tryd.prog w = .ok (.bool false) w := by
  obtain ⟨i0, hi0, _, _, _⟩ := info_parts Tryd.info3
  have h := run_equalIn_array (P := Tryd.prog) w 9999 #[.int .i64 x, .int .i64 y] #[.int .i64 x, .int .i64 y] Tryd.underlying43 hi0
  rw [Tryd.cellsIntP] at h
  rw [run_neq_struct, h]
  simp [List.range, List.range.loop, Op.eqItems, go_sem, Tryd.underlying3]
/-- The bytes of the first objects laid, and of the next one the first k. -/
def Pt (O : List (Nat × Nat)) (i k : Nat) (l : List (Nat × Nat)) : Prop := (∀ j, j < i → ∀ q, q < (O.getD j (0, 0)).2 → l.getD ((O.getD j (0, 0)).1 + q) (0, 0) = (j + 1, q)) ∧ ∀ q, q < k → l.getD ((O.getD i (0, 0)).1 + q) (0, 0) = (i + 1, q)
theorem Pt.zero (O : List (Nat × Nat)) (l : List (Nat × Nat)) : Pt O 0 0 l := ⟨fun j hj => by omega, fun q hq => by omega⟩
theorem Pt.next {O : List (Nat × Nat)} {i k : Nat} {l : List (Nat × Nat)} (h : Pt O i k l) (hk : (O.getD i (0, 0)).2 = k) : Pt O (i + 1) 0 l := by
  refine ⟨fun j hj q hq => ?_, fun q hq => by omega⟩
  by_cases e : j = i
  · subst e; exact h.2 q (by omega)
  · exact h.1 j (by omega) q hq
theorem Pt.put {O : List (Nat × Nat)} {i k : Nat} {l : List (Nat × Nat)} (h : Pt O i k l) (hi : i < O.length) (hk : k < (O.getD i (0, 0)).2) (hl : (O.getD i (0, 0)).1 + k < l.length) (hap : ∀ i j, i < O.length → j < O.length → i ≠ j → (O.getD i (0, 0)).1 + (O.getD i (0, 0)).2 ≤ (O.getD j (0, 0)).1 ∨ (O.getD j (0, 0)).1 + (O.getD j (0, 0)).2 ≤ (O.getD i (0, 0)).1) : Pt O i (k + 1) (l.set ((O.getD i (0, 0)).1 + k) (i + 1, k)) := by
  have oth : ∀ (c p : Nat), p ≠ c → (l.set c (i + 1, k)).getD p (0, 0) = l.getD p (0, 0) := fun c p hp => by
    simp only [List.getD_eq_getElem?_getD]
    rw [List.getElem?_set_ne (fun e => hp e.symm)]
  have own : ∀ c : Nat, c < l.length → (l.set c (i + 1, k)).getD c (0, 0) = (i + 1, k) := fun c hc => by
    simp only [List.getD_eq_getElem?_getD]
    rw [List.getElem?_set_self hc]
    rfl
  refine ⟨fun j hj q hq => ?_, fun q hq => ?_⟩
  · have := hap i j hi (by omega) (by omega)
    rw [oth _ _ (by omega)]
    exact h.1 j hj q hq
  · by_cases e : q = k
    · subst e
      exact own _ hl
    · rw [oth _ _ (by omega)]
      exact h.2 q (by omega)

set_option maxRecDepth 20000 in
set_option maxHeartbeats 8000000 in
theorem slideKeeps_any (HP : PlanC) (P : Int) (a : Option Addr) (n cap : Nat) (ts : List Td) (w : World) (hT : Tabs w) (h : RdT w a ts) (hn : ts.length = n) (hn9 : n ≤ 9223372036854775807) (hr : ∀ t ∈ ts, -9223372036854775808 ≤ t.p ∧ t.p ≤ 9223372036854775807) :
    Calls Tryd.prog 5 #[.int .i64 P, .slice a n cap] w fun e w' => e = .returned (.bool true) ∧ Below w.heap.size w w' := by
  have HPL : Hid PlanC := HP
  have HT : Hid (Tabs w) := hT
  have H : Hid (RdT w a ts) := h
  have HN : Hid (ts.length = n) := hn
  have HRG : Hid (∀ t ∈ ts, -9223372036854775808 ≤ t.p ∧ t.p ≤ 9223372036854775807) := hr
  clear HP hT h hn hr
  go_enter Tryd.func5, Tryd.ntmps5
  go_wp2_with fail
  refine (alive_any HPL.out _ HT.out).mono ?_
  rintro e w1 ⟨rfl, b1⟩
  have B1 : Hid (Below w.heap.size w w1) := b1
  clear b1
  by_cases hbP : 64 < P
  · go_wp2
    go_ret
    exact ⟨rfl, B1.out⟩
  have hbP2 : ¬ ((64 : Int) < P) := hbP
  by_cases hbig : 64 < n
  · have hb : (64 : Int) < (n : Int) := by omega
    go_wp2
    go_ret
    exact ⟨rfl, B1.out⟩
  have hb : ¬ ((64 : Int) < (n : Int)) := by omega
  have hn1 : n ≤ 64 := by omega
  go_wp2_with fail
  refine (HPL.out P a n cap ts _ (HT.out.keep B1.out) (H.out.keep B1.out) HN.out (by omega) HRG.out).mono ?_
  rintro e w2 hpp
  cases hstd : stdB P ts with
  | false =>
    obtain ⟨rfl, b2⟩ := hpp.no hstd
    have B2 : Hid (Below w.heap.size w w2) := B1.out.trans (b2.mono B1.out.size)
    have HS : Hid (stdB P ts = false) := hstd
    clear hpp b2 hstd
    go_wp2_with (go_at_call 12; refine (lright_any P a n cap ts _ (HT.out.keep B2.out) (H.out.keep B2.out) HN.out (by omega) HRG.out false HS.out).mono ?_; rintro e w3 ⟨rfl, b3⟩; have B3 : Hid (Below w.heap.size w w3) := B2.out.trans (b3.mono B2.out.size); clear b3)
    go_ret
    exact ⟨rfl, B3.out⟩
  | true =>
    obtain ⟨a1, n1, c1, a2, n2, c2, rfl, h1, h2, ht, hv, b2⟩ := hpp.yes hstd
    have hP : 1 ≤ P ∧ P ≤ 4096 := by
      unfold stdB at hstd
      rw [Bool.and_eq_true] at hstd
      exact of_decide_eq_true hstd.1
    obtain ⟨P, rfl⟩ : ∃ p : Nat, P = p := ⟨P.toNat, by omega⟩
    have P64 : P ≤ 64 := by omega
    obtain ⟨hS, hI⟩ := std_of hstd
    have hIc := inF_cls hI (fun i hi => (hS.ok i hi).c7)
    have RS := rows_std hstd
    have hS2 := aft_std (P := P) hS hIc (by omega)
    have nums := planT_num (F := FT ts) hS
    obtain ⟨hSA, hIA⟩ := std_of hS2
    have RSA := rows_std hS2
    have KP := keeps_kp hS (FT ts) hIc hSA
    have PLEN := plan_len hS (FT ts)
    have ALEN := aft_len (ts.map snT) (FT ts)
    unfold aftM aftF at KP
    unfold aftM at ALEN
    obtain ⟨m, hm⟩ : ∃ m, ts.map snT = m := ⟨_, rfl⟩
    obtain ⟨F, hF⟩ : ∃ F, FT ts = F := ⟨_, rfl⟩
    rw [hm] at hS hI RS h1 h2 ht hv nums hS2 hSA hIA RSA KP PLEN ALEN
    rw [hF] at hI RS h1 h2 ht hv nums hS2 hSA hIA RSA KP PLEN ALEN
    obtain ⟨T, hTT⟩ : ∃ T, planT m F = T := ⟨_, rfl⟩
    rw [hTT] at h1 ht nums hS2 hSA hIA RSA KP ALEN
    obtain ⟨V, hVV⟩ : ∃ V, planV m F = V := ⟨_, rfl⟩
    rw [hVV] at h2 hv KP PLEN
    obtain ⟨ma, hma⟩ : ∃ ma, T.map snT = ma := ⟨_, rfl⟩
    obtain ⟨Fa, hFa⟩ : ∃ Fa, FT T = Fa := ⟨_, rfl⟩
    rw [hma] at hSA hIA RSA KP ALEN
    rw [hFa] at hIA RSA KP
    have MLA : ma.length = n1 := by rw [← hma, List.length_map, h1]
    have ML : m.length = n := by rw [← hm, List.length_map, HN.out]
    have hTl : n1 ≤ 300 := by
      rw [← MLA, ALEN]
      have := keepL_len m (clsF m F 7) m.length
      unfold kept
      omega
    have V2 : n2 ≤ 100000 := by omega
    have B2 : Hid (Below w.heap.size w w2) := B1.out.trans (b2.mono B1.out.size)
    have RT : Hid (RdT w2 a1 T) := ht.rd (fun t ht x hx => (nums t ht).2 x hx)
    have RV : Hid (RdV w2 a2 V) := hv.rd
    have N1 : Hid (T.length = n1) := h1
    have N2 : Hid (V.length = n2) := h2
    have HS : Hid (Std P m) := hS
    have HI : Hid (InF m F) := hI
    have HSA : Hid (Std P ma) := hSA
    have HIA : Hid (InF ma Fa) := hIA
    have HRS : Hid (rowsT m F = ts) := RS
    have HRA : Hid (rowsT ma Fa = T) := RSA
    have HKP : Hid (Kp (256 * P) (obP m F 8) (obP ma Fa 8) V) := KP
    have OLE := obP_len hS F 8
    clear hpp b2 hstd ht hv h1 h2 nums hS hI hIc hS2 hSA hIA RS RSA hm hF hTT hma hFa MLA hP KP PLEN ALEN hVV
    go_wp2_with fail
    refine (lslots_any P m F a n cap ts _ (HT.out.keep B2.out) (H.out.keep B2.out) HN.out HS.out HI.out HRS.out (by omega)).mono ?_
    rintro e w3 ⟨oa, no, oc, rfl, hno, ho3, b3⟩
    have B3 : Hid (Below w2.heap.size w2 w3) := b3
    have RO3 : Hid (RdU w3 oa (obP m F 8)) := ho3.rd
    have NO : Hid ((obP m F 8).length = no) := hno
    have NOB : no ≤ 100000 := by rw [← hno]; omega
    clear b3 ho3 hno OLE ML
    go_wp2_with fail
    refine (lslots_any P ma Fa a1 n1 c1 T _ ((HT.out.keep B2.out).keep B3.out) (RT.out.keep B3.out) N1.out HSA.out HIA.out HRA.out (by omega)).mono ?_
    rintro e w4 ⟨na, nn, nc, rfl, hnn, hn4, b4⟩
    have B4 : Hid (Below w2.heap.size w2 w4) := B3.out.trans (b4.mono B3.out.size)
    have BW : Hid (Below w.heap.size w w4) := B2.out.trans (B4.out.mono B2.out.size)
    have RO : Hid (RdU w4 oa (obP m F 8)) := RO3.out.keep b4
    have RN : Hid (RdU w4 na (obP ma Fa 8)) := hn4.rd
    have RV4 : Hid (RdV w4 a2 V) := RV.out.keep B4.out
    have enn : no = nn := by rw [← NO.out, HKP.out.len, hnn]
    subst enn
    have NN : Hid ((obP ma Fa 8).length = no) := hnn
    clear b4 hn4 hnn RO3 RV RT B3
    obtain ⟨O, hO⟩ : ∃ O, obP m F 8 = O := ⟨_, rfl⟩
    obtain ⟨W, hW⟩ : ∃ W, obP ma Fa 8 = W := ⟨_, rfl⟩
    rw [hO] at HKP RO NO
    rw [hW] at HKP RN NN
    clear hO hW HSA HIA HRA HI HRS
    obtain ⟨B, hB⟩ : ∃ B, P * 256 = B := ⟨_, rfl⟩
    have eB : (P : Int) * 256 = (B : Int) := by omega
    have HB : Hid (256 * P = B) := by show _ = _; omega
    have BB : B ≤ 16384 := by omega
    rw [HB.out] at HKP
    have MK : ∀ w0 : World, (Instr.makeSlice 40 (.int .i64 (B : Nat)) (.int .i64 (B : Nat))).run Tryd.prog w0 = .ok (.slice (some ⟨w0.heap.size, 0, none⟩) B B) (w0.alloc (.cells (cellsP (List.replicate B (0, 0))).toArray 43)) := fun w0 => make_P w0 B (by omega)
    obtain ⟨g, hg⟩ : ∃ g, w4.heap.size = g := ⟨_, rfl⟩
    have HG : Hid (w4.heap.size = g) := hg
    obtain ⟨A, hA⟩ : ∃ A, w4.alloc (.cells (cellsP (List.replicate B (0, 0))).toArray 43) = A := ⟨_, rfl⟩
    have HA : Hid (w4.alloc (.cells (cellsP (List.replicate B (0, 0))).toArray 43) = A) := hA
    have BA : Hid (Bw A g (List.replicate B (0, 0))) := by show _ = _; rw [← hA, ← hg]; exact Go.heap_alloc_new w4 _
    have LA : Hid (Below g w4 A) := by show Below _ _ _; rw [← hA, ← hg]; exact (Below.refl _ w4).alloc (Nat.le_refl _) _
    clear hg hA hB
    go_upto_region 12 with (fail)
    rw [HA.out, HG.out]
    clear MK eB
    go_wp2_with fail
    go_loopw [55] (fun iv wz => ∃ (i : Nat) (l : List (Nat × Nat)), i ≤ no ∧ iv = .int .i64 (i : Nat) ∧ l.length = B ∧ Bw wz g l ∧ Pt O i 0 l ∧ Below g w4 wz) (fun iv _ => no - lenW iv)
    case atStart => exact ⟨0, List.replicate B (0, 0), Nat.zero_le _, rfl, by simp, BA.out, Pt.zero _ _, LA.out⟩
    case round =>
      clear BA LA HA A
      obtain ⟨i, l, hi, rfl, hlB, hbw, hpt, hbel⟩ := hrel
      rename World => wz
      have LB : Hid (l.length = B) := hlB
      have BWZ : Hid (Bw wz g l) := hbw
      have PT : Hid (Pt O i 0 l) := hpt
      have BZ : Hid (Below g w4 wz) := hbel
      clear hlB hbw hpt hbel
      have BZ4 : Hid (Below w4.heap.size w4 wz) := by show Below _ _ _; rw [HG.out]; exact BZ.out
      by_cases hin : i < no
      · have hio : i < O.length := by rw [NO.out]; exact hin
        obtain ⟨og, rfl, hog, o0, o1⟩ := (RO.out.keep BZ4.out) i hio
        have ED : O.getD i (0, 0) = O[i] := by rw [List.getD_eq_getElem?_getD, List.getElem?_eq_getElem hio]; rfl
        have KOLD := HKP.out.old i hio
        have KAP := HKP.out.apart
        obtain ⟨x, hx⟩ : ∃ x, O[i].1 = x := ⟨_, rfl⟩
        obtain ⟨z, hz⟩ : ∃ z, O[i].2 = z := ⟨_, rfl⟩
        rw [ED] at KOLD
        rw [hx] at o0 KOLD
        rw [hz] at o1 KOLD
        have HX : Hid ((O.getD i (0, 0)).1 = x) := by show _ = _; rw [ED]; exact hx
        have HZ : Hid ((O.getD i (0, 0)).2 = z) := by show _ = _; rw [ED]; exact hz
        have HAP : Hid (∀ i j, i < O.length → j < O.length → i ≠ j → (O.getD i (0, 0)).1 + (O.getD i (0, 0)).2 ≤ (O.getD j (0, 0)).1 ∨ (O.getD j (0, 0)).1 + (O.getD j (0, 0)).2 ≤ (O.getD i (0, 0)).1) := KAP
        have HIO : Hid (i < O.length) := hio
        have i0 : (i : Int) < (no : Int) := by omega
        clear ED hx hz KAP hio
        obtain ⟨E, hE⟩ : ∃ E, wz.alloc (.cells #[.int .i64 (x : Nat), .int .i64 (z : Nat)] 42) = E := ⟨_, rfl⟩
        have HE : Hid (wz.alloc (.cells #[.int .i64 (x : Nat), .int .i64 (z : Nat)] 42) = E) := hE
        have bE : Below wz.heap.size wz E := by rw [← hE]; exact (Below.refl _ wz).alloc (Nat.le_refl _) _
        have gz : g < wz.heap.size := hlt BWZ.out
        obtain ⟨eb, heb⟩ : ∃ eb, wz.heap.size = eb := ⟨_, rfl⟩
        have HEB : Hid (wz.heap.size = eb) := heb
        have RE : Hid (E.heap[eb]? = some (.cells #[.int .i64 (x : Nat), .int .i64 (z : Nat)] 42 (0, 0))) := by show _ = _; rw [← hE, ← heb]; exact Go.heap_alloc_new wz _
        have BWE : Hid (Bw E g l) := BWZ.out.keep bE
        have BE : Hid (Below g w4 E) := BZ.out.trans (bE.mono (by omega))
        have geb : g ≠ eb := by omega
        have PT0 : Hid (Pt O i 0 l) := PT.out
        clear hE bE gz heb
        go_upto_region 15 with (fail)
        rw [HE.out, HEB.out]
        go_wp2_with fail
        go_loopw [13] (fun kv wy => ∃ (k : Nat) (l : List (Nat × Nat)), k ≤ z ∧ kv = .int .i64 (k : Nat) ∧ l.length = B ∧ Bw wy g l ∧ Pt O i k l ∧ Below g w4 wy ∧ wy.heap[eb]? = some (.cells #[.int .i64 (x : Nat), .int .i64 (z : Nat)] 42 (0, 0))) (fun kv _ => z - lenW kv)
        case atStart => exact ⟨0, l, Nat.zero_le _, rfl, LB.out, BWE.out, PT0.out, BE.out, RE.out⟩
        case round =>
          clear o0 o1
          obtain ⟨k, l, hk, rfl, hlB, hbw, hpt, hbel, hre⟩ := hrel
          rename World => wy
          have LB1 : Hid (l.length = B) := hlB
          have PT1 : Hid (Pt O i k l) := hpt
          have BY : Hid (Below g w4 wy) := hbel
          have BWY : Hid (Bw wy g l) := hbw
          have d0 : wy.cell? ⟨eb, 0, none⟩ = some (.int .i64 (x : Nat)) := cell_of_row _ _ 0 _ _ _ hre
          have d1 : wy.cell? ⟨eb, 1, none⟩ = some (.int .i64 (z : Nat)) := cell_of_row _ _ 1 _ _ _ hre
          have RY : Hid (wy.heap[eb]? = some (.cells #[.int .i64 (x : Nat), .int .i64 (z : Nat)] 42 (0, 0))) := hre
          clear hlB hbw hpt hbel hre
          by_cases hkz : k < z
          · have k0 : (k : Int) < (z : Int) := by omega
            obtain ⟨p, hp⟩ : ∃ p, x + k = p := ⟨_, rfl⟩
            have pB : p < B := by omega
            have ep : (x : Int) + (k : Int) = (p : Int) := by omega
            obtain ⟨f0, f1⟩ := BWY.out.cell p (by rw [LB1.out]; exact pB)
            have z0 := BWY.out.thawed (p * 2)
            have z1 := BWY.out.thawed (p * 2 + 1)
            have pb : (p : Int) < (B : Int) := by omega
            have NB : Hid (Bw ((wy.setCell ⟨g, p * 2, none⟩ (.int .i64 ((i + 1 : Nat) : Nat))).setCell ⟨g, p * 2 + 1, none⟩ (.int .i64 (k : Nat))) g (l.set p (i + 1, k))) := BWY.out.stored p (by rw [LB1.out]; exact pB) (i + 1) k
            have NPT : Hid (Pt O i (k + 1) (l.set p (i + 1, k))) := by
              have q := PT1.out.put HIO.out (by rw [HZ.out]; exact hkz) (by rw [HX.out, LB1.out, hp]; exact pB) HAP.out
              rw [HX.out, hp] at q
              exact q
            have NL : Hid ((l.set p (i + 1, k)).length = B) := by show _ = _; rw [List.length_set]; exact LB1.out
            have NBL : Hid (Below g w4 ((wy.setCell ⟨g, p * 2, none⟩ (.int .i64 ((i + 1 : Nat) : Nat))).setCell ⟨g, p * 2 + 1, none⟩ (.int .i64 (k : Nat)))) := (BY.out.setCell (Nat.le_refl _) _).setCell (Nat.le_refl _) _
            have NRY : Hid (((wy.setCell ⟨g, p * 2, none⟩ (.int .i64 ((i + 1 : Nat) : Int))).setCell ⟨g, p * 2 + 1, none⟩ (.int .i64 (k : Nat))).heap[eb]? = some (.cells #[.int .i64 (x : Nat), .int .i64 (z : Nat)] 42 (0, 0))) := by
              show _ = _
              rw [heap_setCell_other _ _ _ _ geb.symm, heap_setCell_other _ _ _ _ geb.symm]
              exact RY.out
            clear hp
            go_wp2
            go_roundw
            case rel => exact ⟨k + 1, l.set p (i + 1, k), by omega, by congr 1, NL.out, by have := NB.out; simpa using this, NPT.out, by have := NBL.out; simpa using this, NRY.out⟩
            case measure => simp [lenW]; omega
          · obtain rfl : k = z := by omega
            have NPT : Hid (Pt O (i + 1) 0 l) := PT1.out.next HZ.out
            go_wp2
            go_roundw
            case rel => exact ⟨i + 1, l, by omega, by congr 1, LB1.out, BWY.out, NPT.out, BY.out⟩
            case measure => simp [lenW]; omega
      · have ei : no = i := by omega
        subst ei
        obtain ⟨b0, hb0⟩ : ∃ b0 : Nat → Nat × Nat, (fun p => l.getD p (0, 0)) = b0 := ⟨_, rfl⟩
        have PTB : Hid (∀ j, j < O.length → ∀ q, q < (O.getD j (0, 0)).2 → b0 ((O.getD j (0, 0)).1 + q) = (j + 1, q)) := fun j hj q hq => by
          rw [← hb0]
          exact PT.out.1 j (by rw [← NO.out]; exact hj) q hq
        have I0 : Hid (∀ p, p < B → l.getD p (0, 0) = ((V.take 0).foldl (fun x v => mvB v x) b0) p) := fun p _ => by rw [← hb0]; rfl
        clear hb0
        go_wp2_with fail
        go_loopw [79] (fun iv wy => ∃ (j : Nat) (l : List (Nat × Nat)), j ≤ n2 ∧ iv = .int .i64 (j : Nat) ∧ l.length = B ∧ Bw wy g l ∧ (∀ p, p < B → l.getD p (0, 0) = ((V.take j).foldl (fun x v => mvB v x) b0) p) ∧ Below g w4 wy) (fun iv _ => n2 - lenW iv)
        case atStart => exact ⟨0, l, Nat.zero_le _, rfl, LB.out, BWZ.out, I0.out, BZ.out⟩
        case round =>
          clear I0 BWZ PT LB BZ BZ4
          obtain ⟨j, l, hj, rfl, hlB, hbw, hfd, hbel⟩ := hrel
          rename World => wy
          have LB : Hid (l.length = B) := hlB
          have BWY : Hid (Bw wy g l) := hbw
          have FD : Hid (∀ p, p < B → l.getD p (0, 0) = ((V.take j).foldl (fun x v => mvB v x) b0) p) := hfd
          have BY : Hid (Below g w4 wy) := hbel
          clear hlB hbw hfd hbel
          have BY4 : Hid (Below w4.heap.size w4 wy) := by show Below _ _ _; rw [HG.out]; exact BY.out
          by_cases hjn : j < n2
          · have hjv : j < V.length := by rw [N2.out]; exact hjn
            obtain ⟨vg, vo, rfl, hvg, v0, v1, v2⟩ := (RV4.out.keep BY4.out) j hjv
            have DN := HKP.out.dn V[j] (List.getElem_mem hjv)
            have FT9 := fold_take hjv b0
            obtain ⟨v, hvv⟩ : ∃ v, V[j] = v := ⟨_, rfl⟩
            rw [hvv] at v0 v1 v2 DN FT9
            obtain ⟨fr', tt', ln'⟩ := v
            obtain ⟨d1, d2, d3, d4⟩ := DN
            simp only at d1 d2 d3 d4 v0 v1 v2
            obtain ⟨fr, rfl⟩ : ∃ fr : Nat, fr' = fr := ⟨fr'.toNat, by omega⟩
            obtain ⟨tt, rfl⟩ : ∃ tt : Nat, tt' = tt := ⟨tt'.toNat, by omega⟩
            obtain ⟨ln, rfl⟩ : ∃ ln : Nat, ln' = ln := ⟨ln'.toNat, by omega⟩
            have c1 : fr + ln ≤ B := by omega
            have c2 : tt + ln ≤ B := by omega
            have c3 : 1 ≤ ln := by omega
            have HFT : Hid ((V.take (j + 1)).foldl (fun x v => mvB v x) b0 = mvB ⟨(fr : Int), (tt : Int), (ln : Int)⟩ ((V.take j).foldl (fun x v => mvB v x) b0)) := FT9
            have j0 : (j : Int) < (n2 : Int) := by omega
            clear hvv d1 d2 d3 d4 FT9
            obtain ⟨E, hE⟩ : ∃ E, wy.alloc (.cells #[.int .i64 (fr : Nat), .int .i64 (tt : Nat), .int .i64 (ln : Nat)] 35) = E := ⟨_, rfl⟩
            have HE : Hid (wy.alloc (.cells #[.int .i64 (fr : Nat), .int .i64 (tt : Nat), .int .i64 (ln : Nat)] 35) = E) := hE
            have bE : Below wy.heap.size wy E := by rw [← hE]; exact (Below.refl _ wy).alloc (Nat.le_refl _) _
            have gz : g < wy.heap.size := hlt BWY.out
            obtain ⟨eb, heb⟩ : ∃ eb, wy.heap.size = eb := ⟨_, rfl⟩
            have HEB : Hid (wy.heap.size = eb) := heb
            have RE : E.heap[eb]? = some (.cells #[.int .i64 (fr : Nat), .int .i64 (tt : Nat), .int .i64 (ln : Nat)] 35 (0, 0)) := by rw [← hE, ← heb]; exact Go.heap_alloc_new wy _
            have e0 : E.cell? ⟨eb, 0, none⟩ = some (.int .i64 (fr : Nat)) := cell_of_row _ _ 0 _ _ _ RE
            have e1 : E.cell? ⟨eb, 1, none⟩ = some (.int .i64 (tt : Nat)) := cell_of_row _ _ 1 _ _ _ RE
            have e2 : E.cell? ⟨eb, 2, none⟩ = some (.int .i64 (ln : Nat)) := cell_of_row _ _ 2 _ _ _ RE
            have BWE : Hid (Bw E g l) := BWY.out.keep bE
            have BE : Hid (Below g w4 E) := BY.out.trans (bE.mono (by omega))
            have gE : g < E.heap.size := hlt BWE.out
            have ebE : eb < E.heap.size := hlt RE
            have ebg : eb ≠ g := by omega
            have m1 : ((ln : Int) < 1) = False := eq_false (by omega)
            have m2 : ((fr : Int) < 0) = False := eq_false (by omega)
            have m3 : ((tt : Int) < 0) = False := eq_false (by omega)
            have m4 : ((B : Int) - (ln : Int) < (fr : Int)) = False := eq_false (by omega)
            have m5 : ((B : Int) - (ln : Int) < (tt : Int)) = False := eq_false (by omega)
            clear hE bE gz heb RE
            go_upto_region 23 with (fail)
            rw [HE.out, HEB.out]
            go_upto_region 25 with (fail)
            obtain ⟨D, hD⟩ : ∃ D, (E.alloc (.cells #[] 43)).drew = D := ⟨_, rfl⟩
            have bD : Below E.heap.size E D := by rw [← hD]; exact ((Below.refl _ E).alloc (Nat.le_refl _) _).drew
            have qD : D.heap[E.heap.size]? = some (.cells #[] 43 (0, 0)) := by rw [← hD]; exact Go.heap_alloc_new E _
            obtain ⟨a9, c9, w9, wX, r1, r2, bX, uX, u9⟩ := move_run D g E.heap.size B fr tt ln (B - tt) (B - fr) l (BWE.out.keep bD) LB.out qD (by omega) c1 c2 c3 (by omega)
            have NFD : Hid (∀ p, p < B → (mvL fr tt ln l).getD p (0, 0) = ((V.take (j + 1)).foldl (fun x v => mvB v x) b0) p) := fun p hp => by
              rw [mvL_get (by rw [LB.out]; exact c1) (by rw [LB.out]; exact c2) p (by rw [LB.out]; exact hp), HFT.out]
              unfold mvB
              by_cases q : (tt : Int) ≤ (p : Int) ∧ (p : Int) < (tt : Int) + (ln : Int)
              · rw [if_pos q, if_pos q]
                have e : ((p : Int) - (tt : Int) + (fr : Int)).toNat < B := by omega
                exact FD.out _ e
              · rw [if_neg q, if_neg q]
                exact FD.out p hp
            have NL : Hid ((mvL fr tt ln l).length = B) := by show _ = _; rw [mvL_len (by rw [LB.out]; exact c1) (by rw [LB.out]; exact c2)]; exact LB.out
            have NX : Hid (Bw wX g (mvL fr tt ln l)) := bX
            have NB : Hid (Below g w4 wX) := (BE.out.trans (bD.mono (by omega))).trans (uX.below (fun i hi => by omega) (by have := bD.size; omega))
            have HD : Hid ((E.alloc (.cells #[] 43)).drew = D) := hD
            have g0 := bcell bD e0
            have g1 := bcell bD e1
            have g2 := bcell bD e2
            have i0 := (u9.cell (j := 0) (show ¬ (eb = E.heap.size) by omega) (by have := bD.size; omega)).trans g0
            have i1 := (u9.cell (j := 1) (show ¬ (eb = E.heap.size) by omega) (by have := bD.size; omega)).trans g1
            have i2 := (u9.cell (j := 2) (show ¬ (eb = E.heap.size) by omega) (by have := bD.size; omega)).trans g2
            have j0' := (uX.cell (j := 0) (show ¬ (eb = E.heap.size ∨ eb = g) by omega) (by have := bD.size; omega)).trans g0
            have j1' := (uX.cell (j := 1) (show ¬ (eb = E.heap.size ∨ eb = g) by omega) (by have := bD.size; omega)).trans g1
            have j2' := (uX.cell (j := 2) (show ¬ (eb = E.heap.size ∨ eb = g) by omega) (by have := bD.size; omega)).trans g2
            obtain ⟨te, hte⟩ : ∃ te, tt + ln = te := ⟨_, rfl⟩
            obtain ⟨fe, hfe⟩ : ∃ fe, fr + ln = fe := ⟨_, rfl⟩
            have y1 : IntKind.i64.wrap ((tt : Int) + (ln : Int)) = (te : Int) := by rw [IntKind.wrap_i64]; omega
            have y2 : IntKind.i64.wrap ((fr : Int) + (ln : Int)) = (fe : Int) := by rw [IntKind.wrap_i64]; omega
            have y3 : (te : Int) ≤ (B : Int) := by omega
            have y4 : (fe : Int) ≤ (B : Int) := by omega
            have y5 : tt ≤ te := by omega
            have y6 : fr ≤ fe := by omega
            have y7 : te - tt = ln := by omega
            have y8 : fe - fr = ln := by omega
            have y9 : (B = tt) = False := eq_false (by omega)
            have ya : (B = fr) = False := eq_false (by omega)
            have yb : te ≤ B := by omega
            have yc : fe ≤ B := by omega
            clear hte hfe
            have g0 := bcell bD e0
            have g1 := bcell bD e1
            have g2 := bcell bD e2
            clear bD qD bX uX u9
            go_region_held3 (fun w' => w'.cell? ⟨eb, 0, none⟩ = some (.int .i64 (fr : Nat)) ∧ w'.cell? ⟨eb, 1, none⟩ = some (.int .i64 (tt : Nat)) ∧ w'.cell? ⟨eb, 2, none⟩ = some (.int .i64 (ln : Nat))) (first | exact ⟨e0, e1, e2⟩ | exact ⟨g0, g1, g2⟩ | exact ⟨i0, i1, i2⟩ | exact ⟨j0', j1', j2'⟩ | go_keep)
              ((first
              | (refine step_app rfl (.tmp 125) (.tmp 134) 40 rfl (.slice (some ⟨E.heap.size, 0, none⟩) 0 0) (.slice (some ⟨g, fr * 2, none⟩) ln (B - fr)) (by simp [Act.eval]) (by simp [Act.eval]) (.slice (some a9) ln c9) w9 r1 ?_)
              | (refine step_copy rfl (.tmp 124) (.tmp 135) 40 rfl (.slice (some ⟨g, tt * 2, none⟩) ln (B - tt)) (.slice (some a9) ln c9) (by simp [Act.eval]) (by simp [Act.eval]) (.int .i64 (ln : Nat)) wX (r2 _) ?_)))
            all_goals
              go_wp2
              go_roundw
              case rel => exact ⟨j + 1, mvL fr tt ln l, by omega, by congr 1, NL.out, NX.out, NFD.out, NB.out⟩
              case measure => simp [lenW]; omega
          · have ej : n2 = j := by omega
            subst ej
            have FIN : Hid (∀ i, i < O.length → ∀ k, k < (O.getD i (0, 0)).2 → l.getD ((W.getD i (0, 0)).1 + k) (0, 0) = (i + 1, k)) := fun i hi k hk => by
              have q := HKP.out.bytes b0 PTB.out i hi k hk
              have hb := HKP.out.new i hi
              have hsm := HKP.out.same i hi
              have e : V.take n2 = V := List.take_of_length_le (by rw [N2.out]; exact Nat.le_refl _)
              have f := FD.out ((W.getD i (0, 0)).1 + k) (by omega)
              rw [e] at f
              rw [f]
              exact q
            clear FD
            go_wp2_with fail
            go_loopw [140] (fun iv wy => ∃ (i : Nat), i ≤ no ∧ iv = .int .i64 (i : Nat) ∧ Bw wy g l ∧ Below g w4 wy) (fun iv _ => no - lenW iv)
            case atStart => exact ⟨0, Nat.zero_le _, rfl, BWY.out, BY.out⟩
            case round =>
              clear BWY BY BY4
              obtain ⟨i, hi, rfl, hbw, hbel⟩ := hrel
              rename World => wx
              have BWX : Hid (Bw wx g l) := hbw
              have BX : Hid (Below g w4 wx) := hbel
              clear hbw hbel
              have BX4 : Hid (Below w4.heap.size w4 wx) := by show Below _ _ _; rw [HG.out]; exact BX.out
              by_cases hin : i < no
              · have hio : i < O.length := by rw [NO.out]; exact hin
                have hiw : i < W.length := by rw [NN.out]; exact hin
                obtain ⟨og, rfl, hog, o0, o1⟩ := (RO.out.keep BX4.out) i hio
                obtain ⟨ng, rfl, hng, p0, p1⟩ := (RN.out.keep BX4.out) i hiw
                have EO : O.getD i (0, 0) = O[i] := by rw [List.getD_eq_getElem?_getD, List.getElem?_eq_getElem hio]; rfl
                have EW : W.getD i (0, 0) = W[i] := by rw [List.getD_eq_getElem?_getD, List.getElem?_eq_getElem hiw]; rfl
                have k1 := HKP.out.same i hio
                have k2 := HKP.out.wh i hio
                have k3 := HKP.out.new i hio
                have k4 := HKP.out.old i hio
                have k5 := FIN.out i hio
                rw [EO, EW] at k1 k2 k5
                rw [EW] at k3
                rw [EO] at k4
                obtain ⟨x, hx⟩ : ∃ x, O[i].1 = x := ⟨_, rfl⟩
                obtain ⟨z, hz⟩ : ∃ z, O[i].2 = z := ⟨_, rfl⟩
                obtain ⟨y, hy⟩ : ∃ y, W[i].1 = y := ⟨_, rfl⟩
                rw [hz] at k1 o1 k4 k5
                rw [hx] at o0 k2 k4
                rw [hy] at p0 k2 k3 k5
                rw [← k1] at p1 k3
                have HWH : Hid (whereI (x : Nat) V = ((y : Nat) : Int)) := k2
                have HK5 : Hid (∀ k, k < z → l.getD (y + k) (0, 0) = (i + 1, k)) := k5
                have i9 : (i : Int) < (no : Int) := by omega
                clear EO EW k1 k2 k5 hx hz hy hio hiw
                obtain ⟨E, hE⟩ : ∃ E, wx.alloc (.cells #[.int .i64 (y : Nat), .int .i64 (z : Nat)] 42) = E := ⟨_, rfl⟩
                have HE : Hid (wx.alloc (.cells #[.int .i64 (y : Nat), .int .i64 (z : Nat)] 42) = E) := hE
                have bE : Below wx.heap.size wx E := by rw [← hE]; exact (Below.refl _ wx).alloc (Nat.le_refl _) _
                have gz : g < wx.heap.size := hlt BWX.out
                obtain ⟨eb, heb⟩ : ∃ eb, wx.heap.size = eb := ⟨_, rfl⟩
                have HEB : Hid (wx.heap.size = eb) := heb
                have RE : E.heap[eb]? = some (.cells #[.int .i64 (y : Nat), .int .i64 (z : Nat)] 42 (0, 0)) := by rw [← hE, ← heb]; exact Go.heap_alloc_new wx _
                have e0 : E.cell? ⟨eb, 0, none⟩ = some (.int .i64 (y : Nat)) := cell_of_row _ _ 0 _ _ _ RE
                have e1 : E.cell? ⟨eb, 1, none⟩ = some (.int .i64 (z : Nat)) := cell_of_row _ _ 1 _ _ _ RE
                have s0 := bcell bE o0
                have s1 := bcell bE o1
                have BWE : Hid (Bw E g l) := BWX.out.keep bE
                have BE : Hid (Below g w4 E) := BX.out.trans (bE.mono (by omega))
                have RVE : Hid (RdV E.drew a2 V) := ((RV4.out.keep BX4.out).keep bE).keep (Below.refl _ _).drew
                have VOK : Hid (∀ v ∈ V, v.Ok) := fun v hv => by
                  have := HKP.out.dn v hv
                  unfold Mv.Dn at this
                  unfold Mv.Ok
                  omega
                have gE : g < E.heap.size := hlt BWE.out
                have u1 : decide ((y : Int) < 0) = false := decide_eq_false (by omega)
                have u2 : decide ((B : Int) - (z : Int) < (y : Int)) = false := decide_eq_false (by omega)
                have u5 : IntKind.i64.wrap ((B : Int) - (z : Int)) = (B : Int) - (z : Int) := by rw [IntKind.wrap_i64]; omega
                clear hE bE gz heb RE o0 o1
                go_upto_region 30 with (fail)
                rw [HE.out, HEB.out]
                go_region_held3 (fun w' => w'.cell? ⟨eb, 0, none⟩ = some (.int .i64 (y : Nat)) ∧ w'.cell? ⟨eb, 1, none⟩ = some (.int .i64 (z : Nat)) ∧ w'.cell? ⟨og, i * 2, none⟩ = some (.int .i64 (x : Nat)) ∧ w'.cell? ⟨og, i * 2 + 1, none⟩ = some (.int .i64 (z : Nat))) (first | exact ⟨z0, z1, z2, z3⟩ | exact ⟨e0, e1, s0, s1⟩)
                  ((go_at_call 16; refine (where_any a2 n2 c2 V (x : Nat) _ RVE.out N2.out (by omega) VOK.out (by omega) (by omega) _ HWH.out).mono ?_; rintro e w5 ⟨rfl, b5⟩; have B5 : Hid (Below E.heap.size E w5) := Below.ofDrew b5; have z0 := bcell B5.out e0; have z1 := bcell B5.out e1; have z2 := bcell B5.out s0; have z3 := bcell B5.out s1; clear b5))
                have BW5 : Hid (Bw w5 g l) := BWE.out.keep B5.out
                have BL5 : Hid (Below g w4 w5) := BE.out.trans (B5.out.mono (by omega))
                have NQ : ∀ (w : World) (x y : Int), (binOp .neq 43 (.agg #[.int .i64 x, .int .i64 y]) (.agg #[.int .i64 x, .int .i64 y])).run Tryd.prog w = .ok (.bool false) w := neq2
                clear z2 z3 s0 s1 e0 e1 p0 p1
                have u3 : ((y : Int) < 0) = False := eq_false (by omega)
                have u4 : ((B : Int) - (z : Int) < (y : Int)) = False := eq_false (by omega)
                go_wp2_with fail
                go_loop [18] (fun kv => ∃ k : Nat, k ≤ z ∧ kv = .int .i64 (k : Nat)) (fun kv => z - (intOf kv).toNat)
                case atStart => exact ⟨0, Nat.zero_le _, rfl⟩
                case round =>
                  obtain ⟨k, hk, rfl⟩ := hrel
                  by_cases hkz : k < z
                  · have k0 : (k : Int) < (z : Int) := by omega
                    obtain ⟨p, hp⟩ : ∃ p, y + k = p := ⟨_, rfl⟩
                    have pB : p < B := by omega
                    have ep : (y : Int) + (k : Int) = (p : Int) := by omega
                    have hpl : p < l.length := by rw [LB.out]; exact pB
                    have q := HK5.out k hkz
                    rw [hp, List.getD_eq_getElem?_getD, List.getElem?_eq_getElem hpl] at q
                    have q : l[p] = (i + 1, k) := q
                    obtain ⟨f0, f1⟩ := BW5.out.cell p hpl
                    rw [q] at f0 f1
                    have f0 : w5.cell? ⟨g, p * 2, none⟩ = some (.int .i64 ((i : Int) + 1)) := f0
                    have f1 : w5.cell? ⟨g, p * 2 + 1, none⟩ = some (.int .i64 (k : Nat)) := f1
                    have pb : (p : Int) < (B : Int) := by omega
                    clear q hp
                    go_wp2
                    go_round
                    case rel => exact ⟨k + 1, by omega, by go_num⟩
                    case measure => simp [intOf]; omega
                  · have ek : z = k := by omega
                    go_wp2
                    go_roundw
                    case rel => exact ⟨i + 1, by omega, by congr 1, BW5.out, BL5.out⟩
                    case measure => simp [lenW]; omega
              · go_wp2
                go_ret
                exact ⟨rfl, BW.out.trans (BX4.out.mono BW.out.size)⟩
end Go.Proofs.YtbnmbkohmmiamaaDoor
