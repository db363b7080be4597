/- The document's Plan: a class's live slots collected, and filled anew. -/
import Derived.Test.YtebmegghojiegaaDoorGsP
import Derived.Test.YtebmegghojiegaaDoorMhA
namespace Go.Proofs.YtebmegghojiegaaDoor
open Go.RowKit
set_option linter.unusedVariables false

/-- Spans that are told out of rows that lie elsewhere. -/
def Lo (w wr : World) (L : Nat → Nat) (a : Option Addr) (c : Nat) (us : List Td) : Prop := ∃ rs : List Rw, rs.map Rw.toTd = us ∧ wr.ownsRow w.heap.size 58 4 (.slice a us.length c) us.length (rs.flatMap Rw.cs) ∧ (∀ g, ob a = some g → L g = 5 ∧ g < wr.heap.size) ∧ ∀ r ∈ rs, OwnsI wr w.heap.size r.a r.l r.k ∧ ∀ g, ob r.a = some g → 10 ≤ L g
theorem Lo.nil (w wr : World) (L : Nat → Nat) : Lo w wr L none 0 [] := ⟨[], rfl, World.ownsRow_nil _ _ _ _, (fun g hg => by cases hg), (fun r hr => by cases hr)⟩
theorem Lo.wk {w wr w' : World} {L L' : Nat → Nat} {a : Option Addr} {c : Nat} {us : List Td} {Z : Nat → Prop} (h : Lo w wr L a c us) (h5 : ¬ Z 5) (h10 : ∀ i, 10 ≤ i → ¬ Z i) (k : Wk Z L wr L' w') : Lo w w' L' a c us := by
  obtain ⟨rs, e, hr, hg, hl⟩ := h
  have hs := k.tu.size
  refine ⟨rs, e, row_same hr (fun g o hgo ho => k.tu.block g o ho (by rw [(hg g hgo).1]; exact h5)), fun g hgo => ?_, fun r hm => ?_⟩
  · obtain ⟨q1, q2⟩ := hg g hgo
    exact ⟨by rw [k.ext g q2]; exact q1, by omega⟩
  · obtain ⟨q1, q2⟩ := hl r hm
    exact ⟨q1.same (fun g o hgo ho => k.tu.block g o ho (h10 _ (q2 g hgo))), fun g hgo => by rw [k.ext g (q1.lt g hgo)]; exact q2 g hgo⟩
theorem Lo.told {w wr : World} {L : Nat → Nat} {a : Option Addr} {c : Nat} {us : List Td} (h : Lo w wr L a c us) : Told wr w.heap.size (.slice a us.length c) us := by
  obtain ⟨rs, e, hr, _, hl⟩ := h
  exact ⟨rs, e, hr, fun r hm => (hl r hm).1⟩
theorem lo_app {w wr : World} {L : Nat → Nat} {a : Option Addr} {c : Nat} {us : List Td} (h : Lo w wr L a c us) (hw : w.heap.size ≤ wr.heap.size) (n : Nat) (hn : us.length = n) (hl : n ≤ 100000) (t : Td) (a9 : Option Addr) (c9 ln : Nat) (hln : t.l.length = ln) (h9 : OwnsI wr w.heap.size a9 t.l c9) (hz : ∀ g, ob a9 = some g → 10 ≤ L g) (D : World) (hD : wr.alloc (.cells #[.int .i64 t.p, .int .i64 t.c, .int .i64 t.s, .slice a9 ln c9] 58) = D) :
    ∃ a' c' w' L', (Builtin.append_ #[24, 24] 24 #[.slice a n c, .slice (some ⟨wr.heap.size, 0, none⟩) 1 1]).run Tryd.prog D = .ok (.slice a' (n + 1) c') w' ∧ Lo w w' L' a' c' (us ++ [t]) ∧ Wk (fun y => y = 5) L wr L' w' := by
  subst hln
  subst hn
  have bD : Below wr.heap.size wr D := by rw [← hD]; exact (Below.refl _ wr).alloc (Nat.le_refl _) _
  have sD := bD.size
  have rD : D.heap[wr.heap.size]? = some (.cells (dcells t.p t.c t.s a9 t.l.length c9) 58 (0, 0)) := by rw [← hD]; exact Go.heap_alloc_new wr _
  obtain ⟨rs, e, hr, hg, hli⟩ := h
  obtain ⟨i0, hi, hz0, hz2, hz3⟩ := info_parts Tryd.infoSpan
  obtain ⟨v', w', hr', k2, k3, _, k4⟩ := run_append_own_at (P := Tryd.prog) D w.heap.size 24 24 58 i0 _ 4 48 Tryd.undSpans hi hz0 hz2 hz3 rfl (by decide) (.slice a us.length c) us.length (rs.flatMap Rw.cs) (ownsRow_keepB hr bD) ⟨wr.heap.size, 0, none⟩ 1 1 (Rw.cs ⟨t, a9, c9⟩) rfl (fun j u hj => by
      rw [addr_add, Nat.zero_add, cell_of_row _ _ _ _ _ _ rD]
      show ((Rw.cs ⟨t, a9, c9⟩).toArray)[j]? = some u
      rw [List.getElem?_toArray]; exact hj) (fun u hu => by
      simp [Rw.cs] at hu
      rcases hu with rfl | rfl | rfl | rfl <;> rfl) (by unfold maxLen; omega) (by omega) (by omega)
  obtain ⟨a', c', rfl⟩ : ∃ a' cap', v' = .slice a' (us.length + 1) cap' := by
    obtain ⟨_, ⟨h4, h5⟩ | ⟨g, c', cur, h4, _⟩⟩ := k2
    · exact ⟨_, _, by rw [h4, h5]⟩
    · exact ⟨_, _, h4⟩
  rw [ob_own] at k3 k4
  rw [ob_own] at k4
  have tuD : Tu (fun k => L k = 5) D w' := Tu.grown k3 (fun g hgo => (hg g hgo).1)
  have W2 : Wk (fun y => y = 5) L wr (setL L D.heap.size a' 5) w' := ⟨fun k hk => if_pos (by omega), (Tu.ofBelow bD).trans tuD⟩
  have sw := tuD.size
  have oth : ∀ (x : Option Addr) (l : List Int) (k : Nat), OwnsI wr w.heap.size x l k → (∀ g, ob x = some g → 10 ≤ L g) → OwnsI w' w.heap.size x l k ∧ ∀ g, ob x = some g → 10 ≤ setL L D.heap.size a' 5 g := fun x l k q1 q2 =>
    ⟨q1.same (fun g o hgo ho => W2.tu.block g o ho (by have := q2 g hgo; omega)), fun g hgo => by rw [W2.ext g (q1.lt g hgo)]; exact q2 g hgo⟩
  have lt' : ∀ g, ob a' = some g → g < w'.heap.size := fun g hgo => by
    obtain ⟨_, ⟨h4, _⟩ | ⟨g', c', cur, h4, _, h5, _⟩⟩ := k2
    · injection h4 with e4; subst e4; cases hgo
    · cases h4; cases hgo; exact hlt h5
  refine ⟨a', c', w', setL L D.heap.size a' 5, hr', ⟨rs ++ [⟨t, a9, c9⟩], by rw [List.map_append, e]; rfl, ?_, fun g hgo => ⟨?_, lt' g hgo⟩, fun r hm => ?_⟩, W2⟩
  · rw [List.flatMap_append, List.length_append]
    simpa using k2
  · rcases k4 with e4 | e4
    · rw [e4] at hgo
      obtain ⟨q1, q2⟩ := hg g hgo
      show (if g < D.heap.size then L g else if ob a' = some g then 5 else 0) = 5
      rw [if_pos (by omega)]; exact q1
    · have hg' := hgo
      rw [e4] at hg'
      have : D.heap.size = g := Option.some.inj hg'
      show (if g < D.heap.size then L g else if ob a' = some g then 5 else 0) = 5
      rw [if_neg (by omega), if_pos hgo]
  · rcases List.mem_append.1 hm with hm | hm
    · obtain ⟨q1, q2⟩ := hli r hm
      exact oth _ _ _ q1 q2
    · obtain rfl : r = ⟨t, a9, c9⟩ := by simpa using hm
      exact oth _ _ _ h9 hz
/-- A box that stays. -/
theorem Wk.box {Z : Nat → Prop} {L L' : Nat → Nat} {wr w' : World} {g : Nat} {o : Obj} (k : Wk Z L wr L' w') (h0 : ¬ Z 0) (hg : wr.heap[g]? = some o) (hL : L g = 0) : w'.heap[g]? = some o ∧ L' g = 0 := ⟨k.tu.block g o hg (by rw [hL]; exact h0), by rw [k.ext g (hlt hg)]; exact hL⟩
/-- What the document's Plan leaves. -/
def RPlan (w : World) (ts : List Td) (e : Ending) (w' : World) : Prop := ∃ a1 n1 c1 a2 n2 c2, e = .returned (.tuple #[.slice a1 n1 c1, .slice a2 n2 c2]) ∧ (planT (ts.map snT) (FT ts)).length = n1 ∧ (planV (ts.map snT) (FT ts)).length = n2 ∧ Told w' w.heap.size (.slice a1 n1 c1) (planT (ts.map snT) (FT ts)) ∧ Vs w' w.heap.size a2 (planV (ts.map snT) (FT ts)) c2 ∧ Below w.heap.size w w'
set_option maxRecDepth 20000 in
set_option maxHeartbeats 16000000 in
theorem rplan_any (P : Nat) (a : Option Addr) (n cap : Nat) (ts : List Td) (w : World) (h : RdT w a ts) (hn : ts.length = n) (hn9 : n ≤ 4096) (hs : stdB (P : Int) ts = true) :
    Calls Tryd.prog 43 #[.slice a n cap] w (RPlan w ts) := by
  have H : Hid (RdT w a ts) := h
  have HN : Hid (ts.length = n) := hn
  obtain ⟨hS, hI⟩ := std_of hs
  have RS := rows_std hs
  obtain ⟨m, hm⟩ : ∃ m, ts.map snT = m := ⟨_, rfl⟩
  obtain ⟨F, hF⟩ : ∃ F, FT ts = F := ⟨_, rfl⟩
  have RPE : Hid (∀ e w', (∃ a1 n1 c1 a2 n2 c2, e = .returned (.tuple #[.slice a1 n1 c1, .slice a2 n2 c2]) ∧ (planT m F).length = n1 ∧ (planV m F).length = n2 ∧ Told w' w.heap.size (.slice a1 n1 c1) (planT m F) ∧ Vs w' w.heap.size a2 (planV m F) c2 ∧ Below w.heap.size w w') → RPlan w ts e w') := by
    intro e w' hh; unfold RPlan; rw [hm, hF]; exact hh
  have ML : m.length = n := by rw [← hm, List.length_map, hn]
  rw [hm] at hS RS
  rw [hF] at RS
  have HML : Hid (m.length = n) := ML
  have HS : Hid (Std P m) := hS
  have HRS : Hid (rowsT m F = ts) := RS
  have LL : Hid (∀ t ∈ ts, t.l.length ≤ 17592186044416) := by
    intro t ht
    rw [← RS] at ht
    obtain ⟨i, hi, rfl⟩ := List.mem_map.1 ht
    show (lsL (F i) (sn m i).sl).length ≤ _
    rw [lsL_len]
    have := cnt_le (F i) (sn m i).sl
    have := (hS.ok i (List.mem_range.1 hi)).facts.2.1
    omega
  have CL : Hid (∀ c, c ≤ 7 → (clsV m F c).length ≤ c * (16 * n)) := fun c hc => by have := cls_len hS F c hc; rw [ML] at this; exact this
  clear h hn hs hS hI RS hm hF ML
  go_enter Tryd.func43, Tryd.ntmps43
  go_wp2_with fail
  refine (rcopy2_any a n cap ts _ H.out HN.out (by omega) LL.out).mono ?_
  rintro e w1 ⟨ga, cp, L0, rfl, dp0, low0, b0⟩
  have S0 : Hid (Sd w w1 L0 ga cp (rowsT m F) none [] 0 0) := ⟨by rw [HRS.out]; exact dp0, ⟨Vs.nil _ _, fun g hg => by cases hg⟩, rfl, low0, b0⟩
  clear dp0 low0 b0
  go_wp2_with fail
  go_loopw [5, 6] (fun mv cv wr => ∃ (c : Nat) (L : Nat → Nat) (av : Option Addr) (nv cm : Nat), c ≤ 7 ∧ cv = .int .i64 (c : Nat) ∧ mv = .slice av nv cm ∧ Sd w wr L ga cp (rowsT m (clsF m F c)) av (clsV m F c) nv cm) (fun _ cv _ => 7 - lenW cv)
  case atStart => exact ⟨0, L0, none, 0, 0, by omega, rfl, rfl, S0.out⟩
  case round =>
    obtain ⟨c, L, av, nv, cm, hc7, rfl, rfl, hSd⟩ := hrel
    rename World => wr
    have SD : Hid (Sd w wr L ga cp (rowsT m (clsF m F c)) av (clsV m F c) nv cm) := hSd
    clear hSd S0
    by_cases hc : c < 7
    · obtain ⟨G, hG⟩ : ∃ G, clsF m F c = G := ⟨_, rfl⟩
      obtain ⟨V, hV⟩ : ∃ V, clsV m F c = V := ⟨_, rfl⟩
      have GN : Hid (clsF m F (c + 1) = gathF c m G) := by show _ = _; rw [clsF, hG]
      have VN : Hid (clsV m F (c + 1) = V ++ gathV c m G) := by show _ = _; rw [clsV, hG, hV]
      have VL : V.length ≤ c * (16 * n) := by rw [← hV]; exact CL.out c (by omega)
      rw [hG, hV] at SD
      obtain ⟨Z, hZ⟩ : ∃ Z, clZ c = Z := ⟨_, rfl⟩
      have SZ : Hid (sizeI (c : Int) = (Z : Int)) := by show _ = _; rw [← hZ]; exact sizeI_Z c hc
      have ZP : Z ≤ 128 := by rw [← hZ]; exact (clZ_pos c hc).2.1
      have HZ : Hid (clZ c = Z) := hZ
      have SU : Hid (Sd w wr L ga cp (rowsU m G c 0) av V nv cm) := by show Sd _ _ _ _ _ _ _ _ _ _; rw [rowsU_zero]; exact SD.out
      have c0 : (c : Int) < 7 := by omega
      clear hG hV hZ
      go_wp2_with fail
      refine (qsize_any (c : Int) _).mono ?_
      rw [SZ.out]
      rintro e w' ⟨rfl, rfl⟩
      go_wp2_with fail
      go_loopw [7, 8, 33] (fun ov fv iv wy => ∃ (i : Nat) (L : Nat → Nat) (ao : Option Addr) (no co : Nat) (af : Option Addr) (nf cf : Nat), i ≤ n ∧ iv = .int .i64 (i : Nat) ∧ ov = .slice ao no co ∧ fv = .slice af nf cf ∧ (ownU c m i).length = no ∧ (fromU m G (ownU c m i)).length = nf ∧ Sd w wy L ga cp (rowsU m G c i) av V nv cm ∧ Li w wy L 3 ao (toI (ownU c m i)) co ∧ Li w wy L 4 af (toI (fromU m G (ownU c m i))) cf) (fun _ _ iv _ => n - lenW iv)
      case atStart => exact ⟨0, L, none, 0, 0, none, 0, 0, Nat.zero_le _, rfl, rfl, rfl, rfl, rfl, SU.out, Li.nil _ _ _ _, Li.nil _ _ _ _⟩
      case round =>
        obtain ⟨i, L2, ao, no, co, af, nf, cf, hi, rfl, rfl, rfl, hno, hnf, hsd, hlo, hlf⟩ := hrel
        rename World => wy
        have S2 : Hid (Sd w wy L2 ga cp (rowsU m G c i) av V nv cm) := hsd
        have LO : Hid (Li w wy L2 3 ao (toI (ownU c m i)) co) := hlo
        have LF : Hid (Li w wy L2 4 af (toI (fromU m G (ownU c m i))) cf) := hlf
        have NO : Hid ((ownU c m i).length = no) := hno
        have NF : Hid ((fromU m G (ownU c m i)).length = nf) := hnf
        clear hsd hlo hlf SU
        by_cases hin : i < n
        · have him : i < (rowsU m G c i).length := by rw [rowsU_len, HML.out]; exact hin
          have himm : i < m.length := by rw [HML.out]; exact hin
          obtain ⟨g, la, lk, rfl, p0, p1, p2, p3, hl0⟩ := S2.out.dp.at i him
          rw [rowsU_at, if_neg (fun h => by omega)] at p0 p1 p2 p3 hl0
          have hli : Li w wy L2 (10 + i) la (lsL (G i) (sn m i).sl) lk := hl0
          have q0 : wy.cell? ⟨g, i * 4, none⟩ = some (.int .i64 ((sn m i).pg : Int)) := p0
          have q1 : wy.cell? ⟨g, i * 4 + 1, none⟩ = some (.int .i64 ((sn m i).cl : Int)) := p1
          have q2 : wy.cell? ⟨g, i * 4 + 2, none⟩ = some (.int .i64 ((sn m i).bts : Int)) := p2
          have q3 : wy.cell? ⟨g, i * 4 + 3, none⟩ = some (.slice la (lsL (G i) (sn m i).sl).length lk) := p3
          clear p0 p1 p2 p3 hl0
          have LSN : lsL (G i) (sn m i).sl = toI (lsN (G i) (sn m i).sl) := lsL_N _ _
          have OKi := HS.out.ok i himm
          have TOPi := HS.out.top i himm
          have MOST := HS.out.most
          have ATB : Hid (∀ x, x ∈ lsN (G i) (sn m i).sl → (sn m i).at x ≤ 1048576 ∧ x ≤ 16) := fun x hx => by
            have hx' := ((lsN_mem _ _ _).1 hx).1
            have h1 := (OKi.at_in hx').2
            have h2 := OKi.facts.2.1
            refine ⟨?_, by omega⟩
            omega
          have ATE : Hid ((sn m i).cl = c → ∀ x : Nat, 256 * ((sn m i).pg : Int) + (x : Int) * (Z : Int) = (((sn m i).at x : Nat) : Int)) := fun e x => by
            have hz := clZ_eq e hc
            rw [HZ.out] at hz
            unfold Sn.at
            rw [hz, Int.natCast_add, Int.natCast_mul, Int.natCast_mul]
            rfl
          have LNL : (lsN (G i) (sn m i).sl).length ≤ 16 := by rw [lsN_len]; have := cnt_le (G i) (sn m i).sl; have := OKi.facts.2.1; omega
          have PGB : (sn m i).pg ≤ 4096 := by omega
          rw [LSN] at q3 hli
          obtain ⟨ls, hls⟩ : ∃ ls, lsN (G i) (sn m i).sl = ls := ⟨_, rfl⟩
          have HLS : Hid (lsN (G i) (sn m i).sl = ls) := hls
          rw [hls] at q3 hli ATB LNL
          rw [toI_len] at q3
          obtain ⟨N, hNN⟩ : ∃ N, ls.length = N := ⟨_, rfl⟩
          have HNN : Hid (ls.length = N) := hNN
          rw [hNN] at q3 LNL
          obtain ⟨pg, hpg⟩ : ∃ pg, (sn m i).pg = pg := ⟨_, rfl⟩
          obtain ⟨cl, hcl⟩ : ∃ cl, (sn m i).cl = cl := ⟨_, rfl⟩
          obtain ⟨bt, hbt⟩ : ∃ bt, (sn m i).bts = bt := ⟨_, rfl⟩
          rw [hpg] at q0 PGB ATE
          rw [hcl] at q1 ATE
          rw [hbt] at q2
          have HCL : Hid ((sn m i).cl = cl) := hcl
          have HLI : Hid (Li w wy L2 (10 + i) la (toI ls) lk) := hli
          obtain ⟨E, hE⟩ : ∃ E, wy.alloc (.cells #[.int .i64 (pg : Nat), .int .i64 (cl : Nat), .int .i64 (bt : Nat), .slice la N lk] 58) = E := ⟨_, rfl⟩
          have HE : Hid (wy.alloc (.cells #[.int .i64 (pg : Nat), .int .i64 (cl : Nat), .int .i64 (bt : Nat), .slice la N lk] 58) = E) := hE
          have bE : Below wy.heap.size wy E := by rw [← hE]; exact (Below.refl _ wy).alloc (Nat.le_refl _) _
          have RE : E.heap[wy.heap.size]? = some (.cells (dcells (pg : Nat) (cl : Nat) (bt : Nat) la N lk) 58 (0, 0)) := by rw [← hE]; exact Go.heap_alloc_new wy _
          have WE : ∀ Zz, Wk Zz L2 wy (cutL L2 wy.heap.size) E := fun Zz => Wk.fresh bE
          have SE : Hid (Sd w E (cutL L2 wy.heap.size) (some ⟨g, 0, none⟩) cp (rowsU m G c i) av V nv cm) := S2.out.wk (WE (fun _ => False)) (fun h => h) (fun h => h) (fun h => h) (fun _ h => h)
          have LOE : Hid (Li w E (cutL L2 wy.heap.size) 3 ao (toI (ownU c m i)) co) := LO.out.wk (Z := fun _ => False) (fun h => h) (WE _)
          have LFE : Hid (Li w E (cutL L2 wy.heap.size) 4 af (toI (fromU m G (ownU c m i))) cf) := LF.out.wk (Z := fun _ => False) (fun h => h) (WE _)
          have LIE : Hid (Li w E (cutL L2 wy.heap.size) (10 + i) la (toI ls) lk) := HLI.out.wk (Z := fun _ => False) (fun h => h) (WE _)
          have ZE : Hid (cutL L2 wy.heap.size wy.heap.size = 0) := cutL_new (Nat.le_refl _)
          have HRE : Hid (E.heap[wy.heap.size]? = some (.cells (dcells (pg : Nat) (cl : Nat) (bt : Nat) la N lk) 58 (0, 0))) := RE
          have e0 := dcell0 RE
          have e1 := dcell1 RE
          have e2 := dcell2 RE
          have e3 := dcell3 RE
          obtain ⟨L3, hL3⟩ : ∃ L3, cutL L2 wy.heap.size = L3 := ⟨_, rfl⟩
          rw [hL3] at SE LOE LFE LIE ZE
          obtain ⟨eb, heb⟩ : ∃ eb, wy.heap.size = eb := ⟨_, rfl⟩
          have HEB : Hid (wy.heap.size = eb) := heb
          rw [heb] at ZE HRE e0 e1 e2 e3
          have i0 : (i : Int) < (n : Int) := by omega
          clear hli LSN OKi TOPi MOST hls hNN hpg hbt hE bE RE WE hL3 heb
          by_cases hcc : cl = c
          · subst hcc
            have ATE2 : Hid (∀ x : Nat, 256 * (pg : Int) + (x : Int) * (Z : Int) = (((sn m i).at x : Nat) : Int)) := ATE.out rfl
            clear ATE
            have OY : Hid (ownU cl m (i + 1) = ownU cl m i ++ [i]) := ownU_yes HCL.out
            have FY : Hid (fromU m G (ownU cl m (i + 1)) = fromU m G (ownU cl m i) ++ ls.map (sn m i).at) := by show _ = _; rw [ownU_yes HCL.out, fromU_snoc, HLS.out]
            have RY : Hid (rowsU m G cl (i + 1) = (rowsU m G cl i).set i (rowI m i [])) := rowsU_yes m G cl i himm HCL.out
            have FLN : nf ≤ 16 * i := by rw [← NF.out]; exact fromU_len HS.out G cl i (by omega)
            have OLN : no ≤ i := by rw [← NO.out]; exact ownU_len cl m i
            obtain ⟨D, hD⟩ : ∃ D, E.alloc (.cells #[.int .i64 (i : Nat)] 3) = D := ⟨_, rfl⟩
            obtain ⟨a5, c5, w5, L5, run5, li5, wk5⟩ := li_app LOE.out SE.out.bel.size no (by rw [toI_len]; exact NO.out) (i : Int) (by omega) D hD
            have HD : Hid (E.alloc (.cells #[.int .i64 (i : Nat)] 3) = D) := hD
            have RUN5 : Hid ((Builtin.append_ #[51, 51] 51 #[.slice ao no co, .slice (some ⟨E.heap.size, 0, none⟩) 1 1]).run Tryd.prog D = .ok (.slice a5 (no + 1) c5) w5) := run5
            have S5 : Hid (Sd w w5 L5 (some ⟨g, 0, none⟩) cp (rowsU m G cl i) av V nv cm) := SE.out.wk wk5 (by omega) (by omega) (by omega) (fun _ => by omega)
            have LO5 : Hid (Li w w5 L5 3 a5 (toI (ownU cl m (i + 1))) c5) := by
              show Li _ _ _ _ _ _ _
              rw [OY.out]
              have : toI (ownU cl m i ++ [i]) = toI (ownU cl m i) ++ [(i : Int)] := by simp [toI]
              rw [this]; exact li5
            have LF5 : Hid (Li w w5 L5 4 af (toI (fromU m G (ownU cl m i))) cf) := LFE.out.wk (by omega) wk5
            have LI5 : Hid (Li w w5 L5 (10 + i) la (toI ls) lk) := LIE.out.wk (by omega) wk5
            obtain ⟨r5, z5⟩ := wk5.box (by omega) HRE.out ZE.out
            have R5 : Hid (w5.heap[eb]? = some (.cells (dcells (pg : Nat) (cl : Nat) (bt : Nat) la N lk) 58 (0, 0))) := r5
            have Z5 : Hid (L5 eb = 0) := z5
            have y0 := dcell0 r5
            have y3 := dcell3 r5
            clear hD run5 li5 wk5 r5 z5
            go_upto_region 11 with (fail)
            rw [HE.out, HEB.out]
            go_wp2_with (at_builtin; (try rw [HD.out]); refine wpList_run rfl 51 rfl _ _ rfl (.slice ao no co) (.slice (some ⟨E.heap.size, 0, none⟩) 1 1) _ _ rfl rfl RUN5.out ?_)
            go_loopw [8, 49] (fun fv tv wz => ∃ (t : Nat) (L : Nat → Nat) (af : Option Addr) (nf cf : Nat), t ≤ N ∧ tv = .int .i64 (t : Nat) ∧ fv = .slice af nf cf ∧ (fromU m G (ownU cl m i)).length + t = nf ∧ Sd w wz L (some ⟨g, 0, none⟩) cp (rowsU m G cl i) av V nv cm ∧ Li w wz L 3 a5 (toI (ownU cl m (i + 1))) c5 ∧ Li w wz L 4 af (toI (fromU m G (ownU cl m i) ++ (ls.take t).map (sn m i).at)) cf ∧ Li w wz L (10 + i) la (toI ls) lk ∧ wz.heap[eb]? = some (.cells (dcells (pg : Nat) (cl : Nat) (bt : Nat) la N lk) 58 (0, 0)) ∧ L eb = 0) (fun _ tv _ => N - lenW tv)
            case atStart => exact ⟨0, L5, af, nf, cf, Nat.zero_le _, rfl, rfl, by rw [NF.out]; rfl, S5.out, LO5.out, by rw [List.take_zero, List.map_nil, List.append_nil]; exact LF5.out, LI5.out, R5.out, Z5.out⟩
            case round =>
              clear y0 y3 e0 e1 e2 e3 q0 q1 q2 q3
              obtain ⟨t, L6, af6, nf6, cf6, ht, rfl, rfl, hnf6, hs6, ho6, hf6, hl6, hr6, hz6⟩ := hrel
              rename World => wz
              have S6 : Hid (Sd w wz L6 (some ⟨g, 0, none⟩) cp (rowsU m G cl i) av V nv cm) := hs6
              have O6 : Hid (Li w wz L6 3 a5 (toI (ownU cl m (i + 1))) c5) := ho6
              have F6 : Hid (Li w wz L6 4 af6 (toI (fromU m G (ownU cl m i) ++ (ls.take t).map (sn m i).at)) cf6) := hf6
              have I6 : Hid (Li w wz L6 (10 + i) la (toI ls) lk) := hl6
              have R6 : Hid (wz.heap[eb]? = some (.cells (dcells (pg : Nat) (cl : Nat) (bt : Nat) la N lk) 58 (0, 0))) := hr6
              have Z6 : Hid (L6 eb = 0) := hz6
              have NF6 : Hid ((fromU m G (ownU cl m i)).length + t = nf6) := hnf6
              have NFv := NF.out
              have x0 := dcell0 hr6
              clear hs6 ho6 hf6 hl6 hr6 hz6
              by_cases htN : t < N
              · have htl : t < ls.length := by rw [HNN.out]; exact htN
                obtain ⟨gl, hgl, cx⟩ := I6.out.cell t (by rw [toI_len]; exact htl)
                subst hgl
                rw [toI_at] at cx
                obtain ⟨A1, A2⟩ := ATB.out (ls.getD t 0) (getD_mem htl)
                have AE := ATE2.out (ls.getD t 0)
                have TK : (ls.take (t + 1)).map (sn m i).at = (ls.take t).map (sn m i).at ++ [(sn m i).at (ls.getD t 0)] := by rw [List.take_succ_eq_append_getElem htl, List.map_append, getD_eq 0 htl]; rfl
                obtain ⟨x, hx⟩ : ∃ x, ls.getD t 0 = x := ⟨_, rfl⟩
                rw [hx] at cx A1 A2 AE TK
                obtain ⟨A, hA⟩ : ∃ A, (sn m i).at x = A := ⟨_, rfl⟩
                rw [hA] at A1 AE TK
                obtain ⟨D2, hD2⟩ : ∃ D2, wz.alloc (.cells #[.int .i64 (A : Nat)] 3) = D2 := ⟨_, rfl⟩
                obtain ⟨a7, c7, w7, L7, run7, li7, wk7⟩ := li_app F6.out S6.out.bel.size nf6 (by rw [toI_len, List.length_append, List.length_map, List.length_take]; have := NF6.out; omega) (A : Int) (by omega) D2 hD2
                have HD2 : Hid (wz.alloc (.cells #[.int .i64 (A : Nat)] 3) = D2) := hD2
                have RUN7 : Hid ((Builtin.append_ #[51, 51] 51 #[.slice af6 nf6 cf6, .slice (some ⟨wz.heap.size, 0, none⟩) 1 1]).run Tryd.prog D2 = .ok (.slice a7 (nf6 + 1) c7) w7) := run7
                have S7 : Hid (Sd w w7 L7 (some ⟨g, 0, none⟩) cp (rowsU m G cl i) av V nv cm) := S6.out.wk wk7 (by omega) (by omega) (by omega) (fun _ => by omega)
                have O7 : Hid (Li w w7 L7 3 a5 (toI (ownU cl m (i + 1))) c5) := O6.out.wk (by omega) wk7
                have I7 : Hid (Li w w7 L7 (10 + i) (some ⟨gl, 0, none⟩) (toI ls) lk) := I6.out.wk (by omega) wk7
                have F7 : Hid (Li w w7 L7 4 a7 (toI (fromU m G (ownU cl m i) ++ (ls.take (t + 1)).map (sn m i).at)) c7) := by
                  show Li _ _ _ _ _ _ _
                  rw [TK, ← List.append_assoc]
                  have : toI ((fromU m G (ownU cl m i) ++ (ls.take t).map (sn m i).at) ++ [A]) = toI (fromU m G (ownU cl m i) ++ (ls.take t).map (sn m i).at) ++ [(A : Int)] := by simp [toI]
                  rw [this]; exact li7
                obtain ⟨r7, z7⟩ := wk7.box (by omega) R6.out Z6.out
                have R7 : Hid (w7.heap[eb]? = some (.cells (dcells (pg : Nat) (cl : Nat) (bt : Nat) (some ⟨gl, 0, none⟩) N lk) 58 (0, 0))) := r7
                have Z7 : Hid (L7 eb = 0) := z7
                have wA1 : IntKind.i64.wrap (256 * (pg : Int)) = 256 * (pg : Int) := by rw [IntKind.wrap_i64]; omega
                have xZ : (x : Int) * (Z : Int) = (A : Int) - 256 * (pg : Int) := by omega
                have wA2 : IntKind.i64.wrap ((x : Int) * (Z : Int)) = (A : Int) - 256 * (pg : Int) := by rw [xZ, IntKind.wrap_i64]; omega
                have wA3 : IntKind.i64.wrap (256 * (pg : Int) + ((A : Int) - 256 * (pg : Int))) = (A : Int) := by rw [IntKind.wrap_i64]; omega
                have t0 : (t : Int) < (N : Int) := by omega
                clear hD2 run7 li7 wk7 r7 z7 hx hA AE TK htl hnf6 xZ
                go_wp2_with (at_builtin; (try rw [HD2.out]); refine wpList_run rfl 51 rfl _ _ rfl (.slice af6 nf6 cf6) (.slice (some ⟨wz.heap.size, 0, none⟩) 1 1) _ _ rfl rfl RUN7.out ?_)
                go_roundw
                case rel => exact ⟨t + 1, L7, a7, nf6 + 1, c7, by omega, by congr 1, rfl, by have := NF6.out; omega, S7.out, O7.out, F7.out, I7.out, R7.out, Z7.out⟩
                case measure => simp [lenW]; omega
              · obtain rfl : t = N := by omega
                have him2 : i < (rowsU m G cl i).length := him
                obtain ⟨DN, WN, fz⟩ := S6.out.dp.relist i him2 (Wk.below (Below.refl _ _)) none [] 0 0 rfl (Li.nil _ _ _ _)
                rw [rowsU_at] at DN
                have EN : (⟨(rowI m i (if i < i ∧ (sn m i).cl = cl then [] else lsL (G i) (sn m i).sl)).p, (rowI m i (if i < i ∧ (sn m i).cl = cl then [] else lsL (G i) (sn m i).sl)).c, (rowI m i (if i < i ∧ (sn m i).cl = cl then [] else lsL (G i) (sn m i).sl)).s, []⟩ : Td) = rowI m i [] := rfl
                rw [EN, ← RY.out] at DN
                have S8 : Hid (Sd w (wz.setCell ⟨g, i * 4 + 3, none⟩ (.slice none 0 0)) L6 (some ⟨g, 0, none⟩) cp (rowsU m G cl (i + 1)) av V nv cm) := S6.out.listed WN DN
                have O8 : Hid (Li w (wz.setCell ⟨g, i * 4 + 3, none⟩ (.slice none 0 0)) L6 3 a5 (toI (ownU cl m (i + 1))) c5) := O6.out.wk (by omega) WN
                have F8 : Hid (Li w (wz.setCell ⟨g, i * 4 + 3, none⟩ (.slice none 0 0)) L6 4 af6 (toI (fromU m G (ownU cl m (i + 1)))) cf6) := by
                  have q := F6.out.wk (by omega) WN
                  rw [List.take_of_length_le (by rw [HNN.out]; omega)] at q
                  rw [FY.out]; exact q
                have NF8 : Hid ((fromU m G (ownU cl m (i + 1))).length = nf6) := by show _ = _; rw [FY.out, List.length_append, List.length_map, HNN.out]; exact NF6.out
                have NO8 : Hid ((ownU cl m (i + 1)).length = no + 1) := by show _ = _; rw [OY.out, List.length_append, NO.out]; rfl
                obtain ⟨g2, la2, lk2, eg, _, _, _, v3, _⟩ := S6.out.dp.at i him2
                cases eg
                obtain ⟨vl, hvl⟩ : ∃ vl, (rowsU m G cl i)[i].l.length = vl := ⟨_, rfl⟩
                rw [hvl] at v3
                clear DN WN EN hvl
                go_wp2
                go_roundw
                case rel => exact ⟨i + 1, L6, a5, no + 1, c5, af6, nf6, cf6, by omega, by congr 1, rfl, rfl, NO8.out, NF8.out, S8.out, O8.out, F8.out⟩
                case measure => simp [lenW]; omega
          · have hne : ((cl : Int) == (c : Int)) = false := by rw [beq_eq_false_iff_ne]; omega
            have hne2 : ((cl : Int) != (c : Int)) = true := by rw [bne, hne]; rfl
            have hni : ¬ ((cl : Int) = (c : Int)) := by omega
            have HC' : (sn m i).cl ≠ c := by rw [HCL.out]; exact hcc
            have SN : Hid (Sd w E L3 (some ⟨g, 0, none⟩) cp (rowsU m G c (i + 1)) av V nv cm) := by show Sd _ _ _ _ _ _ _ _ _ _; rw [rowsU_no m G c i HC']; exact SE.out
            have ON : Hid (Li w E L3 3 ao (toI (ownU c m (i + 1))) co) := by show Li _ _ _ _ _ _ _; rw [ownU_no HC']; exact LOE.out
            have FN : Hid (Li w E L3 4 af (toI (fromU m G (ownU c m (i + 1)))) cf) := by show Li _ _ _ _ _ _ _; rw [ownU_no HC']; exact LFE.out
            have NON : Hid ((ownU c m (i + 1)).length = no) := by show _ = _; rw [ownU_no HC']; exact NO.out
            have NFN : Hid ((fromU m G (ownU c m (i + 1))).length = nf) := by show _ = _; rw [ownU_no HC']; exact NF.out
            clear HC' hcc
            go_upto_region 11 with (fail)
            rw [HE.out, HEB.out]
            go_wp2
            go_roundw
            case rel => exact ⟨i + 1, L3, ao, no, co, af, nf, cf, by omega, by congr 1, rfl, rfl, NON.out, NFN.out, SN.out, ON.out, FN.out⟩
            case measure => simp [lenW]; omega
        · obtain rfl : i = n := by omega
          have EO : ownU c m i = ownL c m := by unfold ownL; rw [HML.out]
          have S3 : Hid (Sd w wy L2 ga cp (rowsT m (clrF G (ownL c m))) av V nv cm) := by
            have q := S2.out
            rw [← HML.out, rowsU_all] at q
            exact q
          rw [EO] at LO LF NO NF
          have FL : (fromL c m G).length ≤ (ownL c m).length * clSl c := from_len G
          have OB : (ownL c m).length ≤ i := by have := ownU_len c m m.length; rw [HML.out] at this; unfold ownL; rw [HML.out]; exact this
          have CS := clSl_pos c hc7
          have RFL : Hid (∀ j, j < (ownL c m).length * clSl c → (ownL c m).getD (j / clSl c) 0 < m.length ∧ lsL (fillF (ownL c m) (clSl c) (clrF G (ownL c m)) j ((ownL c m).getD (j / clSl c) 0)) (sn m ((ownL c m).getD (j / clSl c) 0)).sl = toI (List.range (j % clSl c)) ∧ rowsT m (fillF (ownL c m) (clSl c) (clrF G (ownL c m)) (j + 1)) = (rowsT m (fillF (ownL c m) (clSl c) (clrF G (ownL c m)) j)).set ((ownL c m).getD (j / clSl c) 0) (rowI m ((ownL c m).getD (j / clSl c) 0) (toI (List.range (j % clSl c)) ++ [((j % clSl c : Nat) : Int)]))) := fun j hj => rows_fill hc j hj
          have TOJ : Hid (∀ j, j < (ownL c m).length * clSl c → 256 * ((sn m ((ownL c m).getD (j / clSl c) 0)).pg : Int) + ((j % clSl c : Nat) : Int) * (Z : Int) = ((toJ m (ownL c m) (clSl c) j : Nat) : Int) ∧ toJ m (ownL c m) (clSl c) j ≤ 1048576 ∧ (sn m ((ownL c m).getD (j / clSl c) 0)).pg ≤ 4096) := fun j hj => by
            have hr : j / clSl c < (ownL c m).length := Nat.div_lt_of_lt_mul (by rw [Nat.mul_comm]; exact hj)
            obtain ⟨k1, k2⟩ := own_lt hr
            have hz := clZ_eq k2 hc
            rw [HZ.out] at hz
            have hsl := clSl_eq k2
            have hmod : j % clSl c < clSl c := Nat.mod_lt _ (by omega)
            have h1 := ((HS.out.ok _ k1).at_in (i := j % clSl c) (by rw [hsl]; exact hmod)).2
            have h2 := HS.out.top _ k1
            have h3 := HS.out.most
            have e1 : toJ m (ownL c m) (clSl c) j = (sn m ((ownL c m).getD (j / clSl c) 0)).at (j % clSl c) := rfl
            refine ⟨?_, by rw [e1]; omega, by omega⟩
            rw [e1]
            unfold Sn.at
            rw [hz, Int.natCast_add, Int.natCast_mul, Int.natCast_mul]
            rfl
          have FB : Hid (∀ x ∈ fromL c m G, x ≤ 1048576) := fun x hx => by
            obtain ⟨i', s', h1, _, _, _, _, _, k2, k3⟩ := from_bd HS.out G hx
            have h3 := HS.out.most
            have : 256 * ((sn m i').pg + (sn m i').k) ≤ 256 * P := Nat.mul_le_mul_left _ k3
            omega
          have GE : Hid (gathF c m G = fillF (ownL c m) (clSl c) (clrF G (ownL c m)) (fromL c m G).length) := rfl
          have VE : Hid (gathV c m G = mv1U m (ownL c m) (fromL c m G) (clSl c) Z (fromL c m G).length) := by show gathV c m G = _; unfold gathV; rw [HZ.out]
          have SLT : Hid (slotsI (c : Int) = ((clSl c : Nat) : Int)) := by
            show _ = _
            rcases h : c with _ | _ | _ | _ | _ | _ | _ | c'
            iterate 7 · decide
            · omega
          obtain ⟨ow, how⟩ : ∃ ow, ownL c m = ow := ⟨_, rfl⟩
          obtain ⟨fr, hfr⟩ : ∃ fr, fromL c m G = fr := ⟨_, rfl⟩
          obtain ⟨Sl, hSl⟩ : ∃ Sl, clSl c = Sl := ⟨_, rfl⟩
          have LF : Hid (Li w wy L2 4 af (toI (fromL c m G)) cf) := LF
          have NF : Hid ((fromL c m G).length = nf) := NF
          rw [how] at S3 LO NO FL OB RFL TOJ GE VE
          rw [hfr] at LF NF FL FB GE VE
          rw [hSl] at FL CS RFL TOJ GE VE SLT
          have FL2 : nf ≤ ow.length * Sl := by rw [← NF.out]; exact FL
          have NFB : nf ≤ 65536 := by
            have : ow.length * Sl ≤ 4096 * 16 := Nat.mul_le_mul (by omega) CS.2
            omega
          have NSL : ¬ (Sl = 0) := by omega
          have NSLi : ¬ ((Sl : Int) = 0) := by omega
          have M1L : Hid (∀ j, (mv1U m ow fr Sl Z j).length ≤ j) := fun j => mv1_len m ow fr Sl Z j
          clear EO S2 how hfr hSl FL
          go_wp2_with fail
          go_loopw [5, 71] (fun mv jv wz => ∃ (j : Nat) (L : Nat → Nat) (av : Option Addr) (nv cm : Nat), j ≤ nf ∧ jv = .int .i64 (j : Nat) ∧ mv = .slice av nv cm ∧ Sd w wz L ga cp (rowsT m (fillF ow Sl (clrF G ow) j)) av (V ++ mv1U m ow fr Sl Z j) nv cm ∧ Li w wz L 3 ao (toI ow) co ∧ Li w wz L 4 af (toI fr) cf) (fun _ jv _ => nf - lenW jv)
          case atStart => exact ⟨0, L2, av, nv, cm, Nat.zero_le _, rfl, rfl, by rw [mv1U, List.append_nil]; exact S3.out, LO.out, LF.out⟩
          case round =>
            obtain ⟨j, L4, av4, nv4, cm4, hj, rfl, rfl, hs4, ho4, hf4⟩ := hrel
            rename World => wz
            have S4 : Hid (Sd w wz L4 ga cp (rowsT m (fillF ow Sl (clrF G ow) j)) av4 (V ++ mv1U m ow fr Sl Z j) nv4 cm4) := hs4
            have O4 : Hid (Li w wz L4 3 ao (toI ow) co) := ho4
            have F4 : Hid (Li w wz L4 4 af (toI fr) cf) := hf4
            clear hs4 ho4 hf4 S3
            by_cases hjn : j < nf
            · obtain ⟨hkm, hl0, hRF⟩ := RFL.out j (by omega)
              obtain ⟨tj1, tj2, tj3⟩ := TOJ.out j (by omega)
              have hr : j / Sl < ow.length := Nat.div_lt_of_lt_mul (by rw [Nat.mul_comm]; omega)
              have hfj : j < fr.length := by rw [NF.out]; exact hjn
              obtain ⟨go, rfl, cow⟩ := O4.out.cell (j / Sl) (by rw [toI_len]; exact hr)
              obtain ⟨gf, rfl, cfr⟩ := F4.out.cell j (by rw [toI_len]; exact hfj)
              rw [toI_at] at cow cfr
              have fB := FB.out (fr.getD j 0) (getD_mem hfj)
              have M1 : mv1U m ow fr Sl Z (j + 1) = mv1U m ow fr Sl Z j ++ mvIf (fr.getD j 0) (toJ m ow Sl j) Z := rfl
              obtain ⟨k, hk⟩ : ∃ k, ow.getD (j / Sl) 0 = k := ⟨_, rfl⟩
              obtain ⟨x, hx⟩ : ∃ x, j % Sl = x := ⟨_, rfl⟩
              obtain ⟨T, hTT⟩ : ∃ T, toJ m ow Sl j = T := ⟨_, rfl⟩
              obtain ⟨A, hA⟩ : ∃ A, fr.getD j 0 = A := ⟨_, rfl⟩
              have hx16 : x ≤ 16 := by rw [← hx]; have := Nat.mod_lt j (show 0 < Sl by omega); omega
              have td : (j : Int).tdiv (Sl : Int) = ((j / Sl : Nat) : Int) := by rw [Int.tdiv_eq_ediv_of_nonneg (by omega)]; omega
              have tm : (j : Int).tmod (Sl : Int) = (x : Int) := by rw [Int.tmod_eq_emod_of_nonneg (by omega), ← hx]; omega
              rw [hk] at hkm hl0 hRF tj1 tj3 cow
              rw [hx] at hl0 hRF tj1
              rw [hTT] at tj1 tj2 M1
              rw [hA] at cfr fB M1
              obtain ⟨q, hq⟩ : ∃ q, j / Sl = q := ⟨_, rfl⟩
              rw [hq] at cow td hr
              have hkr : k < (rowsT m (fillF ow Sl (clrF G ow) j)).length := by rw [rowsT_len]; exact hkm
              obtain ⟨g, la, lk, rfl, p0, p1, p2, p3, hli0⟩ := S4.out.dp.at k hkr
              clear p1 p2
              rw [rowsT_at, hl0] at p0 p3 hli0
              have q0 : wz.cell? ⟨g, k * 4, none⟩ = some (.int .i64 ((sn m k).pg : Int)) := p0
              have q3 : wz.cell? ⟨g, k * 4 + 3, none⟩ = some (.slice la x lk) := by have := p3; simp only [rowI, toI_len, List.length_range] at this; exact this
              have hli : Li w wz L4 (10 + k) la (toI (List.range x)) lk := hli0
              obtain ⟨pg, hpg⟩ : ∃ pg, (sn m k).pg = pg := ⟨_, rfl⟩
              rw [hpg] at q0 tj1 tj3
              obtain ⟨D, hD⟩ : ∃ D, wz.alloc (.cells #[.int .i64 (x : Nat)] 3) = D := ⟨_, rfl⟩
              obtain ⟨a5, c5, w5, L5, run5, li5, wk5⟩ := li_app hli S4.out.bel.size x (by rw [toI_len, List.length_range]) (x : Int) (by omega) D hD
              have HD : Hid (wz.alloc (.cells #[.int .i64 (x : Nat)] 3) = D) := hD
              have RUN5 : Hid ((Builtin.append_ #[51, 51] 51 #[.slice la x lk, .slice (some ⟨wz.heap.size, 0, none⟩) 1 1]).run Tryd.prog D = .ok (.slice a5 (x + 1) c5) w5) := run5
              obtain ⟨dp6, wk6, fz6⟩ := S4.out.dp.relist k hkr wk5 a5 (toI (List.range x) ++ [(x : Int)]) c5 (x + 1) (by rw [List.length_append, toI_len, List.length_range]; rfl) li5
              rw [rowsT_at] at dp6
              have EN : (⟨(rowI m k (lsL (fillF ow Sl (clrF G ow) j k) (sn m k).sl)).p, (rowI m k (lsL (fillF ow Sl (clrF G ow) j k) (sn m k).sl)).c, (rowI m k (lsL (fillF ow Sl (clrF G ow) j k) (sn m k).sl)).s, toI (List.range x) ++ [(x : Int)]⟩ : Td) = rowI m k (toI (List.range x) ++ [(x : Int)]) := rfl
              rw [EN, ← hRF] at dp6
              obtain ⟨X, hX⟩ : ∃ X, w5.setCell ⟨g, k * 4 + 3, none⟩ (.slice a5 (x + 1) c5) = X := ⟨_, rfl⟩
              rw [hX] at dp6 wk6
              have S6 : Hid (Sd w X L5 (some ⟨g, 0, none⟩) cp (rowsT m (fillF ow Sl (clrF G ow) (j + 1))) av4 (V ++ mv1U m ow fr Sl Z j) nv4 cm4) := S4.out.listed wk6 dp6
              have O6 : Hid (Li w X L5 3 (some ⟨go, 0, none⟩) (toI ow) co) := O4.out.wk (by omega) wk6
              have F6 : Hid (Li w X L5 4 (some ⟨gf, 0, none⟩) (toI fr) cf) := F4.out.wk (by omega) wk6
              obtain ⟨gf', egf, cf6⟩ := F6.out.cell j (by rw [toI_len]; exact hfj)
              cases egf
              rw [toI_at, hA] at cf6
              have y3 : w5.cell? ⟨g, k * 4 + 3, none⟩ = some (.slice la x lk) := by
                obtain ⟨_, hg1, _, cur, hcg⟩ := S4.out.dp.blk g rfl
                have hblk : w5.heap[g]? = wz.heap[g]? := by rw [wk5.tu.block g _ hcg (by rw [hg1]; omega), hcg]
                exact (World.cell?_of_block (a := ⟨g, k * 4 + 3, none⟩) hblk).trans q3
              have NV4 : nv4 ≤ 600000 := by
                have := S4.out.nvl
                rw [List.length_append] at this
                have := M1L.out j
                have : c * (16 * i) ≤ 6 * (16 * 4096) := Nat.mul_le_mul (by omega) (by omega)
                omega
              have wA1 : IntKind.i64.wrap (256 * (pg : Int)) = 256 * (pg : Int) := by rw [IntKind.wrap_i64]; omega
              have xZ : (x : Int) * (Z : Int) = (T : Int) - 256 * (pg : Int) := by omega
              have wA2 : IntKind.i64.wrap ((x : Int) * (Z : Int)) = (T : Int) - 256 * (pg : Int) := by rw [xZ, IntKind.wrap_i64]; omega
              have wA3 : IntKind.i64.wrap (256 * (pg : Int) + ((T : Int) - 256 * (pg : Int))) = (T : Int) := by rw [IntKind.wrap_i64]; omega
              have j0 : (j : Int) < (nf : Int) := by omega
              have k0 : (0 : Int) ≤ (k : Int) := by omega
              have kn : (k : Int) < (i : Int) := by have := HML.out; omega
              have qn : (q : Int) < (no : Int) := by have := NO.out; omega
              have q96 : q ≤ 4096 := by omega
              have k96 : k ≤ 4096 := by have := HML.out; omega
              have HM1 : Hid (mv1U m ow fr Sl Z (j + 1) = mv1U m ow fr Sl Z j ++ mvIf A T Z) := M1
              clear hl0 hRF tj1 p0 p3 hli0 hli hD run5 li5 wk5 dp6 wk6 EN M1 hkm hkr hk hx hTT hA hq hpg hfj xZ hr
              by_cases hTA : T = A
              · have eTA : ((T : Int) == (A : Int)) = true := by rw [beq_iff_eq]; omega
                have nTA : ((T : Int) != (A : Int)) = false := by rw [bne, eTA]; rfl
                have iTA : (T : Int) = (A : Int) := by omega
                have S7 : Hid (Sd w X L5 (some ⟨g, 0, none⟩) cp (rowsT m (fillF ow Sl (clrF G ow) (j + 1))) av4 (V ++ mv1U m ow fr Sl Z (j + 1)) nv4 cm4) := by
                  show Sd _ _ _ _ _ _ _ _ _ _
                  rw [HM1.out, mvIf, if_pos hTA.symm, List.append_nil]
                  exact S6.out
                clear hTA iTA
                go_wp2_with (first
                  | (go_at_call 63; refine (qslots_any (c : Int) _).mono ?_; rw [SLT.out]; rintro e w' ⟨rfl, rfl⟩)
                  | (at_builtin; (try rw [HD.out]); refine wpList_run rfl 51 rfl _ _ rfl (.slice la x lk) (.slice (some ⟨wz.heap.size, 0, none⟩) 1 1) _ _ rfl rfl RUN5.out ?_))
                go_roundw
                case rel => exact ⟨j + 1, L5, av4, nv4, cm4, by omega, by congr 1, rfl, S7.out, O6.out, F6.out⟩
                case measure => simp [lenW]; omega
              · have eTA : ((T : Int) == (A : Int)) = false := by rw [beq_eq_false_iff_ne]; omega
                have nTA : ((T : Int) != (A : Int)) = true := by rw [bne, eTA]; rfl
                have iTA : ¬ ((T : Int) = (A : Int)) := by omega
                obtain ⟨D8, hD8⟩ : ∃ D8, X.alloc (.cells #[.int .i64 (A : Nat), .int .i64 (T : Nat), .int .i64 (Z : Nat)] 92) = D8 := ⟨_, rfl⟩
                obtain ⟨a8, c8, w8, L8, run8, lm8, wk8⟩ := lm_app S6.out.mv S6.out.bel.size nv4 S6.out.nvl ⟨(A : Int), (T : Int), (Z : Int)⟩ (by omega) D8 hD8
                have HD8 : Hid (X.alloc (.cells #[.int .i64 (A : Nat), .int .i64 (T : Nat), .int .i64 (Z : Nat)] 92) = D8) := hD8
                have RUN8 : Hid ((Builtin.append_ #[88, 88] 88 #[.slice av4 nv4 cm4, .slice (some ⟨X.heap.size, 0, none⟩) 1 1]).run Tryd.prog D8 = .ok (.slice a8 (nv4 + 1) c8) w8) := run8
                have S9 : Hid (Sd w w8 L8 (some ⟨g, 0, none⟩) cp (rowsT m (fillF ow Sl (clrF G ow) (j + 1))) a8 (V ++ mv1U m ow fr Sl Z (j + 1)) (nv4 + 1) c8) := by
                  show Sd _ _ _ _ _ _ _ _ _ _
                  rw [HM1.out, mvIf, if_neg (fun e => hTA e.symm), ← List.append_assoc]
                  exact S6.out.moved wk8 lm8
                have O9 : Hid (Li w w8 L8 3 (some ⟨go, 0, none⟩) (toI ow) co) := O6.out.wk (by omega) wk8
                have F9 : Hid (Li w w8 L8 4 (some ⟨gf, 0, none⟩) (toI fr) cf) := F6.out.wk (by omega) wk8
                clear hTA hD8 run8 lm8 wk8
                go_wp2_with (first
                  | (go_at_call 63; refine (qslots_any (c : Int) _).mono ?_; rw [SLT.out]; rintro e w' ⟨rfl, rfl⟩)
                  | (at_builtin; (try rw [HD.out]); refine wpList_run rfl 51 rfl _ _ rfl (.slice la x lk) (.slice (some ⟨wz.heap.size, 0, none⟩) 1 1) _ _ rfl rfl RUN5.out ?_)
                  | (at_builtin; (try rw [HD8.out]); refine wpList_run rfl 88 rfl _ _ rfl (.slice av4 nv4 cm4) (.slice (some ⟨X.heap.size, 0, none⟩) 1 1) _ _ rfl rfl RUN8.out ?_))
                go_roundw
                case rel => exact ⟨j + 1, L8, a8, nv4 + 1, c8, by omega, by congr 1, rfl, S9.out, O9.out, F9.out⟩
                case measure => simp [lenW]; omega
            · obtain rfl : j = nf := by omega
              have SN : Hid (Sd w wz L4 ga cp (rowsT m (clsF m F (c + 1))) av4 (clsV m F (c + 1)) nv4 cm4) := by
                show Sd _ _ _ _ _ _ _ _ _ _
                rw [GN.out, VN.out, GE.out, VE.out, NF.out]
                exact S4.out
              go_wp2
              go_roundw
              case rel => exact ⟨c + 1, L4, av4, nv4, cm4, by omega, by congr 1, rfl, SN.out⟩
              case measure => simp [lenW]; omega
    · obtain rfl : c = 7 := by omega
      obtain ⟨G, hG⟩ : ∃ G, clsF m F 7 = G := ⟨_, rfl⟩
      obtain ⟨V, hV⟩ : ∃ V, clsV m F 7 = V := ⟨_, rfl⟩
      have PT : Hid (planT m F = toldU m G n) := by show _ = _; unfold planT; rw [hG, HML.out]
      have PV : Hid (planV m F = V ++ mv2U m G n) := by show _ = _; unfold planV; rw [hG, hV, HML.out]
      have VL : V.length ≤ 7 * (16 * n) := by rw [← hV]; exact CL.out 7 (by omega)
      rw [hG, hV] at SD
      have c0 : ¬ (((7 : Nat) : Int) < 7) := by omega
      clear hG hV hc
      go_wp2_with fail
      go_loopw [5, 18, 19, 126] (fun mv ov pv kv wy => ∃ (k : Nat) (L : Nat → Nat) (av : Option Addr) (nv cm : Nat) (ao : Option Addr) (no co e : Nat), k ≤ n ∧ kv = .int .i64 (k : Nat) ∧ mv = .slice av nv cm ∧ ov = .slice ao no co ∧ pv = .int .i64 (e : Nat) ∧ endU m G k = e ∧ (toldU m G k).length = no ∧ Sd w wy L ga cp (rowsT m G) av (V ++ mv2U m G k) nv cm ∧ Lo w wy L ao co (toldU m G k)) (fun _ _ _ kv _ => n - lenW kv)
      case atStart => exact ⟨0, L, av, nv, cm, none, 0, 0, 0, Nat.zero_le _, rfl, rfl, rfl, rfl, rfl, rfl, by rw [mv2U, List.append_nil]; exact SD.out, Lo.nil _ _ _⟩
      case round =>
        obtain ⟨k, L2, av2, nv2, cm2, ao, no, co, e, hk, rfl, rfl, rfl, rfl, he, hno, hsd, hlo⟩ := hrel
        rename World => wy
        have S2 : Hid (Sd w wy L2 ga cp (rowsT m G) av2 (V ++ mv2U m G k) nv2 cm2) := hsd
        have LO : Hid (Lo w wy L2 ao co (toldU m G k)) := hlo
        have HE0 : Hid (endU m G k = e) := he
        have NO : Hid ((toldU m G k).length = no) := hno
        clear hsd hlo he hno SD
        by_cases hkn : k < n
        · have hkm : k < m.length := by rw [HML.out]; exact hkn
          have hkr : k < (rowsT m G).length := by rw [rowsT_len]; exact hkm
          obtain ⟨g, la, lk, rfl, p0, p1, p2, p3, hli0⟩ := S2.out.dp.at k hkr
          rw [rowsT_at] at p0 p1 p2 p3 hli0
          have q0 : wy.cell? ⟨g, k * 4, none⟩ = some (.int .i64 ((sn m k).pg : Int)) := p0
          have q1 : wy.cell? ⟨g, k * 4 + 1, none⟩ = some (.int .i64 ((sn m k).cl : Int)) := p1
          have q2 : wy.cell? ⟨g, k * 4 + 2, none⟩ = some (.int .i64 ((sn m k).bts : Int)) := p2
          have q3 : wy.cell? ⟨g, k * 4 + 3, none⟩ = some (.slice la (lsL (G k) (sn m k).sl).length lk) := p3
          have hli : Li w wy L2 (10 + k) la (lsL (G k) (sn m k).sl) lk := hli0
          have OKk := HS.out.ok k hkm
          have TOPk := HS.out.top k hkm
          have MOST := HS.out.most
          have ELE := (end_le HS.out G k (by omega)).1 k hkm (Nat.le_refl _)
          rw [HE0.out] at ELE
          have KB := OKk.facts.2.2.2.2.2.1
          have HAS : hasS m G k = decide ((lsL (G k) (sn m k).sl).length ≠ 0) := by unfold hasS; rw [lsL_len]
          have TN : toldU m G (k + 1) = toldU m G k ++ if hasS m G k = true then [tellOne m G k e] else [] := by rw [toldU, HE0.out]
          have EN : endU m G (k + 1) = e + if hasS m G k = true then (sn m k).k else 0 := by rw [endU, HE0.out]
          have VN : mv2U m G (k + 1) = mv2U m G k ++ if hasS m G k = true then mvIf (256 * (sn m k).pg) (256 * e) (256 * (sn m k).k) else [] := by rw [mv2U, HE0.out]
          have TE : tellOne m G k e = ⟨(e : Int), ((sn m k).cl : Int), ((sn m k).bts : Int), lsL (G k) (sn m k).sl⟩ := rfl
          have KE : pgsN ((sn m k).cl : Int) ((sn m k).bts : Int) = (sn m k).k := rfl
          obtain ⟨l, hl⟩ : ∃ l, lsL (G k) (sn m k).sl = l := ⟨_, rfl⟩
          rw [hl] at q3 hli HAS TE
          rw [TE] at TN
          obtain ⟨N, hNN⟩ : ∃ N, l.length = N := ⟨_, rfl⟩
          have HNN : Hid (l.length = N) := hNN
          rw [hNN] at q3 HAS
          obtain ⟨pg, hpg⟩ : ∃ pg, (sn m k).pg = pg := ⟨_, rfl⟩
          obtain ⟨cl, hcl⟩ : ∃ cl, (sn m k).cl = cl := ⟨_, rfl⟩
          obtain ⟨bt, hbt⟩ : ∃ bt, (sn m k).bts = bt := ⟨_, rfl⟩
          obtain ⟨K, hK⟩ : ∃ K, (sn m k).k = K := ⟨_, rfl⟩
          rw [hpg] at q0 ELE VN TOPk
          rw [hcl] at q1 TN KE
          rw [hbt] at q2 TN KE
          rw [hK] at EN VN KE KB TOPk
          have HKE : Hid (pgsN (cl : Int) (bt : Int) = K) := KE
          have HLI : Hid (Li w wy L2 (10 + k) la l lk) := hli
          obtain ⟨E, hE⟩ : ∃ E, wy.alloc (.cells #[.int .i64 (pg : Nat), .int .i64 (cl : Nat), .int .i64 (bt : Nat), .slice la N lk] 58) = E := ⟨_, rfl⟩
          have HE : Hid (wy.alloc (.cells #[.int .i64 (pg : Nat), .int .i64 (cl : Nat), .int .i64 (bt : Nat), .slice la N lk] 58) = E) := hE
          have bE : Below wy.heap.size wy E := by rw [← hE]; exact (Below.refl _ wy).alloc (Nat.le_refl _) _
          have RE : E.heap[wy.heap.size]? = some (.cells (dcells (pg : Nat) (cl : Nat) (bt : Nat) la N lk) 58 (0, 0)) := by rw [← hE]; exact Go.heap_alloc_new wy _
          have WE : ∀ Zz, Wk Zz L2 wy (cutL L2 wy.heap.size) E := fun Zz => Wk.fresh bE
          have SE : Hid (Sd w E (cutL L2 wy.heap.size) (some ⟨g, 0, none⟩) cp (rowsT m G) av2 (V ++ mv2U m G k) nv2 cm2) := S2.out.wk (WE (fun _ => False)) (fun h => h) (fun h => h) (fun h => h) (fun _ h => h)
          have LOE : Hid (Lo w E (cutL L2 wy.heap.size) ao co (toldU m G k)) := LO.out.wk (Z := fun _ => False) (fun h => h) (fun _ _ h => h) (WE _)
          have LIE : Hid (Li w E (cutL L2 wy.heap.size) (10 + k) la l lk) := HLI.out.wk (Z := fun _ => False) (fun h => h) (WE _)
          have ZE : Hid (cutL L2 wy.heap.size wy.heap.size = 0) := cutL_new (Nat.le_refl _)
          have HRE : Hid (E.heap[wy.heap.size]? = some (.cells (dcells (pg : Nat) (cl : Nat) (bt : Nat) la N lk) 58 (0, 0))) := RE
          have e0 := dcell0 RE
          have e1 := dcell1 RE
          have e2 := dcell2 RE
          have e3 := dcell3 RE
          have EBW : Hid (w.heap.size ≤ wy.heap.size) := S2.out.bel.size
          have NVB : nv2 ≤ 600000 := by
            have q := S2.out.nvl
            rw [List.length_append] at q
            have := mv2_len m G k
            omega
          have NOB : no ≤ 4096 := by rw [← NO.out]; have := told_len m G k; omega
          obtain ⟨L3, hL3⟩ : ∃ L3, cutL L2 wy.heap.size = L3 := ⟨_, rfl⟩
          rw [hL3] at SE LOE LIE ZE
          obtain ⟨eb, heb⟩ : ∃ eb, wy.heap.size = eb := ⟨_, rfl⟩
          have HEB : Hid (wy.heap.size = eb) := heb
          rw [heb] at ZE HRE e0 e1 e2 e3 EBW
          have k0 : (k : Int) < (n : Int) := by omega
          clear hli hli0 p0 p1 p2 p3 OKk hl hNN hpg hcl hbt hK hE bE RE WE hL3 heb TE KE hkm hkr
          by_cases hN0 : N = 0
          · have HF : hasS m G k = false := by rw [HAS]; simp [hN0]
            rw [HF] at TN EN VN
            simp only [Bool.false_eq_true, if_false, List.append_nil, Nat.add_zero] at TN EN VN
            have SN : Hid (Sd w E L3 (some ⟨g, 0, none⟩) cp (rowsT m G) av2 (V ++ mv2U m G (k + 1)) nv2 cm2) := by show Sd _ _ _ _ _ _ _ _ _ _; rw [VN]; exact SE.out
            have LN : Hid (Lo w E L3 ao co (toldU m G (k + 1))) := by show Lo _ _ _ _ _ _; rw [TN]; exact LOE.out
            have NN : Hid ((toldU m G (k + 1)).length = no) := by show _ = _; rw [TN]; exact NO.out
            have HEN : Hid (endU m G (k + 1) = e) := EN
            subst hN0
            clear HAS HF TN EN VN
            go_upto_region 35 with (fail)
            rw [HE.out, HEB.out]
            go_wp2
            go_roundw
            case rel => exact ⟨k + 1, L3, av2, nv2, cm2, ao, no, co, e, by omega, by congr 1, rfl, rfl, rfl, HEN.out, NN.out, SN.out, LN.out⟩
            case measure => simp [lenW]; omega
          · have HF : hasS m G k = true := by rw [HAS]; simp [hN0]
            rw [HF] at TN EN VN
            simp only [if_true] at TN EN VN
            have n0 : ((N : Int) == 0) = false := by rw [beq_eq_false_iff_ne]; omega
            have n1 : ¬ ((N : Int) = 0) := by omega
            have HEN : Hid (endU m G (k + 1) = e + K) := EN
            have HTN : Hid (toldU m G (k + 1) = toldU m G k ++ [⟨(e : Int), (cl : Int), (bt : Int), l⟩]) := TN
            have NN : Hid ((toldU m G (k + 1)).length = no + 1) := by show _ = _; rw [TN, List.length_append, NO.out]; rfl
            obtain ⟨Q1, hQ1⟩ : ∃ Q1, 256 * pg = Q1 := ⟨_, rfl⟩
            obtain ⟨Q2, hQ2⟩ : ∃ Q2, 256 * e = Q2 := ⟨_, rfl⟩
            obtain ⟨Q3, hQ3⟩ : ∃ Q3, 256 * K = Q3 := ⟨_, rfl⟩
            have w1 : IntKind.i64.wrap (256 * (pg : Int)) = (Q1 : Int) := by rw [IntKind.wrap_i64]; omega
            have w2 : IntKind.i64.wrap (256 * (e : Int)) = (Q2 : Int) := by rw [IntKind.wrap_i64]; omega
            have w3 : IntKind.i64.wrap (256 * (K : Int)) = (Q3 : Int) := by rw [IntKind.wrap_i64]; omega
            rw [hQ1, hQ2, hQ3] at VN
            clear HAS HF TN EN
            by_cases hpe : pg = e
            · have b1 : ((pg : Int) == (e : Int)) = true := by rw [beq_iff_eq]; omega
              have b2 : ((pg : Int) != (e : Int)) = false := by rw [bne, b1]; rfl
              have SM : Hid (Sd w E L3 (some ⟨g, 0, none⟩) cp (rowsT m G) av2 (V ++ mv2U m G (k + 1)) nv2 cm2) := by show Sd _ _ _ _ _ _ _ _ _ _; rw [VN, mvIf, if_pos (by omega), List.append_nil]; exact SE.out
              clear hpe hQ1 hQ2 hQ3
              have on : Only eb E (E.setCell ⟨eb, 0, none⟩ (.int .i64 (e : Nat))) := Only.set eb 0 _ E
              have WB : Wk (fun y => y = 0) L3 E L3 (E.setCell ⟨eb, 0, none⟩ (.int .i64 (e : Nat))) := ⟨fun _ _ => rfl, Tu.ofOnly on ZE.out⟩
              obtain ⟨X, hX⟩ : ∃ X, E.setCell ⟨eb, 0, none⟩ (.int .i64 (e : Nat)) = X := ⟨_, rfl⟩
              have RX : X.heap[eb]? = some (.cells (dcells (e : Nat) (cl : Nat) (bt : Nat) la N lk) 58 (0, 0)) := by rw [← hX, heap_put HRE.out]; simp [dcells]
              rw [hX] at on WB
              have BX : Below w.heap.size w X := SM.out.bel.trans (on.below EBW.out)
              have SX : Sd w X L3 (some ⟨g, 0, none⟩) cp (rowsT m G) av2 (V ++ mv2U m G (k + 1)) nv2 cm2 := ⟨SM.out.dp.wk (by omega) (fun _ => by omega) WB, SM.out.mv.wk (by omega) WB, SM.out.nvl, SM.out.low, BX⟩
              have LOX := LOE.out.wk (by omega) (fun _ _ => by omega) WB
              have LIX := LIE.out.wk (by omega) WB
              obtain ⟨D9, hD9⟩ : ∃ D9, X.alloc (.cells #[.int .i64 (e : Nat), .int .i64 (cl : Nat), .int .i64 (bt : Nat), .slice la N lk] 58) = D9 := ⟨_, rfl⟩
              obtain ⟨a9, c9, w9, L9, run9, lo9, wk9⟩ := lo_app LOX BX.size no NO.out (by omega) ⟨(e : Int), (cl : Int), (bt : Int), l⟩ la lk N HNN.out LIX.1 (fun q hq => by have := LIX.2 q hq; omega) D9 hD9
              have HX : Hid (E.setCell ⟨eb, 0, none⟩ (.int .i64 (e : Nat)) = X) := hX
              have HD9 : Hid (X.alloc (.cells #[.int .i64 (e : Nat), .int .i64 (cl : Nat), .int .i64 (bt : Nat), .slice la N lk] 58) = D9) := hD9
              have RUN9 : Hid ((Builtin.append_ #[24, 24] 24 #[.slice ao no co, .slice (some ⟨X.heap.size, 0, none⟩) 1 1]).run Tryd.prog D9 = .ok (.slice a9 (no + 1) c9) w9) := run9
              have S9 : Hid (Sd w w9 L9 (some ⟨g, 0, none⟩) cp (rowsT m G) av2 (V ++ mv2U m G (k + 1)) nv2 cm2) := SX.wk wk9 (by omega) (by omega) (by omega) (fun _ => by omega)
              have LO9 : Hid (Lo w w9 L9 a9 c9 (toldU m G (k + 1))) := by show Lo _ _ _ _ _ _; rw [HTN.out]; exact lo9
              have x0 := dcell0 RX
              have x1 := dcell1 RX
              have x2 := dcell2 RX
              have x3 := dcell3 RX
              have m0 := dcell0 HRE.out
              have m1 := dcell1 HRE.out
              have m2 := dcell2 HRE.out
              have m3 := dcell3 HRE.out
              have fm : E.frozen? ⟨eb, 0, none⟩ = false := frozen_of_row _ _ _ _ _ HRE.out
              clear on WB RX BX SX LOX LIX run9 lo9 wk9 hD9 VN
              go_upto_region 35 with (fail)
              rw [HE.out, HEB.out]
              go_wp2_with (first
                | (go_at_call 30; refine (rpages_any (cl : Int) (bt : Int) _ K HKE.out).mono ?_; rintro e' w' ⟨rfl, rfl⟩)
                | (at_builtin; (try rw [HX.out]); (try rw [HD9.out]); refine wpList_run rfl 24 rfl _ _ rfl (.slice ao no co) (.slice (some ⟨X.heap.size, 0, none⟩) 1 1) _ _ rfl rfl RUN9.out ?_))
              go_roundw
              case rel => exact ⟨k + 1, L9, av2, nv2, cm2, a9, no + 1, c9, e + K, by omega, by congr 1, rfl, rfl, by congr 1, HEN.out, NN.out, S9.out, LO9.out⟩
              case measure => simp [lenW]; omega
            · have b1 : ((pg : Int) == (e : Int)) = false := by rw [beq_eq_false_iff_ne]; omega
              have b2 : ((pg : Int) != (e : Int)) = true := by rw [bne, b1]; rfl
              have b3 : ¬ ((pg : Int) = (e : Int)) := by omega
              obtain ⟨D8, hD8⟩ : ∃ D8, E.alloc (.cells #[.int .i64 (Q1 : Nat), .int .i64 (Q2 : Nat), .int .i64 (Q3 : Nat)] 92) = D8 := ⟨_, rfl⟩
              obtain ⟨a8, c8, w8, L8, run8, lm8, wk8⟩ := lm_app SE.out.mv SE.out.bel.size nv2 SE.out.nvl ⟨(Q1 : Int), (Q2 : Int), (Q3 : Int)⟩ (by omega) D8 hD8
              have HD8 : Hid (E.alloc (.cells #[.int .i64 (Q1 : Nat), .int .i64 (Q2 : Nat), .int .i64 (Q3 : Nat)] 92) = D8) := hD8
              have RUN8 : Hid ((Builtin.append_ #[88, 88] 88 #[.slice av2 nv2 cm2, .slice (some ⟨E.heap.size, 0, none⟩) 1 1]).run Tryd.prog D8 = .ok (.slice a8 (nv2 + 1) c8) w8) := run8
              have SM : Hid (Sd w w8 L8 (some ⟨g, 0, none⟩) cp (rowsT m G) a8 (V ++ mv2U m G (k + 1)) (nv2 + 1) c8) := by
                show Sd _ _ _ _ _ _ _ _ _ _
                rw [VN, mvIf, if_neg (by omega), ← List.append_assoc]
                exact SE.out.moved wk8 lm8
              clear hpe hQ1 hQ2 hQ3
              have LO8 : Hid (Lo w w8 L8 ao co (toldU m G k)) := LOE.out.wk (by omega) (fun _ _ => by omega) wk8
              have LI8 : Hid (Li w w8 L8 (10 + k) la l lk) := LIE.out.wk (by omega) wk8
              obtain ⟨r8, z8⟩ := wk8.box (by omega) HRE.out ZE.out
              have HR8 : Hid (w8.heap[eb]? = some (.cells (dcells (pg : Nat) (cl : Nat) (bt : Nat) la N lk) 58 (0, 0))) := r8
              have Z8 : Hid (L8 eb = 0) := z8
              clear hD8 run8 lm8 wk8 r8 z8
              have on : Only eb w8 (w8.setCell ⟨eb, 0, none⟩ (.int .i64 (e : Nat))) := Only.set eb 0 _ w8
              have WB : Wk (fun y => y = 0) L8 w8 L8 (w8.setCell ⟨eb, 0, none⟩ (.int .i64 (e : Nat))) := ⟨fun _ _ => rfl, Tu.ofOnly on Z8.out⟩
              obtain ⟨X, hX⟩ : ∃ X, w8.setCell ⟨eb, 0, none⟩ (.int .i64 (e : Nat)) = X := ⟨_, rfl⟩
              have RX : X.heap[eb]? = some (.cells (dcells (e : Nat) (cl : Nat) (bt : Nat) la N lk) 58 (0, 0)) := by rw [← hX, heap_put HR8.out]; simp [dcells]
              rw [hX] at on WB
              have BX : Below w.heap.size w X := SM.out.bel.trans (on.below EBW.out)
              have SX : Sd w X L8 (some ⟨g, 0, none⟩) cp (rowsT m G) a8 (V ++ mv2U m G (k + 1)) (nv2 + 1) c8 := ⟨SM.out.dp.wk (by omega) (fun _ => by omega) WB, SM.out.mv.wk (by omega) WB, SM.out.nvl, SM.out.low, BX⟩
              have LOX := LO8.out.wk (by omega) (fun _ _ => by omega) WB
              have LIX := LI8.out.wk (by omega) WB
              obtain ⟨D9, hD9⟩ : ∃ D9, X.alloc (.cells #[.int .i64 (e : Nat), .int .i64 (cl : Nat), .int .i64 (bt : Nat), .slice la N lk] 58) = D9 := ⟨_, rfl⟩
              obtain ⟨a9, c9, w9, L9, run9, lo9, wk9⟩ := lo_app LOX BX.size no NO.out (by omega) ⟨(e : Int), (cl : Int), (bt : Int), l⟩ la lk N HNN.out LIX.1 (fun q hq => by have := LIX.2 q hq; omega) D9 hD9
              have HX : Hid (w8.setCell ⟨eb, 0, none⟩ (.int .i64 (e : Nat)) = X) := hX
              have HD9 : Hid (X.alloc (.cells #[.int .i64 (e : Nat), .int .i64 (cl : Nat), .int .i64 (bt : Nat), .slice la N lk] 58) = D9) := hD9
              have RUN9 : Hid ((Builtin.append_ #[24, 24] 24 #[.slice ao no co, .slice (some ⟨X.heap.size, 0, none⟩) 1 1]).run Tryd.prog D9 = .ok (.slice a9 (no + 1) c9) w9) := run9
              have S9 : Hid (Sd w w9 L9 (some ⟨g, 0, none⟩) cp (rowsT m G) a8 (V ++ mv2U m G (k + 1)) (nv2 + 1) c8) := SX.wk wk9 (by omega) (by omega) (by omega) (fun _ => by omega)
              have LO9 : Hid (Lo w w9 L9 a9 c9 (toldU m G (k + 1))) := by show Lo _ _ _ _ _ _; rw [HTN.out]; exact lo9
              have x0 := dcell0 RX
              have x1 := dcell1 RX
              have x2 := dcell2 RX
              have x3 := dcell3 RX
              have m0 := dcell0 HR8.out
              have m1 := dcell1 HR8.out
              have m2 := dcell2 HR8.out
              have m3 := dcell3 HR8.out
              have fm : w8.frozen? ⟨eb, 0, none⟩ = false := frozen_of_row _ _ _ _ _ HR8.out
              clear on WB RX BX SX LOX LIX run9 lo9 wk9 hD9 VN
              go_upto_region 35 with (fail)
              rw [HE.out, HEB.out]
              go_wp2_with (first
                | (go_at_call 30; refine (rpages_any (cl : Int) (bt : Int) _ K HKE.out).mono ?_; rintro e' w' ⟨rfl, rfl⟩)
                | (at_builtin; (try rw [HD8.out]); refine wpList_run rfl 88 rfl _ _ rfl (.slice av2 nv2 cm2) (.slice (some ⟨E.heap.size, 0, none⟩) 1 1) _ _ rfl rfl RUN8.out ?_)
                | (at_builtin; (try rw [HX.out]); (try rw [HD9.out]); refine wpList_run rfl 24 rfl _ _ rfl (.slice ao no co) (.slice (some ⟨X.heap.size, 0, none⟩) 1 1) _ _ rfl rfl RUN9.out ?_))
              go_roundw
              case rel => exact ⟨k + 1, L9, a8, (nv2 + 1), c8, a9, no + 1, c9, e + K, by omega, by congr 1, rfl, rfl, by congr 1, HEN.out, NN.out, S9.out, LO9.out⟩
              case measure => simp [lenW]; omega
        · obtain rfl : k = n := by omega
          have FIN : Hid (RPlan w ts (.returned (.tuple #[.slice ao no co, .slice av2 nv2 cm2])) wy) := by
            refine RPE.out _ _ ⟨ao, no, co, av2, nv2, cm2, rfl, ?_, ?_, ?_, ?_, S2.out.bel⟩
            · rw [PT.out]; exact NO.out
            · rw [PV.out]; exact S2.out.nvl
            · rw [PT.out, ← NO.out]; exact LO.out.told
            · rw [PV.out]; exact S2.out.mv.1
          go_wp2
          go_ret2
          exact FIN.out
end Go.Proofs.YtebmegghojiegaaDoor
