/- look: its first loop. -/
import Derived.Test.YtbfamjnnlcopiaaGreatDoorGzAX
namespace Go.Proofs.YtbfamjnnlcopiaaGreatDoor
open Go.RowKit Go.Shelf
set_option linter.unusedVariables false
set_option maxRecDepth 4000
attribute [local go_sem] Oper.semAt_some

theorem Rv.below {w w' : World} {V : Vw} {A : Va} {n0 : Nat} (h : Rv w V A) (hb : Below n0 w w') (hn : w.heap.size = n0) : Rv w' V A := h.keep (by rw [hn]; exact hb)
/-! The operations of the store into the map of rows, whose order the model draws. -/
def qr0 : Oper := { dst := some 44, op := Op.load 106 (Operand.tmp 3), type := 106, pos := "audit.go:66", after := #[], guard := none }
def qr1 : Oper := { dst := some 45, op := Op.nilCheck (Operand.tmp 44), type := 0, pos := "audit.go:66", after := #[{ on := 0, ground := Ground.data }], guard := none }
def qr2 : Oper := { dst := some 46, op := Op.fieldAddr 142 (Operand.tmp 45) 2, type := 0, pos := "audit.go:66", after := #[{ on := 1, ground := Ground.data }], guard := none }
def qr3 : Oper := { dst := some 47, op := Op.load 140 (Operand.tmp 46), type := 140, pos := "audit.go:66", after := #[{ on := 2, ground := Ground.data }], guard := none }
def qr4 : Oper := { dst := some 48, op := Op.fieldAddr 73 (Operand.tmp 9) 3, type := 0, pos := "audit.go:66", after := #[], guard := none }
def qr5 : Oper := { dst := some 49, op := Op.load 3 (Operand.tmp 48), type := 3, pos := "audit.go:66", after := #[{ on := 4, ground := Ground.data }], guard := none }
def qr6 : Oper := { dst := some 50, op := Op.move (Operand.tmp 8), type := 3, pos := "audit.go:66", after := #[], guard := none }
def qr7 : Oper := { dst := none, op := Op.mapUpdate 140 (Operand.tmp 47) (Operand.tmp 49) (Operand.tmp 50), type := 0, pos := "audit.go:66", after := #[{ on := 3, ground := Ground.data }, { on := 5, ground := Ground.data }, { on := 6, ground := Ground.data }, { on := 0, ground := Ground.phase }, { on := 1, ground := Ground.phase }, { on := 2, ground := Ground.phase }, { on := 3, ground := Ground.phase }, { on := 4, ground := Ground.phase }, { on := 5, ground := Ground.phase }, { on := 6, ground := Ground.phase }], guard := none }
def plainOps (ops : Array Oper) : Bool := ops.all fun o => match o.op with
  | .defer _ => false
  | _ => true
theorem plainOps_spec {ops : Array Oper} (h : plainOps ops = true) : ∀ (i : Nat) (o : Oper), ops[i]? = some o → ∀ c, o.op ≠ .defer c := fun i o ho c hc => by
  have := Array.all_eq_true.1 h i (Array.getElem?_eq_some_iff.1 ho).1
  rw [(Array.getElem?_eq_some_iff.1 ho).2, hc] at this
  cases this
set_option maxRecDepth 20000 in
set_option maxHeartbeats 4000000 in
theorem look_any (V : Vw) (A : Va) (w : World) (h : Rv w V A) (hT : Tabs w) :
    Calls Tryz.prog 64 #[.agg #[.int .i64 V.base, .int .i64 V.pgs, .slice A.ka A.kn A.kc, .slice A.ra A.rn A.rc, .slice A.sa A.sn A.sc, .slice A.ba A.bn A.bc]] w fun e w' => ∃ lb ms mi nf nr f, e = .returned (.pointer (some ⟨lb, 0, none⟩)) ∧ Lk w' lb ms mi V A nf nr f ∧ w.heap.size ≤ lb ∧ Below w.heap.size w w' := by
  obtain ⟨D, hD, la0, zD⟩ := look_blocks w V A hT
  obtain ⟨base, pgs, ks, rs, ts, bs⟩ := V
  obtain ⟨ka, ra, sa, ba, kn, rn, sn, bn, kc, rc, sc, bc⟩ := A
  obtain ⟨n0, hn0⟩ : ∃ n0, w.heap.size = n0 := ⟨_, rfl⟩
  have HN0 : Hid (w.heap.size = n0) := hn0
  rw [hn0] at la0 zD hD
  have HD : Hid (D.heap.size = n0 + 5) := zD
  obtain ⟨VV, hVV⟩ : ∃ VV : Vw, (⟨base, pgs, ks, rs, ts, bs⟩ : Vw) = VV := ⟨_, rfl⟩
  obtain ⟨AA, hAA⟩ : ∃ AA : Va, (⟨ka, ra, sa, ba, kn, rn, sn, bn, kc, rc, sc, bc⟩ : Va) = AA := ⟨_, rfl⟩
  have sl : ts.length = sn := h.sl
  have tz : ts.length ≤ 64 := h.tz
  have c4 : D.cell? ⟨n0, 4, none⟩ = some (.slice sa sn sc) := cell_of_row _ _ 4 _ _ _ la0.vb
  rw [hVV, hAA] at la0 h
  have HVT : Hid (VV.ts = ts) := by show VV.ts = ts; rw [← hVV]
  have HVR : Hid (VV.rs = rs) := by show VV.rs = rs; rw [← hVV]
  have HAT : Hid (AA.sa = sa) := by show AA.sa = sa; rw [← hAA]
  have HAR : Hid (AA.ra = ra ∧ AA.rn = rn ∧ AA.rc = rc) := by show _ ∧ _ ∧ _; rw [← hAA]; exact ⟨rfl, rfl, rfl⟩
  have r300 : rn ≤ 300 := by have h1 := h.rz; have h2 := h.rl; rw [← hVV] at h1 h2; rw [← hAA] at h2; simp only at h1 h2; omega
  have HRL : Hid (rs.length = rn) := by show rs.length = rn; have h2 := h.rl; rw [← hVV, ← hAA] at h2; exact h2
  have L0 : Hid (La w D n0 VV AA 0 0 (fun _ => none)) := la0
  have HV : Hid (Rv w VV AA) := h
  have s64 : sn ≤ 64 := by omega
  have HSL : Hid (ts.length = sn) := sl
  simp only at hD
  have mm1 : ∀ w : World, (Instr.makeMap 139 none).run Tryz.prog w = .ok (.map (some w.heap.size)) (w.alloc (.map #[] 0)) := fun w => run_makeMap _ w
  have mm2 : ∀ w : World, (Instr.makeMap 140 none).run Tryz.prog w = .ok (.map (some w.heap.size)) (w.alloc (.map #[] 0)) := fun w => run_makeMap _ w
  have HVV : Hid ((⟨base, pgs, ks, rs, ts, bs⟩ : Vw) = VV) := hVV
  have HAA : Hid ((⟨ka, ra, sa, ba, kn, rn, sn, bn, kc, rc, sc, bc⟩ : Va) = AA) := hAA
  clear h hT la0 zD sl tz hVV hAA
  refine (callsIn_wide (n := 10)).1 ?_
  refine callsIn_of_wp_marks Tryz.func64 rfl trivial ?_ rfl
  simp only [Tryz.ntmps64, List.size_toArray, List.length_cons, List.length_nil, Nat.reduceAdd, Nat.reduceSub, Array.replicate_succ, Array.replicate_zero, List.push_toArray, List.append_toArray, List.nil_append, List.cons_append]
  refine wpIn_wide.2 ?_
  go_wp2_with fail
  go_loopw [18] (fun iv wz => ∃ (k nf : Nat) (f : Int → Option Nat), k ≤ sn ∧ iv = .int .i64 (k : Nat) ∧ La w wz n0 VV AA k nf f ∧ n0 + 5 ≤ wz.heap.size) (fun iv _ => sn - lenW iv)
  case atStart => exact ⟨0, 0, fun _ => none, Nat.zero_le _, rfl, L0.out, by rw [HD.out]; exact Nat.le_refl _⟩
  case round =>
    clear L0 HD
    obtain ⟨k, nf, f, hk, rfl, hLa, hz⟩ := hrel
    rename World => wz
    have LA : Hid (La w wz n0 VV AA k nf f) := hLa
    have HZ : Hid (n0 + 5 ≤ wz.heap.size) := hz
    by_cases hkn : k < sn
    · have hkt : k < ts.length := by rw [HSL.out]; exact hkn
      have hts := (HV.out.below hLa.bel HN0.out).ts
      have hti := HV.out.ti
      rw [HVT.out] at hts hti
      rw [HAT.out] at hts
      obtain ⟨g, off, la, lk, rfl, q0, q1, q2, q3, hI, hl⟩ := hts k hkt
      have hrg := hti ts[k] (List.getElem_mem hkt)
      have hDk : tdD ts k = ts[k] := tdD_at hkt
      obtain ⟨t, ht⟩ : ∃ t, ts[k] = t := ⟨_, rfl⟩
      rw [ht] at q0 q1 q2 q3 hI hl hrg hDk
      have HTD : Hid (tdD ts k = t) := hDk
      obtain ⟨p, c, s, l⟩ := t
      simp only at q0 q1 q2 q3 hI hl hrg
      have LL : Hid (l.length ≤ maxLen) := hl
      obtain ⟨E, hE⟩ : ∃ E, wz.alloc (.cells #[.int .i64 p, .int .i64 c, .int .i64 s, .slice la l.length lk] 33) = E := ⟨_, rfl⟩
      have bE : Below wz.heap.size wz E := by rw [← hE]; exact (Below.refl _ wz).alloc (Nat.le_refl _) _
      have BE : Hid (Below wz.heap.size wz E) := bE
      have RE : E.heap[wz.heap.size]? = some (.cells (dcells p c s la l.length lk) 33 (0, 0)) := by rw [← hE]; exact Go.heap_alloc_new wz _
      have HEE : Hid (wz.alloc (.cells #[.int .i64 p, .int .i64 c, .int .i64 s, .slice la l.length lk] 33) = E) := hE
      have e0 := dcell0 RE
      have e1 := dcell1 RE
      have e2 := dcell2 RE
      have e3 := dcell3 RE
      have TE : Hid (Tabs E) := hLa.tab.keep bE
      have IE : Hid (IsI E la l) := hI.keep bE
      have k0 : (k : Int) < (sn : Int) := by omega
      clear hI hl hE RE ht hDk bE hLa hz hkt hts hti
      by_cases hof : newE p c s = 0 ∧ okL (slN c) (-1) l = true
      · have HOF : Hid (newE p c s = 0 ∧ okL (slN c) (-1) l = true) := hof
        clear hof
        go_upto_region 5 with (fail)
        rw [HEE.out]
        go_wp2_with fail
        refine (of_ok p c s la lk l _ TE.out IE.out LL.out HOF.out.1 HOF.out.2).mono ?_
        rintro e' w2 ⟨sb, b, g2, rfl, sp2⟩
        have SPR := sp2.back BE.out
        have L2 : La w w2 n0 VV AA k nf f := LA.out.keep SPR.low (by have := HZ.out; omega)
        have L2d : La w w2.drew n0 VV AA k nf f := L2.keep (Below.refl _ w2).drew (by have := HZ.out; have := SPR.low.size; omega)
        have BX : Hid (Bx w2 sb p c s) := sp2.at'.box
        have u0 : w2.cell? ⟨n0 + 4, 0, none⟩ = some (.pointer (some ⟨n0 + 3, 0, none⟩)) := cell_of_row _ _ 0 _ _ _ L2.pv
        have u1 : w2.cell? ⟨n0 + 3, 6, none⟩ = some (.map (some (n0 + 1))) := cell_of_row _ _ 6 _ _ _ L2.lb
        have hkn' : nf < 1000000 := by have := L2.nk; omega
        obtain ⟨w3, run3, mp3, on3⟩ := L2d.mp.store hkn' (i := p) hrg sb
        have gs := SPR.gs
        have gb := SPR.gb
        have gg := SPR.gg
        have z5 := HZ.out
        have L3 : Hid (∃ nf' f', La w w3 n0 VV AA (k + 1) nf' f') := by
          have hh : tdD VV.ts k = ⟨p, c, s, l⟩ := by rw [HVT.out]; exact HTD.out
          refine ⟨nf + 1, _, L2d.put (sb := sb) (b := b) (g := g2) (by rw [hh]; exact HOF.out) (by rw [hh]; exact sp2.at'.drew) (by omega) (by omega) (by omega) (by rw [hh]; exact mp3) on3⟩
        have Z3 : Hid (n0 + 5 ≤ w3.heap.size) := by show _ ≤ _; rw [on3.size]; have := SPR.low.size; show _ ≤ w2.heap.size; omega
        have v0 : w3.cell? ⟨n0 + 4, 0, none⟩ = some (.pointer (some ⟨n0 + 3, 0, none⟩)) := by rw [on3.cell (p := ⟨n0 + 4, 0, none⟩) (by show n0 + 4 ≠ n0 + 1; omega)]; exact u0
        have v1 : w3.cell? ⟨n0 + 3, 6, none⟩ = some (.map (some (n0 + 1))) := by rw [on3.cell (p := ⟨n0 + 3, 6, none⟩) (by show n0 + 3 ≠ n0 + 1; omega)]; exact u1
        clear sp2 SPR L2 L2d mp3 on3 gs gb gg z5 e0 e1 e2 e3 q0 q1 q2 q3
        go_wp2_with fail
        go_region_held3 (fun w' => w'.cell? ⟨n0 + 4, 0, none⟩ = some (.pointer (some ⟨n0 + 3, 0, none⟩)) ∧ w'.cell? ⟨n0 + 3, 6, none⟩ = some (.map (some (n0 + 1)))) (first | exact ⟨u0, u1⟩ | exact ⟨v0, v1⟩)
          ((go_at_call 97; refine (page_any sb p c s _ BX.out.drew).mono ?_; rintro e w' ⟨rfl, rfl⟩))
        go_wp2
        obtain ⟨nf', f', L3'⟩ := L3.out
        go_roundw
        case rel => exact ⟨k + 1, nf', f', by omega, by congr 1, L3', Z3.out⟩
        case measure => simp [lenW]; omega
      · obtain ⟨x, hx0, hx⟩ : ∃ x : Int, x ≠ 0 ∧ ((newE p c s = x ∧ x ≠ 0) ∨ (newE p c s = 0 ∧ okL (slN c) (-1) l = false ∧ x = 4)) := by
          by_cases e : newE p c s = 0
          · refine ⟨4, by decide, .inr ⟨e, ?_, rfl⟩⟩
            cases eo : okL (slN c) (-1) l with
            | false => rfl
            | true => exact absurd ⟨e, eo⟩ hof
          · exact ⟨_, e, .inl ⟨rfl, e⟩⟩
        have HX : Hid ((newE p c s = x ∧ x ≠ 0) ∨ (newE p c s = 0 ∧ okL (slN c) (-1) l = false ∧ x = 4)) := hx
        have x0 : (x == 0) = false := beq_eq_false_iff_ne.2 hx0
        have NR : Hid (¬ rightT (tdD VV.ts k)) := fun hr => by
          rw [HVT.out, HTD.out] at hr
          exact hof hr
        clear hof hx
        go_upto_region 5 with (fail)
        rw [HEE.out]
        go_wp2_with (go_at_call 61; refine (of_fail p c s la lk l x _ TE.out IE.out LL.out hrg HX.out).mono ?_; rintro e' w2 ⟨rfl, b2⟩; have B2 : Hid (Below wz.heap.size wz w2) := BE.out.trans (b2.mono BE.out.size); clear b2)
        have L3 : La w w2 n0 VV AA (k + 1) nf f := (LA.out.keep B2.out (by have := HZ.out; omega)).more NR.out
        have Z3 : n0 + 5 ≤ w2.heap.size := by have := HZ.out; have := B2.out.size; omega
        go_roundw
        case rel => exact ⟨k + 1, nf, f, by omega, by congr 1, L3, Z3⟩
        case measure => simp [lenW]; omega
    · obtain rfl : k = sn := by omega
      have c3 : wz.cell? ⟨n0, 3, none⟩ = some (.slice ra rn rc) := by
        have := cell_of_row _ _ 3 _ _ _ hLa.vb
        obtain ⟨r1, r2, r3⟩ := HAR.out
        rw [← r1, ← r2, ← r3]
        exact this
      go_wp2_with (go_at_call 98; refine (back_in 0 ra rn rc _).mono ?_; rintro e w2 ⟨rfl, rfl⟩)
      obtain ⟨W0, hW0⟩ : ∃ W0, wz.alloc (.cells #[.slice ra rn rc] 23) = W0 := ⟨_, rfl⟩
      have z1 : W0.heap.size = wz.heap.size + 1 := by rw [← hW0]; simp
      have bW : Below wz.heap.size wz W0 := by rw [← hW0]; exact (Below.refl _ wz).alloc (Nat.le_refl _) _
      have cb : W0.cell? ⟨wz.heap.size, 0, none⟩ = some (.slice ra rn rc) := by rw [← hW0]; exact cell_of_row _ _ 0 _ _ _ (Go.heap_alloc_new wz _)
      have LW : Hid (La w W0 n0 VV AA k nf f) := hLa.keep bW (by omega)
      have hi1 : IsW w ra rs := by have := HV.out.rs; rw [HVR.out, HAR.out.1] at this; exact this
      have isw : IsW W0 ra rs := hi1.keep (by rw [HN0.out]; exact LW.out.bel)
      have ha : ∀ p, ra = some p → rs ≠ [] → p.block < W0.heap.size ∧ p.block ≠ n0 + 2 := fun p hp hne => by
        rcases hi1 with e | ⟨b, off, e, hb, _⟩
        · exact absurd e hne
        · rw [hp] at e; cases e
          have := HN0.out
          show b < _ ∧ b ≠ _
          omega
      have Z0 : Hid (n0 + 5 ≤ W0.heap.size) := by show _ ≤ _; omega
      have HRI : Hid (∀ r ∈ rs, i64 r.pl ∧ i64 r.kind ∧ i64 r.gen) := by have := HV.out.ri; rw [HVR.out] at this; exact this
      have I0 : Ir w W0 W0 n0 rs [] := ⟨⟨0, Nat.le_refl _, LW.out.on⟩, Kq.refl _ _ _, LW.out.bel⟩
      rw [hW0]
      have seq := back_stops 9 (by decide) wz.heap.size W0.heap.size (n0 + 2) rn rc ra rs HRL.out r300 (by omega) (by omega) ha W0 (Nat.le_refl _) cb isw
      refine (wpIn_wide (n := 10)).1 ?_
      refine wpIn_rangeFunc_ownH (F := Fence.wide) (n := 10) (α := Ix) rfl (by decide) (gf := 116) (lb := #[.pointer (some ⟨wz.heap.size, 0, none⟩)]) rfl trivial (enters_of Tryz.func116 (by kernel_rfl) rfl) seq (fun h k => h.trans k) (fun W l o o' hl ho _ _ => kq_put W l o o' hl ho) (Below.refl _ _) (fun _ => rfl)
        (fun pre W => Ir w W0 W n0 rs pre) (fun _ _ _ => False) (Ir.own Z0.out HN0.out) (fun _ _ _ _ _ hs _ _ => hs) I0
        (fun x a' W => ∃ Bx, W0.heap.size ≤ Bx ∧ W.heap[Bx]? = some (.cells #[.int .i64 (rwD rs x.1).gen, .bool (rwD rs x.1).live, .int .i64 (rwD rs x.1).kind, .int .i64 (rwD rs x.1).pl] 73 (0, 0)) ∧ a' = { tmps := #[.agg #[.int .i64 base, .int .i64 pgs, .slice ka kn kc, .slice ra rn rc, .slice sa k sc, .slice ba bn bc], .pointer (some ⟨n0, 0, none⟩), .pointer none, .pointer (some ⟨n0 + 1 + 1 + 1 + 1, 0, none⟩), undef, u5, u6, u7, .int .i64 (x.1 : Int), .pointer (some ⟨Bx, 0, none⟩), .agg #[.int .i64 base, .int .i64 pgs, .slice ka kn kc, .slice ra rn rc, .slice sa k sc, .slice ba bn bc], .map (some (n0 + 1)), .map (some (n0 + 1 + 1)), .agg #[.int .i64 base, .int .i64 pgs, .slice ka kn kc, .slice ra rn rc, .slice sa k sc, .slice ba bn bc, .map (some (n0 + 1)), .map (some (n0 + 1 + 1))], .pointer (some ⟨n0 + 1 + 1 + 1, 0, none⟩), .pointer (some ⟨n0, 4, none⟩), .slice sa k sc, .int .i64 (k : Int), .int .i64 (k : Int), .bool false, u20, u21, u22, u23, u24, u25, u26, u27, u28, u29, u30, u31, u32, u33, u34, u35, u36, .pointer (some ⟨n0, 3, none⟩), .slice ra rn rc, .func (.func 116) #[] #[.pointer (some ⟨wz.heap.size, 0, none⟩)], .int .i64 (x.1 : Int), .agg #[.int .i64 (rwD rs x.1).gen, .bool (rwD rs x.1).live, .int .i64 (rwD rs x.1).kind, .int .i64 (rwD rs x.1).pl], undef, undef, undef, undef, undef, undef, undef, undef, undef, undef], defers := [] })
        ?hax ?assign ?body ?done ?stop
      case hax =>
        rintro x a' _ X Y row ⟨Bx, h1, h2, h3⟩ hg hr
        refine ⟨Bx, h1, ?_, h3⟩
        rw [hg.block Bx (hlt h2) (fun e => ?_)]
        · exact h2
        · obtain ⟨_, o, ho, hc⟩ := hr Bx e.symm
          rw [h2] at ho
          cases ho
          cases hc
      case assign =>
        intro l pre x W K hI hK
        simp only [encR]
        gi_wp2
        exact hK _ _ ((KeepsOthers.alloc _ _).from _) (kq_alloc W _ hI.kq.size) (hI.alloc Z0.out HN0.out _) ⟨W.heap.size, hI.kq.size, Go.heap_alloc_new W _, rfl⟩
      case body =>
        rintro l pre x a' W hl ⟨rr, hrr⟩ hI ⟨Bx, hBx, hbx, rfl⟩ hlt9
        have z5 := Z0.out
        have d1 : W.cell? ⟨Bx, 1, none⟩ = some (.bool (rwD rs x.1).live) := cell_of_row _ _ 1 _ _ _ hbx
        have d3 : W.cell? ⟨Bx, 3, none⟩ = some (.int .i64 (rwD rs x.1).pl) := cell_of_row _ _ 3 _ _ _ hbx
        have p0 : W.cell? ⟨n0 + 1 + 1 + 1 + 1, 0, none⟩ = some (.pointer (some ⟨n0 + 3, 0, none⟩)) := by
          have h1 : W.heap[n0 + 4]? = W0.heap[n0 + 4]? := hI.kq.block _ (by omega) (by omega)
          exact cell_of_row _ _ 0 _ _ _ (h1.trans LW.out.pv)
        have p7 : W.cell? ⟨n0 + 3, 7, none⟩ = some (.map (some (n0 + 2))) := by
          have h1 : W.heap[n0 + 3]? = W0.heap[n0 + 3]? := hI.kq.block _ (by omega) (by omega)
          exact cell_of_row _ _ 7 _ _ _ (h1.trans LW.out.lb)
        have hpl := rwD_i64 HRI.out x.1
        have HII : Hid (Ir w W0 W n0 rs pre) := hI
        have HLT : Hid (pre.length < 300) := by show _ < _; omega
        obtain ⟨lv, hlv⟩ : ∃ lv, (rwD rs x.1).live = lv := ⟨_, rfl⟩
        have HLV : Hid ((rwD rs x.1).live = lv) := hlv
        obtain ⟨pl, hpl2⟩ : ∃ pl, (rwD rs x.1).pl = pl := ⟨_, rfl⟩
        have HPL : Hid ((rwD rs x.1).pl = pl) := hpl2
        rw [hlv] at d1
        rw [hpl2] at d3
        cases lv with
        | false =>
          clear hI hbx hlv hpl2 z5
          gi_wp2
          exact ⟨KeepsFrom.refl _ _, Kq.refl _ _ _, HII.out.skip HLV.out⟩
        | true =>
          obtain ⟨W3, r3, o3, i3⟩ := hI.drew.put hlv (by omega) hpl
          rw [hpl2] at r3
          have I3 : Hid (Ir w W0 W3 n0 rs (pre ++ [x])) := i3
          have KF : Hid (KeepsFrom W0.heap.size W W3) := ⟨by rw [o3.size]; exact Nat.le_refl _, fun k o hk ho _ => by rw [o3.block k (by omega)]; exact ho⟩
          have KQ : Hid (Kq W0.heap.size (n0 + 2) W W3) := ⟨by rw [o3.size]; exact Nat.le_refl _, fun k _ hk => o3.block k hk⟩
          clear hI hbx hlv hpl2 z5 o3 i3
          gi_wp2
          refine wpIn_region_any (by kernel_rfl) ?_
          refine anyIn_round l rfl (plainOps_spec (by kernel_rfl)) _ _ _ _ ?_
          show wpAnyIn _ _ _ _ _ _ _ _ _ W.drew
          refine wpAnyIn_take (i := 6) (oi := qr6) (v := .int .i64 (x.1 : Int)) rfl rfl (by kernel_rfl) (by kernel_rfl) (by kernel_rfl) (fun _ _ _ h => h) ⟨.inl ⟨rfl, fun _ => rfl⟩, fun _ => rfl⟩ ?_
          simp only [qr6, Act.put, List.setIfInBounds_toArray, List.set_cons_succ, List.set_cons_zero]
          refine wpAnyIn_take (i := 4) (oi := qr4) (v := .pointer (some ⟨Bx, 3, none⟩)) rfl rfl (by kernel_rfl) (by kernel_rfl) (by kernel_rfl) (fun _ _ _ h => h) ⟨.inl ⟨rfl, by intro wz; unfold qr4; go_simp⟩, fun _ => rfl⟩ ?_
          simp only [qr4, Act.put, List.setIfInBounds_toArray, List.set_cons_succ, List.set_cons_zero]
          refine wpAnyIn_all (rs := [0, 5]) (by kernel_rfl) (by simp) ?_
          intro i hi
          have hi2 : i = 0 ∨ i = 5 := by simpa using hi
          clear hi
          rcases hi2 with rfl | rfl
          · refine wpOpIn_run (o := qr0) rfl rfl rfl rfl (by unfold qr0; go_simp; exact ⟨rfl, rfl⟩) ?_
            simp only [qr0, Act.put, List.setIfInBounds_toArray, List.set_cons_succ, List.set_cons_zero]
            refine wpAnyIn_take (i := 1) (oi := qr1) (v := .pointer (some ⟨n0 + 3, 0, none⟩)) rfl rfl (by kernel_rfl) (by kernel_rfl) (by kernel_rfl) (fun _ _ _ h => h) ⟨.inl ⟨rfl, by intro wz; unfold qr1; go_simp⟩, fun _ => rfl⟩ ?_
            simp only [qr1, Act.put, List.setIfInBounds_toArray, List.set_cons_succ, List.set_cons_zero]
            refine wpAnyIn_take (i := 2) (oi := qr2) (v := .pointer (some ⟨n0 + 3, 7, none⟩)) rfl rfl (by kernel_rfl) (by kernel_rfl) (by kernel_rfl) (fun _ _ _ h => h) ⟨.inl ⟨rfl, by intro wz; unfold qr2; go_simp⟩, fun _ => rfl⟩ ?_
            simp only [qr2, Act.put, List.setIfInBounds_toArray, List.set_cons_succ, List.set_cons_zero]
            refine wpAnyIn_all (rs := [3, 5]) (by kernel_rfl) (by simp) ?_
            intro i hi
            have hi2 : i = 3 ∨ i = 5 := by simpa using hi
            clear hi
            rcases hi2 with rfl | rfl
            · refine wpOpIn_run (o := qr3) rfl rfl rfl rfl (by unfold qr3; go_simp; exact ⟨rfl, rfl⟩) ?_
              simp only [qr3, Act.put, List.setIfInBounds_toArray, List.set_cons_succ, List.set_cons_zero]
              refine wpAnyIn_all (rs := [5]) (by kernel_rfl) (by simp) ?_
              intro i hi
              obtain rfl : i = 5 := by simpa using hi
              clear hi
              refine wpOpIn_run (o := qr5) rfl rfl rfl rfl (by unfold qr5; go_simp; exact ⟨rfl, rfl⟩) ?_
              simp only [qr5, Act.put, List.setIfInBounds_toArray, List.set_cons_succ, List.set_cons_zero]
              refine wpAnyIn_all (rs := [7]) (by kernel_rfl) (by simp) ?_
              intro i hi
              obtain rfl : i = 7 := by simpa using hi
              clear hi
              refine wpOpIn_skip (o := qr7) (w' := W3) rfl rfl rfl rfl (by unfold qr7; go_simp) ?_
              simp only [qr7, Act.put]
              refine wpAnyIn_done (by kernel_rfl) ?_ _
              exact ⟨KF.out, KQ.out, I3.out⟩
            · refine wpOpIn_run (o := qr5) rfl rfl rfl rfl (by unfold qr5; go_simp; exact ⟨rfl, rfl⟩) ?_
              simp only [qr5, Act.put, List.setIfInBounds_toArray, List.set_cons_succ, List.set_cons_zero]
              refine wpAnyIn_all (rs := [3]) (by kernel_rfl) (by simp) ?_
              intro i hi
              obtain rfl : i = 3 := by simpa using hi
              clear hi
              refine wpOpIn_run (o := qr3) rfl rfl rfl rfl (by unfold qr3; go_simp; exact ⟨rfl, rfl⟩) ?_
              simp only [qr3, Act.put, List.setIfInBounds_toArray, List.set_cons_succ, List.set_cons_zero]
              refine wpAnyIn_all (rs := [7]) (by kernel_rfl) (by simp) ?_
              intro i hi
              obtain rfl : i = 7 := by simpa using hi
              clear hi
              refine wpOpIn_skip (o := qr7) (w' := W3) rfl rfl rfl rfl (by unfold qr7; go_simp) ?_
              simp only [qr7, Act.put]
              refine wpAnyIn_done (by kernel_rfl) ?_ _
              exact ⟨KF.out, KQ.out, I3.out⟩
          · refine wpOpIn_run (o := qr5) rfl rfl rfl rfl (by unfold qr5; go_simp; exact ⟨rfl, rfl⟩) ?_
            simp only [qr5, Act.put, List.setIfInBounds_toArray, List.set_cons_succ, List.set_cons_zero]
            refine wpAnyIn_all (rs := [0]) (by kernel_rfl) (by simp) ?_
            intro i hi
            obtain rfl : i = 0 := by simpa using hi
            clear hi
            refine wpOpIn_run (o := qr0) rfl rfl rfl rfl (by unfold qr0; go_simp; exact ⟨rfl, rfl⟩) ?_
            simp only [qr0, Act.put, List.setIfInBounds_toArray, List.set_cons_succ, List.set_cons_zero]
            refine wpAnyIn_take (i := 1) (oi := qr1) (v := .pointer (some ⟨n0 + 3, 0, none⟩)) rfl rfl (by kernel_rfl) (by kernel_rfl) (by kernel_rfl) (fun _ _ _ h => h) ⟨.inl ⟨rfl, by intro wz; unfold qr1; go_simp⟩, fun _ => rfl⟩ ?_
            simp only [qr1, Act.put, List.setIfInBounds_toArray, List.set_cons_succ, List.set_cons_zero]
            refine wpAnyIn_take (i := 2) (oi := qr2) (v := .pointer (some ⟨n0 + 3, 7, none⟩)) rfl rfl (by kernel_rfl) (by kernel_rfl) (by kernel_rfl) (fun _ _ _ h => h) ⟨.inl ⟨rfl, by intro wz; unfold qr2; go_simp⟩, fun _ => rfl⟩ ?_
            simp only [qr2, Act.put, List.setIfInBounds_toArray, List.set_cons_succ, List.set_cons_zero]
            refine wpAnyIn_all (rs := [3]) (by kernel_rfl) (by simp) ?_
            intro i hi
            obtain rfl : i = 3 := by simpa using hi
            clear hi
            refine wpOpIn_run (o := qr3) rfl rfl rfl rfl (by unfold qr3; go_simp; exact ⟨rfl, rfl⟩) ?_
            simp only [qr3, Act.put, List.setIfInBounds_toArray, List.set_cons_succ, List.set_cons_zero]
            refine wpAnyIn_all (rs := [7]) (by kernel_rfl) (by simp) ?_
            intro i hi
            obtain rfl : i = 7 := by simpa using hi
            clear hi
            refine wpOpIn_skip (o := qr7) (w' := W3) rfl rfl rfl rfl (by unfold qr7; go_simp) ?_
            simp only [qr7, Act.put]
            refine wpAnyIn_done (by kernel_rfl) ?_ _
            exact ⟨KF.out, KQ.out, I3.out⟩
      case done =>
        rintro D xs W hD rfl hI hK
        have z5 := Z0.out
        have p0 : W.cell? ⟨n0 + 1 + 1 + 1 + 1, 0, none⟩ = some (.pointer (some ⟨n0 + 3, 0, none⟩)) := by
          have h1 : W.heap[n0 + 4]? = W0.heap[n0 + 4]? := hI.kq.block _ (by omega) (by omega)
          exact cell_of_row _ _ 0 _ _ _ (h1.trans LW.out.pv)
        have FIN : Hid (∃ nr, Lk (W.putObj D (.deferred none)) (n0 + 3) (n0 + 1) (n0 + 2) VV AA nf nr f ∧ Below n0 w (W.putObj D (.deferred none))) := by
          have e1 : k = VV.ts.length := by rw [HVT.out, HSL.out]
          have l9 := LW.out
          rw [e1] at l9
          have hI2 : Ir w W0 W n0 VV.rs (backs VV.rs.length VV.rs.length) := by rw [HVR.out, HRL.out]; exact hI
          have g9 := grownBy_putObj' W D (.deferred none)
          have zW := hI.kq.size
          exact look_end l9 HV.out HN0.out z5 hI2 (kq_put W D _ _ hD hK) (g9.block _ (by omega) (fun e => by cases e; omega)) ((Below.refl n0 W).grown g9 (by omega) (fun q e => by cases e; omega))
        go_wp2
        refine ⟨by simp, .inl ⟨_, _, rfl, run_takeDeferred hK, ?_⟩⟩
        obtain ⟨nr, f1, f2⟩ := FIN.out
        refine ⟨_, results_tmp rfl _ _ _, n0 + 3, n0 + 1, n0 + 2, nf, nr, f, rfl, ?_, by rw [HN0.out]; omega, by rw [HN0.out]; exact f2⟩
        rw [HVV.out, HAA.out]
        exact f1
      case stop =>
        rintro D c pre W _ _ h _
        exact h.elim
end Go.Proofs.YtbfamjnnlcopiaaGreatDoor
