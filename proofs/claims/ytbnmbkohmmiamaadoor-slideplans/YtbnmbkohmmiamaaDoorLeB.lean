/- The document's From and Right -/
import Derived.Test.YtbnmbkohmmiamaaDoorLeA
namespace Go.Proofs.YtbnmbkohmmiamaaDoor
open Go.RowKit
set_option linter.unusedVariables false

/-- What the document's From leaves, as far as it is asked here. -/
def FromE (w : World) (r : Bool) (e : Ending) (w' : World) : Prop :=
  (r = true ∧ ∃ rb, e = .returned (.tuple #[.pointer (some ⟨rb, 0, none⟩), .int .i64 0]) ∧ Below w.heap.size w w') ∨ (r = false ∧ e = .returned (.tuple #[.pointer none, .int .i64 4]) ∧ Below w.heap.size w w')
theorem std_same (P : Int) (ts : List Td) : ∀ k, stdZ P ts k = stdU P ts k ∧ endZ ts k = endT ts k
  | 0 => ⟨rfl, rfl⟩
  | k + 1 => ⟨by rw [stdZ, stdU, (std_same P ts k).1, (std_same P ts k).2]; rfl, rfl⟩

theorem mfrom_bad (p v : Int) (a : Option Addr) (n c : Nat) (w : World) (h : p < 1 ∨ 4096 < p ∨ v < 1 ∨ 8 < v) : Calls Tryd.prog 30 #[.int .i64 p, .int .i64 v, .slice a n c] w fun e w' => e = .returned (.tuple #[.pointer none, .int .i64 2]) ∧ w = w' := by
  by_cases h1 : p < 1
  · go_enter Tryd.func30, Tryd.ntmps30
    go_wp2
    go_ret2
    exact ⟨rfl, rfl⟩
  · by_cases h2 : 4096 < p
    · go_enter Tryd.func30, Tryd.ntmps30
      go_wp2
      go_ret2
      exact ⟨rfl, rfl⟩
    · by_cases h3 : v < 1
      · go_enter Tryd.func30, Tryd.ntmps30
        go_wp2
        go_ret2
        exact ⟨rfl, rfl⟩
      · have h4 : 8 < v := by omega
        go_enter Tryd.func30, Tryd.ntmps30
        go_wp2
        go_ret2
        exact ⟨rfl, rfl⟩
set_option maxRecDepth 20000 in
set_option maxHeartbeats 8000000 in
theorem mfrom_any (P W : Nat) (a : Option Addr) (n cap : Nat) (ts : List Td) (w : World) (h : RdT w a ts) (hn : ts.length = n) (hn9 : n ≤ 100000) (h2 : 2 ≤ w.heap.size) (hp : 1 ≤ P ∧ P ≤ 4096) (hw : 1 ≤ W ∧ W ≤ 8) (r : Bool) (hR : stdZ (P : Int) ts n = r) :
    Calls Tryd.prog 30 #[.int .i64 (P : Nat), .int .i64 (W : Nat), .slice a n cap] w (FromE w r) := by
  have H : Hid (RdT w a ts) := h
  have HN : Hid (ts.length = n) := hn
  have HR : Hid (stdZ (P : Int) ts n = r) := hR
  have H2 : Hid (2 ≤ w.heap.size) := h2
  have hp2 := hp.2
  have p1 : ¬ ((P : Int) < 1) := by omega
  have p2 : ¬ ((4096 : Int) < (P : Int)) := by omega
  have q1 : ¬ ((W : Int) < 1) := by omega
  have q2 : ¬ ((8 : Int) < (W : Int)) := by omega
  obtain ⟨D, hD⟩ : ∃ D, w.alloc (.cells #[.int .i64 (P : Nat), .int .i64 (W : Nat), .slice none 0 0] 84) = D := ⟨_, rfl⟩
  have bD : Below w.heap.size w D := by rw [← hD]; exact (Below.refl _ w).alloc (Nat.le_refl _) _
  have F : Hid (BornS w w.heap.size P W 0 D) := ⟨⟨none, 0, [], by rw [← hD]; exact Go.heap_alloc_new w _, World.ownsRow_nil _ _ _ _, Nat.le_refl _⟩, bD⟩
  have HD : Hid (w.alloc (.cells #[.int .i64 (P : Nat), .int .i64 (W : Nat), .slice none 0 0] 84) = D) := hD
  obtain ⟨rb, hrb⟩ : ∃ rb, w.heap.size = rb := ⟨_, rfl⟩
  have HRB : Hid (w.heap.size = rb) := hrb
  rw [hrb] at F
  clear bD hD hp hw h2 h hn hR hrb
  go_enter Tryd.func30, Tryd.ntmps30
  go_upto_region 4 with (fail)
  rw [HD.out, HRB.out]
  go_wp2_with fail
  go_loopw [9, 36] (fun ev iv wr => ∃ (k : Nat) (e : Int), k ≤ n ∧ iv = .int .i64 (k : Nat) ∧ ev = .int .i64 e ∧ endZ ts k = e ∧ stdZ (P : Int) ts k = true ∧ 0 ≤ e ∧ e ≤ (P : Int) ∧ (k : Int) ≤ e ∧ BornS w rb P W k wr) (fun _ iv _ => n - lenW iv)
  case atStart => exact ⟨0, 0, Nat.zero_le _, rfl, rfl, rfl, rfl, Int.le_refl _, by omega, by omega, F.out⟩
  case round =>
    obtain ⟨k, e, hk, rfl, rfl, he, hst, he0, heP, hke, hBR⟩ := hrel
    rename World => wr
    have HEE : Hid (endZ ts k = e) := he
    have STD : Hid (stdZ (P : Int) ts k = true) := hst
    have BR : Hid (BornS w rb P W k wr) := hBR
    have BWR : Hid (Below w.heap.size w wr) := hBR.2
    clear he hst hBR F
    by_cases hkn : k < n
    · have hkt : k < ts.length := by rw [HN.out]; exact hkn
      obtain ⟨g, off, la, lk, rfl, c0, c1, c2, c3, hI, hl⟩ := (H.out.keep BWR.out) k hkt
      have TZ : tdZ ts k = ts[k] := tdZ_at hkt
      obtain ⟨t, ht⟩ : ∃ t, ts[k] = t := ⟨_, rfl⟩
      rw [ht] at c0 c1 c2 c3 hI hl TZ
      have OKT : okD (P : Int) (endZ ts k) (tdZ ts k) = okD (P : Int) e t := by rw [TZ, HEE.out]
      have BAD : Hid (okD (P : Int) e t = false → r = false) := fun e0 => by
        rw [← HR.out]
        exact stdZ_false (by rw [OKT, e0]) n hkn
      have NXT : Hid (okD (P : Int) e t = true → stdZ (P : Int) ts (k + 1) = true) := fun e0 => by rw [stdZ, STD.out, OKT, e0]; rfl
      have NEND : Hid (endZ ts (k + 1) = t.p + (pgsN t.c t.s : Int)) := by show _ = _; rw [endZ, TZ]
      obtain ⟨p, c, s, l⟩ := t
      simp only at c0 c1 c2 c3 hI hl NEND
      have LL : Hid (l.length ≤ maxLen) := hl
      obtain ⟨E, hE⟩ : ∃ E, wr.alloc (.cells #[.int .i64 p, .int .i64 c, .int .i64 s, .slice la l.length lk] 46) = E := ⟨_, rfl⟩
      have HE : Hid (wr.alloc (.cells #[.int .i64 p, .int .i64 c, .int .i64 s, .slice la l.length lk] 46) = E) := hE
      have BE : Hid (Below wr.heap.size wr E) := by show Below _ _ _; rw [← hE]; exact (Below.refl _ wr).alloc (Nat.le_refl _) _
      have RE : E.heap[wr.heap.size]? = some (.cells (dcells p c s la l.length lk) 46 (0, 0)) := by rw [← hE]; exact Go.heap_alloc_new wr _
      have HRE : Hid (E.heap[wr.heap.size]? = some (.cells (dcells p c s la l.length lk) 46 (0, 0))) := RE
      have e0 := dcell0 RE
      have e1 := dcell1 RE
      have e2 := dcell2 RE
      have e3 := dcell3 RE
      have IE : Hid (IsI E la l) := hI.keep BE.out
      have k0 : (k : Int) < (n : Int) := by omega
      clear hI hl hE RE ht TZ OKT hkt
      by_cases hne : newE p c s = 0
      · have HNE : Hid (newE p c s = 0) := hne
        have RT := newE_rt hne
        obtain ⟨p, rfl⟩ : ∃ p' : Nat, p = p' := ⟨p.toNat, by have := RT.p0; omega⟩
        obtain ⟨c, rfl⟩ : ∃ c' : Nat, c = c' := ⟨c.toNat, by have := RT.c0; omega⟩
        obtain ⟨s, rfl⟩ : ∃ s' : Nat, s = s' := ⟨s.toNat, ((td_nums hne).2.2).symm⟩
        have pk := pgsN_le (c : Int) (s : Int)
        have pp1 := RT.p1
        have G1 := RT.facts.2.2.2.2.2.2.1
        have n16 := RT.facts.2.1
        obtain ⟨G, hG⟩ : ∃ G, pgsN (c : Int) (s : Int) = G := ⟨_, rfl⟩
        have HG : Hid (pgsN (c : Int) (s : Int) = G) := hG
        obtain ⟨ns, hns⟩ : ∃ ns, slN (c : Int) = ns := ⟨_, rfl⟩
        have HNS : Hid (slN (c : Int) = ns) := hns
        rw [hG] at pk pp1 G1 NEND
        rw [hns] at n16
        obtain ⟨q, hq⟩ : ∃ q, okL ns (-1) l = q := ⟨_, rfl⟩
        have HQ : Hid (okL ns (-1) l = q) := hq
        have OKE : Hid (q = true → okD (P : Int) e ⟨(p : Int), (c : Int), (s : Int), l⟩ = decide (e ≤ (p : Int) ∧ (p : Int) + (G : Int) ≤ (P : Int))) := fun eq => by
          unfold okD
          show decide (newE (p : Int) (c : Int) (s : Int) = 0 ∧ okL (slN (c : Int)) (-1) l = true ∧ e ≤ (p : Int) ∧ (p : Int) + (pgsN (c : Int) (s : Int) : Int) ≤ (P : Int)) = _
          rw [hG, hns]
          congr 1
          exact propext ⟨fun h => ⟨h.2.2.1, h.2.2.2⟩, fun h => ⟨hne, hq.trans eq, h.1, h.2⟩⟩
        have OKF : Hid (q = false → okD (P : Int) e ⟨(p : Int), (c : Int), (s : Int), l⟩ = false) := fun eq => by
          refine decide_eq_false (fun h => ?_)
          have h2 : okL (slN (c : Int)) (-1) l = true := h.2.1
          rw [hns, hq, eq] at h2; cases h2
        clear hne RT hG hns hq
        go_upto_region 8 with (fail)
        rw [HE.out]
        go_wp2_with fail
        refine (rof_any (p : Int) (c : Int) (s : Int) la lk l ns q _ IE.out LL.out HNE.out HNS.out HQ.out).mono ?_
        rintro e' w2 ⟨b2, ⟨hqf, rfl⟩ | ⟨hqt, mb, mg, rfl, hRef, gmb, gmg⟩⟩
        · have RF : Hid (r = false) := BAD.out (OKF.out hqf)
          have B2 : Hid (Below w.heap.size w w2) := BWR.out.trans ((BE.out.trans (b2.mono BE.out.size)).mono BWR.out.size)
          clear b2 hqf
          go_wp2
          go_ret2
          exact .inr ⟨RF.out, rfl, B2.out⟩
        · have B2 : Hid (Below wr.heap.size wr w2) := BE.out.trans (b2.mono BE.out.size)
          have REF : Hid (Ref w2 mb mg (p : Int) (c : Int) (s : Int) ns (fOf l)) := hRef
          have d0 := bcell b2 e0
          have d1 := bcell b2 e1
          have d2 := bcell b2 e2
          have m3 := hRef.c3
          have MK : ∀ w0 : World, (Instr.makeSlice 44 (.int .i64 (ns : Nat)) (.int .i64 (ns : Nat))).run Tryd.prog w0 = .ok (.slice (some ⟨w0.heap.size, 0, none⟩) ns ns) (w0.alloc (.cells (zst ns) 3)) := fun w0 => make_I w0 ns (by omega)
          have HQT : Hid (q = true) := hqt
          clear b2 hRef gmb gmg hqt e0 e1 e2 e3 c0 c1 c2 c3
          go_upto_region 11 with (fail)
          go_cut [14] from 47 to 59 (fun v wx => ∃ xb q0, v = .pointer (some ⟨xb, 0, none⟩) ∧ InG w2 wx mb mg (p : Int) (c : Int) (s : Int) (fOf l) ns xb q0 (stU l ns 0))
          case first =>
            have REFH := REF.out
            go_region_held3 (fun w' => w'.cell? ⟨wr.heap.size, 0, none⟩ = some (.int .i64 (p : Nat)) ∧ w'.cell? ⟨wr.heap.size, 1, none⟩ = some (.int .i64 (c : Nat)) ∧ w'.cell? ⟨wr.heap.size, 2, none⟩ = some (.int .i64 (s : Nat)) ∧ w'.cell? ⟨mb, 3, none⟩ = some (.slice (some ⟨mg, 0, none⟩) ns ns)) (first | exact ⟨d0, d1, d2, m3⟩ | go_keep) (fail)
            all_goals go_wp2
            all_goals go_meet
            · exact ⟨_, _, rfl, InG.new1 l REFH⟩
            · exact ⟨_, _, rfl, InG.new2 l REFH⟩
          case rest =>
            obtain ⟨xb, q0, rfl, hIF⟩ := hcut
            have I0 : Hid (InG w2 wc mb mg (p : Int) (c : Int) (s : Int) (fOf l) ns xb q0 (stU l ns 0)) := hIF
            have m3c := hIF.ref.c3
            clear hIF m3 d0 d1 d2
            go_wp2_with fail
            go_loopw [65] (fun jv wz => ∃ j : Nat, j ≤ ns ∧ jv = .int .i64 (j : Nat) ∧ InG w2 wz mb mg (p : Int) (c : Int) (s : Int) (fOf l) ns xb q0 (stU l ns j)) (fun jv _ => ns - lenW jv)
            case atStart => exact ⟨0, Nat.zero_le _, rfl, I0.out⟩
            case round =>
              clear m3c
              obtain ⟨j, hj, rfl, hI⟩ := hrel
              rename World => wz
              have HI : Hid (InG w2 wz mb mg (p : Int) (c : Int) (s : Int) (fOf l) ns xb q0 (stU l ns j)) := hI
              by_cases hjn : j < ns
              · have m3 := hI.ref.c3
                have mj := hI.ref.cell j hjn
                have j0 : (j : Int) < (ns : Int) := by omega
                have j1 : (0 : Int) ≤ (j : Int) := by omega
                by_cases hf : fOf l j = true
                · rw [hf] at mj
                  obtain ⟨x0, x1, x2, x3⟩ := hI.cells
                  have sj := st_cell hI.st j (by rw [hI.sl]; exact hjn)
                  obtain ⟨y, hy⟩ : ∃ y, (stU l ns j)[j]'(by rw [hI.sl]; exact hjn) = y := ⟨_, rfl⟩
                  rw [hy] at sj
                  have fj : wz.frozen? ⟨q0, j, none⟩ = false := frozen_of_row _ _ _ _ _ hI.st
                  have NI : Hid (InG w2 (wz.setCell ⟨q0, j, none⟩ (.int .i64 1)) mb mg (p : Int) (c : Int) (s : Int) (fOf l) ns xb q0 (stU l ns (j + 1))) := by
                    show InG _ _ _ _ _ _ _ _ _ _ _ _
                    rw [stU_yes l ns j hjn hf]
                    exact hI.put j 1
                  clear hI hf hy
                  go_wp2
                  go_roundw
                  case rel => exact ⟨j + 1, by omega, by congr 1, NI.out⟩
                  case measure => simp [lenW]; omega
                · have hf' : fOf l j = false := by simpa using hf
                  rw [hf'] at mj
                  have NI : Hid (InG w2 wz mb mg (p : Int) (c : Int) (s : Int) (fOf l) ns xb q0 (stU l ns (j + 1))) := by
                    show InG _ _ _ _ _ _ _ _ _ _ _ _
                    rw [stU_no l ns j hf']
                    exact hI
                  clear hI hf hf'
                  go_wp2
                  go_roundw
                  case rel => exact ⟨j + 1, by omega, by congr 1, NI.out⟩
                  case measure => simp [lenW]; omega
              · obtain rfl : j = ns := by omega
                obtain ⟨x0, x1, x2, x3⟩ := hI.cells
                have B0 : Hid (Below wr.heap.size wr wz) := B2.out.trans (hI.bel.mono B2.out.size)
                have BW0 : Hid (∀ w9, Below wz.heap.size wz w9 → Below w.heap.size w w9) := fun w9 b => BWR.out.trans ((B0.out.trans (b.mono B0.out.size)).mono BWR.out.size)
                have BQ : Hid (∀ i, Below wz.heap.size wz (wz.drewN i)) := fun i => ⟨rfl, rfl, rfl, Nat.le_refl _, fun _ _ => rfl⟩
                clear hI I0
                by_cases hpe : (p : Int) < e
                · have RF : Hid (r = false) := BAD.out (by rw [OKE.out HQT.out]; exact decide_eq_false (by omega))
                  have hd : decide ((p : Int) < e) = true := decide_eq_true hpe
                  go_wp2_with fail
                  go_quiet (fail)
                  all_goals go_wp2
                  all_goals go_ret2
                  all_goals exact .inr ⟨RF.out, rfl, BW0.out _ (BQ.out _)⟩
                · have hd : decide ((p : Int) < e) = false := decide_eq_false hpe
                  have wpg : IntKind.i64.wrap ((p : Int) + (G : Int)) = (p : Int) + (G : Int) := by rw [IntKind.wrap_i64]; omega
                  go_wp2_with fail
                  go_region_held3 (fun w' => w'.cell? ⟨xb, 0, none⟩ = some (.int .i64 (p : Nat)) ∧ w'.cell? ⟨xb, 1, none⟩ = some (.int .i64 (c : Nat)) ∧ w'.cell? ⟨xb, 2, none⟩ = some (.int .i64 (s : Nat)) ∧ w'.cell? ⟨xb, 3, none⟩ = some (.slice (some ⟨q0, 0, none⟩) j j)) (first | exact ⟨y0, y1, y2, y3⟩ | exact ⟨x0, x1, x2, x3⟩)
                    ((go_at_call 52; refine (mpages_any p c s q0 j _ G HG.out).mono ?_; rintro e5 w5 ⟨rfl, b5⟩; have B5 : Hid (Below wz.heap.size wz w5) := Below.ofDrew b5; have y0 := bcell B5.out x0; have y1 := bcell B5.out x1; have y2 := bcell B5.out x2; have y3 := bcell B5.out x3; clear b5))
                  have I5 : Hid (InG w2 w5 mb mg (p : Int) (c : Int) (s : Int) (fOf l) j xb q0 (stU l j j)) := HI.out.keep B5.out
                  clear x0 x1 x2 x3
                  by_cases hfit : (P : Int) < (p : Int) + (G : Int)
                  · have RF : Hid (r = false) := BAD.out (by rw [OKE.out HQT.out]; exact decide_eq_false (by omega))
                    go_wp2
                    go_ret2
                    exact .inr ⟨RF.out, rfl, BW0.out _ B5.out⟩
                  · have OKD : Hid (okD (P : Int) e ⟨(p : Int), (c : Int), (s : Int), l⟩ = true) := by show _ = _; rw [OKE.out HQT.out]; exact decide_eq_true (by omega)
                    have hf1 : ¬ ((P : Int) < (p : Int) + (G : Int)) := hfit
                    go_wp2_with fail
                    go_region_held3 (fun w' => w'.cell? ⟨xb, 0, none⟩ = some (.int .i64 (p : Nat)) ∧ w'.cell? ⟨xb, 1, none⟩ = some (.int .i64 (c : Nat)) ∧ w'.cell? ⟨xb, 2, none⟩ = some (.int .i64 (s : Nat)) ∧ w'.cell? ⟨xb, 3, none⟩ = some (.slice (some ⟨q0, 0, none⟩) j j)) (first | exact ⟨z0, z1, z2, z3⟩ | exact ⟨y0, y1, y2, y3⟩)
                      ((go_at_call 52; refine (mpages_any p c s q0 j _ G HG.out).mono ?_; rintro e6 w6 ⟨rfl, b6⟩; have B6 : Hid (Below w5.heap.size w5 w6) := Below.ofDrew b6; have z0 := bcell B6.out y0; have z1 := bcell B6.out y1; have z2 := bcell B6.out y2; have z3 := bcell B6.out y3; clear b6))
                    have I6 : Hid (InG w2 w6 mb mg (p : Int) (c : Int) (s : Int) (fOf l) j xb q0 (stU l j j)) := I5.out.keep B6.out
                    have BV : Hid (Below wr.heap.size wr w6) := B0.out.trans ((B5.out.trans (B6.out.mono B5.out.size)).mono B0.out.size)
                    have hk4 : k ≤ 4096 := by omega
                    obtain ⟨a0, c0', E9, a9, c9, w9, k1, hE9, k2, run9, k3, fz9, BR9⟩ := bornS_snoc BR.out BV.out p c s q0 j hk4
                    have BR10 : Hid (BornS w rb P W (k + 1) (w9.setCell ⟨rb, 2, none⟩ (.slice a9 (k + 1) c9))) := BR9
                    have S1 : Hid (stdZ (P : Int) ts (k + 1) = true) := NXT.out OKD.out
                    clear y0 y1 y2 y3 BR9
                    go_wp2_with fail
                    go_region_law (first
                      | (refine step_app rfl (.tmp 102) (.tmp 104) 82 rfl (.slice a0 k c0') (.slice (some ⟨w6.heap.size, 0, none⟩) 1 1) (by simp [Act.eval]) (by simp [Act.eval]) (.slice a9 (k + 1) c9) w9 run9 ?_))
                    all_goals
                      go_wp2
                      go_roundw
                      case rel => exact ⟨k + 1, (p : Int) + (G : Int), by omega, by congr 1, rfl, NEND.out, S1.out, by omega, by omega, by omega, BR10.out⟩
                      case measure => simp [lenW]; omega
      · have HNE : Hid (newE p c s ≠ 0) := hne
        have RF : Hid (r = false) := BAD.out (decide_eq_false (fun h => hne h.1))
        obtain ⟨x, hx⟩ : ∃ x, newE p c s = x := ⟨_, rfl⟩
        have HX : Hid (newE p c s = x) := hx
        have hx0 : x ≠ 0 := by rw [← hx]; exact hne
        have x0 : (x == 0) = false := beq_eq_false_iff_ne.2 hx0
        have x1 : (x != 0) = true := by rw [bne, x0]; rfl
        clear hne hx
        go_upto_region 8 with (fail)
        rw [HE.out]
        go_wp2_with (go_at_call 51; refine (rof_bad p c s la l.length lk x _ HX.out hx0).mono ?_; rintro e' w2 ⟨rfl, b2⟩; have B2 : Hid (Below w.heap.size w w2) := BWR.out.trans ((BE.out.trans (b2.mono BE.out.size)).mono BWR.out.size); clear b2)
        go_ret2
        exact .inr ⟨RF.out, rfl, B2.out⟩
    · obtain rfl : k = n := by omega
      have FF : Hid (FromE w r (.returned (.tuple #[.pointer (some ⟨rb, 0, none⟩), .int .i64 0])) wr) := .inl ⟨by rw [← HR.out]; exact STD.out, rb, rfl, BR.out.2⟩
      go_wp2
      go_ret2
      exact FF.out


theorem rright_any (P : Int) (a : Option Addr) (n cap : Nat) (ts : List Td) (w : World) (h : RdT w a ts) (hn : ts.length = n) (hn9 : n ≤ 100000) (h2 : 2 ≤ w.heap.size) (r : Bool) (hR : stdB P ts = r) :
    Calls Tryd.prog 11 #[.int .i64 P, .slice a n cap] w fun e w' => e = .returned (.bool r) ∧ Below w.heap.size w w' := by
  by_cases hP : 1 ≤ P ∧ P ≤ 4096
  · obtain ⟨P, rfl⟩ : ∃ p : Nat, P = p := ⟨P.toNat, by omega⟩
    have hs : stdZ (P : Int) ts n = r := by
      rw [(std_same (P : Int) ts n).1, ← hR]
      unfold stdB
      rw [decide_eq_true hP, Bool.true_and, hn]
    have H : Hid (Calls Tryd.prog 30 #[.int .i64 (P : Nat), .int .i64 ((1 : Nat) : Int), .slice a n cap] w (FromE w r)) := mfrom_any P 1 a n cap ts w h hn hn9 h2 ⟨by omega, by omega⟩ ⟨by omega, by omega⟩ r hs
    clear h hn h2 hR hP hs
    go_enter Tryd.func11, Tryd.ntmps11
    go_wp2_with fail
    refine H.out.mono ?_
    rintro e w1 (⟨rfl, rb, rfl, b1⟩ | ⟨rfl, rfl, b1⟩)
    · have B1 : Hid (Below w.heap.size w w1) := b1
      clear b1
      go_wp2
      go_ret
      exact ⟨rfl, B1.out⟩
    · have B1 : Hid (Below w.heap.size w w1) := b1
      clear b1
      go_wp2
      go_ret
      exact ⟨rfl, B1.out⟩
  · have hr : r = false := by rw [← hR]; unfold stdB; rw [decide_eq_false hP, Bool.false_and]
    subst hr
    have H : Hid (∀ w0, Calls Tryd.prog 30 #[.int .i64 P, .int .i64 1, .slice a n cap] w0 fun e w' => e = .returned (.tuple #[.pointer none, .int .i64 2]) ∧ w0 = w') := fun w0 => mfrom_bad P 1 a n cap w0 (by omega)
    clear h hn h2 hR hP
    go_enter Tryd.func11, Tryd.ntmps11
    go_wp2_with (go_at_call 30; refine (H.out _).mono ?_; rintro e w1 ⟨rfl, rfl⟩)
    go_ret
    exact ⟨rfl, Below.refl _ _⟩
end Go.Proofs.YtbnmbkohmmiamaaDoor
