/- The caches that a script makes. -/
import Derived.Test.YtgmljgogmbaioaaGreatDoorKcAE
namespace Go.Proofs.YtgmljgogmbaioaaGreatDoor
open Go.RowKit
set_option linter.unusedVariables false
set_option maxRecDepth 4000

theorem take_cases (P W : Nat) (w n : Int) (m : List Sg) : (∃ e : Nat, e ≠ 0 ∧ takeM P W w n m = (0, e, m)) ∨ ∃ (a : Nat) (m' : List Sg), ofI n ≠ -1 ∧ takeM P W w n m = (a, 0, m') := by
  unfold takeM
  split
  · exact .inl ⟨2, by decide, rfl⟩
  · rename_i hn
    have hn1 : ofI n ≠ -1 := fun e => hn (.inr e)
    split
    · cases layP P (pagesN n) 0 m with
      | none => exact .inl ⟨13, by decide, rfl⟩
      | some p => exact .inr ⟨_, _, hn1, rfl⟩
    · cases fillM P w.toNat (ofI n).toNat m with
      | none => exact .inl ⟨13, by decide, rfl⟩
      | some p => exact .inr ⟨_, _, hn1, rfl⟩
theorem live_ca (L : Nat → Nat) (cb P W : Nat) (m : List Sg) (x : Int) (w : World) (h : Ca w L cb P W m) (ho : Okc P W m) (hx : -9223372036854775808 ≤ x ∧ x ≤ 9223372036854775807) (r : Bool) (hr : liveB m x = r) :
    Calls Tryz.prog 21 #[.pointer (some ⟨cb, 0, none⟩), .int .i64 x] w fun e w' => e = .returned (.bool r) ∧ Below w.heap.size w w' := by
  obtain ⟨fb, hb, a, cap, ps, sh, hC⟩ := h
  exact klive_any L cb fb hb a cap ps sh P W (pgF m) m x w hC ho hx r hr
theorem rem_small (X : Int) (W : Nat) (h : 1 ≤ W) (h8 : W ≤ 100000) : ∃ V : Nat, IntKind.i64.wrap ((IntKind.u64.wrap X).tmod (W : Int)) = (V : Int) ∧ V < W := by
  have hu : 0 ≤ IntKind.u64.wrap X := by rw [IntKind.wrap_u64]; exact Int.emod_nonneg _ (by decide)
  have h1 := Int.emod_nonneg (IntKind.u64.wrap X) (by omega : (W : Int) ≠ 0)
  have h2 := Int.emod_lt_of_pos (IntKind.u64.wrap X) (by omega : (0 : Int) < (W : Int))
  rw [Int.tmod_eq_emod_of_nonneg hu]
  refine ⟨(IntKind.u64.wrap X % (W : Int)).toNat, ?_, by omega⟩
  rw [IntKind.wrap_i64]
  omega
set_option maxHeartbeats 1000000 in
theorem made_any (p q : Int) (a : Option Addr) (n cap : Nat) (kd xx kk : Nat → Int) (w : World) (hT : Tabs w) (hp : 0 ≤ p ∧ p < 256) (hq : 0 ≤ q ∧ q < 256) (hS : IsC w a n kd xx kk) (hn : n ≤ 9223372036854775807) (P W : Nat) (hP : (P : Int) = 1 + p % 32) (hW : (W : Int) = 1 + q % 8) :
    Calls Tryz.prog 19 #[.agg #[.int .u8 p, .int .u8 q], .slice a n cap] w fun e w' => ∃ cb xb L m al live cl, e = .returned (.tuple #[.pointer (some ⟨cb, 0, none⟩), .slice al (List.length live) cl, .bool true]) ∧ Made w xb p q cb P W L m m al live cl w' ∧ live.length ≤ 200 := by
  have HT : Hid (Tabs w) := hT
  have HS : Hid (IsC w a n kd xx kk) := hS
  have HP : Hid ((P : Int) = 1 + p % 32) := hP
  have HW : Hid ((W : Int) = 1 + q % 8) := hW
  have HRG : Hid (P ≤ 4096 ∧ 1 ≤ P ∧ 1 ≤ W ∧ W ≤ 8) := by show _ ∧ _; omega
  have two : Hid (2 ≤ w.heap.size) := by have := hT.2.1; show 2 ≤ _; omega
  obtain ⟨D, hD⟩ : ∃ D, w.alloc (.cells #[.int .u8 p, .int .u8 q] 23) = D := ⟨_, rfl⟩
  have HD : Hid (w.alloc (.cells #[.int .u8 p, .int .u8 q] 23) = D) := hD
  have BD : Hid (Below w.heap.size w D) := by show Below _ _ _; rw [← hD]; exact (Below.refl _ w).alloc (Nat.le_refl _) _
  have RD : Hid (D.heap[w.heap.size]? = some (.cells #[.int .u8 p, .int .u8 q] 23 (0, 0))) := by show _ = _; rw [← hD]; exact Go.heap_alloc_new w _
  have d0 : D.cell? ⟨w.heap.size, 0, none⟩ = some (.int .u8 p) := cell_of_row _ _ 0 _ _ _ RD.out
  have d1 : D.cell? ⟨w.heap.size, 1, none⟩ = some (.int .u8 q) := cell_of_row _ _ 1 _ _ _ RD.out
  have ZD : Hid (w.heap.size < D.heap.size) := hlt RD.out
  have TD : Hid (Tabs D) := hT.keep BD.out
  clear hT hS hP hW hD
  go_enter Tryz.func19, Tryz.ntmps19
  go_wp2_with fail
  rw [HD.out]
  go_region_held3 (fun w' => w'.cell? ⟨w.heap.size, 0, none⟩ = some (.int .u8 p) ∧ w'.cell? ⟨w.heap.size, 1, none⟩ = some (.int .u8 q)) (first | exact ⟨z0, z1⟩ | exact ⟨r0, r1⟩ | exact ⟨k0, k1⟩ | exact ⟨d0, d1⟩)
    ((first
    | (go_at_call 10; refine (knew_any P W _ (TD.out.keep B2.out) ⟨HRG.out.2.1, HRG.out.1⟩ ⟨HRG.out.2.2.1, HRG.out.2.2.2⟩).mono ?_; rintro e w3 ⟨cb, rfl, hB⟩; have HB : Hid (Born w2 cb P W [] w3) := hB; have z0 := bcell hB.2 r0; have z1 := bcell hB.2 r1; clear hB)
    | (go_at_call 12; refine (sworkers_any p q _ hq).mono ?_; rw [← HW.out]; rintro e w2 ⟨rfl, b2⟩; have B2 : Hid (Below D.heap.size D w2) := B1.out.trans (b2.mono B1.out.size); have r0 := bcell b2 k0; have r1 := bcell b2 k1; clear b2)
    | (go_at_call 11; refine (spages_any p q _ hp).mono ?_; rw [← HP.out]; rintro e w1 ⟨rfl, b1⟩; have B1 : Hid (Below D.heap.size D w1) := Below.ofDrew b1; have k0 := bcell B1.out d0; have k1 := bcell B1.out d1; clear b1)))
  have M0 : Hid (∃ L, Made w w.heap.size p q cb P W L [] [] none [] 0 w3) := by
    obtain ⟨⟨L, hC, hl⟩, b3⟩ := HB.out
    have s2 := B2.out.size
    have sD := ZD.out
    have rg := HRG.out
    exact ⟨L, ⟨hC, ⟨rg.2.1, rg.1, rg.2.2.1, rg.2.2.2, Nat.zero_le _⟩, Objs.nil, Lv.nil _ _, (fun g hg => (by cases hg)), (fun k hk => hl k (by omega)), hl _ (by omega), bblock b3 (bblock B2.out RD.out), Nat.le_refl _, BD.out.trans ((B2.out.mono (Nat.le_of_lt sD)).trans (b3.mono (by omega))), two.out⟩⟩
  clear d0 d1 r0 r1 k0 k1 z0 z1 B1 B2 HB RD BD ZD TD HD
  go_wp2
  go_loopw [9, 10] (fun lv iv wr => ∃ (i : Nat) (L : Nat → Nat) (m : List Sg) (al : Option Addr) (live : List (Nat × Nat)) (cl : Nat), i ≤ n ∧ i ≤ 200 ∧ live.length ≤ i ∧ iv = .int .i64 (i : Nat) ∧ lv = .slice al live.length cl ∧ Made w w.heap.size p q cb P W L m m al live cl wr) (fun _ iv _ => 200 - lenW iv)
  case atStart =>
    obtain ⟨L, h⟩ := M0.out
    exact ⟨0, L, [], none, [], 0, Nat.zero_le _, by omega, Nat.le_refl _, rfl, rfl, h⟩
  case round =>
    obtain ⟨i, L, m, al, live, cl, hi, hi2, hll, rfl, rfl, hM⟩ := hrel
    have HM : Hid (Made w w.heap.size p q cb P W L m m al live cl _) := hM
    clear hM
    by_cases hin : i < n ∧ i < 200
    · obtain ⟨hin1, hin2⟩ := hin
      obtain ⟨rg, hc⟩ := HS.out.keep HM.out.bel
      replace hc := hc.resolve_left (by omega)
      obtain ⟨b, off, rfl, hbs, hc⟩ := hc
      obtain ⟨s0, s1, s2⟩ := hc i hin1
      obtain ⟨⟨x1, x2⟩, n1, n2⟩ := rg i hin1
      obtain ⟨K, hK⟩ : ∃ K, kd i = K := ⟨_, rfl⟩
      obtain ⟨X, hX⟩ : ∃ X, xx i = X := ⟨_, rfl⟩
      obtain ⟨N, hN⟩ : ∃ N, kk i = N := ⟨_, rfl⟩
      rw [hK] at s0
      rw [hX] at s1 x1 x2
      rw [hN] at s2 n1 n2
      have hi0 : (0 : Int) ≤ (i : Int) := by omega
      have hi1 : (i : Int) < (n : Int) := by omega
      have hi3 : (i : Int) < 200 := by omega
      obtain ⟨E, hE⟩ : ∃ E, wr.alloc (.cells #[.int .i64 K, .int .i64 X, .int .i64 N] 37) = E := ⟨_, rfl⟩
      have HE : Hid (wr.alloc (.cells #[.int .i64 K, .int .i64 X, .int .i64 N] 37) = E) := hE
      have bE : Below wr.heap.size wr E := by rw [← hE]; exact (Below.refl _ wr).alloc (Nat.le_refl _) _
      have ME : Hid (Made w w.heap.size p q cb P W (lab L wr.heap.size 0) m m al live cl E) := HM.out.alloc bE
      have RE : Hid (E.heap[wr.heap.size]? = some (.cells #[.int .i64 K, .int .i64 X, .int .i64 N] 37 (0, 0))) := by show _ = _; rw [← hE]; exact Go.heap_alloc_new wr _
      have t0 : E.cell? ⟨wr.heap.size, 0, none⟩ = some (.int .i64 K) := cell_of_row _ _ 0 _ _ _ RE.out
      have t1 : E.cell? ⟨wr.heap.size, 1, none⟩ = some (.int .i64 X) := cell_of_row _ _ 1 _ _ _ RE.out
      have t2 : E.cell? ⟨wr.heap.size, 2, none⟩ = some (.int .i64 N) := cell_of_row _ _ 2 _ _ _ RE.out
      have e0 : E.cell? ⟨w.heap.size, 0, none⟩ = some (.int .u8 p) := cell_of_row _ _ 0 _ _ _ ME.out.xr
      have e1 : E.cell? ⟨w.heap.size, 1, none⟩ = some (.int .u8 q) := cell_of_row _ _ 1 _ _ _ ME.out.xr
      have w0 : 1 ≤ (W : Int) := by have := HRG.out; omega
      have w8 : (W : Int) ≤ 8 := by have := HRG.out; omega
      have uw : IntKind.u64.wrap (W : Int) = (W : Int) := by rw [IntKind.wrap_u64]; omega
      have wne : ¬ ((W : Int) = 0) := by omega
      have wnn : ¬ (W = 0) := by omega
      obtain ⟨V, hV, hVW⟩ := rem_small X W (by omega) (by omega)
      clear hc rg hK hX hN M0 hE bE
      go_wp2_with fail
      rw [HE.out]
      go_region_held3 (fun w' => w'.cell? ⟨w.heap.size, 0, none⟩ = some (.int .u8 p) ∧ w'.cell? ⟨w.heap.size, 1, none⟩ = some (.int .u8 q) ∧ w'.cell? ⟨wr.heap.size, 1, none⟩ = some (.int .i64 X)) (first | exact ⟨z0, z1, z2⟩ | exact ⟨e0, e1, t1⟩)
        ((go_at_call 12; refine (sworkers_any p q _ hq).mono ?_; rw [← HW.out]; rintro e w5 ⟨rfl, b5⟩; have B5 : Hid (Below E.heap.size E w5) := Below.ofDrew b5; have z0 := bcell B5.out e0; have z1 := bcell B5.out e1; have z2 := bcell B5.out t1; clear b5))
      have M5 : Hid (Made w w.heap.size p q cb P W _ m m al live cl w5) := ME.out.alloc B5.out
      obtain ⟨L5, hL5⟩ : ∃ L5, lab (lab L wr.heap.size 0) E.heap.size 0 = L5 := ⟨_, rfl⟩
      rw [hL5] at M5
      have R5 : Hid (w5.heap[wr.heap.size]? = some (.cells #[.int .i64 K, .int .i64 X, .int .i64 N] 37 (0, 0))) := bblock B5.out RE.out
      have y0 : w5.cell? ⟨wr.heap.size, 0, none⟩ = some (.int .i64 K) := cell_of_row _ _ 0 _ _ _ R5.out
      have y2 : w5.cell? ⟨wr.heap.size, 2, none⟩ = some (.int .i64 N) := cell_of_row _ _ 2 _ _ _ R5.out
      have LSB : Hid (L5 wr.heap.size = 0) := by
        show _ = _
        rw [← hL5]
        unfold lab
        split
        · rw [if_neg (Nat.lt_irrefl _)]
        · rfl
      clear t0 t1 t2 e0 e1 z0 z1 z2 ME RE B5 HE hL5 HM
      by_cases k1 : K = 1
      · subst k1
        have HN7 : Hid (ofI N = 7 → 0 ≤ N) := fun e => by have := ofI_cases N; omega
        rcases take_cases P W (V : Int) N m with ⟨er, her, et⟩ | ⟨pl, m', hof, et⟩
        · have ET : Hid (takeM P W (V : Int) N m = (0, er, m)) := et
          have her1 : ¬ ((er : Int) = 0) := by omega
          clear et
          go_wp2_with (go_at_call 28; refine (ktake_any L5 cb P W m (V : Int) N _ M5.out.ca M5.out.ok (ofI_range _) HN7.out).mono ?_; rw [ET.out]; rintro e w6 ⟨rfl, hl6⟩; obtain ⟨L6, m6, _⟩ := M5.out.call hl6 M5.out.ok.fit; have M6 : Hid (Made w w.heap.size p q cb P W L6 m m al live cl w6) := m6; clear hl6 m6)
          go_roundw
          case rel => exact ⟨i + 1, L6, m, al, live, cl, by omega, by omega, by omega, by congr 1, rfl, M6.out⟩
          case measure => simp [lenW]; omega
        · have ET : Hid (takeM P W (V : Int) N m = (pl, 0, m')) := et
          have TK := take_ok M5.out.ok.fit et
          have hN1 : 1 ≤ N ∧ N ≤ 4096 := by have := ofI_cases N; omega
          obtain ⟨N', rfl⟩ := Int.eq_ofNat_of_zero_le (by omega : 0 ≤ N)
          have HTK : Hid (Took W P (N' : Int) pl m m') := TK
          have hpl : pl + N' ≤ 256 * P ∧ P ≤ 4096 := by
            obtain ⟨z, c, hin, hz⟩ := TK.here
            have := (hin.bound TK.fit).2.1
            have := HRG.out.1
            omega
          have HLB : Hid (liveB m' (pl : Int) = true) := (liveB_of TK.fit).2 ⟨by omega, by rw [Int.toNat_natCast]; obtain ⟨z, c, hin, _⟩ := TK.here; exact ⟨z, c, hin⟩⟩
          have a0 : ¬ ((pl : Int) < 0) := by omega
          have b0 : ¬ ((N' : Int) < 1) := by omega
          have a0' : decide ((pl : Int) < 0) = false := decide_eq_false a0
          have b0' : decide ((N' : Int) < 1) = false := decide_eq_false b0
          have pw : IntKind.i64.wrap ((P : Int) * 256) = (P : Int) * 256 := by rw [IntKind.wrap_i64]; omega
          have dw : IntKind.i64.wrap ((P : Int) * 256 - (pl : Int)) = (P : Int) * 256 - (pl : Int) := by rw [IntKind.wrap_i64]; omega
          have cc : ¬ ((P : Int) * 256 - (pl : Int) < (N' : Int)) := by omega
          have cc' : decide ((P : Int) * 256 - (pl : Int) < (N' : Int)) = false := decide_eq_false cc

          clear et TK
          go_wp2_with (go_at_call 28; refine (ktake_any L5 cb P W m (V : Int) (N' : Int) _ M5.out.ca M5.out.ok (ofI_range _) HN7.out).mono ?_; rw [ET.out]; rintro e w6 ⟨rfl, hl6⟩; have HL6 : Hid (Left L5 w5 cb P W m' w6) := hl6; have u2 : w6.cell? ⟨wr.heap.size, 2, none⟩ = some (.int .i64 (N' : Int)) := (by obtain ⟨L6, _, mv⟩ := hl6; exact cell_of_row _ _ 2 _ _ _ (mv.tu.block _ _ R5.out (fun e => e LSB.out))); have x0 : w6.cell? ⟨w.heap.size, 0, none⟩ = some (.int .u8 p) := (by obtain ⟨L6, _, mv⟩ := hl6; exact cell_of_row _ _ 0 _ _ _ (mv.tu.block _ _ M5.out.xr (fun e => e M5.out.xz))); have x1' : w6.cell? ⟨w.heap.size, 1, none⟩ = some (.int .u8 q) := (by obtain ⟨L6, _, mv⟩ := hl6; exact cell_of_row _ _ 1 _ _ _ (mv.tu.block _ _ M5.out.xr (fun e => e M5.out.xz))); clear hl6)
          obtain ⟨L6, m6, _⟩ := M5.out.call HL6.out HTK.out.fit
          have M6 : Hid (Made w w.heap.size p q cb P W L6 m' m al live cl w6) := m6
          clear m6
          go_region_held3 (fun w' => w'.cell? ⟨w.heap.size, 0, none⟩ = some (.int .u8 p) ∧ w'.cell? ⟨w.heap.size, 1, none⟩ = some (.int .u8 q) ∧ w'.cell? ⟨wr.heap.size, 2, none⟩ = some (.int .i64 (N' : Int))) (first | exact ⟨g0, g1, g2⟩ | exact ⟨z0, z1, z2⟩ | exact ⟨x0, x1', u2⟩)
            ((first
              | (go_at_call 21; refine (live_ca L6 cb P W m' (pl : Int) _ (M6.out.ca.keep (Ext.refl _ _) B7.out) M6.out.ok (by omega) true HLB.out).mono ?_; rintro e w8 ⟨rfl, b8⟩; have B8 : Hid (Below w6.heap.size w6 w8) := B7.out.trans (b8.mono B7.out.size); have g0 := bcell B8.out x0; have g1 := bcell B8.out x1'; have g2 := bcell B8.out u2; clear b8)
              | (go_at_call 11; refine (spages_any p q _ hp).mono ?_; rw [← HP.out]; rintro e w7 ⟨rfl, b7⟩; have B7 : Hid (Below w6.heap.size w6 w7) := Below.ofDrew b7; have z0 := bcell B7.out x0; have z1 := bcell B7.out x1'; have z2 := bcell B7.out u2; clear b7)))
          have M8 : Hid (Made w w.heap.size p q cb P W _ m' m al live cl w8) := M6.out.alloc B8.out
          obtain ⟨L8, hL8⟩ : ∃ L8, lab L6 w6.heap.size 0 = L8 := ⟨_, rfl⟩
          rw [hL8] at M8
          have OV : Hid (∀ y ∈ live, pl + N' ≤ y.1 ∨ y.1 + y.2 ≤ pl) := M5.out.objs.over HTK.out
          have BY : Hid (∀ y ∈ live, y.1 + y.2 ≤ 256 * P) := fun y hy => by obtain ⟨z, c, hin, hz⟩ := M5.out.objs.here y hy; have := (hin.bound M5.out.ok.fit).2.1; omega
          have G2 : Hid (∀ wy, Below w8.heap.size w8 wy → wy.cell? ⟨wr.heap.size, 2, none⟩ = some (.int .i64 (N' : Int))) := fun wy h => bcell h g2
          have s2w : IntKind.i64.wrap ((pl : Int) + (N' : Int)) = (pl : Int) + (N' : Int) := by rw [IntKind.wrap_i64]; omega
          clear hL8 x0 x1' u2 z0 z1 z2 g0 g1 g2 B7
          go_wp2
          go_loopw [137] (fun jv wy => ∃ k : Nat, k ≤ live.length ∧ jv = .int .i64 (k : Nat) ∧ Below w8.heap.size w8 wy) (fun jv _ => live.length - lenW jv)
          case atStart => exact ⟨0, Nat.zero_le _, rfl, Below.refl _ _⟩
          case round =>
            obtain ⟨k, hk, rfl, hb9⟩ := hrel
            have B9 : Hid (Below w8.heap.size w8 _) := hb9
            have v2 := G2.out _ hb9
            rcases Nat.lt_or_eq_of_le hk with hkl | hkl
            · obtain ⟨g, rfl, q0, q1⟩ := (M8.out.lv.keep hb9).cells k hkl
              have ov := OV.out _ (List.getElem_mem hkl)
              have bdy := BY.out _ (List.getElem_mem hkl)
              obtain ⟨y1, e1⟩ : ∃ y1, live[k].1 = y1 := ⟨_, rfl⟩
              obtain ⟨y2', e2⟩ : ∃ y2, live[k].2 = y2 := ⟨_, rfl⟩
              rw [e1] at q0 ov bdy
              rw [e2] at q1 ov bdy
              have s1w : IntKind.i64.wrap ((y1 : Int) + (y2' : Int)) = (y1 : Int) + (y2' : Int) := by rw [IntKind.wrap_i64]; omega
              have k0 : (0 : Int) ≤ (k : Int) := by omega
              have k1 : (k : Int) < (live.length : Int) := by omega
              have n2 := World.new_ne _ _ v2
              have v2a : (wr.alloc (.cells #[.int .i64 (y1 : Nat), .int .i64 (y2' : Nat)] 55)).cell? _ = some (.int .i64 (N' : Int)) := bcell ((Below.refl _ wr).alloc (Nat.le_refl _) _) v2
              have BA : Hid (Below w8.heap.size w8 (wr.alloc (.cells #[.int .i64 (y1 : Nat), .int .i64 (y2' : Nat)] 55))) := hb9.alloc hb9.size _
              clear hb9 e1 e2
              by_cases hh : (pl : Int) < (y1 : Int) + (y2' : Int)
              · have cy : ¬ ((y1 : Int) < (pl : Int) + (N' : Int)) := by omega
                go_wp2
                go_roundw
                case rel => exact ⟨k + 1, by omega, by congr 1, BA.out⟩
                case measure => simp [lenW]; omega
              · go_wp2
                go_roundw
                case rel => exact ⟨k + 1, by omega, by congr 1, BA.out⟩
                case measure => simp [lenW]; omega
            · have hkn : ¬ ((k : Int) < (live.length : Int)) := by omega
              have MA : Hid (Made w w.heap.size p q cb P W _ m' m al live cl (wr.alloc (.cells #[.int .i64 (pl : Nat), .int .i64 (N' : Nat)] 55))) := (M8.out.alloc hb9).alloc ((Below.refl _ wr).alloc (Nat.le_refl _) _)
              have OT : Hid (Objs m' (live ++ [(pl, N')])) := M5.out.objs.took HTK.out
              have SZ : Hid (w.heap.size ≤ (wr.alloc (.cells #[.int .i64 (pl : Nat), .int .i64 (N' : Nat)] 55)).heap.size) := MA.out.bel.size
              have CE : Hid (∀ j (hj : j < [(pl, N')].length), (wr.alloc (.cells #[.int .i64 (pl : Nat), .int .i64 (N' : Nat)] 55)).cell? ⟨wr.heap.size, 0 + j * 2, none⟩ = some (.int .i64 ([(pl, N')][j].1 : Nat)) ∧ (wr.alloc (.cells #[.int .i64 (pl : Nat), .int .i64 (N' : Nat)] 55)).cell? ⟨wr.heap.size, 0 + j * 2 + 1, none⟩ = some (.int .i64 ([(pl, N')][j].2 : Nat))) := fun j hj => by
                have : j = 0 := by simpa using hj
                subst this
                have r := Go.heap_alloc_new wr (.cells #[.int .i64 (pl : Nat), .int .i64 (N' : Nat)] 55)
                exact ⟨cell_of_row _ _ 0 _ _ _ r, cell_of_row _ _ 1 _ _ _ r⟩
              have n2 := World.new_ne _ _ v2
              clear hb9
              go_wp2_with (at_builtin; refine wpList_appR rfl _ _ rfl w.heap.size SZ.out al live.length cl live rfl rfl MA.out.lv _ 0 [(pl, N')] 1 1 rfl rfl CE.out (by omega) (by omega) ?_; intro a4 c4 w10 r1 r2 r3; have MR : Hid (Made w w.heap.size p q cb P W _ m' m' a4 (live ++ [(pl, N')]) c4 w10) := MA.out.rowed OT.out r1 (fun g hg => (by rcases r3 with e | e <;> rw [e] at hg; exact .inl hg; exact .inr (by simpa using Nat.le_of_eq (Option.some.inj hg)))) r2; clear r1 r2 r3)
              go_roundw
              case rel => exact ⟨i + 1, _, m', a4, live ++ [(pl, N')], c4, by omega, by omega, by rw [List.length_append]; show live.length + 1 ≤ _; omega, by congr 1, by rw [List.length_append]; rfl, MR.out⟩
              case measure => simp [lenW]; omega
      · by_cases k3 : K = 3
        · subst k3
          have FL : Hid ((if 0 ≤ (V : Int) ∧ (V : Int) < (W : Int) then (0, flushM (V : Int).toNat m) else (2, m)) = (0, flushM V m)) := by show _ = _; rw [if_pos (by omega), Int.toNat_natCast]
          go_wp2_with (go_at_call 36; refine (kflush_any L5 cb P W m (V : Int) _ M5.out.ca M5.out.ok 0 (flushM V m) FL.out).mono ?_; rintro e w6 ⟨rfl, hl6⟩; obtain ⟨L6, m6, _⟩ := M5.out.call hl6 (M5.out.ok.fit.flush V); have M6 : Hid (Made w w.heap.size p q cb P W L6 (flushM V m) (flushM V m) al live cl w6) := m6.now (M5.out.objs.same (fun a z c => flush_live a z c)); clear hl6 m6)
          go_roundw
          case rel => exact ⟨i + 1, L6, flushM V m, al, live, cl, by omega, by omega, by omega, by congr 1, rfl, M6.out⟩
          case measure => simp [lenW]; omega
        · by_cases k4 : K = 4
          · subst k4
            go_wp2_with (go_at_call 38; refine (kscav_any L5 cb P W m _ M5.out.ca M5.out.ok).mono ?_; rintro e w6 ⟨rfl, hl6⟩; obtain ⟨L6, m6, _⟩ := M5.out.call hl6 (M5.out.ok.fit.filter _); have M6 : Hid (Made w w.heap.size p q cb P W L6 (scavM m) (scavM m) al live cl w6) := m6.now (M5.out.objs.same (fun a z c => scav_live a z c)); clear hl6 m6)
            go_roundw
            case rel => exact ⟨i + 1, L6, scavM m, al, live, cl, by omega, by omega, by omega, by congr 1, rfl, M6.out⟩
            case measure => simp [lenW]; omega
          · by_cases hz : live.length = 0
            · have hzI : (live.length : Int) = 0 := by omega
              go_wp2
              go_roundw
              case rel => exact ⟨i + 1, L5, m, al, live, cl, by omega, by omega, by omega, by congr 1, rfl, M5.out⟩
              case measure => simp [lenW]; omega
            · have hzI : ¬ ((live.length : Int) = 0) := by omega
              obtain ⟨Ll, hLl⟩ : ∃ Ll, live.length = Ll := ⟨_, rfl⟩
              have ELL : Hid (live.length = Ll) := hLl
              rw [hLl] at hz hzI hll ⊢
              obtain ⟨k, hk, hkl⟩ := rem_small N Ll (by omega) (by omega)
              have lw : IntKind.u64.wrap (Ll : Int) = (Ll : Int) := by rw [IntKind.wrap_u64]; omega
              have hkl0 : k < live.length := by omega
              obtain ⟨g, hal, q0, q1⟩ := M5.out.lv.cells k hkl0
              have OB : Hid (Objs m live) := M5.out.objs
              obtain ⟨z, c, hin, hyz⟩ := OB.out.here _ (List.getElem_mem hkl0)
              have hbd := (hin.bound M5.out.ok.fit).2.1
              have hP4 := HRG.out.1
              obtain ⟨m', hgv⟩ := give_live (w := (V : Int)) M5.out.ok.fit (by omega) ⟨z, c, hin⟩
              obtain ⟨_, GV⟩ := give_ok M5.out.ok.fit hgv
              rw [Int.toNat_natCast] at GV
              have OG : Hid (Objs m' (live.take k ++ live.drop (k + 1))) := OB.out.gave hkl0 GV
              obtain ⟨y, hy⟩ : ∃ y, (live[k]'hkl0).1 = y := ⟨_, rfl⟩
              rw [hy] at q0 hbd hgv GV
              have HGV : Hid (giveM W (V : Int) (y : Int) m = (0, m')) := hgv
              have FT : Hid (Fit W P 0 m') := GV.fit
              have HLB : Hid (liveB m' (y : Int) = false) := by
                cases e : liveB m' (y : Int) with
                | false => rfl
                | true =>
                  obtain ⟨_, z', c', h'⟩ := (liveB_of GV.fit).1 e
                  rw [Int.toNat_natCast] at h'
                  exact absurd h' (GV.gone z' c')
              have hk0 : (0 : Int) ≤ (k : Int) := by omega
              have hk1 : (k : Int) < (Ll : Int) := by omega
              have CY : Hid (∀ w' L' mm, Made w w.heap.size p q cb P W L' mm m al live cl w' → w'.cell? ⟨g, k * 2, none⟩ = some (.int .i64 (y : Nat))) := fun w' L' mm hM' => by
                obtain ⟨g', e', q0', _⟩ := hM'.lv.cells k hkl0
                rw [hal] at e'
                cases e'
                rw [hy] at q0'
                exact q0'
              clear hin hyz hgv GV hLl q1 hy
              subst hal
              go_wp2_with fail
              refine (kgive_any L5 cb P W m (V : Int) (y : Int) _ M5.out.ca M5.out.ok (by omega)).mono ?_
              rw [HGV.out]
              rintro e w6 ⟨rfl, hl6⟩
              obtain ⟨L6, m6, _⟩ := M5.out.call hl6 FT.out
              have M6 : Hid (Made w w.heap.size p q cb P W L6 m' m (some ⟨g, 0, none⟩) live cl w6) := m6
              have p0 := CY.out w6 L6 m' m6
              clear hl6 m6
              go_wp2_with fail
              refine (live_ca L6 cb P W m' (y : Int) _ M6.out.ca M6.out.ok (by omega) false HLB.out).mono ?_
              rintro e w7 ⟨rfl, b7⟩
              have M7 : Hid (Made w w.heap.size p q cb P W _ m' m (some ⟨g, 0, none⟩) live cl w7) := M6.out.alloc b7
              clear b7
              have hlc := M7.out.lv.len
              rw [ELL.out] at hlc
              obtain ⟨a1, c1, wA, r1, rr⟩ := cut_run w.heap.size w7.drew M7.out.bel.size g cl k live M7.out.lv (by rw [ELL.out]; exact hkl) (by rw [ELL.out]; omega)
              rw [ELL.out] at rr
              have kw : IntKind.i64.wrap ((k : Int) + 1) = (k : Int) + 1 := by rw [IntKind.wrap_i64]; omega
              have kk1 : (k : Int) + 1 ≤ (Ll : Int) := by omega
              have kk0 : (0 : Int) ≤ (k : Int) + 1 := by omega
              have kkc : (k : Int) ≤ (cl : Int) := by omega
              have klc : (Ll : Int) ≤ (cl : Int) := by omega
              have ktn : ((k : Int) + 1).toNat = k + 1 := by omega
              by_cases hcl : cl = k + 1
              · have hLk : Ll = k + 1 := by omega
                obtain ⟨a2, c2, wB, r2, l2, bB, gB⟩ := rr 0 (cl - (k + 1)) (.inl hLk)
                have LB : Hid (Lv wB w.heap.size a2 (live.take k ++ live.drop (k + 1)) c2) := l2
                have BB : Hid (Below w7.heap.size w7 wB) := Below.ofDrew bB
                have GB : Hid (∀ g', ob a2 = some g' → w7.heap.size ≤ g') := gB
                have hct : (cl = k + 1) = True := eq_true hcl
                have hkn : k ≤ cl := by omega
                have hkL : k + 1 ≤ Ll := by omega
                clear l2 bB gB rr hcl hLk
                go_wp2_with fail
                go_region_law (first
                  | (refine step_app rfl (.tmp 92) (.tmp 96) 50 rfl (.slice a1 k c1) (.slice (some ⟨g, 0, none⟩) (Ll - (k + 1)) (cl - (k + 1))) (by simp [Act.eval]) (by simp [Act.eval]) (.slice a2 (Ll - 1) c2) wB r2 ?_)
                  | (refine step_app rfl (.tmp 88) (.tmp 91) 50 rfl (.slice (some ⟨w7.heap.size, 0, none⟩) 0 0) (.slice (some ⟨g, 0, none⟩) k cl) (by simp [Act.eval]) (by simp [Act.eval]) (.slice a1 k c1) wA r1 ?_))
                have MR : Hid (Made w w.heap.size p q cb P W _ m' m' a2 (live.take k ++ live.drop (k + 1)) c2 wB) := M7.out.rowed OG.out LB.out (fun g' hg' => .inr (GB.out g' hg')) (Tu.ofBelow BB.out)
                have HLE : Hid ((live.take k ++ live.drop (k + 1)).length = Ll - 1) := by show _ = _; have q := ELL.out; simp; omega
                go_wp2
                go_roundw
                case rel => exact ⟨i + 1, _, m', a2, _, c2, by omega, by omega, by rw [HLE.out]; omega, by congr 1, by rw [HLE.out], MR.out⟩
                case measure => simp [lenW]; omega
              · obtain ⟨a2, c2, wB, r2, l2, bB, gB⟩ := rr ((k + 1) * 2) (cl - (k + 1)) (.inr rfl)
                have LB : Hid (Lv wB w.heap.size a2 (live.take k ++ live.drop (k + 1)) c2) := l2
                have BB : Hid (Below w7.heap.size w7 wB) := Below.ofDrew bB
                have GB : Hid (∀ g', ob a2 = some g' → w7.heap.size ≤ g') := gB
                have hct : (cl = k + 1) = False := eq_false hcl
                have hkn : k ≤ cl := by omega
                have hkL : k + 1 ≤ Ll := by omega
                clear l2 bB gB rr hcl
                go_wp2_with fail
                go_region_law (first
                  | (refine step_app rfl (.tmp 92) (.tmp 96) 50 rfl (.slice a1 k c1) (.slice (some ⟨g, (k + 1) * 2, none⟩) (Ll - (k + 1)) (cl - (k + 1))) (by simp [Act.eval]) (by simp [Act.eval]) (.slice a2 (Ll - 1) c2) wB r2 ?_)
                  | (refine step_app rfl (.tmp 88) (.tmp 91) 50 rfl (.slice (some ⟨w7.heap.size, 0, none⟩) 0 0) (.slice (some ⟨g, 0, none⟩) k cl) (by simp [Act.eval]) (by simp [Act.eval]) (.slice a1 k c1) wA r1 ?_))
                have MR : Hid (Made w w.heap.size p q cb P W _ m' m' a2 (live.take k ++ live.drop (k + 1)) c2 wB) := M7.out.rowed OG.out LB.out (fun g' hg' => .inr (GB.out g' hg')) (Tu.ofBelow BB.out)
                have HLE : Hid ((live.take k ++ live.drop (k + 1)).length = Ll - 1) := by show _ = _; have q := ELL.out; simp; omega
                go_wp2
                go_roundw
                case rel => exact ⟨i + 1, _, m', a2, _, c2, by omega, by omega, by rw [HLE.out]; omega, by congr 1, by rw [HLE.out], MR.out⟩
                case measure => simp [lenW]; omega
    · have hge : ¬ ((i : Int) < (n : Int)) ∨ ¬ ((i : Int) < 200) := by omega
      rcases hge with hge | hge
      · go_wp2
        all_goals refine bodyPost_ret (v := .tuple #[.pointer (some ⟨cb, 0, none⟩), .slice al live.length cl, .bool true]) (by simp [results, Tryz.results19, go_sem]) rfl ⟨cb, w.heap.size, L, m, al, live, cl, rfl, HM.out, by omega⟩
      · go_wp2
        all_goals refine bodyPost_ret (v := .tuple #[.pointer (some ⟨cb, 0, none⟩), .slice al live.length cl, .bool true]) (by simp [results, Tryz.results19, go_sem]) rfl ⟨cb, w.heap.size, L, m, al, live, cl, rfl, HM.out, by omega⟩
end Go.Proofs.YtgmljgogmbaioaaGreatDoor
