/- Layer 21: the walk of ManifestNext. -/
import Derived.Test.YtofmicbhheebiaaMnH
namespace Go.Proofs.Ytofmicbhheebiaa
open Go.RowKit
set_option linter.unusedVariables false
set_option maxRecDepth 4000

theorem appE_tu {T TS : TypeId} (hT : RowT T TS) (B : Nat) (w : World) (hB : B ≤ w.heap.size) (a : Option Addr) (L : List Fd) (cap : Nat) (h : Ow T w B a L cap) (x : Fd) (hL : L.length + 1 ≤ 4398046511104) :
    ∃ a' cap' w', (Builtin.append_ #[TS, TS] TS #[.slice a L.length cap, .slice (some ⟨w.heap.size, 0, none⟩) 1 1]).run Try.prog (w.alloc (.cells #[.int .i64 x.l, .int .i64 x.m.s, .int .i64 x.m.f, .int .i64 x.m.n] T)) = .ok (.slice a' (L ++ [x]).length cap') w' ∧ Ow T w' B a' (L ++ [x]) cap' ∧ Below B w w' ∧ Tu (fun k => ob a = some k) w w' := by
  obtain ⟨D, hD, rD, bD⟩ := ebox T w x
  rw [hD]
  have hq : ∀ i (hi : i < [x].length), D.cell? ⟨w.heap.size, 0 + i * 4, none⟩ = some (.int .i64 [x][i].l) ∧ D.cell? ⟨w.heap.size, 0 + i * 4 + 1, none⟩ = some (.int .i64 [x][i].m.s) ∧ D.cell? ⟨w.heap.size, 0 + i * 4 + 2, none⟩ = some (.int .i64 [x][i].m.f) ∧ D.cell? ⟨w.heap.size, 0 + i * 4 + 3, none⟩ = some (.int .i64 [x][i].m.n) := fun i hi => by
    obtain rfl : i = 0 := by simpa using hi
    exact ⟨cell_of_row _ _ 0 _ _ _ rD, cell_of_row _ _ 1 _ _ _ rD, cell_of_row _ _ 2 _ _ _ rD, cell_of_row _ _ 3 _ _ _ rD⟩
  obtain ⟨a', cap', w', h1, h2, h3, _⟩ := appW_run hT TS B D (Nat.le_trans hB bD.size) a L cap (h.keep bD) w.heap.size 0 [x] 1 hq hL
  refine ⟨a', cap', w', by rw [List.length_append]; exact h1, h2, (bD.mono hB).trans (h3.below (fun k hk => (h.ge k hk).1) (Nat.le_trans hB bD.size)), (Tu.ofBelow bD).trans h3⟩
/-- Two lists of one's own that grow side by side. -/
structure Nw (w wr : World) (a b : Option Addr) (c d : Nat) (l : List Fd) : Prop where
  code : Ow 57 wr w.heap.size a l c
  doc : Ow 59 wr w.heap.size b l d
  low : Below w.heap.size w wr
theorem Nw.keep {w wr w' : World} {a b : Option Addr} {c d : Nat} {l : List Fd} (h : Nw w wr a b c d l) (k : Below wr.heap.size wr w') : Nw w w' a b c d l :=
  ⟨h.code.keep k, h.doc.keep k, h.low.trans (k.mono h.low.size)⟩
theorem Nw.one {w wr : World} {a b : Option Addr} {c d : Nat} {l : List Fd} (h : Nw w wr a b c d l) (x : Fd) (hl : l.length + 1 ≤ 4398046511104) :
    ∃ a' c' w', (Builtin.append_ #[52, 52] 52 #[.slice a l.length c, .slice (some ⟨wr.heap.size, 0, none⟩) 1 1]).run Try.prog (wr.alloc (.cells #[.int .i64 x.l, .int .i64 x.m.s, .int .i64 x.m.f, .int .i64 x.m.n] 57)) = .ok (.slice a' (l ++ [x]).length c') w' ∧ Below w.heap.size w w' ∧ Tu (fun k => ob a = some k) wr w' ∧
      ∃ b' d' w2, (Builtin.append_ #[53, 53] 53 #[.slice b l.length d, .slice (some ⟨w'.heap.size, 0, none⟩) 1 1]).run Try.prog (w'.alloc (.cells #[.int .i64 x.l, .int .i64 x.m.s, .int .i64 x.m.f, .int .i64 x.m.n] 59)) = .ok (.slice b' (l ++ [x]).length d') w2 ∧ Nw w w2 a' b' c' d' (l ++ [x]) := by
  obtain ⟨a', c', w', r1, o1, b1, u1⟩ := appE_tu rowT_c w.heap.size wr h.low.size a l c h.code x hl
  have bl : Below w.heap.size w w' := h.low.trans b1
  have d1 : Ow 59 w' w.heap.size b l d := h.doc.tu u1 (fun g hg e => by
    obtain ⟨u, hu⟩ := h.doc.kind g hg
    obtain ⟨v, hv⟩ := h.code.kind g e
    rw [hu] at hv
    injection hv with hv
    injection hv with _ ht _
    exact absurd ht (by decide))
  obtain ⟨b', d', w2, r2, o2, b2, u2⟩ := appE_tu rowT_q w.heap.size w' bl.size b l d d1 x hl
  have c2 : Ow 57 w2 w.heap.size a' (l ++ [x]) c' := o1.tu u2 (fun g hg e => by
    obtain ⟨u, hu⟩ := o1.kind g hg
    obtain ⟨v, hv⟩ := d1.kind g e
    rw [hu] at hv
    injection hv with hv
    injection hv with _ ht _
    exact absurd ht (by decide))
  exact ⟨a', c', w', r1, bl, u1, b', d', w2, r2, c2, o2, bl.trans b2⟩
/-- An append whose run is known. -/
theorem wpList_runw {ops : Array Oper} {rest : List Oper} {o : Oper} {a : Act} {Q : Exit → Act → World → Prop} {w : World} (hgd : o.guard = none) (TS : TypeId) (hty : o.type = TS) (s x : Operand)
    (ho : o.op = .call { callee := .builtin .append, args := #[s, x], argTypes := #[TS, TS] }) (v1 v2 v' : Value) (w' : World) (hs : a.eval s = v1) (hx : a.eval x = v2)
    (hrun : (Builtin.append_ #[TS, TS] TS #[v1, v2]).run Try.prog w = .ok v' w') (h : wpList Try.prog ops Q rest (a.put o.dst v') w') : wpList Try.prog ops Q (o :: rest) a w :=
  wpList_rune hgd hty s x ho v1 v2 v' w' hs hx hrun h
theorem nx_ok {t u : Int} (h : ¬ 4294967295 ≤ t) : nxS t = t + 1 ∧ nxE t = 0 ∧ (nxL t u = 0 ∨ nxL t u = 1) ∧ nxL t u ≠ u := by
  refine ⟨if_neg h, if_neg h, ?_, ?_⟩
  · unfold nxL; rw [if_neg h]; split <;> simp
  · unfold nxL; rw [if_neg h]; split <;> omega
theorem nx_bad {t u : Int} (h : 4294967295 ≤ t) : nxS t = 0 ∧ nxE t = 7 ∧ nxL t u = 0 := ⟨if_pos h, if_pos h, if_pos h⟩

set_option maxRecDepth 20000 in
set_option maxHeartbeats 8000000 in
/-- ManifestNext. -/
theorem manifestNext_any (a : Option Addr) (cap : Nat) (l : List Fd) (u : Int) (w : World) (hI : IsW w a l) (hl : l.length ≤ 4398046511104) :
    Calls Try.prog 7 #[.slice a l.length cap, .int .i64 u] w fun e w' => e = .returned (.bool true) ∧ Below w.heap.size w w' := by
  have HI : Hid (IsW w a l) := hI
  obtain ⟨N, hN⟩ : ∃ N, l.length = N := ⟨_, rfl⟩
  have HN : Hid (l.length = N) := hN
  rw [hN] at hl ⊢
  clear hI hN
  go_enter Try.func7, Try.ntmps7
  go_wp2_with fail
  refine Calls.mono (alive21 _) ?_
  rintro e w0 ⟨rfl, b0⟩
  have B0 : Hid (Below w.heap.size w w0) := b0
  have I0 : Hid (IsW w0 a l) := HI.out.keep b0
  clear b0
  go_upto_region 6 with (fail)
  go_loopw [5, 6, 21] (fun cv dv iv wr => ∃ (j : Nat) (a' b' : Option Addr) (c d : Nat), j ≤ N ∧ iv = .int .i64 (j : Nat) ∧ cv = .slice a' j c ∧ dv = .slice b' j d ∧ (∀ x ∈ l.take j, 1 ≤ x.m.s ∧ x.m.s ≤ 4294967295) ∧ Nw w0 wr a' b' c d (l.take j)) (fun _ _ iv _ => N - (intOf iv).toNat)
  case atStart => exact ⟨0, none, none, 0, 0, by omega, rfl, rfl, rfl, (fun x h => by simp at h), Ow.nil _ _, Ow.nil _ _, Below.refl _ _⟩
  case round =>
    obtain ⟨j, a', b', c, d, hj, rfl, rfl, rfl, hb, hw⟩ := hrel
    rename World => wr
    have HB : Hid (∀ x ∈ l.take j, 1 ≤ x.m.s ∧ x.m.s ≤ 4294967295) := hb
    have HW : Hid (Nw w0 wr a' b' c d (l.take j)) := hw
    clear hb hw
    by_cases hlt : j < N
    · have hlt2 : j < l.length := by rw [HN.out]; exact hlt
      obtain ⟨gb, go, ea, c0, c1, c2, c3⟩ := (I0.out.keep HW.out.low).at j hlt2
      cases ea
      obtain ⟨x, hx⟩ : ∃ x, rwD l j = x := ⟨_, rfl⟩
      have ET : Hid (l.take (j + 1) = l.take j ++ [x]) := by
        show _ = _
        rw [← hx, rwD_at hlt2]
        exact List.take_succ_eq_append_getElem hlt2
      rw [hx] at c0 c1 c2 c3
      obtain ⟨D, hD, rD, bD, sD⟩ := boxF21 55 wr x
      have ND : Hid (Nw w0 D a' b' c d (l.take j)) := HW.out.keep bD
      have DD : Hid (D.heap[wr.heap.size]? = some (.cells x.cs 55 (0, 0))) := rD
      have lt : (l.take j).length = j := by rw [List.length_take]; omega
      obtain ⟨a1, k1, w1, r1, bl1, u1, b1, d1, w2, r2, n2⟩ := ND.out.one x (by omega)
      have LT : Hid ((l.take j ++ [x]).length = j + 1) := by show _ = _; rw [List.length_append, lt]; rfl
      rw [lt, LT.out] at r1 r2
      have N2 : Hid (Nw w0 w2 a1 b1 k1 d1 (l.take j ++ [x])) := n2
      have R1 : Hid _ := r1
      have R2 : Hid _ := r2
      have w1c : w1.heap[wr.heap.size]? = some (.cells x.cs 55 (0, 0)) := u1.block _ _ rD (fun e => by
        obtain ⟨v, hv⟩ := ND.out.code.kind _ e
        rw [rD] at hv
        injection hv with hv
        injection hv with _ ht _
        exact absurd ht (by decide))
      have W1C : Hid (w1.heap[wr.heap.size]? = some (.cells x.cs 55 (0, 0))) := w1c
      have jn : (j : Int) < (N : Int) := by omega
      obtain ⟨xl, ⟨xs, xf, xn⟩⟩ := x
      unfold Fd.cs at hD DD W1C
      simp only at hD DD W1C c0 c1 c2 c3 R1 R2
      obtain ⟨y0, y1, y2, y3⟩ := four21 DD.out
      have HD : Hid _ := hD
      obtain ⟨G, hG⟩ : ∃ G, wr.heap.size = G := ⟨_, rfl⟩
      have HG : Hid (wr.heap.size = G) := hG
      rw [hG] at y0 y1 y2 y3 W1C
      have BD : Hid (Below w.heap.size w D) := B0.out.trans (ND.out.low.mono B0.out.size)
      clear hx hD rD bD sD hlt2 lt r1 r2 n2 w1c hG u1 bl1
      by_cases h1 : xs < 1
      · go_upto_region 8 with (fail)
        rw [HD.out]
        try rw [HG.out]
        go_wp2
        go_ret
        exact ⟨rfl, BD.out⟩
      by_cases h2 : 4294967295 < xs
      · go_upto_region 8 with (fail)
        rw [HD.out]
        try rw [HG.out]
        go_wp2
        go_ret
        exact ⟨rfl, BD.out⟩
      obtain ⟨z0, z1, z2, z3⟩ := four21 W1C.out
      go_upto_region 8 with (fail)
      rw [HD.out]
      try rw [HG.out]
      go_wp2_with (first
        | (at_builtin; refine wpList_runw rfl 52 rfl _ _ rfl _ _ _ _ rfl rfl R1.out ?_; clear y0 y1 y2 y3)
        | (at_builtin; refine wpList_runw rfl 53 rfl _ _ rfl _ _ _ _ rfl rfl R2.out ?_))
      go_roundw
      case rel =>
        refine ⟨j + 1, a1, b1, k1, d1, by omega, by go_num, rfl, rfl, ?_, by rw [ET.out]; exact N2.out⟩
        rw [ET.out]
        intro y hy
        rcases List.mem_append.1 hy with hy | hy
        · exact HB.out y hy
        · obtain rfl : y = _ := List.mem_singleton.1 hy
          simp only
          omega
      case measure => simp [intOf]; omega
    · obtain rfl : j = N := by omega
      have e : l.take j = l := List.take_of_length_le (by rw [HN.out]; exact Nat.le_refl _)
      rw [e] at HB HW
      have jn : ¬ (j : Int) < (j : Int) := by omega
      have WC : Hid (IsW wr a' l) := HW.out.code.isW
      have WD : Hid (IsW wr b' l) := HW.out.doc.isW
      have BW : Hid (Below w.heap.size w wr) := B0.out.trans (HW.out.low.mono B0.out.size)
      obtain ⟨T, hT⟩ : ∃ T, topM l = T := ⟨_, rfl⟩
      have HT : Hid (topM l = T) := hT
      have TL : Hid (∀ x ∈ l, x.m.s ≤ T) := fun x hx => by rw [← hT]; exact topM_ge hx
      have t1 : T ≤ 4294967295 := by rw [← hT]; exact topM_le (by omega) (fun x hx => (HB.out x hx).2)
      have t0 : 0 ≤ T := by rw [← hT]; exact topM_nonneg l
      have CN : Hid (∀ (w : World) (c : Nat), IsW w a' l → Calls Try.prog 17 #[.slice a' j c, .int .i64 u] w fun e w' => e = .returned (.tuple #[.int .i64 (nxS T), .int .i64 (nxL T u), .int .i64 (nxE T)]) ∧ Below w.heap.size w w') := fun w c h => by
        have q := mnext_any a' c l u w h (fun x hx => by have := (HB.out x hx).1; omega) (fun x hx => (HB.out x hx).2) (by rw [HN.out]; exact hl)
        rw [HN.out, hT] at q
        exact q
      have DN : Hid (∀ (w : World) (c : Nat), IsW w b' l → Calls Try.prog 18 #[.slice b' j c, .int .i64 u] w fun e w' => e = .returned (.tuple #[.int .i64 (nxS T), .int .i64 (nxL T u), .int .i64 (nxE T)]) ∧ Below w.heap.size w w') := fun w c h => by
        have q := qnext_any b' c l u w h (fun x hx => (HB.out x hx).2) (by rw [HN.out]; exact hl)
        rw [HN.out, hT] at q
        exact q
      obtain ⟨rs, hrs⟩ : ∃ r, nxS T = r := ⟨_, rfl⟩
      obtain ⟨rl, hrl⟩ : ∃ r, nxL T u = r := ⟨_, rfl⟩
      obtain ⟨re, hre⟩ : ∃ r, nxE T = r := ⟨_, rfl⟩
      rw [hrs, hrl, hre] at CN DN
      have RR : Hid ((re = 7 ∧ rs = 0 ∧ rl = 0) ∨ (re = 0 ∧ rs = T + 1 ∧ (rl = 0 ∨ rl = 1) ∧ rl ≠ u)) := by
        show _ ∨ _
        by_cases h : 4294967295 ≤ T
        · obtain ⟨q1, q2, q3⟩ := nx_bad (u := u) h
          exact .inl ⟨by rw [← hre]; exact q2, by rw [← hrs]; exact q1, by rw [← hrl]; exact q3⟩
        · obtain ⟨q1, q2, q3, q4⟩ := nx_ok (u := u) h
          exact .inr ⟨by rw [← hre]; exact q2, by rw [← hrs]; exact q1, by rw [← hrl]; exact q3, by rw [← hrl]; exact q4⟩
      clear e hT hrs hrl hre
      go_wp2_with fail
      refine Calls.mono (CN.out _ _ WC.out) ?_
      rintro e w3 ⟨rfl, b3⟩
      have B3 : Hid (Below w.heap.size w w3) := BW.out.trans (b3.mono BW.out.size)
      have W3 : Hid (IsW w3 b' l) := WD.out.keep b3
      clear b3
      go_wp2_with fail
      refine Calls.mono (DN.out _ _ W3.out) ?_
      rintro e w4 ⟨rfl, b4⟩
      have B4 : Hid (Below w.heap.size w w4) := B3.out.trans (b4.mono B3.out.size)
      have I4 : Hid (IsW w4 a l) := HI.out.keep B4.out
      clear b4
      go_upto_region 18 with (fail)
      go_loopw [81] (fun iv wr => ∃ (i : Nat), i ≤ j ∧ iv = .int .i64 (i : Nat) ∧ Below w4.heap.size w4 wr) (fun iv _ => j - (intOf iv).toNat)
      case atStart => exact ⟨0, by omega, rfl, Below.refl _ _⟩
      case round =>
        obtain ⟨i, hi, rfl, b5⟩ := hrel
        rename World => w5
        have B5 : Hid (Below w4.heap.size w4 w5) := b5
        clear b5
        by_cases hlt3 : i < j
        · have hlt4 : i < l.length := by rw [HN.out]; exact hlt3
          obtain ⟨gb, go, ea, c0, c1, c2, c3⟩ := (I4.out.keep B5.out).at i hlt4
          cases ea
          have xm := TL.out (rwD l i) (by rw [rwD_at hlt4]; exact List.getElem_mem _)
          obtain ⟨x, hx⟩ : ∃ x, rwD l i = x := ⟨_, rfl⟩
          rw [hx] at c0 c1 c2 c3 xm
          obtain ⟨D, hD, rD, bD, sD⟩ := boxF21 55 w5 x
          obtain ⟨xl, ⟨xs, xf, xn⟩⟩ := x
          unfold Fd.cs at hD rD
          simp only at hD rD c0 c1 c2 c3 xm
          obtain ⟨y0, y1, y2, y3⟩ := four21 rD
          have HD : Hid _ := hD
          have B6 : Hid (Below w4.heap.size w4 D) := B5.out.trans (bD.mono B5.out.size)
          have ij : (i : Int) < (j : Int) := by omega
          clear hx hD rD bD sD hlt4
          rcases RR.out with ⟨rfl, rfl, rfl⟩ | ⟨rfl, rfl, h3, h4⟩
          · go_upto_region 20 with (fail)
            rw [HD.out]
            go_wp2
            go_roundw
            case rel => exact ⟨i + 1, by omega, by go_num, B6.out⟩
            case measure => simp [intOf]; omega
          · have xt : ¬ T + 1 ≤ xs := by omega
            go_upto_region 20 with (fail)
            rw [HD.out]
            go_wp2
            go_roundw
            case rel => exact ⟨i + 1, by omega, by go_num, B6.out⟩
            case measure => simp [intOf]; omega
        · obtain rfl : i = j := by omega
          have BE : Hid (Below w.heap.size w w5) := B4.out.trans (B5.out.mono B4.out.size)
          have ij : ¬ (i : Int) < (i : Int) := by omega
          rcases RR.out with ⟨rfl, rfl, rfl⟩ | ⟨rfl, rfl, rfl | rfl, h4⟩
          · go_wp2
            go_ret
            exact ⟨rfl, BE.out⟩
          · have b4 : ((0 : Int) != u) = true := bne_iff_ne.2 h4
            go_wp2
            go_ret
            exact ⟨by simp, BE.out⟩
          · have b4 : ((1 : Int) != u) = true := bne_iff_ne.2 h4
            go_wp2
            go_ret
            exact ⟨by simp, BE.out⟩
end Go.Proofs.Ytofmicbhheebiaa
