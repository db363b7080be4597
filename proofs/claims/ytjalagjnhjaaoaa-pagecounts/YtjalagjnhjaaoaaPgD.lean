/- Layer 18: the walk of ReadRows of the document. -/
import Derived.Test.YtjalagjnhjaaoaaPgC
namespace Go.Proofs.Ytjalagjnhjaaoaa
open Go.RowKit
set_option linter.unusedVariables false
set_option maxRecDepth 4000

theorem wpList_runw {ops : Array Oper} {rest : List Oper} {o : Oper} {a : Act} {Q : Exit → Act → World → Prop} {w : World} (hgd : o.guard = none) (hty : o.type = 22) (s x : Operand)
    (ho : o.op = .call { callee := .builtin .append, args := #[s, x], argTypes := #[22, 22] }) (v1 v2 v' : Value) (w' : World) (hs : a.eval s = v1) (hx : a.eval x = v2)
    (hrun : (Builtin.append_ #[22, 22] 22 #[v1, v2]).run Try.prog w = .ok v' w') (h : wpList Try.prog ops Q rest (a.put o.dst v') w') : wpList Try.prog ops Q (o :: rest) a w := by
  refine wpList_plain hgd fun K' hK' => ?_
  unfold Oper.wp
  simp [execOp, ho, hty, resolve, invoke, builtin, hs, hx, hrun, Result.andThen]
  exact hK' _ _ h
/-- What ReadRows leaves behind. -/
def RrPost (w : World) (l : List Int) (e : Ending) (w' : World) : Prop :=
  ∃ a' c', e = .returned (.tuple #[.slice a' (pgRd rowRd 32 l).1.length c', .int .i64 (pgRd rowRd 32 l).2]) ∧ Ow w' w.heap.size a' (pgRd rowRd 32 l).1 c' ∧ Below w.heap.size w w'
theorem rrPost_bad {w w' : World} {l : List Int} {er : Int} (h : pgRd rowRd 32 l = ([], er)) (b : Below w.heap.size w w') : RrPost w l (.returned (.tuple #[.slice none 0 0, .int .i64 er])) w' := by
  unfold RrPost
  rw [h]
  exact ⟨none, 0, rfl, Ow.nil _ _, b⟩
theorem rrPost_ok {w w' : World} {l : List Int} {L : List HRw} {a : Option Addr} {c : Nat} (h : pgRd rowRd 32 l = (L, 0)) (o : Ow w' w.heap.size a L c) (b : Below w.heap.size w w') : RrPost w l (.returned (.tuple #[.slice a L.length c, .int .i64 0])) w' := by
  unfold RrPost
  rw [h]
  exact ⟨a, c, rfl, o, b⟩
set_option maxRecDepth 20000 in
set_option maxHeartbeats 8000000 in
/-- ReadRows of the document. -/
theorem dreadrows_any (a : Option Addr) (cap : Nat) (l : List Int) (w : World) (hB : IsB w a l) (hlen : l.length ≤ 140737488355328) :
    Calls Try.prog 17 #[.slice a l.length cap] w (RrPost w l) := by
  have HB : Hid (IsB w a l) := hB
  have H0 : Hid (l = [] ∨ 0 < w.heap.size) := by
    obtain ⟨_, h | ⟨b, off, _, hs, _⟩⟩ := hB
    · exact .inl h
    · exact .inr (by omega)
  have HL : Hid (AllB l) := hB.1
  clear hB
  go_enter Try.func17, Try.ntmps17
  go_wp2_with fail
  refine (copy_any a cap _ l _ rfl HB.out hlen).mono ?_
  rintro e w3 ⟨g, c3, rfl, o3, b3⟩
  obtain ⟨D, hD⟩ : ∃ D, w3.alloc (.cells #[.slice (some ⟨g, 0, none⟩) l.length c3, .int .i64 0] 68) = D := ⟨_, rfl⟩
  obtain ⟨rf4, b4⟩ := newrf18 hD o3 HL.out H0.out
  have B4 : Hid (Below w.heap.size w D) := b3.trans (b4.mono b3.size)
  have hBM : w.heap.size ≤ w3.heap.size := b3.size
  have HD : Hid _ := hD
  obtain ⟨M, hM⟩ : ∃ M, w3.heap.size = M := ⟨_, rfl⟩
  have EM : Hid (w3.heap.size = M) := hM
  rw [hM] at rf4 hBM
  have RF4 : Hid (RfAt D 0 M l 0) := rf4
  clear rf4 b3 b4 o3 hD hM
  go_wp2_with fail
  rw [HD.out]
  try rw [EM.out]
  refine (rupto_any 0 M l 0 32 _ RF4.out).mono ?_
  rcases up_cases l 32 HL.out with ⟨n, r, hu, n0, n1, hl⟩ | ⟨er, hu, her⟩
  · rw [hu]
    rintro e w5 ⟨rfl, r5, g5⟩
    have HU : Hid (upS l 0 32 = (n, r, 0)) := hu
    have B5 : Hid (Below w.heap.size w w5) := B4.out.trans ((Tg.ofGrown g5).below hBM B4.out.size)
    have R5 : Hid (RfAt w5 0 M r 0) := r5
    have wn : IntKind.i64.wrap n = n := by rw [IntKind.wrap_i64]; omega
    clear r5 g5 hu hl
    by_cases hn : n = 0
    · subst hn
      have Q : Hid (pgRd rowRd 32 l = ([], 4)) := pg_zero HU.out
      go_wp2_with fail
      refine (rfail_any 0 M r 0 4 _ R5.out).mono ?_
      rintro e w6 ⟨rfl, r6, g6⟩
      have F6 : Hid (failV 0 4 = 4) := rfl
      rw [F6.out] at r6
      have R6 : Hid (RfAt w6 0 M r 4) := r6
      have B6 : Hid (Below w.heap.size w w6) := B5.out.trans ((Tg.ofGrown g6).below hBM B5.out.size)
      clear r6 g6
      go_wp2_with fail
      refine wp_loop_rounds 1 ?_
      rw [rounds_succ]
      go_wp2_with fail
      have ev : endV r 4 = 4 := by rw [endV, if_neg (by first | exact hne | decide)]
      have EV : Hid (endV r 4 = 4) := ev
      clear ev
      refine (rend_any 0 M r 4 _ R6.out).mono ?_
      rw [EV.out]
      rintro e w' ⟨rfl, rfl⟩
      go_wp2_with fail
      refine (rend_any 0 M r 4 _ R6.out).mono ?_
      rw [EV.out]
      rintro e w' ⟨rfl, rfl⟩
      go_wp2
      go_ret2
      exact rrPost_bad Q.out B6.out
    · obtain ⟨N, rfl⟩ : ∃ N : Nat, n = (N : Int) := ⟨n.toNat, by omega⟩
      have nq : ((N : Int) == 0) = false := by rw [beq_eq_false_iff_ne]; exact hn
      have S0 : Hid (Rk w w5 M N r 0 [] none 0 r 0) := ⟨R5.out, Ow.nil _ _, B5.out, hBM, rfl, .inl ⟨rfl, rfl⟩⟩
      clear R5 B5 RF4 B4 HD
      go_wp2_with fail
      go_loopw [6, 7] (fun ov iv wr => ∃ (m : Nat) (acc : List HRw) (a : Option Addr) (c : Nat) (lr : List Int) (er : Int), m ≤ N ∧ iv = .int .i64 (m : Nat) ∧ ov = .slice a acc.length c ∧ Rk w wr M N r m acc a c lr er) (fun _ iv _ => N - (intOf iv).toNat)
      case atStart => exact ⟨0, [], none, 0, r, 0, Nat.zero_le _, rfl, rfl, S0.out⟩
      case round =>
        clear S0
        obtain ⟨m, acc, a, c, lr, er, hm, rfl, rfl, hS⟩ := hrel
        rename World => wr
        have HS : Hid (Rk w wr M N r m acc a c lr er) := hS
        have er1 := hS.rd.err
        clear hS
        by_cases he : er = 0
        · subst he
          by_cases hmn : m < N
          · have m0 : (m : Int) < (N : Int) := by omega
            have LA : Hid (acc.length ≤ 100000) := by show _ ≤ _; rw [HS.out.len]; omega
            have PH : Hid (manyRd rowRd N r [] = manyRd rowRd (N - m) lr acc) := by
              rcases HS.out.ph with ⟨_, q⟩ | ⟨q, _⟩
              · exact q
              · exact absurd rfl q
            have PN : Hid (N - m = N - (m + 1) + 1) := by show _ = _; omega
            have AL : AllB lr := HS.out.rd.allB
            go_wp2_with fail
            refine (rupto_any 0 M lr 0 131071 _ HS.out.rd).mono ?_
            rcases up_cases lr 131071 AL with ⟨g, r1, hu, g0, g1, hl⟩ | ⟨er, hu, her⟩
            · rw [hu]
              rintro e w7 ⟨rfl, r7, g7⟩
              have HU1 : Hid (upS lr 0 131071 = (g, r1, 0)) := hu
              have AL1 : AllB r1 := by rw [hl] at AL; exact AL.right
              have wg : IntKind.i64.wrap g = g := by rw [IntKind.wrap_i64]; omega
              have d1 : g.tdiv 2 = g / 2 := Int.tdiv_eq_ediv_of_nonneg g0
              have d2 : g.tmod 2 = g % 2 := Int.tmod_eq_emod_of_nonneg g0
              have wd : IntKind.i64.wrap (g / 2) = g / 2 := by rw [IntKind.wrap_i64]; omega
              have wm : IntKind.i64.wrap (g % 2) = g % 2 := by rw [IntKind.wrap_i64]; omega
              clear hu hl
              by_cases h1 : g % 2 = 1
              · have hb : (g % 2 == 1) = true := by rw [beq_iff_eq]; exact h1
                have SX0 := HS.out.box r7 (Tg.ofGrown g7) (g / 2) true
                obtain ⟨X, hX⟩ : ∃ X, w7.alloc (.cells #[.int .i64 (g / 2), .bool true, .int .i64 0, .int .i64 0] 51) = X := ⟨_, rfl⟩
                obtain ⟨K, hK⟩ : ∃ K, w7.heap.size = K := ⟨_, rfl⟩
                rw [hX, hK] at SX0
                have HX : Hid _ := hX
                have HK : Hid (w7.heap.size = K) := hK
                have S0 : Hid (Rx w X M acc a c r1 0 K (g / 2) true 0 0) := SX0
                obtain ⟨x0, x1, x2, x3, _, _⟩ := SX0.cells
                clear hX hK SX0 r7 g7
                go_upto_region 11 with (fail)
                rw [HX.out]
                try rw [HK.out]
                by_cases hg1 : g = 1
                · subst hg1
                  go_wp2_with fail
                  refine (rfail_any 0 M r1 0 4 _ S0.out.rd).mono ?_
                  rintro e wf ⟨rfl, rf, gf⟩
                  have Sf : Hid (Rx w wf M acc a c r1 4 K (1 / 2) true 0 0) := S0.out.tg rf (Tg.ofGrown gf)
                  obtain ⟨x0, x1, x2, x3, _, _⟩ := Sf.out.cells
                  clear rf gf
                  go_wp2_with fail
                  refine (rupto_any 0 M r1 4 63 _ Sf.out.rd).mono ?_
                  rw [up_stop (by decide)]
                  rintro e w8 ⟨rfl, r8, g8⟩
                  have T8 : Hid (Rx w w8 M acc a c r1 4 K (1 / 2) true 0 0) := Sf.out.tg r8 (Tg.ofGrown g8)
                  obtain ⟨y0, y1, y2, y3, f2, f3⟩ := T8.out.cells
                  have q8 := T8.out.kind 0
                  obtain ⟨Y8, hY8⟩ : ∃ Y, w8.setCell ⟨K, 2, none⟩ (.int .i64 0) = Y := ⟨_, rfl⟩
                  rw [hY8] at q8
                  have HY8 : Hid _ := hY8
                  have S8 : Hid (Rx w Y8 M acc a c r1 4 K (1 / 2) true 0 0) := q8
                  obtain ⟨x0, x1, x2, x3, _, _⟩ := S8.out.cells
                  clear r8 g8 hY8 q8
                  go_upto_region 15 with (fail)
                  rw [HY8.out]
                  clear y0 y1 y2 y3 f2 f3
                  go_wp2_with fail
                  refine (rupto_any 0 M r1 4 1048575 _ S8.out.rd).mono ?_
                  rw [up_stop (by decide)]
                  rintro e w9 ⟨rfl, r9, g9⟩
                  have T9 : Hid (Rx w w9 M acc a c r1 4 K (1 / 2) true 0 0) := S8.out.tg r9 (Tg.ofGrown g9)
                  obtain ⟨y0, y1, y2, y3, f2, f3⟩ := T9.out.cells
                  have q9 := T9.out.at 0
                  obtain ⟨Y9, hY9⟩ : ∃ Y, w9.setCell ⟨K, 3, none⟩ (.int .i64 0) = Y := ⟨_, rfl⟩
                  rw [hY9] at q9
                  have HY9 : Hid _ := hY9
                  have S9 : Hid (Rx w Y9 M acc a c r1 4 K (1 / 2) true 0 0) := q9
                  obtain ⟨x0, x1, x2, x3, _, _⟩ := S9.out.cells
                  clear r9 g9 hY9 q9
                  go_upto_region 16 with (fail)
                  rw [HY9.out]
                  clear y0 y1 y2 y3 f2 f3
                  have SX := S9
                  obtain ⟨a6, c6, w6, run6, r6, o6, b6⟩ := SX.out.app LA.out
                  have RUN6 : Hid _ := run6
                  have NX : Hid (Rk w w6 M N r (m + 1) (acc ++ [(⟨1 / 2, true, 0, 0⟩ : HRw)]) a6 c6 r1 4) := ⟨r6, o6, b6, HS.out.hM, by rw [List.length_append, HS.out.len]; rfl, .inr ⟨by decide, by rw [PH.out, PN.out, many_bad (row_one HU1.out) (by decide)]⟩⟩
                  clear run6 r6 o6 b6
                  go_wp2_with (at_builtin; refine wpList_runw rfl rfl _ _ rfl _ _ _ _ rfl rfl RUN6.out ?_)
                  go_wp2
                  go_roundw
                  case rel => exact ⟨m + 1, _, _, _, _, _, by omega, by go_num, by rw [List.length_append]; rfl, NX.out⟩
                  case measure => simp [intOf]; omega
                · have hq : (g == 1) = false := by rw [beq_eq_false_iff_ne]; exact hg1
                  rcases up_cases r1 63 AL1 with ⟨k, r2, hk, k0, k1, hl2⟩ | ⟨er, hk, her⟩
                  · have AL2 : AllB r2 := by rw [hl2] at AL1; exact AL1.right
                    have HK1 : Hid (upS r1 0 63 = (k, r2, 0)) := hk
                    have wk : IntKind.i64.wrap k = k := by rw [IntKind.wrap_i64]; omega
                    clear hk hl2
                    go_wp2_with fail
                    refine (rupto_any 0 M r1 0 63 _ S0.out.rd).mono ?_
                    rw [HK1.out]
                    rintro e w8 ⟨rfl, r8, g8⟩
                    have T8 : Hid (Rx w w8 M acc a c r2 0 K (g / 2) true 0 0) := S0.out.tg r8 (Tg.ofGrown g8)
                    obtain ⟨y0, y1, y2, y3, f2, f3⟩ := T8.out.cells
                    have q8 := T8.out.kind k
                    obtain ⟨Y8, hY8⟩ : ∃ Y, w8.setCell ⟨K, 2, none⟩ (.int .i64 k) = Y := ⟨_, rfl⟩
                    rw [hY8] at q8
                    have HY8 : Hid _ := hY8
                    have S8 : Hid (Rx w Y8 M acc a c r2 0 K (g / 2) true k 0) := q8
                    obtain ⟨x0, x1, x2, x3, _, _⟩ := S8.out.cells
                    clear r8 g8 hY8 q8
                    go_upto_region 15 with (fail)
                    rw [HY8.out]
                    clear y0 y1 y2 y3 f2 f3
                    rcases up_cases r2 1048575 AL2 with ⟨p, r3, hp, p0, p1, hl3⟩ | ⟨er, hp, her⟩
                    · have HP1 : Hid (upS r2 0 1048575 = (p, r3, 0)) := hp
                      have wp : IntKind.i64.wrap p = p := by rw [IntKind.wrap_i64]; omega
                      clear hp hl3
                      go_wp2_with fail
                      refine (rupto_any 0 M r2 0 1048575 _ S8.out.rd).mono ?_
                      rw [HP1.out]
                      rintro e w9 ⟨rfl, r9, g9⟩
                      have T9 : Hid (Rx w w9 M acc a c r3 0 K (g / 2) true k 0) := S8.out.tg r9 (Tg.ofGrown g9)
                      obtain ⟨y0, y1, y2, y3, f2, f3⟩ := T9.out.cells
                      have q9 := T9.out.at p
                      obtain ⟨Y9, hY9⟩ : ∃ Y, w9.setCell ⟨K, 3, none⟩ (.int .i64 p) = Y := ⟨_, rfl⟩
                      rw [hY9] at q9
                      have HY9 : Hid _ := hY9
                      have S9 : Hid (Rx w Y9 M acc a c r3 0 K (g / 2) true k p) := q9
                      obtain ⟨x0, x1, x2, x3, _, _⟩ := S9.out.cells
                      clear r9 g9 hY9 q9
                      go_upto_region 16 with (fail)
                      rw [HY9.out]
                      clear y0 y1 y2 y3 f2 f3
                      have SX := S9
                      obtain ⟨a6, c6, w6, run6, r6, o6, b6⟩ := SX.out.app LA.out
                      have RUN6 : Hid _ := run6
                      have NX : Hid (Rk w w6 M N r (m + 1) (acc ++ [(⟨g / 2, true, k, p⟩ : HRw)]) a6 c6 r3 0) := ⟨r6, o6, b6, HS.out.hM, by rw [List.length_append, HS.out.len]; rfl, .inl ⟨rfl, by rw [PH.out, PN.out, many_go (row_ok HU1.out hg1 h1 HK1.out HP1.out)]⟩⟩
                      clear run6 r6 o6 b6
                      go_wp2_with (at_builtin; refine wpList_runw rfl rfl _ _ rfl _ _ _ _ rfl rfl RUN6.out ?_)
                      go_wp2
                      go_roundw
                      case rel => exact ⟨m + 1, _, _, _, _, _, by omega, by go_num, by rw [List.length_append]; rfl, NX.out⟩
                      case measure => simp [intOf]; omega
                    · have HP1 : Hid (upS r2 0 1048575 = (0, r2, er)) := hp
                      have hne : er ≠ 0 := by omega
                      clear hp her
                      go_wp2_with fail
                      refine (rupto_any 0 M r2 0 1048575 _ S8.out.rd).mono ?_
                      rw [HP1.out]
                      rintro e w9 ⟨rfl, r9, g9⟩
                      have T9 : Hid (Rx w w9 M acc a c r2 er K (g / 2) true k 0) := S8.out.tg r9 (Tg.ofGrown g9)
                      obtain ⟨y0, y1, y2, y3, f2, f3⟩ := T9.out.cells
                      have q9 := T9.out.at 0
                      obtain ⟨Y9, hY9⟩ : ∃ Y, w9.setCell ⟨K, 3, none⟩ (.int .i64 0) = Y := ⟨_, rfl⟩
                      rw [hY9] at q9
                      have HY9 : Hid _ := hY9
                      have S9 : Hid (Rx w Y9 M acc a c r2 er K (g / 2) true k 0) := q9
                      obtain ⟨x0, x1, x2, x3, _, _⟩ := S9.out.cells
                      clear r9 g9 hY9 q9
                      go_upto_region 16 with (fail)
                      rw [HY9.out]
                      clear y0 y1 y2 y3 f2 f3
                      have SX := S9
                      obtain ⟨a6, c6, w6, run6, r6, o6, b6⟩ := SX.out.app LA.out
                      have RUN6 : Hid _ := run6
                      have NX : Hid (Rk w w6 M N r (m + 1) (acc ++ [(⟨g / 2, true, k, 0⟩ : HRw)]) a6 c6 r2 er) := ⟨r6, o6, b6, HS.out.hM, by rw [List.length_append, HS.out.len]; rfl, .inr ⟨hne, by rw [PH.out, PN.out, many_bad (row_bad3 HU1.out hg1 h1 HK1.out HP1.out hne) hne]⟩⟩
                      clear run6 r6 o6 b6
                      go_wp2_with (at_builtin; refine wpList_runw rfl rfl _ _ rfl _ _ _ _ rfl rfl RUN6.out ?_)
                      go_wp2
                      go_roundw
                      case rel => exact ⟨m + 1, _, _, _, _, _, by omega, by go_num, by rw [List.length_append]; rfl, NX.out⟩
                      case measure => simp [intOf]; omega
                  · have HK1 : Hid (upS r1 0 63 = (0, r1, er)) := hk
                    have hne : er ≠ 0 := by omega
                    clear hk her
                    go_wp2_with fail
                    refine (rupto_any 0 M r1 0 63 _ S0.out.rd).mono ?_
                    rw [HK1.out]
                    rintro e w8 ⟨rfl, r8, g8⟩
                    have T8 : Hid (Rx w w8 M acc a c r1 er K (g / 2) true 0 0) := S0.out.tg r8 (Tg.ofGrown g8)
                    obtain ⟨y0, y1, y2, y3, f2, f3⟩ := T8.out.cells
                    have q8 := T8.out.kind 0
                    obtain ⟨Y8, hY8⟩ : ∃ Y, w8.setCell ⟨K, 2, none⟩ (.int .i64 0) = Y := ⟨_, rfl⟩
                    rw [hY8] at q8
                    have HY8 : Hid _ := hY8
                    have S8 : Hid (Rx w Y8 M acc a c r1 er K (g / 2) true 0 0) := q8
                    obtain ⟨x0, x1, x2, x3, _, _⟩ := S8.out.cells
                    clear r8 g8 hY8 q8
                    go_upto_region 15 with (fail)
                    rw [HY8.out]
                    clear y0 y1 y2 y3 f2 f3
                    go_wp2_with fail
                    refine (rupto_any 0 M r1 er 1048575 _ S8.out.rd).mono ?_
                    rw [up_stop hne]
                    rintro e w9 ⟨rfl, r9, g9⟩
                    have T9 : Hid (Rx w w9 M acc a c r1 er K (g / 2) true 0 0) := S8.out.tg r9 (Tg.ofGrown g9)
                    obtain ⟨y0, y1, y2, y3, f2, f3⟩ := T9.out.cells
                    have q9 := T9.out.at 0
                    obtain ⟨Y9, hY9⟩ : ∃ Y, w9.setCell ⟨K, 3, none⟩ (.int .i64 0) = Y := ⟨_, rfl⟩
                    rw [hY9] at q9
                    have HY9 : Hid _ := hY9
                    have S9 : Hid (Rx w Y9 M acc a c r1 er K (g / 2) true 0 0) := q9
                    obtain ⟨x0, x1, x2, x3, _, _⟩ := S9.out.cells
                    clear r9 g9 hY9 q9
                    go_upto_region 16 with (fail)
                    rw [HY9.out]
                    clear y0 y1 y2 y3 f2 f3
                    have SX := S9
                    obtain ⟨a6, c6, w6, run6, r6, o6, b6⟩ := SX.out.app LA.out
                    have RUN6 : Hid _ := run6
                    have NX : Hid (Rk w w6 M N r (m + 1) (acc ++ [(⟨g / 2, true, 0, 0⟩ : HRw)]) a6 c6 r1 er) := ⟨r6, o6, b6, HS.out.hM, by rw [List.length_append, HS.out.len]; rfl, .inr ⟨hne, by rw [PH.out, PN.out, many_bad (row_bad2 HU1.out hg1 h1 HK1.out hne) hne]⟩⟩
                    clear run6 r6 o6 b6
                    go_wp2_with (at_builtin; refine wpList_runw rfl rfl _ _ rfl _ _ _ _ rfl rfl RUN6.out ?_)
                    go_wp2
                    go_roundw
                    case rel => exact ⟨m + 1, _, _, _, _, _, by omega, by go_num, by rw [List.length_append]; rfl, NX.out⟩
                    case measure => simp [intOf]; omega
              · have hb : (g % 2 == 1) = false := by rw [beq_eq_false_iff_ne]; exact h1
                have hq : (g == 1) = false := by rw [beq_eq_false_iff_ne]; omega
                have SX0 := HS.out.box r7 (Tg.ofGrown g7) (g / 2) false
                obtain ⟨X, hX⟩ : ∃ X, w7.alloc (.cells #[.int .i64 (g / 2), .bool false, .int .i64 0, .int .i64 0] 51) = X := ⟨_, rfl⟩
                obtain ⟨K, hK⟩ : ∃ K, w7.heap.size = K := ⟨_, rfl⟩
                rw [hX, hK] at SX0
                have HX : Hid _ := hX
                have HK : Hid (w7.heap.size = K) := hK
                have SX : Hid (Rx w X M acc a c r1 0 K (g / 2) false 0 0) := SX0
                obtain ⟨x0, x1, x2, x3, _, _⟩ := SX0.cells
                clear hX hK SX0 r7 g7
                go_upto_region 11 with (fail)
                rw [HX.out]
                try rw [HK.out]
                obtain ⟨a6, c6, w6, run6, r6, o6, b6⟩ := SX.out.app LA.out
                have RUN6 : Hid _ := run6
                have NX : Hid (Rk w w6 M N r (m + 1) (acc ++ [(⟨g / 2, false, 0, 0⟩ : HRw)]) a6 c6 r1 0) := ⟨r6, o6, b6, HS.out.hM, by rw [List.length_append, HS.out.len]; rfl, .inl ⟨rfl, by rw [PH.out, PN.out, many_go (row_dead HU1.out h1)]⟩⟩
                clear run6 r6 o6 b6
                go_wp2_with (at_builtin; refine wpList_runw rfl rfl _ _ rfl _ _ _ _ rfl rfl RUN6.out ?_)
                go_wp2
                go_roundw
                case rel => exact ⟨m + 1, _, _, _, _, _, by omega, by go_num, by rw [List.length_append]; rfl, NX.out⟩
                case measure => simp [intOf]; omega
            · rw [hu]
              rintro e w7 ⟨rfl, r7, g7⟩
              have HU1 : Hid (upS lr 0 131071 = (0, lr, er)) := hu
              have hne : er ≠ 0 := by omega
              have SX0 := HS.out.box r7 (Tg.ofGrown g7) 0 false
              obtain ⟨X, hX⟩ : ∃ X, w7.alloc (.cells #[.int .i64 0, .bool false, .int .i64 0, .int .i64 0] 51) = X := ⟨_, rfl⟩
              obtain ⟨K, hK⟩ : ∃ K, w7.heap.size = K := ⟨_, rfl⟩
              rw [hX, hK] at SX0
              have HX : Hid _ := hX
              have HK : Hid (w7.heap.size = K) := hK
              have SX : Hid (Rx w X M acc a c lr er K 0 false 0 0) := SX0
              obtain ⟨x0, x1, x2, x3, _, _⟩ := SX0.cells
              clear hX hK SX0 r7 g7 hu her
              go_upto_region 11 with (fail)
              rw [HX.out]
              try rw [HK.out]
              obtain ⟨a6, c6, w6, run6, r6, o6, b6⟩ := SX.out.app LA.out
              have RUN6 : Hid _ := run6
              have NX : Hid (Rk w w6 M N r (m + 1) (acc ++ [(⟨0, false, 0, 0⟩ : HRw)]) a6 c6 lr er) := ⟨r6, o6, b6, HS.out.hM, by rw [List.length_append, HS.out.len]; rfl, .inr ⟨hne, by rw [PH.out, PN.out, many_bad (row_bad1 HU1.out hne) hne]⟩⟩
              clear run6 r6 o6 b6
              go_wp2_with (at_builtin; refine wpList_runw rfl rfl _ _ rfl _ _ _ _ rfl rfl RUN6.out ?_)
              go_wp2
              go_roundw
              case rel => exact ⟨m + 1, _, _, _, _, _, by omega, by go_num, by rw [List.length_append]; rfl, NX.out⟩
              case measure => simp [intOf]; omega
          · obtain rfl : m = N := by omega
            have PH : Hid (manyRd rowRd m r [] = (acc, lr, 0)) := by
              rcases HS.out.ph with ⟨_, q⟩ | ⟨q, _⟩
              · rw [Nat.sub_self] at q; exact q
              · exact absurd rfl q
            have Q0 : Hid (pgRd rowRd 32 l = if endP lr 0 = 0 then (acc, 0) else ([], endP lr 0)) := pg_end (rd := rowRd) HU.out hn PH.out
            by_cases hlr : lr = []
            · have Q : Hid (pgRd rowRd 32 l = (acc, 0)) := by
                have e1 : endP lr 0 = 0 := by unfold endP; rw [if_pos rfl, if_pos hlr]
                show _ = _
                rw [Q0.out, e1, if_pos rfl]
              have EV : Hid (endV lr 0 = 0) := by show _ = _; rw [endV, if_pos rfl, if_pos (by rw [hlr]; rfl)]
              clear hlr Q0
              go_wp2_with fail
              refine (rend_any 0 M lr 0 _ HS.out.rd).mono ?_
              rw [EV.out]
              rintro e w' ⟨rfl, rfl⟩
              go_wp2
              go_ret2
              exact rrPost_ok Q.out (HS.out.own.mono (by omega)) HS.out.low
            · have Q : Hid (pgRd rowRd 32 l = ([], 6)) := by
                have e1 : endP lr 0 = 6 := by unfold endP; rw [if_pos rfl, if_neg hlr]
                show _ = _
                rw [Q0.out, e1, if_neg (by decide)]
              have EV : Hid (endV lr 0 = 6) := by show _ = _; rw [endV, if_pos rfl, if_neg (fun e => hlr (List.eq_nil_of_length_eq_zero e))]
              clear hlr Q0
              go_wp2_with fail
              refine (rend_any 0 M lr 0 _ HS.out.rd).mono ?_
              rw [EV.out]
              rintro e w' ⟨rfl, rfl⟩
              go_wp2_with fail
              refine (rend_any 0 M lr 0 _ HS.out.rd).mono ?_
              rw [EV.out]
              rintro e w' ⟨rfl, rfl⟩
              go_wp2
              go_ret2
              exact rrPost_bad Q.out HS.out.low
        · have ne : (er == 0) = false := by rw [beq_eq_false_iff_ne]; exact he
          have ne2 : (er != 0) = true := by rw [bne_iff_ne]; exact he
          have PH : Hid (manyRd rowRd N r [] = ([], [], er)) := by
            rcases HS.out.ph with ⟨q, _⟩ | ⟨_, q⟩
            · exact absurd q he
            · exact q
          have Q : Hid (pgRd rowRd 32 l = ([], er)) := by
            have q := pg_end (rd := rowRd) (L := []) (r2 := []) (e := er) HU.out hn PH.out
            have e1 : endP [] er = er := by unfold endP; rw [if_neg he]
            rw [e1, if_neg he] at q
            exact q
          have EV : Hid (endV lr er = er) := by show _ = _; rw [endV, if_neg he]
          by_cases hmn : m < N
          · have m0 : (m : Int) < (N : Int) := by omega
            go_wp2_with fail
            refine (rend_any 0 M lr er _ HS.out.rd).mono ?_
            rw [EV.out]
            rintro e w' ⟨rfl, rfl⟩
            go_wp2_with fail
            refine (rend_any 0 M lr er _ HS.out.rd).mono ?_
            rw [EV.out]
            rintro e w' ⟨rfl, rfl⟩
            go_wp2
            go_ret2
            exact rrPost_bad Q.out HS.out.low
          · have m0 : ¬ (m : Int) < (N : Int) := by omega
            go_wp2_with fail
            refine (rend_any 0 M lr er _ HS.out.rd).mono ?_
            rw [EV.out]
            rintro e w' ⟨rfl, rfl⟩
            go_wp2_with fail
            refine (rend_any 0 M lr er _ HS.out.rd).mono ?_
            rw [EV.out]
            rintro e w' ⟨rfl, rfl⟩
            go_wp2
            go_ret2
            exact rrPost_bad Q.out HS.out.low
  · rw [hu]
    rintro e w5 ⟨rfl, r5, g5⟩
    have HU : Hid (upS l 0 32 = (0, l, er)) := hu
    have B5 : Hid (Below w.heap.size w w5) := B4.out.trans ((Tg.ofGrown g5).below hBM B4.out.size)
    have R5 : Hid (RfAt w5 0 M l er) := r5
    have hne : er ≠ 0 := by omega
    have ne : (er != 0) = true := by rw [bne_iff_ne]; exact hne
    have Q : Hid (pgRd rowRd 32 l = ([], er)) := pg_bad1 HU.out hne
    clear r5 g5 hu her
    go_wp2_with fail
    refine (rfail_any 0 M l er 4 _ R5.out).mono ?_
    rintro e w6 ⟨rfl, r6, g6⟩
    have F6 : Hid (failV er 4 = er) := if_neg hne
    rw [F6.out] at r6
    have R6 : Hid (RfAt w6 0 M l er) := r6
    have B6 : Hid (Below w.heap.size w w6) := B5.out.trans ((Tg.ofGrown g6).below hBM B5.out.size)
    clear r6 g6
    go_wp2_with fail
    refine wp_loop_rounds 1 ?_
    rw [rounds_succ]
    go_wp2_with fail
    have ev : endV l er = er := by rw [endV, if_neg (by first | exact hne | decide)]
    have EV : Hid (endV l er = er) := ev
    clear ev
    refine (rend_any 0 M l er _ R6.out).mono ?_
    rw [EV.out]
    rintro e w' ⟨rfl, rfl⟩
    go_wp2_with fail
    refine (rend_any 0 M l er _ R6.out).mono ?_
    rw [EV.out]
    rintro e w' ⟨rfl, rfl⟩
    go_wp2
    go_ret2
    exact rrPost_bad Q.out B6.out

end Go.Proofs.Ytjalagjnhjaaoaa
