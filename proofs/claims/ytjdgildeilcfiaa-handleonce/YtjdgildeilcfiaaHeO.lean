/- What the law HandleOnce goes through. -/
import Derived.Test.YtjdgildeilcfiaaHeB
namespace Go.Proofs.Ytjdgildeilcfiaa
open Go.RowKit
set_option linter.unusedVariables false

set_option maxRecDepth 20000 in
set_option maxHeartbeats 2000000 in
theorem handleOnce_any (a0 : Option Addr) (cap0 : Nat) (l0 : List Nat) (a1 : Option Addr) (cap1 : Nat) (l1 : List Cl) (w : World) (h0 : IsU w a0 l0) (h1 : IsC w a1 l1) (hl0 : l0.length ≤ maxLen) (hl1 : l1.length ≤ maxLen) :
    Calls Try.prog 8 #[.slice a0 l0.length cap0, .slice a1 l1.length cap1] w fun e w' => e = .returned (.bool true) ∧ Below w.heap.size w w' := by
  have H0 : Hid (IsU w a0 l0) := h0
  have H1 : Hid (IsC w a1 l1) := h1
  unfold maxLen at hl0 hl1
  clear h0 h1
  obtain ⟨F, hF⟩ : ∃ F, l0.length = F := ⟨_, rfl⟩
  have EF : Hid (l0.length = F) := hF
  rw [hF] at hl0 ⊢
  clear hF
  go_enter Try.func8, Try.ntmps8
  go_wp2_with fail
  refine (alive_any _).mono ?_
  rintro e w1 ⟨rfl, b1⟩
  have B1 : Hid (Below w.heap.size w w1) := b1
  have z1 := b1.size
  clear b1
  by_cases hz : F = 0
  · have hzI : (F : Int) = 0 := by omega
    go_wp2
    go_ret
    exact ⟨rfl, B1.out⟩
  · have hzI : ¬ ((F : Int) = 0) := by omega
    by_cases hb : 20 < F
    · have hbI : (F : Int) > 20 := by omega
      go_wp2
      go_ret
      exact ⟨rfl, B1.out⟩
    · have hbI : ¬ ((20 : Int) < (F : Int)) := by omega
      have hzb : ((F : Int) == 0) = false := by simp; omega
      have hbd : decide ((20 : Int) < (F : Int)) = false := decide_eq_false hbI
      go_wp2
      go_loopw [5, 31] (fun rv iv wr => ∃ (i : Nat) (a : Option Addr) (c : Nat), i ≤ F ∧ rv = .slice a (genR (l0.take i)).length c ∧ iv = .int .i64 (i : Nat) ∧ Ow wr w.heap.size a (genR (l0.take i)) c ∧ Below w.heap.size w wr) (fun _ iv _ => F - (intOf iv).toNat)
      case atStart => exact ⟨0, none, 0, Nat.zero_le _, rfl, rfl, Ow.nil _ _, B1.out⟩
      case round =>
        clear B1 z1
        obtain ⟨i, a, c, hi, rfl, rfl, hO, hB⟩ := hrel
        rename World => wr
        have HO : Hid (Ow wr w.heap.size a (genR (l0.take i)) c) := hO
        have HB : Hid (Below w.heap.size w wr) := hB
        have z1 := hB.size
        clear hO hB
        by_cases hlt : i < F
        · obtain ⟨hu, he | ⟨ub, uo, rfl, hub, huc⟩⟩ := H0.out
          · have q := EF.out; rw [he] at q; simp at q; omega
          · have hlt0 : i < l0.length := by rw [EF.out]; exact hlt
            have c0 := huc i hlt0
            have hx := hu (l0[i]'hlt0) (List.getElem_mem hlt0)
            have TT : Hid (genR (l0.take (i + 1)) = genR (l0.take i) ++ [⟨max 1 ((l0[i]'hlt0 : Nat) : Int), false, 0, 0⟩]) := genR_take hlt0
            obtain ⟨x, hxe⟩ : ∃ x, l0[i]'hlt0 = x := ⟨_, rfl⟩
            rw [hxe] at c0 hx TT
            obtain ⟨G, hG⟩ : ∃ G, genR (l0.take i) = G := ⟨_, rfl⟩
            have hGl : G.length ≤ 20 := by rw [← hG, genR_len, List.length_take]; omega
            obtain ⟨X, hX⟩ : ∃ X : Int, max 1 (x : Int) = X := ⟨_, rfl⟩
            rw [hG] at HO TT ⊢
            rw [hX] at TT
            have c1 : wr.cell? ⟨ub, uo + i, none⟩ = some (.int .u16 (x : Nat)) := (HB.out.cell (p := ⟨ub, uo + i, none⟩) hub).trans c0
            have hlt' : (i : Int) < (F : Int) := by omega
            clear hu huc hxe hG c0
            by_cases hx1 : (1 : Int) < (x : Int)
            · obtain rfl : X = (x : Nat) := by omega
              obtain ⟨wz, hwz⟩ : ∃ wz, wr.alloc (.cells #[.int .i64 (x : Nat), .bool false, .int .i64 0, .int .i64 0] 44) = wz := ⟨_, rfl⟩
              have BZ : Below wr.heap.size wr wz := by rw [← hwz]; exact (Below.refl _ wr).alloc (Nat.le_refl _) _
              have QZ : wz.heap[wr.heap.size]? = some (.cells #[.int .i64 (x : Nat), .bool false, .int .i64 0, .int .i64 0] 44 (0, 0)) := by rw [← hwz]; exact Go.heap_alloc_new wr _
              obtain ⟨a', c', w3, hrun, r3, u3, o3⟩ := appW_run 40 w.heap.size wz (by have := BZ.size; omega) a G c (HO.out.keep BZ) wr.heap.size 0 [⟨(x : Nat), false, 0, 0⟩] 1 (fun i hi => by
                simp at hi; subst hi
                exact ⟨cell_of_row _ _ 0 _ _ _ QZ, cell_of_row _ _ 1 _ _ _ QZ, cell_of_row _ _ 2 _ _ _ QZ, cell_of_row _ _ 3 _ _ _ QZ⟩) (by simp; omega)
              simp only [List.length_cons, List.length_nil, Nat.zero_add] at hrun
              have R3 : Hid (Ow w3 w.heap.size a' (G ++ [⟨(x : Nat), false, 0, 0⟩]) c') := r3
              have B3 : Hid (Below w.heap.size w w3) := HB.out.trans ((BZ.mono z1).trans (u3.below (fun k hk => (HO.out.ge k hk).1) (by have := BZ.size; omega)))
              clear r3 u3 o3 QZ BZ
              go_wp2_with (at_builtin; (try rw [hwz]); refine step_app rfl 40 _ _ rfl (.slice a G.length c) (.slice (some ⟨wr.heap.size, 0, none⟩) 1 1) (.slice a' (G.length + 1) c') w3 rfl rfl hrun ?_)
              go_roundw
              case rel =>
                refine ⟨i + 1, a', c', by omega, by rw [TT.out]; simp, by go_num, ?_, B3.out⟩
                rw [TT.out]; exact R3.out
              case measure => simp [intOf]; omega
            · obtain rfl : X = 1 := by omega
              obtain ⟨wz, hwz⟩ : ∃ wz, wr.alloc (.cells #[.int .i64 1, .bool false, .int .i64 0, .int .i64 0] 44) = wz := ⟨_, rfl⟩
              have BZ : Below wr.heap.size wr wz := by rw [← hwz]; exact (Below.refl _ wr).alloc (Nat.le_refl _) _
              have QZ : wz.heap[wr.heap.size]? = some (.cells #[.int .i64 1, .bool false, .int .i64 0, .int .i64 0] 44 (0, 0)) := by rw [← hwz]; exact Go.heap_alloc_new wr _
              obtain ⟨a', c', w3, hrun, r3, u3, o3⟩ := appW_run 40 w.heap.size wz (by have := BZ.size; omega) a G c (HO.out.keep BZ) wr.heap.size 0 [⟨1, false, 0, 0⟩] 1 (fun i hi => by
                simp at hi; subst hi
                exact ⟨cell_of_row _ _ 0 _ _ _ QZ, cell_of_row _ _ 1 _ _ _ QZ, cell_of_row _ _ 2 _ _ _ QZ, cell_of_row _ _ 3 _ _ _ QZ⟩) (by simp; omega)
              simp only [List.length_cons, List.length_nil, Nat.zero_add] at hrun
              have R3 : Hid (Ow w3 w.heap.size a' (G ++ [⟨1, false, 0, 0⟩]) c') := r3
              have B3 : Hid (Below w.heap.size w w3) := HB.out.trans ((BZ.mono z1).trans (u3.below (fun k hk => (HO.out.ge k hk).1) (by have := BZ.size; omega)))
              clear r3 u3 o3 QZ BZ
              go_wp2_with (at_builtin; (try rw [hwz]); refine step_app rfl 40 _ _ rfl (.slice a G.length c) (.slice (some ⟨wr.heap.size, 0, none⟩) 1 1) (.slice a' (G.length + 1) c') w3 rfl rfl hrun ?_)
              go_roundw
              case rel =>
                refine ⟨i + 1, a', c', by omega, by rw [TT.out]; simp, by go_num, ?_, B3.out⟩
                rw [TT.out]; exact R3.out
              case measure => simp [intOf]; omega
        · obtain rfl : i = F := by omega
          have ER : l0.take i = l0 := List.take_of_length_le (by rw [EF.out]; exact Nat.le_refl _)
          rw [ER] at HO ⊢
          have hRl : (genR l0).length = i := by rw [genR_len]; exact EF.out
          have GR : Hid (Gd i (genR l0)) := by have q := genR_gd l0 (by rw [EF.out]; omega) (by rw [EF.out]; omega) H0.out.1; rw [EF.out] at q; exact q
          obtain ⟨R, hR⟩ : ∃ R, genR l0 = R := ⟨_, rfl⟩
          rw [hR] at HO hRl GR ⊢
          clear ER hR H0
          have FO : Hid (Calls Try.prog 14 #[.int .i64 (i : Nat), .slice a i c] wr fun e w' => ∃ b a' c', e = .returned (.tuple #[.pointer (some ⟨b, 0, none⟩), .int .i64 0]) ∧ Ct w' wr.heap.size b a' c' i R ∧ Below wr.heap.size wr w') := by
            have q := from_ok i a c R wr HO.out.isW (fun e => by have q := HO.out; subst e; exact q.no) HO.out.spot GR.out
            rw [hRl] at q
            exact q
          rw [hRl]
          go_wp2_with fail
          refine FO.out.mono ?_
          rintro e w2 ⟨b, a2, c2, rfl, k2, b2⟩
          have O2 : Hid (Onc wr w2 b a2 c2 i R none 0 []) := ⟨⟨k2, b2⟩, Oh.nil _ _⟩
          have UR : Hid (R.length = i) := hRl
          clear k2 b2 FO hRl
          go_wp2
          go_loopw [10, 11] (fun gv jv wq => ∃ (j : Nat) (a : Option Addr) (c : Nat) (L : List Rw) (ah : Option Addr) (ch : Nat) (M : List Nat), j ≤ l1.length ∧ j ≤ 150 ∧ gv = .slice ah M.length ch ∧ jv = .int .i64 (j : Nat) ∧ M.length ≤ j ∧ Up R L ∧ (∀ x ∈ M, Ge L x) ∧ Onc wr wq b a c i L ah ch M) (fun _ jv _ => 150 - (intOf jv).toNat)
          case atStart => exact ⟨0, a2, c2, R, none, 0, [], Nat.zero_le _, Nat.zero_le _, rfl, rfl, Nat.zero_le _, Up.refl _, fun x hx => (by cases hx), O2.out⟩
          case round =>
            clear O2
            obtain ⟨j, a3, c3, L, ah, ch, M, hj, hj2, rfl, rfl, hMj, hU, hGe, hO⟩ := hrel
            rename World => wq
            have HQ : Hid (Onc wr wq b a3 c3 i L ah ch M) := hO
            have HU : Hid (Up R L) := hU
            have HG : Hid (∀ x ∈ M, Ge L x) := hGe
            have hLl : L.length = i := by rw [hU.len]; exact UR.out
            have BW : Hid (Below w.heap.size w wq) := HB.out.trans (hO.on.bel.mono z1)
            clear hO hU hGe
            by_cases hgo : j < l1.length ∧ j < 150
            · obtain ⟨hlt3, hlt4⟩ := hgo
              have e3 : (j : Int) < (l1.length : Int) := by omega
              have e4 : (j : Int) < 150 := by omega
              obtain ⟨sb, so, q, ea2, hq, hsb, hat, hok⟩ := H1.out.call j hlt3
              obtain ⟨s0, s1, s2, s3, s4⟩ := hat.keep hsb BW.out
              have r1 := hok.n
              have SK : Hid (∀ w' : World, Below w.heap.size w w' → ClAt w' sb (so + j * 5) q) := fun w' hb => hat.keep hsb hb
              obtain ⟨qk, qn, qh, q2, qp⟩ := q
              simp only at s0 s1 s2 s3 s4 r1
              subst ea2
              clear hq hat hok
              by_cases hk1 : qk = 1
              · subst hk1
                have hnx := nx_le L
                by_cases hf : i ≤ nxL L
                · have ED : Hid (decide (i ≤ nxL L) = true) := decide_eq_true hf
                  have HF : Hid (i ≤ nxL L) := hf
                  clear hf hnx
                  go_wp2_with (first
                    | (go_at_call 25; refine (full_any wr.heap.size b a3 c3 i L _ HQ.out.on.ct).mono ?_; rw [ED.out]; rintro e w5 ⟨rfl, b5⟩; have Q5 : Hid (Onc wr w5 b a3 c3 i L ah ch M) := HQ.out.keep b5; clear b5)
                    | (go_at_call 20; refine (make_full wr.heap.size b a3 c3 i L 0 0 _ Q5.out.on.ct HF.out).mono ?_; rintro e w6 ⟨rfl, b6⟩; have Q6 : Hid (Onc wr w6 b a3 c3 i L ah ch M) := Q5.out.keep b6; clear b6))
                  go_roundw
                  case rel => exact ⟨j + 1, a3, c3, L, ah, ch, M, by omega, by omega, rfl, by go_num, by omega, HU.out, HG.out, Q6.out⟩
                  case measure => simp [intOf]; omega
                · have ED : Hid (decide (i ≤ nxL L) = false) := decide_eq_false hf
                  have hnL : nxL L < L.length := by omega
                  obtain ⟨N, hN⟩ : ∃ N, ofN ((nxL L : Nat) + 1) (makeG L) = N := ⟨_, rfl⟩
                  obtain ⟨g1, g2, g3, g4, g5, g6, g7⟩ := given HQ.out.on.ct.gd HU.out HG.out hnL 0 0 N hN
                  have EN : Hid (ofN ((nxL L : Nat) + 1) (makeG L) = N) := hN
                  have NM : Hid (N ∉ M) := g6
                  have G7 : Hid (∀ x ∈ M ++ [N], Ge (makeL L 0 0) x) := g7
                  have U7 : Hid (Up R (makeL L 0 0)) := HU.out.make hnL 0 0
                  have HNX : Hid (nxL L < i) := by show _ < _; omega
                  have hkR : nxL L < R.length := by rw [UR.out]; omega
                  have g5' := g5 hkR
                  have GW : Hid (∀ w' : World, Below wr.heap.size wr w' → ∃ g, a = some ⟨g, 0, none⟩ ∧ w'.cell? ⟨g, nxL L * 4, none⟩ = some (.int .i64 (R[nxL L]'hkR).gen)) := fun w' hb => by
                    obtain ⟨g, e, _, hgs, k0, _⟩ := HO.out.cells (nxL L) hkR
                    exact ⟨g, e, (hb.cell (p := ⟨g, nxL L * 4, none⟩) hgs).trans k0⟩
                  obtain ⟨rk, hrk⟩ : ∃ rk, (R[nxL L]'hkR).gen = rk := ⟨_, rfl⟩
                  rw [hrk] at g5' GW
                  obtain ⟨G, hG⟩ : ∃ G, makeG L = G := ⟨_, rfl⟩
                  rw [hG] at g3 g4 g5' EN
                  obtain ⟨k, hk⟩ : ∃ k, nxL L = k := ⟨_, rfl⟩
                  have EK : Hid (nxL L = k) := hk
                  have EG : Hid (makeG L = G) := hG
                  have ED' : Hid (decide (i ≤ k) = false) := by have q := ED.out; rw [hk] at q; exact q
                  rw [hk] at g1 GW hnL HNX
                  have hki : k < i := HNX.out
                  obtain ⟨gg, ega, ck⟩ := GW.out wq HQ.out.on.bel
                  clear hN hG hk hrk g5 g6 g7 hf ED hkR
                  go_wp2_with fail
                  refine (full_any wr.heap.size b a3 c3 i L _ HQ.out.on.ct).mono ?_
                  rw [EK.out, ED'.out]
                  rintro e w5 ⟨rfl, b5⟩
                  have Q5 : Hid (Onc wr w5 b a3 c3 i L ah ch M) := HQ.out.keep b5
                  clear b5
                  go_wp2_with fail
                  refine (make_any wr.heap.size b a3 c3 i L 0 0 _ Q5.out.on.ct Q5.out.on.bel.size (by rw [EK.out]; exact hki)).mono ?_
                  have EN2 := EN.out
                  rw [EK.out] at EN2
                  rw [EK.out, EG.out, EN2]
                  rintro e w6 ⟨a6, c6, rfl, k6, t6, _⟩
                  have Q6 : Hid (Onc wr w6 b a6 c6 i (makeL L 0 0) ah ch M) := Q5.out.turn k6 t6
                  clear k6 t6
                  subst ega
                  obtain ⟨g9, e9, ck6⟩ := GW.out w6 Q6.out.on.bel
                  obtain rfl : gg = g9 := by cases e9; rfl
                  have n1 : (N : Int) % 65536 = ((k + 1 : Nat) : Int) := by omega
                  have n2 : (N : Int).tmod 65536 = ((k + 1 : Nat) : Int) := by rw [Int.tmod_eq_emod_of_nonneg (by omega)]; exact n1
                  have n3 : (N : Int) / 65536 = G := by omega
                  have n4 : (N : Int).tdiv 65536 = G := by rw [Int.tdiv_eq_ediv_of_nonneg (by omega)]; exact n3
                  have n5 : ((k + 1 : Nat) : Int) - 1 = (k : Nat) := by omega
                  have n6 : ¬ ((k : Int) < 0) := by omega
                  have n7 : ¬ ((k : Int) ≥ (i : Int)) := by omega
                  have n8 : ¬ (G ≤ rk) := by omega
                  have n9 : ¬ (G > 65535) := by omega
                  have m1 : (k : Int) < (i : Int) := by omega
                  have m2 : IntKind.i64.wrap ((k + 1 : Nat) : Int) = ((k + 1 : Nat) : Int) := by rw [IntKind.wrap_i64]; omega
                  have m3 : IntKind.i64.wrap G = G := by rw [IntKind.wrap_i64]; omega
                  have hM1 := HQ.out.oh.len
                  clear e9
                  go_wp2
                  have CM : Hid (∀ p (hp : p < M.length), ∃ gh, ah = some ⟨gh, 0, none⟩ ∧ w6.cell? ⟨gh, p, none⟩ = some (.int .u64 (M[p] : Nat)) ∧ ¬ ((M[p] : Int) = (N : Int))) := fun p hp => by
                    obtain ⟨gh, e, _, _, kc⟩ := Q6.out.oh.cells p hp
                    refine ⟨gh, e, kc, fun e => NM.out ?_⟩
                    have e' : M[p] = N := by omega
                    rw [← e']; exact List.getElem_mem hp
                  obtain ⟨Ml, hMl⟩ : ∃ Ml, M.length = Ml := ⟨_, rfl⟩
                  have EML : Hid (M.length = Ml) := hMl
                  obtain ⟨wz, hwz⟩ : ∃ wz, w6.alloc (.cells #[.int .u64 (N : Nat)] 34) = wz := ⟨_, rfl⟩
                  have BZ : Below w6.heap.size w6 wz := by rw [← hwz]; exact (Below.refl _ w6).alloc (Nat.le_refl _) _
                  have QZ : wz.heap[w6.heap.size]? = some (.cells #[.int .u64 (N : Nat)] 34 (0, 0)) := by rw [← hwz]; exact Go.heap_alloc_new w6 _
                  have zq := Q6.out.on.bel.size
                  obtain ⟨ax, cx, wx, hrun, rx, ux, _⟩ := appH_run 31 wr.heap.size wz (by have := BZ.size; omega) ah M ch ((Q6.out.keep BZ).oh) w6.heap.size N 1 (cell_of_row wz _ 0 _ _ _ QZ) (by omega)
                  have OX : Hid (Onc wr wx b a6 c6 i (makeL L 0 0) ax cx (M ++ [N])) := (Q6.out.keep BZ).more rx ux
                  have HW : Hid (w6.alloc (.cells #[.int .u64 (N : Nat)] 34) = wz) := hwz
                  rw [hMl] at hM1 hMj hrun ⊢
                  clear rx ux QZ BZ hMl hwz
                  go_loopw [139] (fun pv wy => ∃ p : Nat, p ≤ Ml ∧ pv = .int .i64 (p : Nat) ∧ wy = w6) (fun pv _ => Ml - (intOf pv).toNat)
                  case atStart => exact ⟨0, Nat.zero_le _, rfl, rfl⟩
                  case round =>
                    obtain ⟨p, hp, rfl, rfl⟩ := hrel
                    by_cases hpl : p < Ml
                    · obtain ⟨gh, rfl, kp, np⟩ := CM.out p (by rw [EML.out]; exact hpl)
                      obtain ⟨mp, hmp⟩ : ∃ mp, M[p]'(by rw [EML.out]; exact hpl) = mp := ⟨_, rfl⟩
                      rw [hmp] at kp np
                      have hpl' : (p : Int) < (Ml : Int) := by omega
                      clear hmp
                      go_wp2
                      go_roundw
                      case rel => exact ⟨p + 1, by omega, by go_num, trivial⟩
                      case measure => simp [intOf]; omega
                    · obtain rfl : p = Ml := by omega
                      have hwz := HW.out
                      go_wp2_with (at_builtin; (try rw [hwz]); refine step_app rfl 31 _ _ rfl (.slice ah p ch) (.slice (some ⟨_, 0, none⟩) 1 1) (.slice ax (p + 1) cx) wx rfl rfl hrun ?_)
                      go_roundw
                      case rel =>
                        refine ⟨j + 1, a6, c6, _, ax, cx, M ++ [N], by omega, by omega, ?_, by go_num, ?_, U7.out, G7.out, OX.out⟩
                        · rw [List.length_append, EML.out]; rfl
                        · rw [List.length_append, EML.out]; simp; omega
                      case measure => simp [intOf]; omega
              · go_wp2_with fail
                refine (live_any wr.heap.size b a3 c3 i L _ HQ.out.on.ct).mono ?_
                rintro e w6 ⟨a6, c6, rfl, o6, b6⟩
                have O6 : Hid (Onc wr w6 b a3 c3 i L ah ch M) := HQ.out.keep b6
                have H6 : Hid (Oh w6 wq.heap.size a6 (liveF 0 L) c6) := o6
                have hM6 : (liveF 0 L).length ≤ 4096 := by have q1 := liveF_len L 0; have q2 := HQ.out.on.ct.len; omega
                obtain ⟨M6, hM⟩ : ∃ M, (liveF 0 L).length = M := ⟨_, rfl⟩
                have EM6 : Hid ((liveF 0 L).length = M6) := hM
                have u1 := (SK.out w6 (HB.out.trans (O6.out.on.bel.mono z1))).2.1
                simp only at u1
                rw [hM] at hM6 ⊢
                clear o6 b6 hM
                by_cases hz6 : M6 = 0
                · subst hz6
                  go_wp2
                  go_roundw
                  case rel => exact ⟨j + 1, a3, c3, L, ah, ch, M, by omega, by omega, rfl, by go_num, by omega, HU.out, HG.out, O6.out⟩
                  case measure => simp [intOf]; omega
                · have hz6' : ¬ (M6 = 0) := hz6
                  have hz6I : (M6 : Int) > 0 := by omega
                  obtain ⟨V, hV, hVM⟩ := rem_small qn M6 (by omega) (by omega)
                  obtain ⟨g6, rfl, hg1', hg2', kc⟩ := H6.out.cells V (by rw [EM6.out]; exact hVM)
                  obtain ⟨i6, hi6, hgl6⟩ := O6.out.on.ct.nth V (by rw [EM6.out]; exact hVM)
                  obtain ⟨X, hX⟩ : ∃ X, (liveF 0 L)[V]'(by rw [EM6.out]; exact hVM) = X := ⟨_, rfl⟩
                  rw [hX] at kc hi6 hgl6
                  have LV6 : Hid (LvAt L X i6) := hi6
                  have h0V : (0 : Int) ≤ (V : Nat) := by omega
                  have hVM' : (V : Int) < (M6 : Int) := by omega
                  clear hi6 hX
                  go_wp2_with (go_at_call 22; refine (drop_ok wr.heap.size b a3 c3 i L X i6 _ O6.out.on.ct hgl6 LV6.out).mono ?_; rintro e w8 ⟨rfl, k8, t8⟩; have O8 : Hid (Onc wr w8 b a3 c3 i (dropL L i6) ah ch M) := O6.out.turn k8 t8; clear k8 t8)
                  go_roundw
                  case rel => exact ⟨j + 1, a3, c3, _, ah, ch, M, by omega, by omega, rfl, by go_num, by omega, HU.out.drop LV6.out.lt, fun x hx => (HG.out x hx).drop LV6.out.lt, O8.out⟩
                  case measure => simp [intOf]; omega
            · have hgo3 : (j = l1.length) ∨ (j < l1.length ∧ j = 150) := by omega
              rcases hgo3 with rfl | ⟨hlt3, rfl⟩
              · go_wp2
                go_ret
                exact ⟨rfl, BW.out⟩
              · have e3 : ((150 : Nat) : Int) < (l1.length : Int) := by omega
                go_wp2
                go_ret
                exact ⟨rfl, BW.out⟩
end Go.Proofs.Ytjdgildeilcfiaa
