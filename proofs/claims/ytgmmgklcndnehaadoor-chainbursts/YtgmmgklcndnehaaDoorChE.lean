/- Layer 19: Read of the code. -/
import Derived.Test.YtgmmgklcndnehaaDoorChD
import Derived.Test.YtgmmgklcndnehaaDoorErA
namespace Go.Proofs.YtgmmgklcndnehaaDoor
open Go.RowKit Go.Maps
set_option linter.unusedVariables false
set_option maxRecDepth 4000

/-- What Read answers: bytes and sectors of one's own, the error. -/
def RdQ (w : World) (bs ss : List Int) (c at' : Int) (e : Ending) (w' : World) : Prop :=
  ∃ ab cb as0 cs ev, e = .returned (.tuple #[.slice ab bs.length cb, .slice as0 ss.length cs, ev]) ∧ OwnsB w' w.heap.size ab bs cb ∧ OwnsI w' w.heap.size as0 ss cs ∧ ErrIs w' ev c at' ∧ Below w.heap.size w w'
theorem ownsI_nil (w : World) (base : Nat) : OwnsI w base none [] 0 := World.ownsRow_nil _ _ _ _
theorem ownsB_nil (w : World) (base : Nat) : OwnsB w base none [] 0 := World.ownsRow_nil _ _ _ _
theorem RdQ.ref {w w' : World} {c : Int} (h0 : 1 ≤ c) (h1 : c ≤ 17) (b : Below w.heap.size w w') : RdQ w [] [] c (-1) (.returned (.tuple #[.slice none 0 0, .slice none 0 0, .iface 72 (.agg #[.iface 44 (.int .i64 c)])])) w' :=
  ⟨none, 0, none, 0, _, rfl, ownsB_nil _ _, ownsI_nil _ _, .inr ⟨h0, h1, .inl ⟨rfl, rfl⟩⟩, b⟩
theorem RdQ.flt {w w' : World} {c s : Int} {q : Nat} (h0 : 1 ≤ c) (h1 : c ≤ 17) (b : Below w.heap.size w w') (hq : FltAt w' q s c) : RdQ w [] [] c s (.returned (.tuple #[.slice none 0 0, .slice none 0 0, .iface 98 (.pointer (some ⟨q, 0, none⟩))])) w' :=
  ⟨none, 0, none, 0, _, rfl, ownsB_nil _ _, ownsI_nil _ _, .inr ⟨h0, h1, .inr ⟨q, rfl, hq⟩⟩, b⟩
theorem wpList_bi {ops : Array Oper} {rest : List Oper} {o : Oper} {a : Act} {Q : Exit → Act → World → Prop} {w : World} (hgd : o.guard = none) (s x : Operand) (t : TypeId)
    (ho : o.op = .call { callee := .builtin .append, args := #[s, x], argTypes := #[t, t] }) (v1 v2 : Value) (hs : a.eval s = v1) (hx : a.eval x = v2) (v' : Value) (w' : World)
    (hr : (Builtin.append_ #[t, t] o.type #[v1, v2]).run Tryd.prog w = .ok v' w') (h : wpList Tryd.prog ops Q rest (a.put o.dst v') w') : wpList Tryd.prog ops Q (o :: rest) a w := by
  refine wpList_plain hgd fun K' hK' => ?_
  unfold Oper.wp execOp
  simp only [ho, resolve, invoke, builtin, Sem.run_bind, Sem.run_pure, Result.andThen_ok, List.map_toArray, List.map_cons, List.map_nil, hs, hx, hr]
  exact hK' _ _ h
theorem RdQ.fltB {N q : Nat} {w w' : World} {c s : Int} (hN : w.heap.size = N) (hq : w'.heap.size = q) (h0 : 1 ≤ c) (h1 : c ≤ 17) (b : Below N w w') : RdQ w [] [] c s (.returned (.tuple #[.slice none 0 0, .slice none 0 0, .iface 98 (.pointer (some ⟨q, 0, none⟩))])) (w'.alloc (.cells #[.int .i64 s, .iface 44 (.int .i64 c)] 100)) := by
  subst hq
  exact RdQ.flt h0 h1 (by rw [hN]; exact b.alloc (by have := b.size; omega) _) (Go.heap_alloc_new w' _)
theorem RdQ.fltA {N : Nat} {w w' : World} {c s : Int} (hN : w.heap.size = N) (h0 : 1 ≤ c) (h1 : c ≤ 17) (b : Below N w w') : RdQ w [] [] c s (.returned (.tuple #[.slice none 0 0, .slice none 0 0, .iface 98 (.pointer (some ⟨w'.heap.size, 0, none⟩))])) (w'.alloc (.cells #[.int .i64 s, .iface 44 (.int .i64 c)] 100)) :=
  RdQ.flt h0 h1 (by rw [hN]; exact b.alloc (by have := b.size; omega) _) (Go.heap_alloc_new w' _)

theorem hread_arg (b : Nat) (first n : Int) (w : World) (h : n < 1 ∨ 65542 < n) : Calls Tryd.prog 24 #[.pointer (some ⟨b, 0, none⟩), .int .i64 first, .int .i64 n] w (RdQ w [] [] 2 (-1)) := by
  by_cases h1 : n < 1
  · go_enter Tryd.func24, Tryd.ntmps24
    go_wp2
    go_ret3
    exact RdQ.ref (by decide) (by decide) (Below.refl _ _)
  · have h2 : 65542 < n := by omega
    go_enter Tryd.func24, Tryd.ntmps24
    go_wp2
    go_ret3
    exact RdQ.ref (by decide) (by decide) (Below.refl _ _)
theorem rsE_bd (d : Dk) (s : Int) (left : Nat) : 0 ≤ rsE d s left ∧ rsE d s left ≤ 17 := by unfold rsE; split <;> (try split) <;> (try split) <;> omega

set_option maxRecDepth 20000 in
set_option maxHeartbeats 8000000 in
theorem hread_go (base b m : Nat) (d : Dk) (first : Int) (n : Nat) (bs1 ss1 : List Int) (c1 at1 : Int) (w : World) (h : IsD w base b m d) (hn1 : 1 ≤ n) (hn2 : n ≤ 65542) (hf : -9223372036854775808 ≤ first ∧ first ≤ 9223372036854775807) (hR : rdG d (cntC n + 1) [] [] first n = (bs1, ss1, c1, at1)) :
    Calls Tryd.prog 24 #[.pointer (some ⟨b, 0, none⟩), .int .i64 first, .int .i64 (n : Nat)] w (RdQ w bs1 ss1 c1 at1) := by
  obtain ⟨N, hN⟩ : ∃ N, w.heap.size = N := ⟨_, rfl⟩
  have HN : Hid (w.heap.size = N) := hN
  have HD : Hid (∀ w', Below N w w' → IsD w' base b m d) := fun w' bb => h.keep (by rw [hN]; exact bb)
  have few := h.ok.few
  have b0 : Below N w (w.alloc (.map #[] 0)) := by rw [← hN]; exact (Below.refl _ w).alloc (Nat.le_refl _) _
  have S0 : Hid (RdS w (w.alloc (.map #[] 0)) N none 0 [] none 0 [] []) := ⟨ownsB_nil _ _, ownsI_nil _ _, by rw [← hN]; exact MapE.made w, b0⟩
  have HR : Hid (rdG d (cntC n + 1) [] [] first n = (bs1, ss1, c1, at1)) := hR
  have OKD : Hid (DkOk d) := h.ok
  have hmm : (Instr.makeMap 95 none).run Tryd.prog w = .ok (.map (some N)) (w.alloc (.map #[] 0)) := by rw [← hN]; exact run_makeMap _ w
  have g1 : ¬ (n : Int) < 1 := by omega
  have g2 : ¬ (65542 : Int) < (n : Int) := by omega
  clear h hN b0 hR
  go_enter Tryd.func24, Tryd.ntmps24
  go_wp2
  go_loopw [9, 10, 12] (fun bv sv av wr => ∃ ab cb bs as0 cs ss s left f, bv = .slice ab bs.length cb ∧ sv = .slice as0 ss.length cs ∧ av = .int .i64 s ∧ RdS w wr N ab cb bs as0 cs ss ss ∧ (-9223372036854775808 ≤ s ∧ s ≤ 9223372036854775807) ∧ bs.length + left = n ∧ ss.length ≤ bs.length ∧ left ≤ 56 * f ∧ rdG d (f + 1) bs ss s left = (bs1, ss1, c1, at1)) (fun bv _ _ _ => n - lenOf bv)
  case atStart => exact ⟨none, 0, [], none, 0, [], first, n, cntC n, rfl, rfl, rfl, S0.out, hf, by simp, Nat.zero_le _, by unfold cntC; omega, HR.out⟩
  case round =>
    obtain ⟨ab, cb, bs, as0, cs, ss, s, left, f, rfl, rfl, rfl, hS, hs, hleft, hssl, hfu, hr⟩ := hrel
    have HS : Hid (RdS w wr N ab cb bs as0 cs ss ss) := hS
    have HG : Hid (rdG d (f + 1) bs ss s left = (bs1, ss1, c1, at1)) := hr
    by_cases hl0 : left = 0
    · subst hl0
      have q := hr
      rw [rdG_end] at q
      simp only [Prod.mk.injEq] at q
      obtain ⟨rfl, rfl, rfl, rfl⟩ := q
      have e1 : ¬ (bs.length : Int) < (n : Int) := by omega
      clear hS hr
      go_wp2
      go_ret3
      refine ⟨ab, cb, as0, cs, .nilIface, rfl, ?_, ?_, .inl ⟨rfl, rfl, rfl⟩, by rw [HN.out]; exact HS.out.bl⟩
      · rw [HN.out]; exact HS.out.ob.mono (Nat.le_succ N)
      · rw [HN.out]
        obtain ⟨q1, q2 | ⟨g', c', cur, r1, r2, r3⟩⟩ := HS.out.oi
        · exact ⟨q1, .inl q2⟩
        · exact ⟨q1, .inr ⟨g', c', cur, r1, by omega, r3⟩⟩
    · have e1 : (bs.length : Int) < (n : Int) := by omega
      have LK := hS.mp.look (i := s) hs
      have BA : Hid (Below N w (wr.alloc (.cells #[] 96))) := HS.out.bl.alloc (Nat.le_of_lt HS.out.le) _
      have SA : Hid (RdS w (wr.alloc (.cells #[] 96)) N ab cb bs as0 cs ss ss) := HS.out.keep ((Below.refl _ wr).alloc (Nat.le_refl _) _)
      clear hS hr
      by_cases hmem : s ∈ ss
      · rw [decide_eq_true hmem] at LK
        have q := HG.out
        rw [rdG_bad hl0 (by rw [secE_bad (.inl hmem)]; decide), secE_bad (.inl hmem)] at q
        simp only [Prod.mk.injEq] at q
        obtain ⟨rfl, rfl, rfl, rfl⟩ := q
        clear hmem HG
        go_wp2
        go_ret3
        exact RdQ.fltB (c := 4) (q := wr.heap.size + 1) HN.out (by simp) (by decide) (by decide) BA.out
      · rw [decide_eq_false hmem] at LK
        have HX : Hid (¬ s ∈ ss) := hmem
        clear hmem
        by_cases hrg : 1 ≤ s ∧ s ≤ (d.n : Int) - 2
        · obtain ⟨s1, s2⟩ := hrg
          have HRG : Hid (decide (1 ≤ s ∧ s ≤ (d.n : Int) - 2) = true) := decide_eq_true ⟨s1, s2⟩
          have SE := secE_of (d := d) (ss := ss) (left := left) HX.out s1 s2
          have sub : IntKind.i64.wrap ((n : Int) - (bs.length : Int)) = (left : Int) := by rw [IntKind.wrap_i64]; omega
          obtain ⟨wA, hwA⟩ : ∃ wA, wr.alloc (.cells #[] 96) = wA := ⟨_, rfl⟩
          have HWA : Hid (wr.alloc (.cells #[] 96) = wA) := hwA
          rw [hwA] at BA SA
          have RS : Calls Tryd.prog 46 #[.pointer (some ⟨b, 0, none⟩), .int .i64 s, .int .i64 (left : Nat)] wA (RsP wA d s left) := by
            cases hd : d.down
            · exact hrs_up base b m d s left wA (HD.out _ BA.out) hd s1 s2 (by omega) (by omega)
            · exact hrs_down base b m d s left wA (HD.out _ BA.out) hd
          by_cases hE : rsE d s left = 0
          · obtain ⟨_, _, _, hdn, _, _⟩ := secE_zero (SE.trans hE)
            have q := HG.out
            obtain ⟨f', rfl⟩ : ∃ f', f = f' + 1 := ⟨f - 1, by omega⟩
            rw [rdG_go hl0 (SE.trans hE)] at q
            obtain ⟨B, hB⟩ : ∃ B, readL d s = B := ⟨_, rfl⟩
            obtain ⟨b64, bAll⟩ := readL_ok OKD.out (closed_of s1 s2 hdn)
            rw [hB] at b64 bAll q
            obtain ⟨nx, hnx⟩ : ∃ nx, nextC B = nx := ⟨_, rfl⟩
            obtain ⟨nx0, nx1⟩ := nextC_bd bAll
            rw [hnx] at nx0 nx1 q
            have HQ : Hid (rdG d (f' + 1) (bs ++ B.take (min left 56)) (ss ++ [s]) nx (left - 56) = (bs1, ss1, c1, at1)) := q
            obtain ⟨K, hK⟩ : ∃ K, wA.heap.size = K := ⟨_, rfl⟩
            have RS2 : Hid (Calls Tryd.prog 46 #[.pointer (some ⟨b, 0, none⟩), .int .i64 s, .int .i64 (left : Nat)] wA fun e w' => e = .returned (.tuple #[.slice (some ⟨K, 0, none⟩) (min left 56) 64, .int .i64 nx, .int .i64 0]) ∧ RowB w' K 85 B ∧ Below wA.heap.size wA w') := by
              refine RS.mono ?_
              rintro e w' ⟨bb, ⟨q0, _⟩ | ⟨_, q1, q2⟩⟩
              · exact absurd hE q0
              · rw [hB, hnx, hK] at q1
                rw [hB, hK] at q2
                exact ⟨q1, q2, bb⟩
            have TL : Hid ((B.take (min left 56)).length = min left 56) := by show _ = _; rw [List.length_take, b64]; omega
            have IBt : Hid (∀ w', RowB w' K 85 B → IsB w' (some ⟨K, 0, none⟩) (B.take (min left 56))) := fun w' r => by
              have q := (r.isB bAll).part 0 (min left 56) rfl
              simpa using q
            have KN : Hid (N < K) := by show _ < _; rw [← hK]; exact SA.out.le
            clear RS hE SE q hB hnx b64 bAll s1 s2 HG hK hwA hdn
            go_wp2_with (first
              | (go_at_call 45; rw [HWA.out]; refine (len_any base b m d _ (HD.out _ BA.out)).mono ?_; rintro e w' ⟨rfl, rfl⟩)
              | (go_at_call 44; refine (hisdata_of s d.n true _ (by omega) (by omega) HRG.out).mono ?_; rintro e w' ⟨rfl, rfl⟩)
              | (go_at_call 46; refine Calls.mono RS2.out ?_; rintro e w1 ⟨rfl, r1, bb1⟩; have R1 : Hid (RowB w1 K 85 B) := r1; have S1 : Hid (RdS w w1 N ab cb bs as0 cs ss ss) := SA.out.keep bb1; obtain ⟨w5, h5, s5, z5, o5⟩ := S1.out.put (by omega) hs; have R5 : Hid (RowB w5 K 85 B) := o5.row R1.out (by have := KN.out; omega); obtain ⟨a6, c6, w6, h6, s6⟩ := s5.addB ⟨K, 0, none⟩ (B.take (min left 56)) (min left 56) 64 TL.out (IBt.out _ R5.out) (by rw [TL.out]; omega); obtain ⟨a7, c7, w7, h7, s7⟩ := s6.addI s hs (by omega); have S7 : Hid (RdS w w7 N a6 c6 (bs ++ B.take (min left 56)) a7 c7 (ss ++ [s]) (ss ++ [s])) := s7; clear r1 bb1 s5 s6 s7 z5 o5)
              | (at_builtin; refine wpList_bi rfl _ _ 22 rfl _ _ rfl rfl _ _ h6 ?_)
              | (at_builtin; refine wpList_bi rfl _ _ 23 rfl _ _ rfl rfl _ _ h7 ?_))
            go_roundw
            case rel => exact ⟨a6, c6, bs ++ B.take (min left 56), a7, c7, ss ++ [s], nx, left - 56, f', by first | rfl | simp, by first | rfl | simp, rfl, S7.out, by omega, by rw [List.length_append, TL.out]; omega, by rw [List.length_append, List.length_append, TL.out]; simp; omega, by omega, HQ.out⟩
            case measure => have tl := TL.out; rw [List.length_take] at tl; simp [lenOf]; omega
          · have q := HG.out
            rw [rdG_bad hl0 (by rw [SE]; exact hE), SE] at q
            simp only [Prod.mk.injEq] at q
            obtain ⟨rfl, rfl, rfl, rfl⟩ := q
            obtain ⟨e0, e17⟩ := rsE_bd d s left
            obtain ⟨E, hEE⟩ : ∃ E, rsE d s left = E := ⟨_, rfl⟩
            rw [hEE] at e0 e17
            have E0 : (E != 0) = true := by rw [bne_iff_ne, ← hEE]; exact hE
            have E1 : 1 ≤ E := by have : E ≠ 0 := by rw [← hEE]; exact hE
                                  omega
            have RS2 : Hid (Calls Tryd.prog 46 #[.pointer (some ⟨b, 0, none⟩), .int .i64 s, .int .i64 (left : Nat)] wA fun e w' => e = .returned (.tuple #[.slice none 0 0, .int .i64 0, .int .i64 E]) ∧ Below wA.heap.size wA w') := by
              refine RS.mono ?_
              rintro e w' ⟨bb, ⟨_, q1⟩ | ⟨q0, _⟩⟩
              · rw [hEE] at q1
                exact ⟨q1, bb⟩
              · exact absurd q0 hE
            have KN : Hid (N ≤ wA.heap.size) := Nat.le_of_lt SA.out.le
            have HEE : Hid (rsE d s left = E) := hEE
            clear RS hE SE s1 s2 HG hwA hEE
            go_wp2_with (first
              | (go_at_call 45; rw [HWA.out]; refine (len_any base b m d _ (HD.out _ BA.out)).mono ?_; rintro e w' ⟨rfl, rfl⟩)
              | (go_at_call 44; refine (hisdata_of s d.n true _ (by omega) (by omega) HRG.out).mono ?_; rintro e w' ⟨rfl, rfl⟩)
              | (go_at_call 46; refine Calls.mono RS2.out ?_; rintro e w1 ⟨rfl, bb1⟩; have B1 : Hid (Below N w w1) := BA.out.trans (bb1.mono KN.out); clear bb1))
            go_ret3
            rw [HEE.out]
            exact RdQ.fltA HN.out E1 e17 B1.out
        · have q := HG.out
          rw [rdG_bad hl0 (by rw [secE_bad (.inr hrg)]; decide), secE_bad (.inr hrg)] at q
          simp only [Prod.mk.injEq] at q
          obtain ⟨rfl, rfl, rfl, rfl⟩ := q
          have HRG : Hid (decide (1 ≤ s ∧ s ≤ (d.n : Int) - 2) = false) := decide_eq_false hrg
          clear hrg HG
          go_wp2_with (first
            | (go_at_call 45; refine (len_any base b m d _ (HD.out _ BA.out)).mono ?_; rintro e w' ⟨rfl, rfl⟩)
            | (go_at_call 44; refine (hisdata_of s d.n false _ (by omega) (by omega) HRG.out).mono ?_; rintro e w' ⟨rfl, rfl⟩))
          go_ret3
          exact RdQ.fltB (c := 4) (q := wr.heap.size + 1) HN.out (by simp) (by decide) (by decide) BA.out

/-- Read, of a disk. -/
theorem hread_any (base b m : Nat) (d : Dk) (first n : Int) (w : World) (h : IsD w base b m d) (hf : -9223372036854775808 ≤ first ∧ first ≤ 9223372036854775807) :
    Calls Tryd.prog 24 #[.pointer (some ⟨b, 0, none⟩), .int .i64 first, .int .i64 n] w (RdQ w (rdC d first n).1 (rdC d first n).2.1 (rdC d first n).2.2.1 (rdC d first n).2.2.2) := by
  unfold rdC
  by_cases hn : 1 ≤ n ∧ n ≤ 65542
  · rw [if_pos hn]
    obtain ⟨k, rfl⟩ : ∃ k : Nat, n = k := ⟨n.toNat, by omega⟩
    exact hread_go base b m d first k _ _ _ _ w h (by omega) (by omega) hf (by rw [Int.toNat_natCast])
  · rw [if_neg hn]
    exact hread_arg b first n w (by omega)
end Go.Proofs.YtgmmgklcndnehaaDoor
