/- Frames one behind the other are the bytes of each, are cut into themselves, and any bytes are cut as they are split: the law FrameCuts, for every input. -/
import Derived.Test.YtjmbmicollkmkaaFrT
namespace Go.Proofs.Ytjmbmicollkmkaa
open Go.ChangeShapes Go.WideShapes Go.ChangeAt Go.RowKit
set_option linter.unusedVariables false

/-- Under way: the first i parts have been gone through. -/
structure CtAt (w wr : World) (fs : List Fr) (i : Nat) (ai aw : Option Addr) (ci cw : Nat) : Prop where
  row : RowF wr w.heap.size ai (fs.take i) ci
  want : OwnsB wr w.heap.size aw (wantB (fs.take i)) cw
  few : ∀ j (h : j < fs.length), j < i → fs[j].b.length ≤ 2000
  below : Below w.heap.size w wr

theorem RowF.grownB {w w' : World} {base base' cap n cs : Nat} {a as0 : Option Addr} {l : List Int} {fs : List Fr} (h : RowF w base a fs cap) (hr : OwnsB w base' as0 l cs) (hn : n = l.length) (hg : w.grownBy w' (Value.slice as0 n cs).ownBlock) : RowF w' base a fs cap := by
  subst hn
  exact World.ownsRow.kept h hg (rows_apart h hr (by decide))

theorem take_len {fs : List Fr} {i : Nat} (h : i ≤ fs.length) : (fs.take i).length = i := by rw [List.length_take]; omega

set_option maxHeartbeats 4000000 in
theorem frameCuts_in (a a' : Option Addr) (ca ca' : Nat) (fs : List Fr) (m : List Int) (w : World) (hF : IsF w a fs) (hB : IsB w a' m) (hc : m.length ≤ ca') (hm : ca' ≤ maxLen) (h30 : fs.length ≤ 30) (hraw : m.length ≤ 20000) :
    Calls Try.prog 8 #[.slice a fs.length ca, .slice a' m.length ca'] w fun e w' => e = .returned (.bool true) ∧ Below w.heap.size w w' := by
  have HF : Hid (IsF w a fs) := hF
  have HI : Hid (IsB w a' m) := hB
  have HAB : Hid (∀ f ∈ fs, AllB f.b) := fun f hf => (hF.body f hf).1.1
  have d1 : decide (30 < (fs.length : Int)) = false := by simp; omega
  have d2 : decide (20000 < (m.length : Int)) = false := by simp; omega
  clear hF hB
  go_enter Try.func8, Try.ntmps8
  go_wp2_with fail
  refine (alive_any w).mono ?_
  rintro e w1 ⟨rfl, b1⟩
  have C0 : Hid (CtAt w w1 fs 0 none none 0 0) := ⟨rowF_nil _ _, owns_none _ _, fun j h hj => by omega, b1⟩
  clear b1
  go_wp2
  go_loopw [5, 6, 7, 26] (fun iv wv ev nv wr => ∃ (i : Nat) (ai aw : Option Addr) (ci cw : Nat), i ≤ fs.length ∧ iv = .slice ai i ci ∧ wv = .slice aw (wantB (fs.take i)).length cw ∧ ev = .int .i64 (allE (fs.take i)) ∧ nv = .int .i64 i ∧ CtAt w wr fs i ai aw ci cw) (fun _ _ _ nv _ => fs.length - (intOf nv).toNat)
  case atStart => exact ⟨0, none, none, 0, 0, Nat.zero_le _, rfl, rfl, rfl, rfl, C0.out⟩
  case round =>
    obtain ⟨i, ai, aw, ci, cw, hi, rfl, rfl, rfl, rfl, hC⟩ := hrel
    have HC : Hid (CtAt w _ fs i ai aw ci cw) := hC
    have hwl := wantB_len fs i hC.few
    have hz := hC.below.size
    by_cases hlt : i < fs.length
    · have hF2 := HF.out.keep hC.below
      obtain h0 | ⟨b, off, rfl, hs, hcf⟩ := hF2.at'
      · rw [h0] at hlt; simp at hlt
      obtain ⟨c0, c1⟩ := hcf i hlt
      obtain ⟨hbi, hbn, hbl⟩ := HF.out.body fs[i] (List.getElem_mem hlt)
      have TW : Hid (wantB (fs.take (i + 1)) = wantB (fs.take i) ++ encB fs[i].k fs[i].b) := wantB_take fs i hlt
      have TE : Hid (allE (fs.take (i + 1)) = if allE (fs.take i) = 0 then unfitL fs[i].k fs[i].b.length else allE (fs.take i)) := allE_take fs i hlt
      have TT : Hid (fs.take (i + 1) = fs.take i ++ [fs[i]]) := List.take_succ_eq_append_getElem hlt
      have TF : Hid (fs[i].b.length ≤ 2000 → ∀ j (h : j < fs.length), j < i + 1 → fs[j].b.length ≤ 2000) := by
        intro h0 j hj hji
        rcases Nat.lt_or_eq_of_le (Nat.le_of_lt_succ hji) with h | rfl
        · exact HC.out.few j hj h
        · exact h0
      generalize fs[i] = f at *
      obtain ⟨k, fa, fc, fb⟩ := f
      dsimp only at c0 c1 hbi hbn hbl TW TE TF
      have HBI : Hid (IsB w fa fb) := hbi
      have HBN : Hid (fa = none → fb = [] ∧ fc = 0) := hbn
      have HBL : Hid (fb.length ≤ maxLen) := hbl
      unfold maxLen at hbl
      clear hC hF2 hcf hbi hbn
      by_cases h2 : fb.length ≤ 2000
      · obtain ⟨e0, hE0⟩ : ∃ e0, allE (fs.take i) = e0 := ⟨_, rfl⟩
        rw [hE0] at TE ⊢
        have TLi : Hid (i = (fs.take i).length) := (take_len hi).symm
        have TFI := TF.out h2
        have HFEW : Hid (∀ j (h : j < fs.length), j < i + 1 → fs[j].b.length ≤ 2000) := TFI
        have hel := encB_len k fb
        have HEA : Hid (AllB (encB k fb)) := encB_allB' HBI.out.1
        have hWT := wantB_len fs (i + 1) TFI
        clear hE0 TFI TF
        rename_i wr _
        have n1 : Below wr.heap.size wr (wr.alloc (.cells #[.int .i64 k, .slice fa fb.length fc] 53)) := (Below.refl _ _).alloc (Nat.le_refl _) _
        have z1 : (wr.alloc (.cells #[.int .i64 k, .slice fa fb.length fc] 53)).heap.size = wr.heap.size + 1 := by simp
        have n2 : Below wr.heap.size wr ((wr.alloc (.cells #[.int .i64 k, .slice fa fb.length fc] 53)).alloc (.cells #[.int .i64 k, .slice fa fb.length fc] 29)) := n1.alloc n1.size _
        have z2 : ((wr.alloc (.cells #[.int .i64 k, .slice fa fb.length fc] 53)).alloc (.cells #[.int .i64 k, .slice fa fb.length fc] 29)).heap.size = wr.heap.size + 2 := by simp
        have X2 := boxed_new (wr.alloc (.cells #[.int .i64 k, .slice fa fb.length fc] 53)) k fa fb.length fc
        rw [z1] at X2
        have x0 := X2.cell0
        have x1 := X2.cell1
        have P2 : ((wr.alloc (.cells #[.int .i64 k, .slice fa fb.length fc] 53)).alloc (.cells #[.int .i64 k, .slice fa fb.length fc] 29)).heap[wr.heap.size]? = some (.cells #[.int .i64 k, .slice fa fb.length fc] 53 (0, 0)) := by
          rw [heap_alloc_old _ _ (by rw [z1]; omega)]
          exact heap_alloc_new wr _
        have HP2 : Hid (((wr.alloc (.cells #[.int .i64 k, .slice fa fb.length fc] 53)).alloc (.cells #[.int .i64 k, .slice fa fb.length fc] 29)).heap[wr.heap.size]? = some (.cells #[.int .i64 k, .slice fa fb.length fc] 53 (0, 0))) := P2
        have R2 : Hid (RowF ((wr.alloc (.cells #[.int .i64 k, .slice fa fb.length fc] 53)).alloc (.cells #[.int .i64 k, .slice fa fb.length fc] 29)) w.heap.size ai (fs.take i) ci) := HC.out.row.keep n2
        have W2 : Hid (OwnsB ((wr.alloc (.cells #[.int .i64 k, .slice fa fb.length fc] 53)).alloc (.cells #[.int .i64 k, .slice fa fb.length fc] 29)) w.heap.size aw (wantB (fs.take i)) cw) := HC.out.want.keep n2
        have B2 : Hid (Below w.heap.size w ((wr.alloc (.cells #[.int .i64 k, .slice fa fb.length fc] 53)).alloc (.cells #[.int .i64 k, .slice fa fb.length fc] 29))) := HC.out.below.trans (n2.mono hz)
        have AP : Hid (some wr.heap.size ≠ (Value.slice ai i ci).ownBlock) := by
          have := box_apart P2 R2.out (by decide)
          rwa [← TLi.out] at this
        have GE : Hid (∀ j, (Value.slice ai i ci).ownBlock = some j → w.heap.size ≤ j) := by
          have := R2.out.ge
          rwa [← TLi.out] at this
        have Z2 : Hid (((wr.alloc (.cells #[.int .i64 k, .slice fa fb.length fc] 53)).alloc (.cells #[.int .i64 k, .slice fa fb.length fc] 29)).heap.size = wr.heap.size + 2) := z2
        clear n1 n2 z1 z2 X2 P2
        by_cases he0 : e0 = 0
        all_goals
          go_wp2_with (first
            | (at_builtin; refine wpList_appf rfl _ _ rfl w.heap.size (by rw [Z2.out]; omega) ai (fs.take i) ci _ TLi.out rfl R2.out _ _ ⟨k, fa, fc, fb⟩ rfl x0 x1 (by rw [← TLi.out]; omega) ?_; intro a3 c3 w3 r3 g3; have B3 : Hid (Below w.heap.size w w3) := B2.out.grown g3 (by rw [Z2.out]; omega) GE.out; have P3 := (g3.block wr.heap.size (by rw [Z2.out]; omega) AP.out).trans HP2.out; have p0 : w3.cell? ⟨wr.heap.size, 0, none⟩ = some (.int .i64 k) := (by simp [World.cell?, P3]); have p1 : w3.cell? ⟨wr.heap.size, 1, none⟩ = some (.slice fa fb.length fc) := (by simp [World.cell?, P3]); have R3 : Hid (RowF w3 w.heap.size a3 (fs.take (i + 1)) c3) := (by show RowF _ _ _ _ _; rw [TT.out]; exact r3); have W3 : Hid (OwnsB w3 w.heap.size aw (wantB (fs.take i)) cw) := W2.out.grownF R2.out TLi.out g3; have z3 := B3.out.size; clear r3 g3 P3)
            | (go_at_call 12; refine (rencode_any k fa fc _ fb w3 rfl (HBI.out.keep B3.out) HBN.out HBL.out).mono ?_; rintro e w4 ⟨a4, c4, rfl, o4, b4⟩; have B4 : Hid (Below w.heap.size w w4) := B3.out.trans (b4.mono z3); have R4 : Hid (RowF w4 w.heap.size a3 (fs.take (i + 1)) c3) := R3.out.keep b4; have W4 : Hid (OwnsB w4 w.heap.size aw (wantB (fs.take i)) cw) := W3.out.keep b4; have O4 : Hid (IsB w4 a4 (encB k fb)) := ownsB_isB HEA.out o4; obtain ⟨l4, m4, n4⟩ := ownsB_isL o4; have N4 : Hid (a4 = none → encB k fb = [] ∧ c4 = 0) := n4; have z4 := B4.out.size; clear o4 b4 n4)
            | (at_builtin; refine wpList_appg rfl _ _ rfl w.heap.size z4 aw (wantB (fs.take i)) cw _ rfl rfl W4.out a4 (encB k fb) c4 _ rfl rfl O4.out N4.out (by omega) (wantB (fs.take (i + 1))) TW.out.symm (wantB (fs.take (i + 1))).length rfl ?_; intro a5 c5 w5 o5 g5; have B5 : Hid (Below w.heap.size w w5) := B4.out.grown g5 z4 (own_ge W4.out); have R5 : Hid (RowF w5 w.heap.size a3 (fs.take (i + 1)) c3) := R4.out.grownB W4.out rfl g5; have W5 : Hid (OwnsB w5 w.heap.size a5 (wantB (fs.take (i + 1))) c5) := o5; clear o5 g5))
          go_roundw
          case rel =>
            first
              | exact ⟨i + 1, a3, a5, c3, c5, by omega, rfl, rfl, by rw [TE.out, if_neg he0], by go_num, ⟨R5.out, W5.out, HFEW.out, B5.out⟩⟩
              | exact ⟨i + 1, a3, a5, c3, c5, by omega, rfl, rfl, by rw [TE.out, if_pos he0, encE], by go_num, ⟨R5.out, W5.out, HFEW.out, B5.out⟩⟩
          case measure => simp [intOf]; omega
      · have HBW : Hid (Below w.heap.size w _) := HC.out.below
        go_wp2
        go_ret
        exact ⟨rfl, HBW.out.alloc hz _⟩
    · obtain rfl : i = fs.length := by omega
      have hfl : fs.take fs.length = fs := List.take_length
      rw [hfl] at hwl ⊢
      have hrow := hC.row
      have hwant := hC.want
      rw [hfl] at hrow hwant
      have hfew := hC.few
      have HIF : Hid (IsF _ ai fs) := isF_of hrow (fun f hf => ⟨(HF.out.body f hf).1.keep hC.below, (HF.out.body f hf).2⟩)
      have HW : Hid (OwnsB _ w.heap.size aw (wantB fs) cw) := hwant
      have HBW : Hid (Below w.heap.size w _) := hC.below
      have HWA : Hid (AllB (wantB fs)) := wantB_allB fs HAB.out
      obtain ⟨e0, hE0⟩ : ∃ e0, allE fs = e0 := ⟨_, rfl⟩
      have EE : Hid (allE fs = e0) := hE0
      rw [hE0]
      clear hrow hwant hC hfl hfew
      by_cases he0 : e0 = 0
      · subst he0
        have hall := wantB_all fs hE0
        have hR : allR fs = wantB fs := by rw [allR, if_pos hE0, hall]
        have HR : Hid (allR fs = wantB fs) := hR
        have HEN : Hid (Ends fs.length (wantB fs) 0) := by
          show Ends _ _ _
          rw [hall]
          exact ends_all (allE_fit fs hE0) HAB.out
        clear hall hR hE0
        go_wp2_with fail
        refine (all_any ai ci _ fs _ rfl HIF.out (by omega)).mono ?_
        rw [EE.out, HR.out]
        rintro e w3 ⟨a3, c3, rfl, o3, b3⟩
        have B3 : Hid (Below w.heap.size w w3) := HBW.out.trans (b3.mono hz)
        have I3 : Hid (IsB w3 a3 (wantB fs)) := ownsB_isB HWA.out o3
        have J3 : Hid (IsB w3 aw (wantB fs)) := (ownsB_isB HWA.out HW.out).keep b3
        obtain ⟨l3, m3, _⟩ := ownsB_isL o3
        have z3 := B3.out.size
        clear o3 b3
        go_wp2_with fail
        refine (same_true a3 aw _ _ c3 cw (wantB fs) w3 I3.out J3.out rfl rfl).mono ?_
        rintro e w4 ⟨rfl, rfl⟩
        go_wp2_with fail
        refine (cuts_any a3 c3 _ fs.length (wantB fs) w3 rfl I3.out l3 m3 (by omega) HEN.out).mono ?_
        rintro e w5 ⟨rfl, b5⟩
        have B5 : Hid (Below w.heap.size w w5) := B3.out.trans (b5.mono z3)
        have z5 := B5.out.size
        clear b5
        go_wp2_with fail
        refine (raws_any a' ca' _ m w5 rfl (HI.out.keep B5.out) hc hm (by omega)).mono ?_
        rintro e w6 ⟨rfl, b6⟩
        go_wp2
        go_ret
        exact ⟨rfl, B5.out.trans (b6.mono z5)⟩
      · have hR : allR fs = [] := by rw [allR, hE0, if_neg he0]
        have HR : Hid (allR fs = []) := hR
        have k0 : (e0 == 0) = false := by simpa using he0
        have k1 : (e0 != 0) = true := by simpa using he0
        clear hR hE0
        go_wp2_with fail
        refine (all_any ai ci _ fs _ rfl HIF.out (by omega)).mono ?_
        rw [EE.out, HR.out]
        rintro e w3 ⟨a3, c3, rfl, o3, b3⟩
        have B3 : Hid (Below w.heap.size w w3) := HBW.out.trans (b3.mono hz)
        have z3 := B3.out.size
        clear o3 b3
        go_wp2_with fail
        refine (raws_any a' ca' _ m w3 rfl (HI.out.keep B3.out) hc hm (by omega)).mono ?_
        rintro e w6 ⟨rfl, b6⟩
        go_wp2
        go_ret
        exact ⟨rfl, B3.out.trans (b6.mono z3)⟩

set_option maxHeartbeats 1000000 in
theorem frameCuts_any (a a' : Option Addr) (ca ca' : Nat) (fs : List Fr) (m : List Int) (w : World) (hF : IsF w a fs) (hB : IsB w a' m) (hc : m.length ≤ ca') (hm : ca' ≤ maxLen) (hml : fs.length ≤ maxLen) :
    Calls Try.prog 8 #[.slice a fs.length ca, .slice a' m.length ca'] w fun e w' => e = .returned (.bool true) ∧ Below w.heap.size w w' := by
  by_cases c1 : fs.length ≤ 30
  · by_cases c2 : m.length ≤ 20000
    · exact frameCuts_in a a' ca ca' fs m w hF hB hc hm c1 c2
    · unfold maxLen at hml hm
      clear hB hF
      go_enter Try.func8, Try.ntmps8
      go_wp2_with fail
      refine (alive_any w).mono ?_
      rintro e w1 ⟨rfl, b1⟩
      go_wp2
      go_ret
      exact ⟨rfl, b1⟩
  · unfold maxLen at hml hm
    clear hB hF
    go_enter Try.func8, Try.ntmps8
    go_wp2_with fail
    refine (alive_any w).mono ?_
    rintro e w1 ⟨rfl, b1⟩
    go_wp2
    go_ret
    exact ⟨rfl, b1⟩

set_option maxRecDepth 100000 in
theorem frameCuts_lifted (os : Os) (started : os.Started) (H : Type) (enc : TypeId × Value → H) :
    ReturnsInHanded {} Try.checked os 8 .any (Rows.frameCutsSpec.pre6 enc Try.prog Try.f8 Rows.frameCutsRow.domain false) (Rows.frameCutsSpec.post enc Try.prog Try.f8 false true false false) := by
  refine returnsInHanded_of_change (C := Try.checked) own started (by kernel_rfl) Try.func8
    (ChangeSpec.witness6 (enc := enc) (C := Try.checked) false ⟨#[], #[.slice none 0 0, .slice none 0 0], []⟩ 8 (by kernel_rfl) (by kernel_rfl) (by kernel_rfl) (by kernel_rfl)) ?_
  intro W base args ds gs before hval0 hW hcnd _
  have hval : ∀ (j : Nat) t v, Try.f8.params[j]? = some t → args[j]? = some v → Value.okWide Try.prog W .any base t v := hval0
  have hW' := hW
  obtain ⟨p, q, hA0, hV, rfl, hfz, hnd⟩ := hW
  have hA : DataW.TrodAll enc Try.prog W 0 (fun _ => true) true Try.f8.params.toList args.toList ds p := hA0
  rw [Try.params8] at hA hval
  obtain ⟨v0, vs0, d0, ds0, p0, q0, hargs, rfl, rfl, h0, r0⟩ := trodAll_cons hA
  obtain ⟨v1, vs1, d1, ds1, p1, q1, rfl, rfl, rfl, h1, r1⟩ := trodAll_cons r0
  obtain ⟨rfl, rfl, rfl⟩ := trodAll_nil r1
  obtain rfl : args = #[v0, v1] := by cases args; simp_all
  obtain ⟨rfl, rfl⟩ := trodVars_none hV
  obtain ⟨a0, len0, cap0, rfl⟩ := okWide_slice Try.underlying51 (hval 0 51 v0 rfl rfl)
  have k0 := h0
  have lt0 : ∀ x ∈ p0, x.block < W.heap.size := by obtain ⟨m, hm⟩ := k0; exact DataW.trod_lt m _ _ _ hm
  obtain ⟨fs0, rfl, hF0, hm0⟩ := open_parts h0
  obtain ⟨a1, len1, cap1, rfl⟩ := okWide_slice Try.underlying22 (hval 1 22 v1 rfl rfl)
  have k1 := h1
  have lt1 : ∀ x ∈ p1, x.block < W.heap.size := by obtain ⟨m, hm⟩ := k1; exact DataW.trod_lt m _ _ _ hm
  obtain ⟨l1, rfl, hB1, hlc1, hm1, hnil1, hd1⟩ := open_bytes h1
  clear hA0 hval0
  refine (frameCuts_any a0 a1 cap0 cap1 fs0 l1 W hF0 hB1 hlc1 hm1 hm0).mono fun e W' ⟨he, bel⟩ => ?_
  subst he
  exact ⟨_, rfl, _, _, _, [], _, [], hW', trodAll_mk1 (shut_bool Try.underlying4 _), (trodAll_cons_mk (Below.trod laidOut (by kernel_rfl) (of_decide_eq_true (by kernel_rfl)) k0 bel lt0) (trodAll_cons_mk (Below.trod laidOut (by kernel_rfl) (of_decide_eq_true (by kernel_rfl)) k1 bel lt1) trodAll_mk0)), rfl, bel.frame _, fun h => by cases h⟩

theorem frameCuts_holds : Rows.FrameCutsSaid :=
  OpenClaim.holds_of_wide 8 Try.f8 rfl rfl rfl rfl rfl rfl rfl ⟨rfl, rfl, rfl, rfl, rfl⟩ rfl rfl rfl rfl rfl (by kernel_rfl) Try.func8 (by kernel_rfl)
    (of_decide_eq_true (by kernel_rfl)) (by unfold Func.isWrapper; first | (rw [if_pos (by decide +kernel)]; kernel_rfl) | (rw [if_neg (by decide +kernel)]; exact ⟨rfl, rfl⟩))
    (fun os started H enc _ => frameCuts_lifted os started H enc)
#print axioms frameCuts_holds
end Go.Proofs.Ytjmbmicollkmkaa
