/- The document's Copy and Bytes of a kind. -/
import Derived.Test.YtjalagjnhjaaoaaKdL
import Derived.Test.YtjalagjnhjaaoaaKdG
import Derived.Test.YtjalagjnhjaaoaaKdJ
import Derived.Test.YtjalagjnhjaaoaaKdD
namespace Go.Proofs.Ytjalagjnhjaaoaa
open Go.RowKit
set_option linter.unusedVariables false
set_option maxRecDepth 4000

theorem rvarw_some (n : Int) (w : World) (h0 : 0 ≤ n) (h1 : n ≤ 18446744073709551615) :
    Calls Try.prog 27 #[.int .u64 n] w fun e w' => ∃ g cap, e = .returned (.slice (some ⟨g, 0, none⟩) (varL n).length cap) ∧ OwnsB w' w.heap.size (some ⟨g, 0, none⟩) (varL n) cap ∧ Below w.heap.size w w' := by
  refine (rvarw_any n w h0 h1).mono ?_
  rintro e w' ⟨a, cap, rfl, o, b⟩
  have h := varL_pos n
  have o' := o
  obtain ⟨_, ⟨h1, h2⟩ | ⟨g, c', cur, h1, _⟩⟩ := o'
  · omega
  · cases h1
    exact ⟨g, cap, rfl, o, b⟩

set_option maxRecDepth 20000 in
set_option maxHeartbeats 4000000 in
theorem rkbytes_any (s : Int) (a : Option Addr) (c : Nat) (ps : List Int) (w : World) (hI : IsI w a ps) (hm : ps.length ≤ maxLen) :
    Calls Try.prog 40 #[.agg #[.int .i64 s, .slice a ps.length c]] w fun e w' => ∃ a' c', e = .returned (.slice a' (bytesK s ps).length c') ∧ OwnsB w' w.heap.size a' (bytesK s ps) c' ∧ Below w.heap.size w w' := by
  have HB : Hid (Below w.heap.size w (w.alloc (.cells #[.int .i64 s, .slice a ps.length c] 54))) := box_below w s a _ c
  have I1 : Hid (IsI (w.alloc (.cells #[.int .i64 s, .slice a ps.length c] 54)) a ps) := hI.keep HB.out
  have HI : Hid (IsI w a ps) := hI
  obtain ⟨q0, q1⟩ := box_cells w s a ps.length c
  have Q0 : Hid _ := q0
  have Q1 : Hid _ := q1
  clear hI q0 q1
  by_cases hr : checkK s ps = 0
  · have ER : Hid (checkK s ps = 0) := hr
    have EB : Hid (bytesK s ps = bodyK s ps) := if_pos hr
    obtain ⟨s1, s2, l1, hpl⟩ := check_zero.1 hr
    have HP : Hid (placedB s 0 ps = true) := hpl
    clear hr hpl
    have E0 : Hid (bodyK s ps = (varL s ++ varL (ps.length : Nat)) ++ gapsL 0 (ps.drop 0)) := rfl
    have V1 := varL_le s
    have V2 := varL_le (ps.length : Nat)
    have HVS : Hid (∀ x ∈ varL s, 0 ≤ x ∧ x ≤ 255) := varL_byte s (by omega) (by omega)
    have HVN : Hid (∀ x ∈ varL (ps.length : Nat), 0 ≤ x ∧ x ≤ 255) := varL_byte _ (by omega) (by omega)
    go_enter Try.func40, Try.ntmps40
    go_wp2_with fail
    refine (rcheck_is s a c _ ps 0 _ rfl ER.out I1.out hm).mono ?_
    rintro e w1 ⟨rfl, b1⟩
    have c0 := bcellK (b1.mono (Nat.le_refl _)) Q0.out
    have c1 := bcellK (b1.mono (Nat.le_refl _)) Q1.out
    have B1 : Hid (Below w.heap.size w w1) := HB.out.trans (b1.mono HB.out.size)
    have z1 := B1.out.size
    have u1 : IntKind.u64.wrap s = s := by rw [IntKind.wrap_u64]; omega
    have u2 : IntKind.u64.wrap ((ps.length : Nat) : Int) = ((ps.length : Nat) : Int) := by rw [IntKind.wrap_u64]; omega
    clear b1
    go_upto_region 3 with (fail)
    go_cut [3] from 10 to 19 (fun bv wx => ∃ (a' : Option Addr) (c' : Nat), bv = .slice a' (varL s ++ varL (ps.length : Nat)).length c' ∧ OwnsB wx w.heap.size a' (varL s ++ varL (ps.length : Nat)) c' ∧ Below w1.heap.size w1 wx)
    case first =>
      go_region_held3 (fun w' => w'.cell? ⟨w.heap.size, 0, none⟩ = some (.int .i64 s) ∧ w'.cell? ⟨w.heap.size, 1, none⟩ = some (.slice a ps.length c)) (first | assumption | exact ⟨by assumption, by assumption⟩ | go_keep)
        (first
          | (go_at_call_of 27 s; refine (rvarw_some s _ (by omega) (by omega)).mono ?_; rintro e wS ⟨gS, cS, rfl, oS, bS⟩; have BS : Hid (Below w1.heap.size w1 wS) := (by first | exact BL.out.trans (bS.mono BL.out.size) | exact Below.ofDrew bS); have p0 := bcellK BS.out c0; have p1 := bcellK BS.out c1; have OS : Hid (OwnsB wS _ _ (varL s) _) := oS; have KS : Hid (Below _ _ wS) := bS; clear oS bS)
          | (go_at_call 27; refine (rvarw_some (ps.length : Nat) _ (by omega) (by omega)).mono ?_; rintro e wL ⟨gL, cL, rfl, oL, bL⟩; have BL : Hid (Below w1.heap.size w1 wL) := (by first | exact BS.out.trans (bL.mono BS.out.size) | exact Below.ofDrew bL); have r0 := bcellK BL.out c0; have r1 := bcellK BL.out c1; have OL : Hid (OwnsB wL _ _ (varL (ps.length : Nat)) _) := oL; have KL : Hid (Below _ _ wL) := bL; clear oL bL)
          | (refine step_appB rfl rfl _ _ rfl _ (varL s) _ _ (varL (ps.length : Nat)) _ rfl rfl w1.heap.size BL.out.size (OwnsB.keep OS.out KL.out) (ownsB_isB HVN.out OL.out) (by omega) ?_; intro a3 c3 w3 o3 b3; have O3 : Hid (OwnsB w3 w.heap.size a3 (varL s ++ varL (ps.length : Nat)) c3) := OwnsB.mono o3 z1; have B3 : Hid (Below w1.heap.size w1 w3) := BL.out.trans b3; have t0 := bcellK B3.out c0; have t1 := bcellK B3.out c1; clear o3 b3)
          | (refine step_appB rfl rfl _ _ rfl _ (varL s) _ _ (varL (ps.length : Nat)) _ rfl rfl w1.heap.size BS.out.size (OwnsB.mono OS.out BL.out.size) ((ownsB_isB HVN.out OL.out).keep KS.out) (by omega) ?_; intro a3 c3 w3 o3 b3; have O3 : Hid (OwnsB w3 w.heap.size a3 (varL s ++ varL (ps.length : Nat)) c3) := OwnsB.mono o3 z1; have B3 : Hid (Below w1.heap.size w1 w3) := BS.out.trans b3; have t0 := bcellK B3.out c0; have t1 := bcellK B3.out c1; clear o3 b3))
      all_goals
        go_wp2
        go_meet
        exact ⟨a3, c3, by rw [List.length_append], O3.out, B3.out⟩
    case rest =>
      obtain ⟨a2, c2, rfl, o2, b2⟩ := hcut
      have d1 := bcellK b2 c1
      have S0 : Hid (BAt w wc s ps a2 c2 0 0 (varL s ++ varL (ps.length : Nat))) := ⟨o2, B1.out.trans (b2.mono z1), E0.out, HP.out, by omega, by omega, by omega, by rw [List.length_append]; omega⟩
      clear o2 b2 c0 c1 u1 u2
      go_wp2
      go_loopw [3, 4, 23] (fun bv fv iv wr => ∃ (k : Nat) (f m : Int) (L : List Int) (a' : Option Addr) (c' : Nat), k ≤ ps.length ∧ f = 8 * m ∧ iv = .int .i64 k ∧ fv = .int .i64 m ∧ bv = .slice a' L.length c' ∧ BAt w wr s ps a' c' k f L) (fun _ _ iv _ => ps.length - (intOf iv).toNat)
      case atStart => exact ⟨0, 0, 0, _, a2, c2, Nat.zero_le _, rfl, rfl, rfl, rfl, S0.out⟩
      case round =>
        obtain ⟨k, f, m, L, a3, c3, hk, hfm, rfl, rfl, rfl, hA⟩ := hrel
        have HFM : Hid (f = 8 * m) := hfm
        have m0 : 0 ≤ m := by have := hA.f0; omega
        have m1 : m ≤ 512 := by have := hA.f1; omega
        have HA : Hid (BAt w wr s ps a3 c3 k f L) := hA
        have f0 := hA.f0
        have f1 := hA.f1
        have f8 := hA.f8
        have hL := hA.len
        by_cases hlt : k < ps.length
        · obtain ⟨hin, h0 | ⟨b, off, rfl, hsz, hc⟩⟩ := HI.out.keep hA.below
          · rw [h0] at hlt; simp at hlt
          have hcell := hc k hlt
          have EP := placed_step s f ps k hlt
          have EG := gaps_step f ps k hlt
          obtain ⟨p, hp⟩ : ∃ p, ps.getD k 0 = p := ⟨_, rfl⟩
          rw [hp] at hcell EP EG
          rw [hA.placed] at EP
          have EP' := EP.symm
          simp only [Bool.and_eq_true, decide_eq_true_eq] at EP'
          obtain ⟨⟨p0, p1, p8⟩, hnp⟩ := EP'
          obtain ⟨q, hq⟩ : ∃ q, (p - f) / 8 = q := ⟨_, rfl⟩
          have q0 : 0 ≤ q := by omega
          have q1 : q ≤ 512 := by omega
          have HQ : Hid (p / 8 - m = q) := by show _ = _; omega
          rw [hq] at EG
          have V3 := varL_le q
          have HVQ : Hid (∀ x ∈ varL q, 0 ≤ x ∧ x ≤ 255) := varL_byte q (by omega) (by omega)
          have NX : Hid (∀ a' c' w', OwnsB w' w.heap.size a' (L ++ varL q) c' → Below w.heap.size w w' → BAt w w' s ps a' c' (k + 1) (p + 8) (L ++ varL q)) := fun a' c' w' o b =>
            ⟨o, b, by rw [hA.body, EG, List.append_assoc], hnp, by omega, by omega, by omega, by rw [List.length_append]; omega⟩
          clear hc hin hsz hp EP EG hnp hA hq
          go_wp2_with (first
            | (go_at_call 27; rw [HQ.out]; refine (rvarw_some q _ q0 (by omega)).mono ?_; rintro e w2 ⟨g2, cc2, rfl, o2, b2⟩; have O2 : Hid (OwnsB w2 _ _ (varL q) _) := o2; have B2 : Hid (Below w.heap.size w w2) := HA.out.below.trans (b2.mono HA.out.below.size); have A2 : Hid (OwnsB w2 w.heap.size a3 L c3) := HA.out.own.keep b2; have z2 := B2.out.size; clear o2 b2)
            | (at_builtin; refine wpList_app rfl _ _ rfl w.heap.size z2 a3 L c3 rfl A2.out _ (varL q) _ rfl (ownsB_isB HVQ.out O2.out) (fun h => by cases h) (by omega) ?_; intro a4 c4 w4 o4 b4; have X4 : Hid (BAt w w4 s ps a4 c4 (k + 1) (p + 8) (L ++ varL q)) := NX.out a4 c4 w4 o4 (B2.out.trans b4); clear o4 b4))
          go_roundw
          case rel => exact ⟨k + 1, p + 8, p / 8 + 1, _, a4, c4, by omega, by omega, by go_num, rfl, by rw [List.length_append], X4.out⟩
          case measure => simp [intOf]; omega
        · have EL : Hid (bytesK s ps = L) := by show _ = _; rw [EB.out, hA.body, gaps_end f ps k (by omega), List.append_nil]
          clear hA
          go_wp2
          go_ret
          rw [EL.out]
          exact ⟨a3, c3, rfl, HA.out.own, HA.out.below⟩
  · obtain ⟨v, hv⟩ : ∃ v, checkK s ps = v := ⟨_, rfl⟩
    have ER : Hid (checkK s ps = v) := hv
    have hq : (v != 0) = true := by rw [bne_iff_ne, ← hv]; exact hr
    have EB : Hid (bytesK s ps = []) := if_neg hr
    clear hr hv
    rw [EB.out]
    go_enter Try.func40, Try.ntmps40
    go_wp2_with (go_at_call 39; refine (rcheck_is s a c _ ps v _ rfl ER.out I1.out hm).mono ?_; rintro e w1 ⟨rfl, b1⟩)
    go_ret
    exact ⟨none, 0, rfl, World.ownsRow_nil _ _ _ _, HB.out.trans (b1.mono HB.out.size)⟩
end Go.Proofs.Ytjalagjnhjaaoaa
