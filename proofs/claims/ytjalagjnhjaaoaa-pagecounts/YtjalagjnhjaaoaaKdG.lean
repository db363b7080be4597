/- A kind's bytes: what Bytes answers. -/
import Derived.Test.YtjalagjnhjaaoaaKdE
import Derived.Test.YtjalagjnhjaaoaaKdB
import Derived.Deep.CutBlock
import Derived.Deep.CutRange
namespace Go.Proofs.Ytjalagjnhjaaoaa
open Go.RowKit
set_option linter.unusedVariables false
set_option maxRecDepth 4000

/-- Bytes appended to one's own, as a run. -/
theorem app_own (w : World) (base : Nat) (hbase : base ≤ w.heap.size) (as0 : Option Addr) (L : List Int) (cs : Nat) (hown : OwnsB w base as0 L cs) (ad : Addr) (l : List Int) (cx : Nat) (hB : IsB w (some ad) l) (hlen : L.length + l.length ≤ 140737488355328) :
    ∃ a' cap' w', (Builtin.append_ #[24, 24] 24 #[.slice as0 L.length cs, .slice (some ad) l.length cx]).run Try.prog w = .ok (.slice a' (L ++ l).length cap') w' ∧ OwnsB w' base a' (L ++ l) cap' ∧ Below base w w' := by
  obtain ⟨i0, hi, hz0, hz1, hz2⟩ := info_parts Try.info5
  obtain ⟨v', w', h1, h2, h3, _⟩ := run_append_own (P := Try.prog) w base 24 24 5 i0 (.int .u8 0) 1 1 Try.underlying24 hi hz0 hz1 hz2 rfl (by decide) _ L.length (L.map (Value.int .u8)) hown ad l.length cx (l.map (Value.int .u8)) (by simp) (by
      intro j u hj
      have hjn : j < l.length := by
        have := (List.getElem?_eq_some_iff.1 hj).1
        simpa using this
      obtain ⟨_, rfl | ⟨b, off, e, _, hc⟩⟩ := hB
      · simp at hjn
      · cases e
        rw [addr_add, hc j hjn]
        have e : (l.map (Value.int .u8))[j]? = some (Value.int .u8 (l.getD j 0)) := by simp [List.getD, List.getElem?_eq_getElem hjn]
        rw [e] at hj
        exact hj) (by intro u hu; obtain ⟨x, _, rfl⟩ := List.mem_map.1 hu; rfl) (by unfold maxLen; omega) (by omega) hbase
  obtain ⟨a', cap', rfl⟩ := owns_form h2
  refine ⟨a', cap', w', by rw [List.length_append]; exact h1, by simpa [OwnsB] using h2, ?_⟩
  exact (Below.refl _ w).grown h3 hbase (own_ge hown)

/-- Bytes appended to one's own, in a region that draws. -/
theorem step_appB {ops : Array Oper} {o : Oper} {a : Act} {K : Act → World → Prop} {Q : Exit → Act → World → Prop} {E : Prop} {w : World} (hgd : o.guard = none) (hty : o.type = 24) (s x : Operand)
    (ho : o.op = .call { callee := .builtin .append, args := #[s, x], argTypes := #[24, 24] }) (as0 : Option Addr) (L : List Int) (cs : Nat) (ad : Addr) (l : List Int) (cx : Nat)
    (hs : a.eval s = .slice as0 L.length cs) (hx : a.eval x = .slice (some ad) l.length cx) (base : Nat) (hbase : base ≤ w.heap.size) (hown : OwnsB w base as0 L cs) (hB : IsB w (some ad) l) (hlen : L.length + l.length ≤ 140737488355328)
    (h : ∀ a' cap' w', OwnsB w' base a' (L ++ l) cap' → Below base w w' → K (a.put o.dst (.slice a' (L ++ l).length cap')) w') :
    if Region.wanted o (yielded ops a.tmps) = true then Oper.wp Try.prog o a w K Q else E := by
  obtain ⟨a', cap', w', hrun, r1, r2⟩ := app_own w base hbase as0 L cs hown ad l cx hB hlen
  refine step_app hgd s x 24 ho _ _ hs hx _ w' (by rw [hty]; exact hrun) ?_
  exact h a' cap' w' r1 r2

/-- How far the bytes have come. -/
structure BAt (w wr : World) (s : Int) (ps : List Int) (a' : Option Addr) (c' k : Nat) (f : Int) (L : List Int) : Prop where
  own : OwnsB wr w.heap.size a' L c'
  below : Below w.heap.size w wr
  body : bodyK s ps = L ++ gapsL f (ps.drop k)
  placed : placedB s f (ps.drop k) = true
  f0 : 0 ≤ f
  f1 : f ≤ 4096
  f8 : f % 8 = 0
  len : L.length ≤ 20 + 10 * k

set_option maxRecDepth 20000 in
set_option maxHeartbeats 4000000 in
theorem kbytes_any (s : Int) (a : Option Addr) (c : Nat) (ps : List Int) (w : World) (hI : IsI w a ps) (hm : ps.length ≤ maxLen) :
    Calls Try.prog 38 #[.agg #[.int .i64 s, .slice a ps.length c]] w fun e w' => ∃ a' c', e = .returned (.slice a' (bytesK s ps).length c') ∧ OwnsB w' w.heap.size a' (bytesK s ps) c' ∧ Below w.heap.size w w' := by
  have HB : Hid (Below w.heap.size w (w.alloc (.cells #[.int .i64 s, .slice a ps.length c] 54))) := box_below w s a _ c
  have I1 : Hid (IsI (w.alloc (.cells #[.int .i64 s, .slice a ps.length c] 54)) a ps) := hI.keep HB.out
  have HI : Hid (IsI w a ps) := hI
  obtain ⟨q0, q1⟩ := box_cells w s a ps.length c
  have Q0 : Hid _ := q0
  have Q1 : Hid _ := q1
  clear hI q0 q1
  by_cases hr : checkK s ps = 0
  · have ER : Hid (decide (checkK s ps = 0) = true) := decide_eq_true hr
    have EB : Hid (bytesK s ps = bodyK s ps) := if_pos hr
    obtain ⟨s1, s2, l1, hpl⟩ := check_zero.1 hr
    have HP : Hid (placedB s 0 ps = true) := hpl
    clear hr hpl
    have E0 : Hid (bodyK s ps = (varL s ++ varL (ps.length : Nat)) ++ gapsL 0 (ps.drop 0)) := rfl
    have V1 := varL_le s
    have V2 := varL_le (ps.length : Nat)
    have HVS : Hid (∀ x ∈ varL s, 0 ≤ x ∧ x ≤ 255) := varL_byte s (by omega) (by omega)
    have HVN : Hid (∀ x ∈ varL (ps.length : Nat), 0 ≤ x ∧ x ≤ 255) := varL_byte _ (by omega) (by omega)
    go_enter Try.func38, Try.ntmps38
    go_wp2_with fail
    refine (right_is s a c _ ps true _ rfl ER.out I1.out hm).mono ?_
    rintro e w1 ⟨rfl, b1⟩
    have c0 := bcellK (b1.mono (Nat.le_refl _)) Q0.out
    have c1 := bcellK (b1.mono (Nat.le_refl _)) Q1.out
    have B1 : Hid (Below w.heap.size w w1) := HB.out.trans (b1.mono HB.out.size)
    have z1 := B1.out.size
    have u1 : IntKind.u64.wrap s = s := by rw [IntKind.wrap_u64]; omega
    have u2 : IntKind.u64.wrap ((ps.length : Nat) : Int) = ((ps.length : Nat) : Int) := by rw [IntKind.wrap_u64]; omega
    clear b1
    go_upto_region 3 with (fail)
    go_cut [3] from 10 to 19 (fun bv wx => ∃ (a' : Option Addr) (c' : Nat), bv = .slice a' (varL s ++ varL (ps.length : Nat)).length c' ∧ OwnsB wx w.heap.size a' (varL s ++ varL (ps.length : Nat)) c' ∧ Below w1.heap.size w1 wx)
    case first =>
      go_region_held3 (fun w' => w'.cell? ⟨w.heap.size, 0, none⟩ = some (.int .i64 s) ∧ w'.cell? ⟨w.heap.size, 1, none⟩ = some (.slice a ps.length c)) (first | assumption | exact ⟨by assumption, by assumption⟩ | go_keep)
        (first
          | (go_at_call_of 46 s; refine (var_any s _ (by omega) (by omega)).mono ?_; rintro e wS ⟨rfl, oS, bS⟩; have BS : Hid (Below w1.heap.size w1 wS) := (by first | exact BL.out.trans (bS.mono BL.out.size) | exact Below.ofDrew bS); have p0 := bcellK BS.out c0; have p1 := bcellK BS.out c1; have OS : Hid (OwnsB wS _ _ (varL s) _) := oS; have KS : Hid (Below _ _ wS) := bS; clear oS bS)
          | (go_at_call 46; refine (var_any (ps.length : Nat) _ (by omega) (by omega)).mono ?_; rintro e wL ⟨rfl, oL, bL⟩; have BL : Hid (Below w1.heap.size w1 wL) := (by first | exact BS.out.trans (bL.mono BS.out.size) | exact Below.ofDrew bL); have r0 := bcellK BL.out c0; have r1 := bcellK BL.out c1; have OL : Hid (OwnsB wL _ _ (varL (ps.length : Nat)) _) := oL; have KL : Hid (Below _ _ wL) := bL; clear oL bL)
          | (refine step_appB rfl rfl _ _ rfl _ (varL s) _ _ (varL (ps.length : Nat)) _ rfl rfl w1.heap.size BL.out.size (OwnsB.keep OS.out KL.out) (ownsB_isB HVN.out OL.out) (by omega) ?_; intro a3 c3 w3 o3 b3; have O3 : Hid (OwnsB w3 w.heap.size a3 (varL s ++ varL (ps.length : Nat)) c3) := OwnsB.mono o3 z1; have B3 : Hid (Below w1.heap.size w1 w3) := BL.out.trans b3; have t0 := bcellK B3.out c0; have t1 := bcellK B3.out c1; clear o3 b3)
          | (refine step_appB rfl rfl _ _ rfl _ (varL s) _ _ (varL (ps.length : Nat)) _ rfl rfl w1.heap.size BS.out.size (OwnsB.mono OS.out BL.out.size) ((ownsB_isB HVN.out OL.out).keep KS.out) (by omega) ?_; intro a3 c3 w3 o3 b3; have O3 : Hid (OwnsB w3 w.heap.size a3 (varL s ++ varL (ps.length : Nat)) c3) := OwnsB.mono o3 z1; have B3 : Hid (Below w1.heap.size w1 w3) := BS.out.trans b3; have t0 := bcellK B3.out c0; have t1 := bcellK B3.out c1; clear o3 b3))
      all_goals
        go_wp2
        go_meet
        exact ⟨a3, c3, by rw [List.length_append], O3.out, B3.out⟩
    case rest =>
      obtain ⟨a2, c2, rfl, o2, b2⟩ := hcut
      have d1 := bcellK b2 c1
      have S0 : Hid (BAt w wc s ps a2 c2 0 0 (varL s ++ varL (ps.length : Nat))) := ⟨o2, B1.out.trans (b2.mono z1), E0.out, HP.out, by omega, by omega, by omega, by rw [List.length_append]; omega⟩
      clear o2 b2 c0 c1 u1 u2
      go_wp2
      go_loopw [3, 4, 23] (fun bv fv iv wr => ∃ (k : Nat) (f : Int) (L : List Int) (a' : Option Addr) (c' : Nat), k ≤ ps.length ∧ iv = .int .i64 k ∧ fv = .int .i64 f ∧ bv = .slice a' L.length c' ∧ BAt w wr s ps a' c' k f L) (fun _ _ iv _ => ps.length - (intOf iv).toNat)
      case atStart => exact ⟨0, 0, _, a2, c2, Nat.zero_le _, rfl, rfl, rfl, S0.out⟩
      case round =>
        obtain ⟨k, f, L, a3, c3, hk, rfl, rfl, rfl, hA⟩ := hrel
        have HA : Hid (BAt w wr s ps a3 c3 k f L) := hA
        have f0 := hA.f0
        have f1 := hA.f1
        have f8 := hA.f8
        have hL := hA.len
        by_cases hlt : k < ps.length
        · obtain ⟨hin, h0 | ⟨b, off, rfl, hsz, hc⟩⟩ := HI.out.keep hA.below
          · rw [h0] at hlt; simp at hlt
          have hcell := hc k hlt
          have EP := placed_step s f ps k hlt
          have EG := gaps_step f ps k hlt
          obtain ⟨p, hp⟩ : ∃ p, ps.getD k 0 = p := ⟨_, rfl⟩
          rw [hp] at hcell EP EG
          rw [hA.placed] at EP
          have EP' := EP.symm
          simp only [Bool.and_eq_true, decide_eq_true_eq] at EP'
          obtain ⟨⟨p0, p1, p8⟩, hnp⟩ := EP'
          obtain ⟨q, hq⟩ : ∃ q, (p - f) / 8 = q := ⟨_, rfl⟩
          have q0 : 0 ≤ q := by omega
          have q1 : q ≤ 512 := by omega
          have HQ : Hid ((p - f) / 8 = q) := hq
          rw [hq] at EG
          have V3 := varL_le q
          have HVQ : Hid (∀ x ∈ varL q, 0 ≤ x ∧ x ≤ 255) := varL_byte q (by omega) (by omega)
          have NX : Hid (∀ a' c' w', OwnsB w' w.heap.size a' (L ++ varL q) c' → Below w.heap.size w w' → BAt w w' s ps a' c' (k + 1) (p + 8) (L ++ varL q)) := fun a' c' w' o b =>
            ⟨o, b, by rw [hA.body, EG, List.append_assoc], hnp, by omega, by omega, by omega, by rw [List.length_append]; omega⟩
          clear hc hin hsz hp EP EG hnp hA hq
          go_wp2_with (first
            | (go_at_call 46; rw [HQ.out]; refine (var_any q _ q0 (by omega)).mono ?_; rintro e w2 ⟨rfl, o2, b2⟩; have O2 : Hid (OwnsB w2 _ _ (varL q) _) := o2; have B2 : Hid (Below w.heap.size w w2) := HA.out.below.trans (b2.mono HA.out.below.size); have A2 : Hid (OwnsB w2 w.heap.size a3 L c3) := HA.out.own.keep b2; have z2 := B2.out.size; clear o2 b2)
            | (at_builtin; refine wpList_app rfl _ _ rfl w.heap.size z2 a3 L c3 rfl A2.out _ (varL q) _ rfl (ownsB_isB HVQ.out O2.out) (fun h => by cases h) (by omega) ?_; intro a4 c4 w4 o4 b4; have X4 : Hid (BAt w w4 s ps a4 c4 (k + 1) (p + 8) (L ++ varL q)) := NX.out a4 c4 w4 o4 (B2.out.trans b4); clear o4 b4))
          go_roundw
          case rel => exact ⟨k + 1, p + 8, _, a4, c4, by omega, by go_num, rfl, by rw [List.length_append], X4.out⟩
          case measure => simp [intOf]; omega
        · have EL : Hid (bytesK s ps = L) := by show _ = _; rw [EB.out, hA.body, gaps_end f ps k (by omega), List.append_nil]
          clear hA
          go_wp2
          go_ret
          rw [EL.out]
          exact ⟨a3, c3, rfl, HA.out.own, HA.out.below⟩
  · have ER : Hid (decide (checkK s ps = 0) = false) := decide_eq_false hr
    have EB : Hid (bytesK s ps = []) := if_neg hr
    clear hr
    rw [EB.out]
    go_enter Try.func38, Try.ntmps38
    go_wp2_with (go_at_call 52; refine (right_is s a c _ ps false _ rfl ER.out I1.out hm).mono ?_; rintro e w1 ⟨rfl, b1⟩)
    go_ret
    exact ⟨none, 0, rfl, World.ownsRow_nil _ _ _ _, HB.out.trans (b1.mono HB.out.size)⟩
end Go.Proofs.Ytjalagjnhjaaoaa
