/- Behind a fault nothing is read any more, and the fault stays: the law NumStays, for every input. -/
import Derived.Test.YtdhamfhicdcdgaaNumCl
namespace Go.Proofs.Ytdhamfhicdcdgaa
open Go.ChangeShapes Go.WideShapes Go.ChangeAt Go.RowKit
set_option linter.unusedVariables false

theorem upto_fault (B : Nat) (e most : Int) (w : World) (h : w.cell? ⟨B, 1, none⟩ = some (.int .i64 e)) (he : (e != 0) = true) :
    Calls Try.prog 24 #[.pointer (some ⟨B, 0, none⟩), .int .u64 most] w fun r w' => r = .returned (.int .u64 0) ∧ w = w' := by
  go_enter Try.func24, Try.ntmps24
  go_wp2_with (go_at_call 32; refine (err_two B e _ h).mono ?_; rintro r w' ⟨rfl, rfl⟩)
  go_ret
  exact ⟨rfl, rfl⟩

theorem rvar_fault (B : Nat) (e : Int) (w : World) (h : w.cell? ⟨B, 1, none⟩ = some (.int .i64 e)) (he : (e != 0) = true) :
    Calls Try.prog 22 #[.pointer (some ⟨B, 0, none⟩)] w fun r w' => r = .returned (.int .u64 0) ∧ w = w' := by
  go_enter Try.func22, Try.ntmps22
  go_wp2_with (go_at_call 24; refine (upto_fault B e _ _ h he).mono ?_; rintro r w' ⟨rfl, rfl⟩)
  go_ret
  exact ⟨rfl, rfl⟩

set_option maxRecDepth 100000 in
set_option maxHeartbeats 2000000 in
theorem numStays_any (a : Option Addr) (cap : Nat) (l : List Int) (fault : Int) (c : Option Addr) (n ccap : Nat) (kd nn mo : Nat → Int) (w : World) (hB : IsB w a l) (ha : a = none → l = []) (hbig : l.length ≤ 140737488355328) (hC : IsC w c n kd nn mo) (hn : n ≤ maxLen) (hf : (fault != 0) = true) :
    Calls Try.prog 8 #[.slice a l.length cap, .int .i64 fault, .slice c n ccap] w fun e w' => e = .returned (.bool true) ∧ Below w.heap.size w w' := by
  unfold maxLen at hn
  have hf0 : (fault == 0) = false := by simpa using hf
  have HB : Hid (IsB w a l) := hB
  have HA : Hid (a = none → l = []) := ha
  have HC : Hid (IsC w c n kd nn mo) := hC
  clear hB ha hC
  go_enter Try.func8, Try.ntmps8
  go_wp2_with fail
  refine (alive_any w).mono ?_
  rintro e w1 ⟨rfl, b1⟩
  go_wp2_with fail
  refine (open_any a cap l w1 (isB_keep HB.out b1) hbig HA.out).mono ?_
  rintro e w2 ⟨B, rfl, hB1, hB2, hR, b2⟩
  obtain ⟨a2, cap2, c1, c2, c3, c4, _, _, _⟩ := isB_of_rd hR
  go_wp2_with fail
  refine (fail_first B fault w2 c2 c4).mono ?_
  rintro e w3 ⟨rfl, hw3⟩
  have hR3 := rd_fault hR fault
  rw [← hw3] at hR3
  have b3 : Below w.heap.size w w3 := by
    rw [hw3]
    exact (b1.trans (b2.mono b1.size)).setCell (p := ⟨B, 1, none⟩) (by show _ ≤ B; have := b1.size; omega) _
  obtain ⟨a3, cap3, d1, d2, d3, d4, _, _, _⟩ := isB_of_rd hR3
  clear hw3 c1 c2 c3 c4 hR hR3
  go_wp2
  go_loopw [8] (fun i wr => ∃ k : Nat, k ≤ n ∧ k ≤ 200 ∧ i = .int .i64 k ∧ wr = w3) (fun i _ => 200 - (intOf i).toNat)
  case atStart => exact ⟨0, Nat.zero_le _, Nat.zero_le _, rfl, rfl⟩
  case round =>
    obtain ⟨k, hk1, hk2, rfl, rfl⟩ := hrel
    by_cases hlt : k < n ∧ k < 200
    · obtain ⟨hl1, hl2⟩ := hlt
      rcases HC.out with h0 | ⟨cb, co, rfl, hcb, hcc⟩
      · omega
      obtain ⟨x1, x2, x3⟩ := hcc k hl1
      rw [← b3.cell (p := ⟨cb, co + k * 3, none⟩) hcb] at x1
      rw [← b3.cell (p := ⟨cb, co + k * 3 + 1, none⟩) hcb] at x2
      rw [← b3.cell (p := ⟨cb, co + k * 3 + 2, none⟩) hcb] at x3
      clear hcc
      go_wp2_with fail
      refine (fixed_fault B fault _ wr d2 hf).mono ?_
      rintro e w' ⟨rfl, rfl⟩
      go_wp2_with fail
      refine (rvar_fault B fault wr d2 hf).mono ?_
      rintro e w' ⟨rfl, rfl⟩
      go_wp2_with fail
      refine (upto_fault B fault _ wr d2 hf).mono ?_
      rintro e w' ⟨rfl, rfl⟩
      go_wp2_with fail
      refine (bytes_fault B fault _ wr d2 hf).mono ?_
      rintro e w' ⟨rfl, rfl⟩
      go_wp2_with fail
      refine (fail_more B _ fault wr d2 hf0).mono ?_
      rintro e w' ⟨rfl, rfl⟩
      go_wp2
      go_roundw
      case rel => exact ⟨k + 1, by omega, by omega, by go_num, by first | rfl | trivial⟩
      case measure => simp [intOf]; omega
    · by_cases hl1 : k < n
      all_goals
        go_wp2_with fail
        refine (fail_nil 2 wr).mono ?_
        rintro e w' ⟨rfl, rfl⟩
        go_wp2_with fail
        refine (err_two B fault wr d2).mono ?_
        rintro e w' ⟨rfl, rfl⟩
        go_wp2_with fail
        refine (end_fault B fault wr d2 hf).mono ?_
        rintro e w' ⟨rfl, rfl⟩
        go_wp2_with fail
        refine (left_fault B fault wr d2 hf).mono ?_
        rintro e w' ⟨rfl, rfl⟩
        go_wp2_with fail
        refine (rvar_nil wr).mono ?_
        rintro e w' ⟨rfl, rfl⟩
        go_wp2_with fail
        refine (fixed_nil 3 wr).mono ?_
        rintro e w' ⟨rfl, rfl⟩
        go_wp2_with fail
        refine (upto_nil 9 wr).mono ?_
        rintro e w' ⟨rfl, rfl⟩
        go_wp2_with fail
        refine (bytes_nil 1 wr).mono ?_
        rintro e w' ⟨rfl, rfl⟩
        go_wp2_with fail
        refine (left_nil wr).mono ?_
        rintro e w' ⟨rfl, rfl⟩
        go_wp2_with fail
        refine (err_nil wr).mono ?_
        rintro e w' ⟨rfl, rfl⟩
        go_wp2_with fail
        refine (end_nil wr).mono ?_
        rintro e w' ⟨rfl, rfl⟩
        go_wp2
        go_ret
        exact ⟨rfl, b3⟩

set_option maxRecDepth 100000 in
set_option maxHeartbeats 1000000 in
theorem numStays_zero (a : Option Addr) (cap len : Nat) (c : Option Addr) (n ccap : Nat) (w : World) :
    Calls Try.prog 8 #[.slice a len cap, .int .i64 0, .slice c n ccap] w fun e w' => e = .returned (.bool true) ∧ Below w.heap.size w w' := by
  go_enter Try.func8, Try.ntmps8
  go_wp2_with fail
  refine (alive_any w).mono ?_
  rintro e w1 ⟨rfl, b1⟩
  go_wp2
  go_ret
  exact ⟨rfl, b1⟩

set_option maxRecDepth 100000 in
theorem numStays_lifted (os : Os) (started : os.Started) (H : Type) (enc : TypeId × Value → H) :
    ReturnsInHanded {} Try.checked os 8 .any (Rows.numStaysSpec.pre6 enc Try.prog Try.f8 Rows.numStaysRow.domain false) (Rows.numStaysSpec.post enc Try.prog Try.f8 false true false false) := by
  refine returnsInHanded_of_change_sized (C := Try.checked) own started (by kernel_rfl) Try.func8
    (ChangeSpec.witness6 (enc := enc) (C := Try.checked) false ⟨#[], #[.slice none 0 0, .int .i64 0, .slice none 0 0], []⟩ 8 (by kernel_rfl) (by kernel_rfl) (by kernel_rfl) (by kernel_rfl)) ?_
  intro W base args ds gs before hval0 hW hcnd hsz0 hholds
  have hval : ∀ (j : Nat) t v, Try.f8.params[j]? = some t → args[j]? = some v → Value.okWide Try.prog W .any base t v := hval0
  have hsz : (DataW.weightsEach Try.prog (Try.f8.params.toList ++ Rows.numStaysSpec.plain.varTypes Try.prog) (ds ++ gs)).all (· ≤ reachBytes) = true := hsz0
  have hW' := hW
  obtain ⟨p, q, hA0, hV, rfl, hfz, hnd⟩ := hW
  have hA : DataW.TrodAll enc Try.prog W 0 (fun _ => true) true Try.f8.params.toList args.toList ds p := hA0
  rw [Try.params8] at hA hval hsz
  obtain ⟨v0, vs0, d0, ds0, p0, q0, hargs, rfl, rfl, h0, r0⟩ := trodAll_cons hA
  obtain ⟨v1, vs1, d1, ds1, p1, q1, rfl, rfl, rfl, h1, r1⟩ := trodAll_cons r0
  obtain ⟨v2, vs2, d2, ds2, p2, q2, rfl, rfl, rfl, h2, r2⟩ := trodAll_cons r1
  obtain ⟨rfl, rfl, rfl⟩ := trodAll_nil r2
  obtain rfl : args = #[v0, v1, v2] := by cases args; simp_all
  obtain ⟨rfl, rfl⟩ := trodVars_none hV
  obtain ⟨a0, len0, cap0, rfl⟩ := okWide_slice Try.underlying23 (hval 0 23 v0 rfl rfl)
  have k0 := h0
  have lt0 : ∀ x ∈ p0, x.block < W.heap.size := by obtain ⟨m, hm⟩ := k0; exact DataW.trod_lt m _ _ _ hm
  obtain ⟨l, rfl, hB, hlc, hm, ha, hd⟩ := open_bytes h0
  have hbig : l.length ≤ 140737488355328 := by
    rcases hd with ⟨_, rfl⟩ | ⟨els, sp, rfl, he⟩
    · exact Nat.zero_le _
    · have := sized_slice hsz (j := 0) (t := 23) (e := 5) rfl rfl Try.underlying23
      rw [Try.bytes5] at this
      simp only [reachBytes] at this
      omega
  obtain ⟨a1, rfl, rfl, rfl, w1⟩ := open_int Try.underlying3 (hval 1 3 v1 rfl rfl) h1
  obtain ⟨a2, len2, cap2, rfl⟩ := okWide_slice Try.underlying32 (hval 2 32 v2 rfl rfl)
  have k2 := h2
  have lt2 : ∀ x ∈ p2, x.block < W.heap.size := by obtain ⟨m, hm⟩ := k2; exact DataW.trod_lt m _ _ _ hm
  obtain ⟨kd, nn, mo, hC, hn, _⟩ := open_calls h2
  clear hA0 hval0
  have main : Calls Try.prog 8 #[.slice a0 l.length cap0, .int .i64 a1, .slice a2 len2 cap2] W fun e w' => e = .returned (.bool true) ∧ Below W.heap.size W w' := by
    by_cases hz : a1 = 0
    · rw [hz]; exact numStays_zero a0 cap0 l.length a2 len2 cap2 W
    · exact numStays_any a0 cap0 l a1 a2 len2 cap2 kd nn mo W hB ha hbig hC hn (by rw [bne_iff_ne]; exact hz)
  refine main.mono fun e W' ⟨he, bel⟩ => ?_
  subst he
  exact ⟨_, rfl, _, _, _, [], _, [], hW', trodAll_mk1 (shut_bool Try.underlying4 _), (trodAll_cons_mk (Below.trod laidOut (by kernel_rfl) (of_decide_eq_true (by kernel_rfl)) k0 bel lt0) (trodAll_cons_mk (shut_int Try.underlying3 w1) (trodAll_cons_mk (Below.trod laidOut (by kernel_rfl) (of_decide_eq_true (by kernel_rfl)) k2 bel lt2) trodAll_mk0))), rfl, bel.frame _, fun h => by cases h⟩

theorem numStays_holds : Rows.NumStaysSaid :=
  OpenClaim.holds_of_wide 8 Try.f8 rfl rfl rfl rfl rfl rfl rfl ⟨rfl, rfl, rfl, rfl, rfl⟩ rfl rfl rfl rfl rfl (by kernel_rfl) Try.func8 (by kernel_rfl)
    (of_decide_eq_true (by kernel_rfl)) (by unfold Func.isWrapper; first | (rw [if_pos (by decide +kernel)]; kernel_rfl) | (rw [if_neg (by decide +kernel)]; exact ⟨rfl, rfl⟩))
    (fun os started H enc _ => numStays_lifted os started H enc)
#print axioms numStays_holds
end Go.Proofs.Ytdhamfhicdcdgaa
