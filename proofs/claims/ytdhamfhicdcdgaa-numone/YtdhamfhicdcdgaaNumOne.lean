/- Whatever bytes are read as one number are the bytes that are written of it: the law NumOne, for every input. -/
import Derived.Test.YtdhamfhicdcdgaaNumLf
import Derived.Test.YtdhamfhicdcdgaaNumP3
import Derived.Deep.RegionHeld3
namespace Go.Proofs.Ytdhamfhicdcdgaa
open Go.ChangeShapes Go.WideShapes Go.ChangeAt Go.RowKit
set_option linter.unusedVariables false

theorem isB_take {w : World} {a : Option Addr} {l : List Int} (h : IsB w a l) (k : Nat) : IsB w a (l.take k) := by
  obtain ⟨h1, rfl | ⟨b, off, e, hs, hc⟩⟩ := h
  · exact ⟨by simp, .inl (by simp)⟩
  · refine ⟨fun x hx => h1 x (List.mem_of_mem_take hx), .inr ⟨b, off, e, hs, fun i hi => ?_⟩⟩
    rw [List.length_take] at hi
    rw [hc i (by omega)]
    simp [List.getD, show i < k by omega]

theorem isB_drew {w : World} {a : Option Addr} {l : List Int} (h : IsB w a l) : IsB w.drew a l := h

set_option maxHeartbeats 800000 in
theorem numOne_ok (b off cap : Nat) (l : List Int) (n : Int) (sz : Nat) (w : World) (hB : IsB w (some ⟨b, off, none⟩) l) (hc : l.length ≤ cap) (hm : cap ≤ maxLen) (hbig : l.length ≤ 140737488355328) (hr : rdL l = (n, sz, 0)) (n0 : 0 ≤ n) (n1 : n ≤ 18446744073709551615) (hs : sz ≤ l.length) :
    Calls Try.prog 7 #[.slice (some ⟨b, off, none⟩) l.length cap] w fun e w' => e = .returned (.bool true) ∧ Below w.heap.size w w' := by
  unfold maxLen at hm
  have hv : l.take sz = varL n := rdL_var l n sz hB.1 hr
  have hU : upS l 0 18446744073709551615 = (n, l.drop sz, 0) := by rw [upS, if_pos rfl, hr]; simp only [if_true]; rw [if_pos n1]
  have hlen : (varL n).length = sz := by rw [← hv, List.length_take]; omega
  obtain ⟨k, hk⟩ : ∃ k, (l.drop sz).length = k := ⟨_, rfl⟩
  have hk1 : sz + k = l.length := by rw [← hk, List.length_drop]; omega
  have HV : Hid (l.take sz = varL n) := hv
  have HU : Hid (upS l 0 18446744073709551615 = (n, l.drop sz, 0)) := hU
  have HL : Hid ((varL n).length = sz) := hlen
  have HK : Hid ((l.drop sz).length = k) := hk
  have HB : Hid (IsB w (some ⟨b, off, none⟩) l) := hB
  have k1 : sz + k ≤ l.length := by omega
  have k2 : l.length ≤ sz + k := by omega
  clear hv hU hlen hk hk1 hB hr
  go_enter Try.func7, Try.ntmps7
  go_wp2_with fail
  refine (alive_any w).mono ?_
  rintro e w1 ⟨rfl, b1⟩
  go_wp2_with fail
  refine (open_any (some ⟨b, off, none⟩) cap l w1 (isB_keep HB.out b1) hbig (by simp)).mono ?_
  rintro e w2 ⟨B, rfl, hB1, hB2, hR, b2⟩
  go_wp2_with fail
  refine (rvar_any B l 0 w2 hR).mono ?_
  rw [HU.out]
  rintro e w3 ⟨rfl, hR3, hg3⟩
  obtain ⟨a, cap3, c1, c2, c3, c4, hB3, hc3, hm3⟩ := isB_of_rd hR3
  rw [HK.out] at c1
  have b3 : Below w.heap.size w w3 := (b1.trans (b2.mono b1.size)).grown hg3 (by have := b1.size; have := b2.size; omega) (fun j hj => by cases hj; have := b1.size; omega)
  clear hB3 hc3 hR3 hg3 hR
  go_wp2_with fail
  refine (err_two B 0 w3 c2).mono ?_
  rintro e w3' ⟨rfl, rfl⟩
  go_wp2_with fail
  refine (left_ok B a k cap3 w3 c1 c2).mono ?_
  rintro e w3' ⟨rfl, rfl⟩
  clear c1 c2 c3 c4 hm3
  have i3 : Hid (IsB w3 (some ⟨b, off, none⟩) (varL n)) := by show IsB _ _ _; rw [← HV.out]; exact isB_take (isB_keep HB.out b3) sz
  have ek : ((l.length : Int) - (k : Int)) = (sz : Int) := by omega
  have g2 : k ≤ l.length := by omega
  have g3 : sz ≤ cap := by omega
  have g4 : (sz : Int) ≤ (cap : Int) := by omega
  have g5 : (0 : Int) ≤ (sz : Int) := by omega
  have g6 : IntKind.i64.wrap (sz : Int) = (sz : Int) := by rw [IntKind.wrap_i64]; omega
  go_wp2_with fail
  go_region_held3 (fun _ => True) (trivial) (first
    | (go_at_call 16; refine (var_any n _ n0 n1).mono ?_; rintro e w4 ⟨rfl, ho4, b4⟩)
    | (go_at_call 10; refine (same_true (some ⟨w3.heap.size, 0, none⟩) (some ⟨b, off, none⟩) (varL n).length sz (varL n).length cap (varL n) _ ?_ ?_ rfl HL.out).mono ?_; exact isB_owns (varL_byte n n0 n1) ho4; exact isB_keep (isB_drew i3.out) b4; rintro e w5 ⟨rfl, rfl⟩))
  have b4' : Below w.heap.size w w4 := b3.drew.trans (b4.mono (by have := b3.size; simp; omega))
  go_wp2
  go_ret
  exact ⟨rfl, b4'⟩

set_option maxHeartbeats 1000000 in
theorem numOne_bad (a : Option Addr) (cap : Nat) (l : List Int) (er : Int) (w : World) (hB : IsB w a l) (ha : a = none → l = []) (hbig : l.length ≤ 140737488355328) (hr : rdL l = (0, 0, er)) (he : er = 3 ∨ er = 4) :
    Calls Try.prog 7 #[.slice a l.length cap] w fun e w' => e = .returned (.bool true) ∧ Below w.heap.size w w' := by
  have hU : upS l 0 18446744073709551615 = (0, l, er) := by rw [upS, if_pos rfl, hr]; dsimp only; rw [if_neg (by omega)]
  have HU : Hid (upS l 0 18446744073709551615 = (0, l, er)) := hU
  have HB : Hid (IsB w a l) := hB
  have HA : Hid (a = none → l = []) := ha
  have hq' : (er != 0) = true := by rw [bne_iff_ne]; omega
  clear hU hB hr ha he
  go_enter Try.func7, Try.ntmps7
  go_wp2_with fail
  refine (alive_any w).mono ?_
  rintro e w1 ⟨rfl, b1⟩
  go_wp2_with fail
  refine (open_any a cap l w1 (isB_keep HB.out b1) hbig HA.out).mono ?_
  rintro e w2 ⟨B, rfl, hB1, hB2, hR, b2⟩
  go_wp2_with fail
  refine (rvar_any B l 0 w2 hR).mono ?_
  rw [HU.out]
  rintro e w3 ⟨rfl, hR3, hg3⟩
  obtain ⟨a3, cap3, c1, c2, c3, c4, hB3, hc3, hm3⟩ := isB_of_rd hR3
  have b3 : Below w.heap.size w w3 := (b1.trans (b2.mono b1.size)).grown hg3 (by have := b1.size; have := b2.size; omega) (fun j hj => by cases hj; have := b1.size; omega)
  clear hB3 hc3 hR3 hg3 hR
  go_wp2_with fail
  refine (err_two B er w3 c2).mono ?_
  rintro e w3' ⟨rfl, rfl⟩
  go_wp2_with fail
  refine (left_fault B er w3 c2 hq').mono ?_
  rintro e w3' ⟨rfl, rfl⟩
  go_wp2
  go_ret
  exact ⟨rfl, b3⟩

theorem numOne_any (a : Option Addr) (cap : Nat) (l : List Int) (w : World) (hB : IsB w a l) (hc : l.length ≤ cap) (hm : cap ≤ maxLen) (ha : a = none → l = []) (hbig : l.length ≤ 140737488355328) :
    Calls Try.prog 7 #[.slice a l.length cap] w fun e w' => e = .returned (.bool true) ∧ Below w.heap.size w w' := by
  have hF := rdL_facts l hB.1
  obtain ⟨n, sz, er, hr⟩ : ∃ n sz er, rdL l = (n, sz, er) := ⟨_, _, _, rfl⟩
  rw [hr] at hF
  dsimp only at hF
  rcases hF with ⟨rfl, n0, n1, s1, s2⟩ | ⟨he, rfl, rfl⟩
  · have hne : l ≠ [] := by rintro rfl; simp at s2; omega
    have hB' := hB
    obtain ⟨_, h | ⟨b, off, rfl, _, _⟩⟩ := hB'
    · exact absurd h hne
    · exact numOne_ok b off cap l n sz w hB hc hm hbig hr n0 n1 s2
  · exact numOne_bad a cap l er w hB ha hbig hr he

set_option maxRecDepth 100000 in
theorem numOne_lifted (os : Os) (started : os.Started) (H : Type) (enc : TypeId × Value → H) :
    ReturnsInHanded {} Try.checked os 7 .any (Rows.numOneSpec.pre6 enc Try.prog Try.f7 Rows.numOneRow.domain false) (Rows.numOneSpec.post enc Try.prog Try.f7 false true false false) := by
  refine returnsInHanded_of_change_sized (C := Try.checked) own started (by kernel_rfl) Try.func7
    (ChangeSpec.witness6 (enc := enc) (C := Try.checked) false ⟨#[], #[.slice none 0 0], []⟩ 8 (by kernel_rfl) (by kernel_rfl) (by kernel_rfl) (by kernel_rfl)) ?_
  intro W base args ds gs before hval0 hW hcnd hsz0 hholds
  have hval : ∀ (j : Nat) t v, Try.f7.params[j]? = some t → args[j]? = some v → Value.okWide Try.prog W .any base t v := hval0
  have hsz : (DataW.weightsEach Try.prog (Try.f7.params.toList ++ Rows.numOneSpec.plain.varTypes Try.prog) (ds ++ gs)).all (· ≤ reachBytes) = true := hsz0
  have hW' := hW
  obtain ⟨p, q, hA0, hV, rfl, hfz, hnd⟩ := hW
  have hA : DataW.TrodAll enc Try.prog W 0 (fun _ => true) true Try.f7.params.toList args.toList ds p := hA0
  rw [Try.params7] at hA hval hsz
  obtain ⟨v0, vs0, d0, ds0, p0, q0, hargs, rfl, rfl, h0, r0⟩ := trodAll_cons hA
  obtain ⟨rfl, rfl, rfl⟩ := trodAll_nil r0
  obtain rfl : args = #[v0] := by cases args; simp_all
  obtain ⟨rfl, rfl⟩ := trodVars_none hV
  obtain ⟨a0, len0, cap0, rfl⟩ := okWide_slice Try.underlying23 (hval 0 23 v0 rfl rfl)
  have k0 := h0
  have lt0 : ∀ x ∈ p0, x.block < W.heap.size := by obtain ⟨m, hm⟩ := k0; exact DataW.trod_lt m _ _ _ hm
  obtain ⟨l, rfl, hB, hlc, hm, ha, hd⟩ := open_bytes h0
  have hbig : l.length ≤ 140737488355328 := by
    rcases hd with ⟨_, rfl⟩ | ⟨els, sp, rfl, he⟩
    · exact Nat.zero_le _
    · have := sized_slice hsz (j := 0) (t := 23) (e := 5) rfl rfl Try.underlying23
      rw [Try.bytes5] at this
      simp only [reachBytes] at this
      omega
  clear hA0 hval0
  refine (numOne_any a0 cap0 l W hB hlc hm ha hbig).mono fun e W' ⟨he, bel⟩ => ?_
  subst he
  exact ⟨_, rfl, _, _, _, [], _, [], hW', trodAll_mk1 (shut_bool Try.underlying4 _), (trodAll_cons_mk (Below.trod laidOut (by kernel_rfl) (of_decide_eq_true (by kernel_rfl)) k0 bel lt0) trodAll_mk0), rfl, bel.frame _, fun h => by cases h⟩

theorem numOne_holds : Rows.NumOneSaid :=
  OpenClaim.holds_of_wide 7 Try.f7 rfl rfl rfl rfl rfl rfl rfl ⟨rfl, rfl, rfl, rfl, rfl⟩ rfl rfl rfl rfl rfl (by kernel_rfl) Try.func7 (by kernel_rfl)
    (of_decide_eq_true (by kernel_rfl)) (by unfold Func.isWrapper; first | (rw [if_pos (by decide +kernel)]; kernel_rfl) | (rw [if_neg (by decide +kernel)]; exact ⟨rfl, rfl⟩))
    (fun os started H enc _ => numOne_lifted os started H enc)
#print axioms numOne_holds
end Go.Proofs.Ytdhamfhicdcdgaa
