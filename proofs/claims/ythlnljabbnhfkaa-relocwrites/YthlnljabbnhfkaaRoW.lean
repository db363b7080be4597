/- The walk of RelocWrites. -/
import Derived.Test.YthlnljabbnhfkaaRoR
namespace Go.Proofs.Ythlnljabbnhfkaa
open Go.RowKit
set_option linter.unusedVariables false

theorem errT_zero {l : List Int} (h : errT l = 0) : rightT 65535 l = true := by
  unfold errT at h
  by_cases c : rightT 65535 l = true
  · exact c
  · rw [if_neg c] at h; omega

set_option maxRecDepth 20000 in
set_option maxHeartbeats 8000000 in
theorem relocWrites_any (a : Option Addr) (c : Nat) (l : List Int) (n : Int) (am : Option Addr) (cm : Nat) (more : List Int) (w : World) (hI : IsI w a l) (hni : a = none → l = [] ∧ c = 0) (hm : l.length ≤ maxLen) (hn : -9223372036854775808 ≤ n ∧ n ≤ 9223372036854775807) (hB : IsB w am more) (hnil : am = none → more = [] ∧ cm = 0) (hmm : more.length ≤ maxLen) :
    Calls Try.prog 3 #[.slice a l.length c, .int .i64 n, .slice am more.length cm] w fun e w' => e = .returned (.bool true) ∧ Below w.heap.size w w' := by
  have HI : Hid (IsI w a l) := hI
  have HB : Hid (IsB w am more) := hB
  have HN : Hid (am = none → more = [] ∧ cm = 0) := hnil
  have HM : Hid (l.length ≤ maxLen) := hm
  have HNN : Hid (-9223372036854775808 ≤ n ∧ n ≤ 9223372036854775807) := hn
  unfold maxLen at hmm hm
  by_cases hbig : 9000 < l.length
  · clear hI hB hnil hn hni
    go_enter Try.func3, Try.ntmps3
    go_wp2_with (go_at_call 9; refine (alive_any _).mono ?_; rintro e w1 ⟨rfl, b1⟩)
    go_ret
    exact ⟨rfl, b1⟩
  have hbig' : l.length ≤ 9000 := by omega
  by_cases hbm : 1000 < more.length
  · clear hI hB hnil hn hni hbig
    go_enter Try.func3, Try.ntmps3
    go_wp2_with (go_at_call 9; refine (alive_any _).mono ?_; rintro e w1 ⟨rfl, b1⟩)
    go_ret
    exact ⟨rfl, b1⟩
  have hbm' : more.length ≤ 1000 := by omega
  obtain ⟨er, her⟩ : ∃ er, errT l = er := ⟨_, rfl⟩
  have HER : Hid (errT l = er) := her
  obtain ⟨X, hX⟩ : ∃ X, bytesT l = X := ⟨_, rfl⟩
  have HX : Hid (bytesT l = X) := hX
  have AX : Hid (AllB X) := by show AllB X; rw [← hX]; exact bytesT_byte l
  have LX : X.length ≤ 81930 := by rw [← hX]; exact bytesT_len l
  obtain ⟨v, hv⟩ : ∃ v, rightT n l = v := ⟨_, rfl⟩
  have HV : Hid (rightT n l = v) := hv
  have HNI : Hid (a = none → l = [] ∧ c = 0) := hni
  clear hI hB hnil hn hni hbig hbm hX hv her
  go_enter Try.func3, Try.ntmps3
  go_wp2_with fail
  refine (alive_any _).mono ?_
  rintro e w1 ⟨rfl, b1⟩
  have B1 : Hid (Below w.heap.size w w1) := b1
  obtain ⟨a2, c2, w2, hrun, o2, _, b2⟩ := appi_any w1 a l c (HI.out.keep b1) HNI.out (by omega)
  have B2 : Hid (Below w.heap.size w w2) := b1.trans (b2.mono b1.size)
  have I2 : Hid (IsI w2 a2 l) := ownsI_isI HI.out.1 o2
  clear b1 o2 b2
  go_wp2_with (first | (at_builtin; refine wpList_runi rfl rfl _ _ rfl _ _ _ _ rfl rfl hrun ?_) | fail)
  clear hrun
  refine (obytes_any a2 c2 l _ I2.out HM.out).mono ?_
  rw [HX.out, HER.out]
  rintro e w3 ⟨a3, c3, rfl, o3, b3⟩
  have B3 : Hid (Below w.heap.size w w3) := B2.out.trans (b3.mono B2.out.size)
  have I3 : Hid (IsI w3 a2 l) := I2.out.keep b3
  have O3 : Hid (IsB w3 a3 X) := ownsB_isB AX.out o3
  clear o3 b3
  go_wp2_with fail
  refine (robytes_any a c l _ (HI.out.keep B3.out) HM.out).mono ?_
  rw [HX.out, HER.out]
  rintro e w4 ⟨a4, c4, rfl, o4, b4⟩
  have B4 : Hid (Below w.heap.size w w4) := B3.out.trans (b4.mono B3.out.size)
  have I4 : Hid (IsI w4 a2 l) := I3.out.keep b4
  have O4 : Hid (IsB w4 a3 X) := O3.out.keep b4
  have P4 : Hid (IsB w4 a4 X) := ownsB_isB AX.out o4
  clear o4 b4
  go_wp2_with fail
  refine (same_true a3 a4 _ _ c3 c4 X _ O4.out P4.out rfl rfl).mono ?_
  rintro e w4' ⟨rfl, rfl⟩
  go_wp2_with fail
  refine (oright_is a2 c2 _ l n v _ rfl HV.out I4.out HM.out HNN.out).mono ?_
  rintro e w4' ⟨rfl, rfl⟩
  go_wp2_with fail
  refine (roright_is a c _ l n v _ rfl HV.out (HI.out.keep B4.out) HM.out HNN.out).mono ?_
  rintro e w4' ⟨rfl, rfl⟩
  go_wp2_with fail
  refine (ints_self a2 a _ _ c2 c l _ I4.out (HI.out.keep B4.out) rfl rfl HM.out).mono ?_
  rintro e w5 ⟨rfl, b5⟩
  have B5 : Hid (Below w.heap.size w w5) := B4.out.trans (b5.mono B4.out.size)
  have O5 : Hid (IsB w5 a3 X) := O4.out.keep b5
  clear b5
  by_cases h0 : er = 0
  · subst h0
    have HR : Hid (readT (X ++ more) = (l, more, 0)) := by show _ = _; rw [← HX.out]; exact readT_back more (errT_zero HER.out)
    go_wp2_with fail
    refine (copy_any a3 c3 _ X _ rfl O5.out (by omega)).mono ?_
    rintro e w6 ⟨g6, c6, rfl, o6, b6⟩
    have O6 : Hid (OwnsB w6 w5.heap.size (some ⟨g6, 0, none⟩) X c6) := o6
    have B6 : Hid (Below w.heap.size w w6) := B5.out.trans (b6.mono B5.out.size)
    have z5 : w5.heap.size ≤ w6.heap.size := b6.size
    have z4 := B5.out.size
    have M6 : Hid (IsB w6 am more) := HB.out.keep B6.out
    clear o6 b6
    go_wp2_with (at_builtin; refine wpList_app rfl _ _ rfl w5.heap.size z5 (some ⟨g6, 0, none⟩) X c6 rfl O6.out am more cm rfl M6.out HN.out (by omega) ?_; intro a7 c7 w7 o7 b7; have O7 : Hid (OwnsB w7 w5.heap.size a7 (X ++ more) c7) := o7; have K7 : Hid (Below w5.heap.size w6 w7) := b7; clear o7 b7)
    have B7 : Hid (Below w.heap.size w w7) := B6.out.trans (K7.out.mono z4)
    have hlX : (X ++ more).length ≤ 140737488355328 := by rw [List.length_append]; omega
    rw [← List.length_append]
    refine (open_any a7 c7 (X ++ more) _ (ownsB_isB (AX.out.append HB.out.1) O7.out) hlX (fun h => ((ownsB_isL O7.out).2.2 h).1)).mono ?_
    rintro e w8 ⟨B, rfl, hB1, hB2, r8, b8⟩
    have R8 : Hid (RdAt w8 B (X ++ more) 0) := r8
    have B8 : Hid (Below w.heap.size w w8) := B7.out.trans (b8.mono B7.out.size)
    have z7 := B7.out.size
    clear r8 b8 hlX
    go_wp2_with fail
    refine (oread_any B (X ++ more) l more 0 _ R8.out HR.out).mono ?_
    rintro e w9 ⟨a9, c9, l9, rfl, i9, n9, r9, e9, t9, f9, m9⟩
    obtain rfl := e9 rfl
    have B9 : Hid (Below w.heap.size w w9) := B8.out.trans (t9.below (by omega) B8.out.size)
    have I9 : Hid (IsI w9 a9 l) := i9
    have R9 : Hid (RdAt w9 B l9 0) := r9
    have HL : Hid (leftV l9 0 = (l9.length : Nat)) := rfl
    clear i9 n9 r9 t9 f9 e9 m9
    go_wp2_with fail
    refine (err_any B l9 0 _ R9.out).mono ?_
    rintro e w9' ⟨rfl, rfl⟩
    go_wp2_with fail
    refine (left_any B l9 0 _ R9.out).mono ?_
    rw [HL.out]
    rintro e w9' ⟨rfl, rfl⟩
    go_wp2_with fail
    refine (ints_self a9 a _ _ c9 c l _ I9.out (HI.out.keep B9.out) rfl rfl HM.out).mono ?_
    rintro e w10 ⟨rfl, b10⟩
    go_wp2
    go_ret
    exact ⟨rfl, B9.out.trans (b10.mono B9.out.size)⟩
  · have hq : (er != 0) = true := by rw [bne_iff_ne]; exact h0
    go_wp2
    go_ret
    exact ⟨rfl, B5.out⟩
end Go.Proofs.Ythlnljabbnhfkaa
