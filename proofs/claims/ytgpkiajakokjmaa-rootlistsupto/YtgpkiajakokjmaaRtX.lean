/- Layer 20: the walk of RootLists, over pages that are not too many. -/
import Derived.Test.YtgpkiajakokjmaaRtR
import Derived.Test.YtgpkiajakokjmaaRtK
namespace Go.Proofs.Ytgpkiajakokjmaa
open Go.RowKit
set_option linter.unusedVariables false
set_option maxRecDepth 4000

set_option maxRecDepth 20000 in
set_option maxHeartbeats 16000000 in
/-- RootLists. -/
theorem rootLists_any (k r : Int) (a : Option Addr) (cp : Nat) (ps : List Int) (w : World) (hI : IsI w a ps) (hn : a = none → ps = [] ∧ cp = 0) (hl : ps.length ≤ 1048576) (hk : -9223372036854775808 ≤ k ∧ k ≤ 9223372036854775807) (hr : -9223372036854775808 ≤ r ∧ r ≤ 9223372036854775807) :
    Calls Try.prog 6 #[.int .i64 k, .int .i64 r, .slice a ps.length cp] w fun e w' => e = .returned (.bool true) ∧ Below w.heap.size w w' := by
  have HI : Hid (IsI w a ps) := hI
  have HN : Hid (a = none → ps = [] ∧ cp = 0) := hn
  clear hI hn
  by_cases h1 : 10000 < k
  · go_enter Try.func6, Try.ntmps6
    go_wp2_with (go_at_call 8; refine (alive20 _).mono ?_; rintro e w1 ⟨rfl, b1⟩; have B1 : Hid (Below w.heap.size w w1) := b1; clear b1)
    go_ret
    exact ⟨rfl, B1.out⟩
  by_cases h2 : 10000 < r
  · have h1' : k ≤ 10000 := by omega
    go_enter Try.func6, Try.ntmps6
    go_wp2_with (go_at_call 8; refine (alive20 _).mono ?_; rintro e w1 ⟨rfl, b1⟩; have B1 : Hid (Below w.heap.size w w1) := b1; clear b1)
    go_ret
    exact ⟨rfl, B1.out⟩
  have h1' : k ≤ 10000 := by omega
  have h2' : r ≤ 10000 := by omega
  have LL : (listE k r ps).length ≤ 4398046511104 := by
    unfold listE
    rw [List.length_append, spanE_len]
    have := ahead_le h1' h2'
    omega
  go_enter Try.func6, Try.ntmps6
  go_wp2_with fail
  refine (alive20 _).mono ?_
  rintro e w1 ⟨rfl, b1⟩
  have B1 : Hid (Below w.heap.size w w1) := b1
  obtain ⟨a2, c2, w2, hr2, o2, _, b2⟩ := appi_any w1 a ps cp (HI.out.keep b1) HN.out (by omega)
  have RUN2 : Hid _ := hr2
  have I2 : Hid (IsI w2 a2 ps) := ownsI_isI HI.out.1 o2
  have B2 : Hid (Below w.heap.size w w2) := B1.out.trans (b2.mono B1.out.size)
  obtain ⟨N, hN⟩ : ∃ N, ps.length = N := ⟨_, rfl⟩
  have HNN : Hid (ps.length = N) := hN
  obtain ⟨Q, hQ⟩ : ∃ Q, listE k r ps = Q := ⟨_, rfl⟩
  have CL : Hid (∀ (w : World) (a : Option Addr) (c : Nat), IsI w a ps → Calls Try.prog 20 #[.int .i64 k, .int .i64 r, .slice a N c] w fun e w' => ∃ a' c, e = .returned (.slice a' Q.length c) ∧ Ow w' w.heap.size a' Q c ∧ Below w.heap.size w w') := fun w a c h => by
    have q := clist_any k r a c ps w ⟨hk.1, h1'⟩ ⟨hr.1, h2'⟩ h (by omega)
    rw [hQ, hN] at q
    exact q
  have DL : Hid (∀ (w : World) (a : Option Addr) (c : Nat), IsI w a ps → Calls Try.prog 22 #[.int .i64 k, .int .i64 r, .slice a N c] w fun e w' => ∃ a' c, e = .returned (.slice a' Q.length c) ∧ Ow w' w.heap.size a' Q c ∧ Below w.heap.size w w') := fun w a c h => by
    have q := dlist_any k r a c ps w ⟨hk.1, h1'⟩ ⟨hr.1, h2'⟩ h (by omega)
    rw [hQ, hN] at q
    exact q
  rw [hQ] at LL
  rw [hN] at RUN2 hl ⊢
  clear b1 hr2 o2 b2 hN hQ
  go_wp2_with (at_builtin; refine wpList_runi rfl rfl _ _ rfl (.slice (some ⟨w1.heap.size, 0, none⟩) 0 0) (.slice a N cp) _ _ rfl rfl RUN2.out ?_)
  refine (CL.out _ a2 c2 I2.out).mono ?_
  rintro e w3 ⟨a3, c3, rfl, o3, b3⟩
  have W3 : Hid (IsW w3 a3 Q) := o3.isW
  have I3 : Hid (IsI w3 a2 ps) := I2.out.keep b3
  have B3 : Hid (Below w.heap.size w w3) := B2.out.trans (b3.mono B2.out.size)
  clear o3 b3
  go_wp2_with fail
  refine (DL.out _ a cp (HI.out.keep B3.out)).mono ?_
  rintro e w4 ⟨a4, c4, rfl, o4, b4⟩
  have W4 : Hid (IsW w4 a4 Q) := o4.isW
  have X4 : Hid (IsW w4 a3 Q) := W3.out.keep b4
  have I4 : Hid (IsI w4 a2 ps) := I3.out.keep b4
  have B4 : Hid (Below w.heap.size w w4) := B3.out.trans (b4.mono B3.out.size)
  clear o4 b4
  go_wp2_with fail
  refine (entries_true a3 a4 c3 c4 _ _ Q _ X4.out W4.out rfl rfl LL).mono ?_
  rintro e w5 ⟨rfl, b5⟩
  have I5 : Hid (IsI w5 a2 ps) := I4.out.keep b5
  have B5 : Hid (Below w.heap.size w w5) := B4.out.trans (b5.mono B4.out.size)
  clear b5
  have ML : ps.length ≤ maxLen := by rw [HNN.out]; unfold maxLen; omega
  go_wp2_with fail
  refine (ints_any a2 a N N c2 cp ps ps _ I5.out (HI.out.keep B5.out) HNN.out.symm HNN.out.symm ML ML).mono ?_
  rintro e w6 ⟨rfl, b6⟩
  have B6 : Hid (Below w.heap.size w w6) := B5.out.trans (b6.mono B5.out.size)
  clear b6
  go_wp2
  go_ret
  exact ⟨rfl, B6.out⟩
end Go.Proofs.Ytgpkiajakokjmaa
