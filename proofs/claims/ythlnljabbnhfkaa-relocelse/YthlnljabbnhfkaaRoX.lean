/- The walk of RelocApplies. -/
import Derived.Test.YthlnljabbnhfkaaRoR
import Derived.Test.YthlnljabbnhfkaaRoI
namespace Go.Proofs.Ythlnljabbnhfkaa
open Go.RowKit
set_option linter.unusedVariables false

theorem boxB (w : World) (x y z : Int) : (w.alloc (.cells #[.int .i64 x, .int .i64 y, .int .i64 z] 46)).cell? ⟨w.heap.size, 0, none⟩ = some (.int .i64 x) ∧ (w.alloc (.cells #[.int .i64 x, .int .i64 y, .int .i64 z] 46)).cell? ⟨w.heap.size, 1, none⟩ = some (.int .i64 y) ∧ (w.alloc (.cells #[.int .i64 x, .int .i64 y, .int .i64 z] 46)).cell? ⟨w.heap.size, 2, none⟩ = some (.int .i64 z) := by
  have h := Go.heap_alloc_new w (.cells #[.int .i64 x, .int .i64 y, .int .i64 z] 46)
  exact ⟨cell_of_row _ _ 0 _ _ _ h, cell_of_row _ _ 1 _ _ _ h, cell_of_row _ _ 2 _ _ _ h⟩

theorem apply_le (b l : List Int) (fr t n : Int) : (applyB b l fr t n).length ≤ b.length := by
  unfold applyB
  split
  · rename_i h
    rw [goT_len l b (right_in h.2.1).1]; exact Nat.le_refl _
  · simp

set_option maxRecDepth 20000 in
set_option maxHeartbeats 8000000 in
theorem relocApplies_any (a al : Option Addr) (c cl : Nat) (b l : List Int) (x y z : Int) (w : World) (hB : IsB w a b) (hc : b.length ≤ c) (hbl : b.length ≤ 140737488355328) (hI : IsI w al l) (hni : al = none → l = [] ∧ cl = 0) (hm : l.length ≤ maxLen) :
    Calls Try.prog 5 #[.slice a b.length c, .slice al l.length cl, .agg #[.int .i64 x, .int .i64 y, .int .i64 z]] w fun e w' => e = .returned (.bool true) ∧ Below w.heap.size w w' := by
  obtain ⟨D, hD⟩ : ∃ D, w.alloc (.cells #[.int .i64 x, .int .i64 y, .int .i64 z] 46) = D := ⟨_, rfl⟩
  obtain ⟨q0, q1, q2⟩ := boxB w x y z
  rw [hD] at q0 q1 q2
  have B0 : Hid (Below w.heap.size w D) := by show Below _ _ _; rw [← hD]; exact (Below.refl _ w).alloc (Nat.le_refl _) _
  have hDs : w.heap.size < D.heap.size := by rw [← hD]; simp
  have HI : Hid (IsI w al l) := hI
  have HB : Hid (IsB w a b) := hB
  have HM : Hid (l.length ≤ maxLen) := hm
  have HNI : Hid (al = none → l = [] ∧ cl = 0) := hni
  unfold maxLen at hm
  by_cases hbig : 9000 < l.length
  · clear hI hB hni
    go_enter Try.func5, Try.ntmps5
    go_wp2_with (go_at_call 9; refine (alive_any _).mono ?_; rintro e w1 ⟨rfl, b1⟩)
    go_ret
    exact ⟨rfl, B0.out.trans (b1.mono B0.out.size)⟩
  have hbig' : l.length ≤ 9000 := by omega
  obtain ⟨er, her⟩ : ∃ er, applyE b l x y z = er := ⟨_, rfl⟩
  have HER : Hid (applyE b l x y z = er) := her
  obtain ⟨R, hR⟩ : ∃ R, applyB b l x y z = R := ⟨_, rfl⟩
  have HR : Hid (applyB b l x y z = R) := hR
  have hRl : R.length ≤ 140737488355328 := by have := apply_le b l x y z; rw [hR] at this; omega
  clear hI hB hbig hni her hR
  go_enter Try.func5, Try.ntmps5
  go_wp2_with fail
  refine (alive_any _).mono ?_
  rintro e w1 ⟨rfl, b1⟩
  have B1 : Hid (Below w.heap.size w w1) := B0.out.trans (b1.mono B0.out.size)
  have r0 := bcellK b1 q0
  have r1 := bcellK b1 q1
  have r2 := bcellK b1 q2
  clear b1 q0 q1 q2 hD
  go_wp2_with fail
  refine (copy_any a c _ b _ rfl (HB.out.keep B1.out) hbl).mono ?_
  rintro e w2 ⟨g2, c2, rfl, o2, b2⟩
  have O2 : Hid (IsB w2 (some ⟨g2, 0, none⟩) b) := ownsB_isB HB.out.1 o2
  have C2 : Hid (b.length ≤ c2) := (ownsB_isL o2).1
  have B2 : Hid (Below w.heap.size w w2) := B1.out.trans (b2.mono B1.out.size)
  have s0 := bcellK b2 r0
  have s1 := bcellK b2 r1
  have s2 := bcellK b2 r2
  obtain ⟨a3, c3, w3, hrun, o3, _, b3⟩ := appi_any w2 al l cl (HI.out.keep B2.out) HNI.out (by omega)
  have I3 : Hid (IsI w3 a3 l) := ownsI_isI HI.out.1 o3
  have O3 : Hid (IsB w3 (some ⟨g2, 0, none⟩) b) := O2.out.keep b3
  have B3 : Hid (Below w.heap.size w w3) := B2.out.trans (b3.mono B2.out.size)
  have t0 := bcellK b3 s0
  have t1 := bcellK b3 s1
  have t2 := bcellK b3 s2
  clear o2 b2 r0 r1 r2 o3 b3
  go_wp2_with (first | (at_builtin; refine wpList_runi rfl rfl _ _ rfl _ _ _ _ rfl rfl hrun ?_) | fail)
  clear hrun s0 s1 s2
  refine (oapply_any (some ⟨g2, 0, none⟩) a3 c2 c3 b l x y z _ O3.out C2.out I3.out HM.out hbl).mono ?_
  rw [HER.out, HR.out]
  rintro e w4 ⟨a4, c4, rfl, n4, l4, m4, k4, b4⟩
  have N4 : Hid (NewB w4 w3.heap.size a4 R) := n4
  have B4 : Hid (Below w.heap.size w w4) := B3.out.trans (b4.mono B3.out.size)
  have u0 := bcellK b4 t0
  have u1 := bcellK b4 t1
  have u2 := bcellK b4 t2
  have K4 : Hid (Below w3.heap.size w3 w4) := b4
  clear n4 l4 m4 k4 b4 t0 t1 t2
  go_wp2_with fail
  refine (roapply_any a al c cl b l x y z _ (HB.out.keep B4.out) hc (HI.out.keep B4.out) HM.out hbl).mono ?_
  rw [HER.out, HR.out]
  rintro e w5 ⟨a5, c5, rfl, n5, b5⟩
  have N5 : Hid (IsB w5 a5 R) := n5
  have M5 : Hid (NewB w5 w3.heap.size a4 R) := by
    obtain ⟨h0, h1 | ⟨g, e1, e2, e3⟩⟩ := N4.out
    · exact ⟨h0, .inl h1⟩
    · exact ⟨h0, .inr ⟨g, e1, e2, e3.keep b5⟩⟩
  have B5 : Hid (Below w.heap.size w w5) := B4.out.trans (b5.mono B4.out.size)
  have K5 : Hid (Below w3.heap.size w3 w5) := K4.out.trans (b5.mono K4.out.size)
  clear n5 b5 u0 u1 u2
  go_wp2_with fail
  refine (same_true a4 a5 _ _ c4 c5 R _ M5.out.isB N5.out rfl rfl).mono ?_
  rintro e w5' ⟨rfl, rfl⟩
  have FIN : Hid (∀ wz, Below w3.heap.size w5 wz → Below w.heap.size w wz ∧ IsB wz (some ⟨g2, 0, none⟩) b ∧ IsI wz a3 l ∧ IsB wz a b ∧ IsI wz al l) := fun wz hz => by
    have k := K5.out.trans hz
    have k0 : Below w.heap.size w wz := B3.out.trans (k.mono B3.out.size)
    exact ⟨k0, O3.out.keep k, I3.out.keep k, HB.out.keep k0, HI.out.keep k0⟩
  have hM5 := M5.out
  clear M5 N5 N4 HER HR
  obtain ⟨hall, h1 | ⟨g, rfl, hg, hrow⟩⟩ := hM5
  · subst h1
    obtain ⟨F1, F2, F3, F4, F5⟩ := FIN.out w5 (Below.refl _ _)
    have E1 : Hid _ := F1
    have E2 : Hid (IsB w5 (some ⟨g2, 0, none⟩) b) := F2
    have E3 : Hid (IsI w5 a3 l) := F3
    have E4 : Hid (IsB w5 a b) := F4
    have E5 : Hid (IsI w5 al l) := F5
    clear F1 F2 F3 F4 F5 hall
    go_wp2
    refine wp_loop_rounds 1 ?_
    rw [rounds_succ]
    go_wp2_with (first
      | (go_at_call 15; refine (ints_self a3 al _ _ c3 cl l _ E3.out E5.out rfl rfl HM.out).mono ?_; rintro e w7 ⟨rfl, b7⟩)
      | (go_at_call 12; refine (same_true (some ⟨g2, 0, none⟩) a _ _ c2 c b _ E2.out E4.out rfl rfl).mono ?_; rintro e w6' ⟨rfl, rfl⟩))
    go_ret
    exact ⟨rfl, E1.out.trans (b7.mono E1.out.size)⟩
  · have HROW : Hid (RowB w5 g R) := hrow
    clear hall hrow
    go_wp2
    go_loopw [59] (fun iv wr => ∃ (k : Nat) (cur : List Int), k ≤ R.length ∧ iv = .int .i64 k ∧ RowB wr g cur ∧ cur.length = R.length ∧ Below w3.heap.size w5 wr) (fun iv _ => R.length - (intOf iv).toNat)
    case atStart => exact ⟨0, R, Nat.zero_le _, rfl, HROW.out, rfl, Below.refl _ _⟩
    case round =>
      obtain ⟨k, cur, hk, rfl, hrw, hcl, hbw⟩ := hrel
      have HRW : Hid (RowB wr g cur) := hrw
      have HCL : Hid (cur.length = R.length) := hcl
      have HBW : Hid (Below w3.heap.size w5 wr) := hbw
      by_cases hlt : k < R.length
      · have cb := hrw.cell k (by omega)
        have zb := hrw.thawed k
        obtain ⟨V, hV⟩ : ∃ V, cur.getD k 0 = V := ⟨_, rfl⟩
        rw [hV] at cb
        have NX : Hid (∀ v, RowB (wr.setCell ⟨g, k, none⟩ (.int .u8 v)) g (cur.set k v)) := fun v => hrw.set k v
        have NB : Hid (∀ v, Below w3.heap.size w5 (wr.setCell ⟨g, k, none⟩ (.int .u8 v))) := fun v => hbw.trans ((Only.set g k (.int .u8 v) wr).below hg)
        clear hrw hcl hbw hV
        go_wp2
        go_roundw
        case rel => exact ⟨k + 1, _, by omega, by go_num, NX.out _, by rw [List.length_set]; exact HCL.out, NB.out _⟩
        case measure => simp [intOf]; omega
      · obtain ⟨F1, F2, F3, F4, F5⟩ := FIN.out wr hbw
        have E1 : Hid _ := F1
        have E2 : Hid (IsB wr (some ⟨g2, 0, none⟩) b) := F2
        have E3 : Hid (IsI wr a3 l) := F3
        have E4 : Hid (IsB wr a b) := F4
        have E5 : Hid (IsI wr al l) := F5
        clear F1 F2 F3 F4 F5 hrw hcl hbw
        go_wp2_with (first
          | (go_at_call 15; refine (ints_self a3 al _ _ c3 cl l _ E3.out E5.out rfl rfl HM.out).mono ?_; rintro e w7 ⟨rfl, b7⟩)
          | (go_at_call 12; refine (same_true (some ⟨g2, 0, none⟩) a _ _ c2 c b _ E2.out E4.out rfl rfl).mono ?_; rintro e w6' ⟨rfl, rfl⟩))
        go_ret
        exact ⟨rfl, E1.out.trans (b7.mono E1.out.size)⟩
end Go.Proofs.Ythlnljabbnhfkaa
