/- What cuts and raws of the law answer. -/
import Derived.Test.YtjmbmicollkmkaaFrR
namespace Go.Proofs.Ytjmbmicollkmkaa
open Go.RowKit
set_option linter.unusedVariables false

theorem cuts_any (a : Option Addr) (cap n N : Nat) (b : List Int) (w : World) (hn : n = b.length) (hB : IsB w a b) (hc : b.length ≤ cap) (hm : cap ≤ maxLen) (hbig : b.length ≤ 1000000) (hE : Ends N b 0) :
    Calls Try.prog 20 #[.slice a n cap, .int .i64 N, .int .i64 0] w fun e w' => e = .returned (.bool true) ∧ Below w.heap.size w w' := by
  subst hn
  have HI : Hid (IsB w a b) := hB
  have HE : Hid (Ends N b 0) := hE
  clear hB hE
  go_enter Try.func20, Try.ntmps20
  go_wp2_with fail
  refine (cut_any a cap _ b w rfl HI.out hc hm hbig).mono ?_
  rintro e w1 ⟨M, r, a1, c1, fs, rfl, hE1, h0, _, _, _, b1⟩
  obtain ⟨e1, e2⟩ := hE1.unique HE.out
  have hl := (h0 e2).trans e1
  rw [hl, e2]
  clear hE1 h0 hl e1 e2
  go_wp2
  go_ret
  exact ⟨rfl, b1⟩

theorem rsplit_of (a : Option Addr) (cap n : Nat) (l X Z : List Int) (k r : Int) (w : World) (hn : n = l.length) (h : IsB w a l) (hc : l.length ≤ cap) (hm : cap ≤ maxLen) (hbig : l.length ≤ 140737488355328) (hk : kindW l false = k) (hX : bodyW l false = X) (hZ : restW l = Z) (hr : wrongL l false = r) :
    Calls Try.prog 17 #[.slice a n cap] w fun e w' => ∃ a' cap' a'' cap'', e = .returned (.tuple #[.int .i64 k, .slice a' X.length cap', .slice a'' Z.length cap'', .int .i64 r]) ∧ OwnsB w' w.heap.size a' X cap' ∧ OwnsB w' w.heap.size a'' Z cap'' ∧ Below w.heap.size w w' := by
  subst hk hX hZ hr
  exact rsplit_any a cap n l w hn h hc hm hbig

set_option maxHeartbeats 4000000 in
theorem raws_any (a : Option Addr) (cap n : Nat) (b : List Int) (w : World) (hn : n = b.length) (hB : IsB w a b) (hc : b.length ≤ cap) (hm : cap ≤ maxLen) (hbig : b.length ≤ 1000000) :
    Calls Try.prog 21 #[.slice a n cap] w fun e w' => e = .returned (.bool true) ∧ Below w.heap.size w w' := by
  subst hn
  have HI : Hid (IsB w a b) := hB
  have HA : Hid (AllB b) := hB.1
  clear hB
  go_enter Try.func21, Try.ntmps21
  go_wp2_with fail
  refine (cut_any a cap _ b w rfl HI.out hc hm hbig).mono ?_
  rintro e w1 ⟨N, r, al, cl, fs, rfl, hE, hf0, hf1, hcu, hF, b1⟩
  have HF : Hid (IsF w1 al fs) := hF
  have HCU : Hid (Cuts b fs) := hcu
  have B1 : Hid (Below w.heap.size w w1) := b1
  have HE : Hid (Ends N b r) := hE
  have z1 := b1.size
  have hN := good_len N b hE.1
  have hfl : fs.length ≤ N := by
    by_cases h : r = 0
    · exact Nat.le_of_eq (hf0 h)
    · rw [hf1 h]; exact Nat.zero_le _
  have HF0 : Hid (r = 0 → fs.length = N) := hf0
  have HF1 : Hid (r ≠ 0 → fs = []) := hf1
  clear hF hcu b1 hE hf0 hf1
  go_wp2
  go_loopw [0, 5] (fun bv nv wr => ∃ (i : Nat) (a' : Option Addr) (c' : Nat), i ≤ N ∧ bv = .slice a' (restAt i b).length c' ∧ nv = .int .i64 i ∧ IsB wr a' (restAt i b) ∧ (restAt i b).length ≤ c' ∧ c' ≤ maxLen ∧ Below w1.heap.size w1 wr) (fun _ nv _ => N - (intOf nv).toNat)
  case atStart => exact ⟨0, a, cap, Nat.zero_le _, rfl, rfl, HI.out.keep B1.out, hc, hm, Below.refl _ _⟩
  case round =>
    obtain ⟨i, a2, c2, hi, rfl, rfl, hI, hlc, hcm, hB⟩ := hrel
    have HI2 : Hid (IsB _ a2 (restAt i b)) := hI
    have HB2 : Hid (Below w1.heap.size w1 _) := hB
    have hgi := good_len i b (fun j hj => HE.out.1 j (by omega))
    obtain ⟨R, hR⟩ : ∃ R, restAt i b = R := ⟨_, rfl⟩
    have ER : Hid (restAt i b = R) := hR
    rw [hR] at HI2 hlc hgi ⊢
    have HCM : Hid (c2 ≤ maxLen) := hcm
    unfold maxLen at hcm
    have hF2 := HF.out.keep hB
    have HF2 : Hid (IsF _ al fs) := hF2
    have hzr := hB.size
    clear hI hB
    by_cases hlt : i < N
    · obtain ⟨g1, g2⟩ := HE.out.1 i hlt
      rw [hR] at g1 g2
      have hpos : 0 < R.length := List.length_pos_iff.2 g1
      have K1 : Hid (kindW R false = R.getD 0 0) := by show _ = _; rw [kindW, if_pos g2]
      have X1 : Hid (bodyW R false = bodyL R) := by show _ = _; rw [bodyW, if_pos g2]
      have Z1 : Hid (restW R = R.drop (extL R)) := by show _ = _; rw [restW, if_pos g2]
      have V1 : Hid (wrongL R false = 0) := g2
      have NX : Hid (R.drop (extL R) = restAt (i + 1) b) := by show _ = _; rw [restAt_succ, hR]
      have BX : Hid (AllB (bodyL R)) := bodyL_allB HI2.out.1
      have BZ : Hid (AllB (R.drop (extL R))) := AllB.drop HI2.out.1 _
      by_cases hr0 : r = 0
      · have hfN := HF0.out hr0
        have hif : i < fs.length := by omega
        obtain hn0 | ⟨bf, off, rfl, hbf, hcf⟩ := hF2.at'
        · rw [hn0] at hif; simp at hif
        obtain ⟨q0, q1⟩ := hcf i hif
        have hbo := hF2.body fs[i] (List.getElem_mem hif)
        obtain ⟨u1, u2⟩ := HCU.out i hif
        rw [hR] at u1 u2
        rw [u1] at q0
        rw [u2] at q1
        rw [u2] at hbo
        generalize fs[i].a = fa at *
        generalize fs[i].c = fc at *
        obtain ⟨y, hy⟩ : ∃ y, R.getD 0 0 = y := ⟨_, rfl⟩
        obtain ⟨X, hX⟩ : ∃ X, bodyL R = X := ⟨_, rfl⟩
        obtain ⟨Z, hZ⟩ : ∃ Z, R.drop (extL R) = Z := ⟨_, rfl⟩
        rw [hy] at q0 K1
        rw [hX] at q1 hbo X1 BX
        rw [hZ] at Z1 NX BZ
        have HBO : Hid (IsB _ fa X) := hbo.1
        have t1 : (i : Int) < (fs.length : Int) := by omega
        clear hF2 hcf hbo u1 u2 g1 g2 hy hX hZ hR hfN
        subst hr0
        go_wp2_with fail
        refine (rsplit_of a2 c2 _ R X Z y 0 _ rfl HI2.out hlc HCM.out (by omega) K1.out X1.out Z1.out V1.out).mono ?_
        rintro e w3 ⟨a3, c3, a4, c4, rfl, o3, o4, b3⟩
        have B3 : Hid (Below w1.heap.size w1 w3) := HB2.out.trans (b3.mono hzr)
        have q0' := (b3.cell (p := ⟨bf, off + i * 2, none⟩) hbf).trans q0
        have q1' := (b3.cell (p := ⟨bf, off + i * 2 + 1, none⟩) hbf).trans q1
        have H3 : Hid (IsB w3 fa X) := HBO.out.keep b3
        have O3 : Hid (IsB w3 a3 X) := ownsB_isB BX.out o3
        obtain ⟨l4, m4, _⟩ := ownsB_isL o4
        have O4 : Hid (IsB w3 a4 Z) := ownsB_isB BZ.out o4
        clear o3 o4 b3 q0 q1
        go_wp2_with fail
        refine (same_true fa a3 _ _ fc c3 X w3 H3.out O3.out rfl rfl).mono ?_
        rintro e w4 ⟨rfl, rfl⟩
        go_wp2
        go_roundw
        case rel => exact ⟨i + 1, a4, c4, by omega, by rw [NX.out], by go_num, by rw [← NX.out]; exact O4.out, by rw [← NX.out]; exact l4, m4, B3.out⟩
        case measure => simp [intOf]; omega
      · obtain ⟨y, hy⟩ : ∃ y, R.getD 0 0 = y := ⟨_, rfl⟩
        obtain ⟨X, hX⟩ : ∃ X, bodyL R = X := ⟨_, rfl⟩
        obtain ⟨Z, hZ⟩ : ∃ Z, R.drop (extL R) = Z := ⟨_, rfl⟩
        rw [hy] at K1
        rw [hX] at X1 BX
        rw [hZ] at Z1 NX BZ
        have d0 : (r == 0) = false := by simpa using hr0
        clear hF2 g1 g2 hy hX hZ hR
        go_wp2_with fail
        refine (rsplit_of a2 c2 _ R X Z y 0 _ rfl HI2.out hlc HCM.out (by omega) K1.out X1.out Z1.out V1.out).mono ?_
        rintro e w3 ⟨a3, c3, a4, c4, rfl, o3, o4, b3⟩
        have B3 : Hid (Below w1.heap.size w1 w3) := HB2.out.trans (b3.mono hzr)
        obtain ⟨l4, m4, _⟩ := ownsB_isL o4
        have O4 : Hid (IsB w3 a4 Z) := ownsB_isB BZ.out o4
        clear o3 o4 b3
        go_wp2
        go_roundw
        case rel => exact ⟨i + 1, a4, c4, by omega, by rw [NX.out], by go_num, by rw [← NX.out]; exact O4.out, by rw [← NX.out]; exact l4, m4, B3.out⟩
        case measure => simp [intOf]; omega
    · obtain rfl : i = N := by omega
      rcases HE.out.2 with ⟨e1, e2⟩ | ⟨e1, e2, e3⟩
      · rw [hR] at e1
        have hfN := HF0.out e2
        subst e1 e2
        clear hF2 hR
        rw [hfN]
        go_wp2
        go_ret
        exact ⟨rfl, B1.out.trans (HB2.out.mono z1)⟩
      · rw [hR] at e1 e2
        have hpos : 0 < R.length := List.length_pos_iff.2 e1
        obtain rfl := HF1.out e3
        have V1 : Hid (wrongL R false = r) := e2
        have K1 : Hid (kindW R false = 0) := kind_bad (by rw [e2]; exact e3)
        have X1 : Hid (bodyW R false = []) := body_bad (by rw [e2]; exact e3)
        have Z1 : Hid (restW R = []) := rest_bad (by rw [e2]; exact e3)
        have d0 : (r != 0) = true := by simpa using e3
        clear hF2 hR e2 e1
        go_wp2_with fail
        refine (rsplit_of a2 c2 _ R [] [] 0 r _ rfl HI2.out hlc HCM.out (by omega) K1.out X1.out Z1.out V1.out).mono ?_
        rintro e w3 ⟨a3, c3, a4, c4, rfl, o3, o4, b3⟩
        have B3 : Hid (Below w1.heap.size w1 w3) := HB2.out.trans (b3.mono hzr)
        clear o3 o4 b3
        go_wp2
        go_ret
        exact ⟨rfl, B1.out.trans (B3.out.mono z1)⟩
end Go.Proofs.Ytjmbmicollkmkaa
