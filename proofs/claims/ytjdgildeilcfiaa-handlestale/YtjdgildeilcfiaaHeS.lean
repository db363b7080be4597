/- What the law HandleStale goes through. -/
import Derived.Test.YtjdgildeilcfiaaHeA
namespace Go.Proofs.Ytjdgildeilcfiaa
open Go.RowKit
set_option linter.unusedVariables false

set_option maxRecDepth 20000 in
set_option maxHeartbeats 4000000 in
theorem handleStale_any (most : Nat) (a1 : Option Addr) (cap1 : Nat) (l1 : List Cl) (a2 : Option Addr) (cap2 : Nat) (l2 : List Cl) (w : World) (hm : most < 256) (h1 : IsC w a1 l1) (h2 : IsC w a2 l2) (hl1 : l1.length ≤ maxLen) (hl2 : l2.length ≤ maxLen) :
    Calls Try.prog 6 #[.int .u8 (most : Nat), .slice a1 l1.length cap1, .slice a2 l2.length cap2] w fun e w' => e = .returned (.bool true) ∧ Below w.heap.size w w' := by
  have H2 : Hid (IsC w a2 l2) := h2
  unfold maxLen at hl1 hl2
  obtain ⟨n, hn⟩ : ∃ n, 1 + most % 20 = n := ⟨_, rfl⟩
  have hnI : 1 + (most : Int) % 20 = (n : Nat) := by omega
  have hn1 : 1 ≤ n := by omega
  have hn2 : n ≤ 20 := by omega
  clear h1 h2 hn
  go_enter Try.func6, Try.ntmps6
  go_wp2_with fail
  refine (alive_any _).mono ?_
  rintro e w1 ⟨rfl, b1⟩
  have B1 : Hid (Below w.heap.size w w1) := b1
  clear b1
  go_wp2_with fail
  refine (new_ok n _ hn1 (by omega)).mono ?_
  rintro e w2 ⟨b, a, c, rfl, k2, b2⟩
  have O2 : Hid (On w w2 b a c n []) := ⟨⟨k2.box, k2.row.mono B1.out.size, k2.gd, Nat.le_trans B1.out.size k2.bb⟩, B1.out.trans (b2.mono B1.out.size)⟩
  clear k2 b2 hnI
  go_wp2
  go_loopw [9] (fun iv wr => ∃ (i : Nat) (a : Option Addr) (c : Nat) (L : List Rw), i ≤ l1.length ∧ i ≤ 50 ∧ iv = .int .i64 (i : Nat) ∧ AllV L ∧ (0 < i → L ≠ []) ∧ On w wr b a c n L) (fun iv _ => 50 - (intOf iv).toNat)
  case atStart => exact ⟨0, a, c, [], Nat.zero_le _, Nat.zero_le _, rfl, fun r hr => (by cases hr), fun h => (by omega), O2.out⟩
  case round =>
    clear O2
    obtain ⟨i, a, c, L, hi, hi2, rfl, hV, hne, hO⟩ := hrel
    rename World => wr
    have HO : Hid (On w wr b a c n L) := hO
    have HV : Hid (AllV L) := hV
    have HN : Hid (0 < i → L ≠ []) := hne
    clear hO hV hne
    by_cases hgo : i < l1.length ∧ i < 50
    · obtain ⟨hlt, hlt2⟩ := hgo
      have e1 : (i : Int) < (l1.length : Int) := by omega
      have e2 : (i : Int) < 50 := by omega
      go_wp2_with (go_at_call 20; refine (make_on w wr b a c n L (i : Nat) (i : Nat) HO.out).mono ?_; rintro e w3 ⟨N, E, a3, c3, L3, rfl, o3, q3⟩; have O3 : Hid (On w w3 b a3 c3 n L3) := o3; have Q3 : Hid ((n ≤ nxL L ∧ N = 0 ∧ E = 7 ∧ L3 = L) ∨ (nxL L < n ∧ N = ofN ((nxL L : Nat) + 1) (makeG L) ∧ E = 0 ∧ L3 = makeL L (i : Nat) (i : Nat))) := q3; clear o3 q3)
      go_roundw
      case rel =>
        have V3 : AllV L3 ∧ L3 ≠ [] := by
          rcases Q3.out with ⟨hf, _, _, rfl⟩ | ⟨_, _, _, rfl⟩
          · refine ⟨HV.out, ?_⟩
            rintro rfl
            simp [nxL] at hf
            omega
          · exact HV.out.make _ _
        exact ⟨i + 1, a3, c3, L3, by omega, by omega, by go_num, V3.1, fun _ => V3.2, O3.out⟩
      case measure => simp [intOf]; omega
    · have EZ : Hid (L = [] → l1.length = 0) := fun e => by
        rcases Nat.eq_zero_or_pos i with z | z
        · omega
        · exact absurd e (HN.out z)
      have hgo' : i < l1.length → ¬ ((i : Int) < 50) := fun h => by omega
      obtain ⟨F, hF⟩ : ∃ F, l1.length = F := ⟨_, rfl⟩
      rw [hF] at hi hl1 EZ hgo' hgo ⊢
      by_cases hlt : i < F
      · have e1 : (i : Int) < (F : Int) := by omega
        have e2 := hgo' hlt
        clear hgo hgo'
        go_wp2_with fail
        refine (live_any w.heap.size b a c n L _ HO.out.ct).mono ?_
        rintro e w4 ⟨a4, c4, rfl, o4, b4⟩
        have O4 : Hid (On w w4 b a c n L) := HO.out.keep b4
        have H4 : Hid (Oh w4 wr.heap.size a4 (liveF 0 L) c4) := o4
        have hM20 : (liveF 0 L).length ≤ 4096 := by have q1 := liveF_len L 0; have q2 := HO.out.ct.len; omega
        obtain ⟨M, hM⟩ : ∃ M, (liveF 0 L).length = M := ⟨_, rfl⟩
        have EM : Hid ((liveF 0 L).length = M) := hM
        rw [hM] at hM20 ⊢
        clear o4 b4 hM
        by_cases hz : M = 0
        · subst hz
          have hF0 : F = 0 := EZ.out (HV.out.live EM.out)
          rw [hF0]
          go_wp2
          go_ret
          exact ⟨rfl, O4.out.bel⟩
        · have hzN : ¬ (M = 0) := hz
          have hzI : ¬ ((M : Int) = 0) := by omega
          obtain ⟨k, hk⟩ : ∃ k, F % M = k := ⟨_, rfl⟩
          have hkM : k < M := by rw [← hk]; exact Nat.mod_lt _ (by omega)
          have hkI : (F : Int).tmod (M : Int) = (k : Nat) := by rw [Int.tmod_eq_emod_of_nonneg (by omega), ← hk]; simp
          have hkI' : (F : Int) % (M : Int) = (k : Nat) := by rw [← hk]; simp
          obtain ⟨g4, rfl, hg1, hg2, kc⟩ := H4.out.cells k (by rw [EM.out]; exact hkM)
          obtain ⟨i0, hi0, hgl⟩ := O4.out.ct.nth k (by rw [EM.out]; exact hkM)
          obtain ⟨G, hG⟩ : ∃ G, (liveF 0 L)[k]'(by rw [EM.out]; exact hkM) = G := ⟨_, rfl⟩
          rw [hG] at kc hi0 hgl
          have LV : Hid (LvAt L G i0) := hi0
          have h0k : (0 : Int) ≤ (k : Nat) := by omega
          have hkM' : (k : Int) < (M : Int) := by omega
          clear hi0 hG
          go_wp2_with fail
          refine (drop_on w w4 b a c n L G i0 O4.out hgl LV.out).mono ?_
          rintro e w5 ⟨rfl, o5, _⟩
          have O5 : Hid (On w w5 b a c n (dropL L i0)) := o5
          have G5 : Hid (Gone (dropL L i0) G) := gone_of LV.out
          clear o5 kc H4 EM
          go_wp2
          go_loopw [12] (fun jv wq => ∃ (j : Nat) (a : Option Addr) (c : Nat) (L : List Rw), j ≤ l2.length ∧ j ≤ 100 ∧ jv = .int .i64 (j : Nat) ∧ Gone L G ∧ On w wq b a c n L) (fun jv _ => 100 - (intOf jv).toNat)
          case atStart => exact ⟨0, a, c, _, Nat.zero_le _, Nat.zero_le _, rfl, G5.out, O5.out⟩
          case round =>
            clear O5 G5 O4 LV HO HV HN EZ
            obtain ⟨j, a, c, L, hj, hj2, rfl, hG, hO⟩ := hrel
            rename World => wq
            have HO : Hid (On w wq b a c n L) := hO
            have HG : Hid (Gone L G) := hG
            clear hO hG
            by_cases hgo2 : j < l2.length ∧ j < 100
            · obtain ⟨hlt3, hlt4⟩ := hgo2
              have e3 : (j : Int) < (l2.length : Int) := by omega
              have e4 : (j : Int) < 100 := by omega
              obtain ⟨sb, so, q, ea2, hq, hsb, hat, hok⟩ := H2.out.call j hlt3
              obtain ⟨s0, s1, s2, s3, s4⟩ := hat.keep hsb HO.out.bel
              have r1 := hok.n
              have SK : Hid (∀ w' : World, Below w.heap.size w w' → ClAt w' sb (so + j * 5) q) := fun w' hb => hat.keep hsb hb
              obtain ⟨qk, qn, qh, q2, qp⟩ := q
              simp only at s0 s1 s2 s3 s4 r1
              subst ea2
              clear hq hat hok
              have FIN : Hid (∀ w' a' c' L', On w w' b a' c' n L' → Gone L' G → True) := fun _ _ _ _ _ _ => trivial
              by_cases hk1 : qk = 1
              · subst hk1
                go_wp2_with fail
                go_region_held3 (fun w' => w'.cell? ⟨sb, so + j * 5 + 3, none⟩ = some (.int .i64 q2) ∧ w'.cell? ⟨sb, so + j * 5 + 4, none⟩ = some (.int .i64 qp)) (first | assumption | exact ⟨by assumption, by assumption⟩ | go_keep)
                  ((go_at_call 20; refine (make_on w _ b a c n L q2 qp HO.out.drew).mono ?_; rintro e w6 ⟨N, E, a6, c6, L6, rfl, o6, q6⟩; have O6 : Hid (On w w6 b a6 c6 n L6) := o6; have Q6 : Hid ((n ≤ nxL L ∧ N = 0 ∧ E = 7 ∧ L6 = L) ∨ (nxL L < n ∧ N = ofN ((nxL L : Nat) + 1) (makeG L) ∧ E = 0 ∧ L6 = makeL L q2 qp)) := q6; have u3 := (SK.out w6 o6.bel).2.2.2.1; have u4 := (SK.out w6 o6.bel).2.2.2.2; simp only at u3 u4; clear o6 q6))
                have D6 : (E = 7 ∨ E = 0 ∧ ¬ (N = G)) ∧ Gone L6 G := by
                  rcases Q6.out with ⟨_, _, he, rfl⟩ | ⟨hf, hN, he, rfl⟩
                  · exact ⟨.inl he, HG.out⟩
                  · have q := HG.out.make HO.out.ct.gd hf q2 qp
                    exact ⟨.inr ⟨he, by rw [hN]; exact q.2⟩, q.1⟩
                have G6 : Hid (Gone L6 G) := D6.2
                rcases D6.1 with rfl | ⟨rfl, hNG⟩
                · clear D6 Q6
                  go_wp2_with (first
                    | (go_at_call 23; refine (get_bad w.heap.size b a6 c6 n L6 G _ O6.out.ct hgl G6.out.no).mono ?_; rintro e w7 ⟨rfl, rfl⟩)
                    | (go_at_call 24; refine (put_bad w.heap.size b a6 c6 n L6 G 1 _ O6.out.ct hgl G6.out.no).mono ?_; rintro e w7 ⟨rfl, rfl⟩)
                    | (go_at_call 22; refine (drop_bad w.heap.size b a6 c6 n L6 G _ O6.out.ct hgl G6.out.no).mono ?_; rintro e w7 ⟨rfl, rfl⟩))
                  go_roundw
                  case rel => exact ⟨j + 1, a6, c6, L6, by omega, by omega, by go_num, G6.out, O6.out⟩
                  case measure => simp [intOf]; omega
                · clear D6 Q6
                  have hNG' : ¬ ((N : Int) = (G : Int)) := by omega
                  go_wp2_with (first
                    | (go_at_call 23; refine (get_bad w.heap.size b a6 c6 n L6 G _ O6.out.ct hgl G6.out.no).mono ?_; rintro e w7 ⟨rfl, rfl⟩)
                    | (go_at_call 24; refine (put_bad w.heap.size b a6 c6 n L6 G 1 _ O6.out.ct hgl G6.out.no).mono ?_; rintro e w7 ⟨rfl, rfl⟩)
                    | (go_at_call 22; refine (drop_bad w.heap.size b a6 c6 n L6 G _ O6.out.ct hgl G6.out.no).mono ?_; rintro e w7 ⟨rfl, rfl⟩))
                  go_roundw
                  case rel => exact ⟨j + 1, a6, c6, L6, by omega, by omega, by go_num, G6.out, O6.out⟩
                  case measure => simp [intOf]; omega
              · go_wp2_with fail
                refine (live_any w.heap.size b a c n L _ HO.out.ct).mono ?_
                rintro e w6 ⟨a6, c6, rfl, o6, b6⟩
                have O6 : Hid (On w w6 b a c n L) := HO.out.keep b6
                have H6 : Hid (Oh w6 wq.heap.size a6 (liveF 0 L) c6) := o6
                have hM6 : (liveF 0 L).length ≤ 4096 := by have q1 := liveF_len L 0; have q2 := HO.out.ct.len; omega
                obtain ⟨M6, hM⟩ : ∃ M, (liveF 0 L).length = M := ⟨_, rfl⟩
                have EM6 : Hid ((liveF 0 L).length = M6) := hM
                have u1 := (SK.out w6 O6.out.bel).2.1
                simp only at u1
                rw [hM] at hM6 ⊢
                clear o6 b6 hM
                by_cases hz6 : M6 = 0
                · subst hz6
                  have G6 : Hid (Gone L G) := HG.out
                  go_wp2_with (first
                    | (go_at_call 23; refine (get_bad w.heap.size b a c n L G _ O6.out.ct hgl G6.out.no).mono ?_; rintro e w7 ⟨rfl, rfl⟩)
                    | (go_at_call 24; refine (put_bad w.heap.size b a c n L G 1 _ O6.out.ct hgl G6.out.no).mono ?_; rintro e w7 ⟨rfl, rfl⟩)
                    | (go_at_call 22; refine (drop_bad w.heap.size b a c n L G _ O6.out.ct hgl G6.out.no).mono ?_; rintro e w7 ⟨rfl, rfl⟩))
                  go_roundw
                  case rel => exact ⟨j + 1, a, c, L, by omega, by omega, by go_num, G6.out, O6.out⟩
                  case measure => simp [intOf]; omega
                · have hz6' : ¬ (M6 = 0) := hz6
                  have hz6I : (M6 : Int) > 0 := by omega
                  obtain ⟨V, hV, hVM⟩ := rem_small qn M6 (by omega) (by omega)
                  obtain ⟨g6, rfl, hg1', hg2', kc⟩ := H6.out.cells V (by rw [EM6.out]; exact hVM)
                  obtain ⟨i6, hi6, hgl6⟩ := O6.out.ct.nth V (by rw [EM6.out]; exact hVM)
                  obtain ⟨X, hX⟩ : ∃ X, (liveF 0 L)[V]'(by rw [EM6.out]; exact hVM) = X := ⟨_, rfl⟩
                  rw [hX] at kc hi6 hgl6
                  have LV6 : Hid (LvAt L X i6) := hi6
                  have h0V : (0 : Int) ≤ (V : Nat) := by omega
                  have hVM' : (V : Int) < (M6 : Int) := by omega
                  clear hi6 hX
                  go_wp2_with fail
                  refine (drop_on w _ b a c n L X i6 O6.out hgl6 LV6.out).mono ?_
                  rintro e w8 ⟨rfl, o8, _⟩
                  have O8 : Hid (On w w8 b a c n (dropL L i6)) := o8
                  have G8 : Hid (Gone (dropL L i6) G) := HG.out.drop LV6.out.lt
                  clear o8
                  go_wp2_with (first
                    | (go_at_call 23; refine (get_bad w.heap.size b a c n _ G _ O8.out.ct hgl G8.out.no).mono ?_; rintro e w7 ⟨rfl, rfl⟩)
                    | (go_at_call 24; refine (put_bad w.heap.size b a c n _ G 1 _ O8.out.ct hgl G8.out.no).mono ?_; rintro e w7 ⟨rfl, rfl⟩)
                    | (go_at_call 22; refine (drop_bad w.heap.size b a c n _ G _ O8.out.ct hgl G8.out.no).mono ?_; rintro e w7 ⟨rfl, rfl⟩))
                  go_roundw
                  case rel => exact ⟨j + 1, a, c, _, by omega, by omega, by go_num, G8.out, O8.out⟩
                  case measure => simp [intOf]; omega
            · have hgo3 : (j = l2.length) ∨ (j < l2.length ∧ j = 100) := by omega
              rcases hgo3 with rfl | ⟨hlt3, rfl⟩
              · go_wp2
                go_ret
                exact ⟨rfl, HO.out.bel⟩
              · have e3 : ((100 : Nat) : Int) < (l2.length : Int) := by omega
                go_wp2
                go_ret
                exact ⟨rfl, HO.out.bel⟩
      · obtain rfl : i = F := by omega
        clear hgo hgo'
        go_wp2_with fail
        refine (live_any w.heap.size b a c n L _ HO.out.ct).mono ?_
        rintro e w4 ⟨a4, c4, rfl, o4, b4⟩
        have O4 : Hid (On w w4 b a c n L) := HO.out.keep b4
        have H4 : Hid (Oh w4 wr.heap.size a4 (liveF 0 L) c4) := o4
        have hM20 : (liveF 0 L).length ≤ 4096 := by have q1 := liveF_len L 0; have q2 := HO.out.ct.len; omega
        obtain ⟨M, hM⟩ : ∃ M, (liveF 0 L).length = M := ⟨_, rfl⟩
        have EM : Hid ((liveF 0 L).length = M) := hM
        rw [hM] at hM20 ⊢
        clear o4 b4 hM
        by_cases hz : M = 0
        · subst hz
          have hF0 : i = 0 := EZ.out (HV.out.live EM.out)
          subst hF0
          go_wp2
          go_ret
          exact ⟨rfl, O4.out.bel⟩
        · have hzN : ¬ (M = 0) := hz
          have hzI : ¬ ((M : Int) = 0) := by omega
          obtain ⟨k, hk⟩ : ∃ k, i % M = k := ⟨_, rfl⟩
          have hkM : k < M := by rw [← hk]; exact Nat.mod_lt _ (by omega)
          have hkI : (i : Int).tmod (M : Int) = (k : Nat) := by rw [Int.tmod_eq_emod_of_nonneg (by omega), ← hk]; simp
          have hkI' : (i : Int) % (M : Int) = (k : Nat) := by rw [← hk]; simp
          obtain ⟨g4, rfl, hg1, hg2, kc⟩ := H4.out.cells k (by rw [EM.out]; exact hkM)
          obtain ⟨i0, hi0, hgl⟩ := O4.out.ct.nth k (by rw [EM.out]; exact hkM)
          obtain ⟨G, hG⟩ : ∃ G, (liveF 0 L)[k]'(by rw [EM.out]; exact hkM) = G := ⟨_, rfl⟩
          rw [hG] at kc hi0 hgl
          have LV : Hid (LvAt L G i0) := hi0
          have h0k : (0 : Int) ≤ (k : Nat) := by omega
          have hkM' : (k : Int) < (M : Int) := by omega
          clear hi0 hG
          go_wp2_with fail
          refine (drop_on w w4 b a c n L G i0 O4.out hgl LV.out).mono ?_
          rintro e w5 ⟨rfl, o5, _⟩
          have O5 : Hid (On w w5 b a c n (dropL L i0)) := o5
          have G5 : Hid (Gone (dropL L i0) G) := gone_of LV.out
          clear o5 kc H4 EM
          go_wp2
          go_loopw [12] (fun jv wq => ∃ (j : Nat) (a : Option Addr) (c : Nat) (L : List Rw), j ≤ l2.length ∧ j ≤ 100 ∧ jv = .int .i64 (j : Nat) ∧ Gone L G ∧ On w wq b a c n L) (fun jv _ => 100 - (intOf jv).toNat)
          case atStart => exact ⟨0, a, c, _, Nat.zero_le _, Nat.zero_le _, rfl, G5.out, O5.out⟩
          case round =>
            clear O5 G5 O4 LV HO HV HN EZ
            obtain ⟨j, a, c, L, hj, hj2, rfl, hG, hO⟩ := hrel
            rename World => wq
            have HO : Hid (On w wq b a c n L) := hO
            have HG : Hid (Gone L G) := hG
            clear hO hG
            by_cases hgo2 : j < l2.length ∧ j < 100
            · obtain ⟨hlt3, hlt4⟩ := hgo2
              have e3 : (j : Int) < (l2.length : Int) := by omega
              have e4 : (j : Int) < 100 := by omega
              obtain ⟨sb, so, q, ea2, hq, hsb, hat, hok⟩ := H2.out.call j hlt3
              obtain ⟨s0, s1, s2, s3, s4⟩ := hat.keep hsb HO.out.bel
              have r1 := hok.n
              have SK : Hid (∀ w' : World, Below w.heap.size w w' → ClAt w' sb (so + j * 5) q) := fun w' hb => hat.keep hsb hb
              obtain ⟨qk, qn, qh, q2, qp⟩ := q
              simp only at s0 s1 s2 s3 s4 r1
              subst ea2
              clear hq hat hok
              have FIN : Hid (∀ w' a' c' L', On w w' b a' c' n L' → Gone L' G → True) := fun _ _ _ _ _ _ => trivial
              by_cases hk1 : qk = 1
              · subst hk1
                go_wp2_with fail
                go_region_held3 (fun w' => w'.cell? ⟨sb, so + j * 5 + 3, none⟩ = some (.int .i64 q2) ∧ w'.cell? ⟨sb, so + j * 5 + 4, none⟩ = some (.int .i64 qp)) (first | assumption | exact ⟨by assumption, by assumption⟩ | go_keep)
                  ((go_at_call 20; refine (make_on w _ b a c n L q2 qp HO.out.drew).mono ?_; rintro e w6 ⟨N, E, a6, c6, L6, rfl, o6, q6⟩; have O6 : Hid (On w w6 b a6 c6 n L6) := o6; have Q6 : Hid ((n ≤ nxL L ∧ N = 0 ∧ E = 7 ∧ L6 = L) ∨ (nxL L < n ∧ N = ofN ((nxL L : Nat) + 1) (makeG L) ∧ E = 0 ∧ L6 = makeL L q2 qp)) := q6; have u3 := (SK.out w6 o6.bel).2.2.2.1; have u4 := (SK.out w6 o6.bel).2.2.2.2; simp only at u3 u4; clear o6 q6))
                have D6 : (E = 7 ∨ E = 0 ∧ ¬ (N = G)) ∧ Gone L6 G := by
                  rcases Q6.out with ⟨_, _, he, rfl⟩ | ⟨hf, hN, he, rfl⟩
                  · exact ⟨.inl he, HG.out⟩
                  · have q := HG.out.make HO.out.ct.gd hf q2 qp
                    exact ⟨.inr ⟨he, by rw [hN]; exact q.2⟩, q.1⟩
                have G6 : Hid (Gone L6 G) := D6.2
                rcases D6.1 with rfl | ⟨rfl, hNG⟩
                · clear D6 Q6
                  go_wp2_with (first
                    | (go_at_call 23; refine (get_bad w.heap.size b a6 c6 n L6 G _ O6.out.ct hgl G6.out.no).mono ?_; rintro e w7 ⟨rfl, rfl⟩)
                    | (go_at_call 24; refine (put_bad w.heap.size b a6 c6 n L6 G 1 _ O6.out.ct hgl G6.out.no).mono ?_; rintro e w7 ⟨rfl, rfl⟩)
                    | (go_at_call 22; refine (drop_bad w.heap.size b a6 c6 n L6 G _ O6.out.ct hgl G6.out.no).mono ?_; rintro e w7 ⟨rfl, rfl⟩))
                  go_roundw
                  case rel => exact ⟨j + 1, a6, c6, L6, by omega, by omega, by go_num, G6.out, O6.out⟩
                  case measure => simp [intOf]; omega
                · clear D6 Q6
                  have hNG' : ¬ ((N : Int) = (G : Int)) := by omega
                  go_wp2_with (first
                    | (go_at_call 23; refine (get_bad w.heap.size b a6 c6 n L6 G _ O6.out.ct hgl G6.out.no).mono ?_; rintro e w7 ⟨rfl, rfl⟩)
                    | (go_at_call 24; refine (put_bad w.heap.size b a6 c6 n L6 G 1 _ O6.out.ct hgl G6.out.no).mono ?_; rintro e w7 ⟨rfl, rfl⟩)
                    | (go_at_call 22; refine (drop_bad w.heap.size b a6 c6 n L6 G _ O6.out.ct hgl G6.out.no).mono ?_; rintro e w7 ⟨rfl, rfl⟩))
                  go_roundw
                  case rel => exact ⟨j + 1, a6, c6, L6, by omega, by omega, by go_num, G6.out, O6.out⟩
                  case measure => simp [intOf]; omega
              · go_wp2_with fail
                refine (live_any w.heap.size b a c n L _ HO.out.ct).mono ?_
                rintro e w6 ⟨a6, c6, rfl, o6, b6⟩
                have O6 : Hid (On w w6 b a c n L) := HO.out.keep b6
                have H6 : Hid (Oh w6 wq.heap.size a6 (liveF 0 L) c6) := o6
                have hM6 : (liveF 0 L).length ≤ 4096 := by have q1 := liveF_len L 0; have q2 := HO.out.ct.len; omega
                obtain ⟨M6, hM⟩ : ∃ M, (liveF 0 L).length = M := ⟨_, rfl⟩
                have EM6 : Hid ((liveF 0 L).length = M6) := hM
                have u1 := (SK.out w6 O6.out.bel).2.1
                simp only at u1
                rw [hM] at hM6 ⊢
                clear o6 b6 hM
                by_cases hz6 : M6 = 0
                · subst hz6
                  have G6 : Hid (Gone L G) := HG.out
                  go_wp2_with (first
                    | (go_at_call 23; refine (get_bad w.heap.size b a c n L G _ O6.out.ct hgl G6.out.no).mono ?_; rintro e w7 ⟨rfl, rfl⟩)
                    | (go_at_call 24; refine (put_bad w.heap.size b a c n L G 1 _ O6.out.ct hgl G6.out.no).mono ?_; rintro e w7 ⟨rfl, rfl⟩)
                    | (go_at_call 22; refine (drop_bad w.heap.size b a c n L G _ O6.out.ct hgl G6.out.no).mono ?_; rintro e w7 ⟨rfl, rfl⟩))
                  go_roundw
                  case rel => exact ⟨j + 1, a, c, L, by omega, by omega, by go_num, G6.out, O6.out⟩
                  case measure => simp [intOf]; omega
                · have hz6' : ¬ (M6 = 0) := hz6
                  have hz6I : (M6 : Int) > 0 := by omega
                  obtain ⟨V, hV, hVM⟩ := rem_small qn M6 (by omega) (by omega)
                  obtain ⟨g6, rfl, hg1', hg2', kc⟩ := H6.out.cells V (by rw [EM6.out]; exact hVM)
                  obtain ⟨i6, hi6, hgl6⟩ := O6.out.ct.nth V (by rw [EM6.out]; exact hVM)
                  obtain ⟨X, hX⟩ : ∃ X, (liveF 0 L)[V]'(by rw [EM6.out]; exact hVM) = X := ⟨_, rfl⟩
                  rw [hX] at kc hi6 hgl6
                  have LV6 : Hid (LvAt L X i6) := hi6
                  have h0V : (0 : Int) ≤ (V : Nat) := by omega
                  have hVM' : (V : Int) < (M6 : Int) := by omega
                  clear hi6 hX
                  go_wp2_with fail
                  refine (drop_on w _ b a c n L X i6 O6.out hgl6 LV6.out).mono ?_
                  rintro e w8 ⟨rfl, o8, _⟩
                  have O8 : Hid (On w w8 b a c n (dropL L i6)) := o8
                  have G8 : Hid (Gone (dropL L i6) G) := HG.out.drop LV6.out.lt
                  clear o8
                  go_wp2_with (first
                    | (go_at_call 23; refine (get_bad w.heap.size b a c n _ G _ O8.out.ct hgl G8.out.no).mono ?_; rintro e w7 ⟨rfl, rfl⟩)
                    | (go_at_call 24; refine (put_bad w.heap.size b a c n _ G 1 _ O8.out.ct hgl G8.out.no).mono ?_; rintro e w7 ⟨rfl, rfl⟩)
                    | (go_at_call 22; refine (drop_bad w.heap.size b a c n _ G _ O8.out.ct hgl G8.out.no).mono ?_; rintro e w7 ⟨rfl, rfl⟩))
                  go_roundw
                  case rel => exact ⟨j + 1, a, c, _, by omega, by omega, by go_num, G8.out, O8.out⟩
                  case measure => simp [intOf]; omega
            · have hgo3 : (j = l2.length) ∨ (j < l2.length ∧ j = 100) := by omega
              rcases hgo3 with rfl | ⟨hlt3, rfl⟩
              · go_wp2
                go_ret
                exact ⟨rfl, HO.out.bel⟩
              · have e3 : ((100 : Nat) : Int) < (l2.length : Int) := by omega
                go_wp2
                go_ret
                exact ⟨rfl, HO.out.bel⟩
end Go.Proofs.Ytjdgildeilcfiaa
