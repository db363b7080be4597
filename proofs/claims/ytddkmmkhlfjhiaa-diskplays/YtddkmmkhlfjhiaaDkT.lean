/- What the law DiskFlushed goes through. -/
import Derived.Test.YtddkmmkhlfjhiaaDkS
namespace Go.Proofs.Ytddkmmkhlfjhiaa
open Go.ChangeShapes Go.WideShapes Go.ChangeAt Go.RowKit Go.Maps
set_option linter.unusedVariables false

theorem IsB.drewN {w : World} {a : Option Addr} {l : List Int} (h : IsB w a l) (m : Nat) : IsB (w.drewN m) a l := h
theorem same_q (a a' : Option Addr) (n n' cap cap' : Nat) (l : List Int) (w : World) (h : IsB w a l) (h' : IsB w a' l) (hn : n = l.length) (hn' : n' = l.length) :
    Calls Try.prog 16 #[.slice a n cap, .slice a' n' cap'] w fun e w' => e = .returned (.bool true) ∧ w' = w := by
  refine (same_true a a' n n' cap cap' l w h h' hn hn').mono ?_
  rintro e w' ⟨rfl, rfl⟩
  exact ⟨rfl, rfl⟩

/-- Is a sector among those that were written? -/
def againB (s : Nat) (cs : List Cl) : Bool := cs.any (fun x => decide (x.b.length ≤ 64) && decide (at31 x.at = s))
theorem againB_take (s : Nat) (cs : List Cl) (k : Nat) (h : k < cs.length) : againB s (cs.take (k + 1)) = (againB s (cs.take k) || (decide (cs[k].b.length ≤ 64) && decide (at31 cs[k].at = s))) := by
  rw [List.take_succ_eq_append_getElem h, againB, againB, List.any_append]; simp

theorem calm_new : Calm (newD 32) := ⟨rfl, rfl, rfl⟩
theorem calm_flush {d : Dk} (h : Calm d) : Calm (flushD d) ∧ (flushD d).pend = [] ∧ (flushD d).ops = d.ops + 1 ∧ flushE d = 0 := by
  obtain ⟨e1, e2⟩ := flush_calm h.down h.left
  rw [e2]
  exact ⟨⟨h.down, h.left, h.n⟩, rfl, rfl, e1⟩

/-- What was flushed is there. -/
theorem flushed_same {d : Dk} {cs : List Cl} {ks : List Int} {s : Nat} (h : Calm d) (hp : d.pend = []) (ha : againB s cs = false) : (crashD (putsD d cs) ks).sure s = d.sure s := by
  obtain ⟨_, h2, _, h4⟩ := putsD_calm cs h
  show layAll (keepN ks) 0 (putsD d cs).pend (putsD d cs).sure s = d.sure s
  rw [layAll_other, h2]
  intro y hy e
  rcases h4 y hy with hy | ⟨x, hx, hl, hat⟩
  · rw [hp] at hy; cases hy
  · have := List.any_eq_false.1 ha x hx
    simp [hl, ← hat, e] at this

theorem image_part {d : Dk} (h : DkOk d) {s : Nat} (hs : s < d.n) : ((imageL d).drop (64 * s)).take 64 = d.sure s := secsL_part (fun i hi => (h.sec i hi).1) hs

set_option maxRecDepth 100000 in
set_option maxHeartbeats 16000000 in
theorem diskFlushed_any (a1 a2 ka : Option Addr) (c1 c2 kc : Nat) (cs1 cs2 : List Cl) (ks : List Int) (w : World) (hC1 : IsC w a1 cs1) (hC2 : IsC w a2 cs2) (hl1 : cs1.length ≤ maxLen) (hl2 : cs2.length ≤ maxLen) (hK : IsI w ka ks) (hks : ks.length ≤ maxLen) :
    Calls Try.prog 5 #[.slice a1 cs1.length c1, .slice a2 cs2.length c2, .slice ka ks.length kc] w fun r w' => r = .returned (.bool true) ∧ Below w.heap.size w w' := by
  have HC1 : Hid (IsC w a1 cs1) := hC1
  have HC2 : Hid (IsC w a2 cs2) := hC2
  have LW1 : Hid (∀ bb oo, a1 = some ⟨bb, oo, none⟩ → cs1 ≠ [] → bb < w.heap.size) := fun bb oo e hne => by
    rcases hC1.at' with h | ⟨b, off, e', hs, _⟩
    · exact absurd h hne
    · rw [e] at e'; cases e'; exact hs
  have LW2 : Hid (∀ bb oo, a2 = some ⟨bb, oo, none⟩ → cs2 ≠ [] → bb < w.heap.size) := fun bb oo e hne => by
    rcases hC2.at' with h | ⟨b, off, e', hs, _⟩
    · exact absurd h hne
    · rw [e] at e'; cases e'; exact hs
  have HK : Hid (IsI w ka ks) := hK
  have HKL : Hid (ks.length ≤ 9223372036854775807) := hks
  obtain ⟨d1, hd1⟩ : ∃ d1, putsD (newD 32) (cs1.take 100) = d1 := ⟨_, rfl⟩
  have P1 := putsD_calm (cs1.take 100) calm_new
  rw [hd1] at P1
  have F1 := calm_flush P1.1
  obtain ⟨d2, hd2⟩ : ∃ d2, flushD d1 = d2 := ⟨_, rfl⟩
  rw [hd2] at F1
  have P2 := putsD_calm (cs2.take 100) F1.1
  obtain ⟨d3, hd3⟩ : ∃ d3, putsD d2 (cs2.take 100) = d3 := ⟨_, rfl⟩
  have SM : Hid (∀ s, againB s (cs2.take 100) = false → (crashD d3 ks).sure s = d2.sure s) := fun s hs => by rw [← hd3]; exact flushed_same F1.1 F1.2.1 hs
  rw [hd3] at P2
  have D1 : Hid (putsD (newD 32) (cs1.take 100) = d1) := hd1
  have D2 : Hid (flushD d1 = d2) := hd2
  have D3 : Hid (putsD d2 (cs2.take 100) = d3) := hd3
  have O1 : Hid (d1.ops ≤ 100) := by show d1.ops ≤ 100; have := P1.2.2.1; simp [newD] at this; omega
  have O2 : Hid (d2.ops ≤ 101) := by show d2.ops ≤ 101; have := F1.2.2.1; have := O1.out; omega
  have C1 : Hid (Calm d1) := P1.1
  have C2 : Hid (Calm d2) := F1.1
  have C3 : Hid (Calm d3) := P2.1
  have E1 : Hid (flushE d1 = 0) := F1.2.2.2
  have N2 : Hid (d2.n * 64 = 2048) := by show d2.n * 64 = 2048; rw [F1.1.n]
  have N4 : Hid ((crashD d3 ks).n * 64 = 2048) := by show d3.n * 64 = 2048; rw [P2.1.n]
  have hm2 : cs2.length ≤ 9223372036854775807 := hl2
  clear hC1 hC2 hK hks hl1 hl2 P1 P2 F1 hd1 hd2 hd3
  go_enter Try.func5, Try.ntmps5
  go_wp2_with fail
  refine (alive_any _).mono ?_
  rintro e w1 ⟨rfl, b1⟩
  have B1 : Hid (Below w.heap.size w w1) := b1
  have z1 := b1.size
  clear b1
  go_wp2_with fail
  refine (new_fit 32 w1 (by decide) (by decide)).mono ?_
  rintro e w2 ⟨rfl, hw2⟩
  have I2 : Hid (IsD w2 w.heap.size (w1.heap.size + 2) 0 (newD 32)) := by show IsD _ _ _ _ _; rw [← hw2]; exact newW_is w1 _ 32 z1 (by decide)
  have B2 : Hid (Below w.heap.size w w2) := by show Below _ _ _; rw [← hw2]; exact B1.out.trans ((newW_below w1 32).mono z1)
  have z2 := B2.out.size
  obtain ⟨b, hb⟩ : ∃ b, w1.heap.size + 2 = b := ⟨_, rfl⟩
  rw [hb] at I2 ⊢
  clear hw2 B1 hb z1
  go_wp2_with fail
  refine (puts_any w.heap.size b 0 (newD 32) a1 c1 cs1 _ I2.out z2 (by decide) (by decide) calm_new (fun w' hw => HC1.out.keep (B2.out.trans hw)) LW1.out).mono ?_
  rw [D1.out]
  rintro e w3 ⟨rfl, i3, t3'⟩
  have I3 : Hid (IsD w3 w.heap.size b 100 d1) := i3
  have B3 : Hid (Below w.heap.size w w3) := B2.out.trans (t3'.below z2)
  have z3 := B3.out.size
  clear i3 t3' I2 B2 z2
  go_wp2_with fail
  refine (flush_any w.heap.size b 100 d1 _ I3.out z3 (by decide) (by have := O1.out; omega)).mono ?_
  rw [E1.out, D2.out]
  rintro e w4 ⟨rfl, i4, t4'⟩
  have I4 : Hid (IsD w4 w.heap.size b 100 d2) := i4
  have B4 : Hid (Below w.heap.size w w4) := B3.out.trans (t4'.below z3)
  have z4 := B4.out.size
  clear i4 t4' I3 B3 z3
  go_wp2_with fail
  refine (image_any w.heap.size b 100 d2 _ I4.out).mono ?_
  rw [N2.out]
  rintro e w5 ⟨rfl, r5, b5⟩
  obtain ⟨gw, hgw⟩ : ∃ gw, w4.heap.size = gw := ⟨_, rfl⟩
  have OK2 : Hid (DkOk d2) := I4.out.ok
  rw [hgw] at r5 ⊢
  have R5 : Hid (RowB w5 gw 5 (imageL d2)) := r5
  have I5 : Hid (IsD w5 w.heap.size b 100 d2) := I4.out.keep b5
  have B5 : Hid (Below w.heap.size w w5) := B4.out.trans (b5.mono z4)
  have z5 := B5.out.size
  clear r5 b5 I4 B4 z4 hgw
  go_wp2_with fail
  refine (puts_any w.heap.size b 100 d2 a2 c2 cs2 _ I5.out z5 (by decide) (by have := O2.out; omega) C2.out (fun w' hw => HC2.out.keep (B5.out.trans hw)) LW2.out).mono ?_
  rw [D3.out]
  rintro e w6 ⟨rfl, i6, t6⟩
  have I6 : Hid (IsD w6 w.heap.size b 200 d3) := i6
  have B6 : Hid (Below w.heap.size w w6) := B5.out.trans (t6.below z5)
  have R6 : Hid (RowB w6 gw 5 (imageL d2)) := R5.out.turn t6 rfl
  have z6 := B6.out.size
  clear i6 t6 I5 B5 z5 R5
  go_wp2_with fail
  refine (crash_any w.heap.size b 200 d3 ka _ kc ks _ I6.out z6 (by decide) rfl HKL.out (fun w' ht => HK.out.keep (B6.out.trans (ht.below z6)))).mono ?_
  rintro e w7 ⟨rfl, i7, t7⟩
  have I7 : Hid (IsD w7 w.heap.size b 200 (crashD d3 ks)) := i7
  have B7 : Hid (Below w.heap.size w w7) := B6.out.trans (t7.below z6)
  have R7 : Hid (RowB w7 gw 5 (imageL d2)) := R6.out.turn t7 rfl
  have z7 := B7.out.size
  clear i7 t7 I6 B6 z6 R6
  go_wp2_with fail
  refine (image_any w.heap.size b 200 (crashD d3 ks) _ I7.out).mono ?_
  rw [N4.out]
  rintro e w8 ⟨rfl, r8, b8⟩
  obtain ⟨gn, hgn⟩ : ∃ gn, w7.heap.size = gn := ⟨_, rfl⟩
  have OK4 : Hid (DkOk (crashD d3 ks)) := I7.out.ok
  rw [hgn] at r8 ⊢
  have Q8 : Hid (RowB w8 gn 5 (imageL (crashD d3 ks))) := r8
  have R8 : Hid (RowB w8 gw 5 (imageL d2)) := R7.out.keep b8
  have B8 : Hid (Below w.heap.size w w8) := B7.out.trans (b8.mono z7)
  clear r8 b8 I7 B7 z7 R7 hgn
  go_wp2
  go_loopw [11] (fun sv wr => ∃ s q : Nat, s ≤ 32 ∧ sv = .int .i64 (s : Nat) ∧ wr = w8.drewN q) (fun sv _ => 32 - (intOf sv).toNat)
  case atStart => exact ⟨0, 0, by omega, rfl, rfl⟩
  case round =>
    obtain ⟨s, q, hs, rfl, rfl⟩ := hrel
    by_cases h32 : s < 32
    · have ds : decide ((s : Int) < 32) = true := by simp; omega
      go_wp2
      go_loopw [12, 13] (fun av iv wr => ∃ i : Nat, i ≤ cs2.length ∧ i ≤ 100 ∧ iv = .int .i64 (i : Nat) ∧ av = .bool (againB s (cs2.take i)) ∧ wr = w8.drewN q) (fun _ iv _ => 100 - (intOf iv).toNat)
      case atStart => exact ⟨0, by omega, by omega, rfl, rfl, rfl⟩
      case round =>
        obtain ⟨i, hi, hi1, rfl, rfl, rfl⟩ := hrel
        by_cases hlt : i < cs2.length ∧ i < 100
        · obtain ⟨h1, h2⟩ := hlt
          have d1' : decide ((i : Int) < (cs2.length : Int)) = true := by simp; omega
          have d2' : decide ((i : Int) < 100) = true := by simp; omega
          have EA := againB_take s cs2 i h1
          have hC := HC2.out.keep B8.out
          obtain h0 | ⟨cb, off, rfl, hcb, hcell⟩ := hC.at'
          · rw [h0] at h1; simp at h1
          · obtain ⟨x, hx⟩ : ∃ x, cs2[i] = x := ⟨_, rfl⟩
            obtain ⟨_, q1, q2, _⟩ := hcell i h1
            rw [hx] at q1 q2 EA
            have hand := (at31_is x.at).1
            have hX := (hC.body cs2[i] (List.getElem_mem h1)).lenB
            rw [hx] at hX
            unfold maxLen at hX
            clear hC hcell hx
            obtain ⟨A, hA⟩ : ∃ A, againB s (cs2.take i) = A := ⟨_, rfl⟩
            rw [hA] at EA ⊢
            clear hA
            cases A
            · by_cases hb : x.b.length ≤ 64
              · have d3' : decide ((x.b.length : Int) ≤ 64) = true := by simp; omega
                by_cases he : at31 x.at = s
                · have EB : Hid (againB s (cs2.take (i + 1)) = true) := by show _ = _; rw [EA]; simp [hb, he]
                  rw [he] at hand
                  clear EA
                  go_wp2
                  go_roundw
                  case rel => exact ⟨i + 1, by omega, by omega, by go_num, by rw [EB.out], trivial⟩
                  case measure => simp [intOf]; omega
                · have EB : Hid (againB s (cs2.take (i + 1)) = false) := by show _ = _; rw [EA]; simp [he]
                  have ne : ¬ ((at31 x.at : Nat) : Int) = (s : Nat) := by omega
                  have d4' : (((at31 x.at : Nat) : Int) == (s : Nat)) = false := by simp; omega
                  clear EA
                  go_wp2
                  go_roundw
                  case rel => exact ⟨i + 1, by omega, by omega, by go_num, by rw [EB.out], trivial⟩
                  case measure => simp [intOf]; omega
              · have EB : Hid (againB s (cs2.take (i + 1)) = false) := by show _ = _; rw [EA]; simp [hb]
                have d3' : decide ((x.b.length : Int) ≤ 64) = false := by simp; omega
                clear EA
                go_wp2
                go_roundw
                case rel => exact ⟨i + 1, by omega, by omega, by go_num, by rw [EB.out], trivial⟩
                case measure => simp [intOf]; omega
            · have EB : Hid (againB s (cs2.take (i + 1)) = true) := by show _ = _; rw [EA]; rfl
              clear EA
              go_wp2
              go_roundw
              case rel => exact ⟨i + 1, by omega, by omega, by go_num, by rw [EB.out], trivial⟩
              case measure => simp [intOf]; omega
        · have ET : cs2.take i = cs2.take 100 := by
            by_cases e : i = 100
            · rw [e]
            · rw [List.take_of_length_le (by omega), List.take_of_length_le (by omega)]
          have SE := SM.out s
          rw [ET]
          have hcond : (i = 100 ∧ (100 : Int) < (cs2.length : Int)) ∨ i = cs2.length := by omega
          obtain ⟨A, hA⟩ : ∃ A, againB s (cs2.take 100) = A := ⟨_, rfl⟩
          rw [hA] at SE ⊢
          clear hA ET hlt
          have w1' := wrap_i64 (x := 64 * (s : Int)) (by omega)
          have w2' := wrap_i64 (x := 64 * (s : Int) + 64) (by omega)
          have f1 : (0 : Int) ≤ 64 * (s : Int) := by omega
          have f2 : 64 * (s : Int) ≤ 64 * (s : Int) + 64 := by omega
          have f3 : 64 * (s : Int) + 64 ≤ 2048 := by omega
          have f4 : ¬ 2048 = 64 * s := by omega
          have f5 : (64 * (s : Int)).toNat = 64 * s := by omega
          have f6 : (64 * (s : Int) + 64).toNat = 64 * s + 64 := by omega
          have f7 : (0 : Int) ≤ 64 * (s : Int) + 64 := by omega
          have f8 : 64 * s + 64 - 64 * s = 64 := by omega
          have PN : Hid (IsB w8 (some ⟨gn, 64 * s, none⟩) ((crashD d3 ks).sure s)) := by
            have := IsB.part (Q8.out.isB (imageL_allB OK4.out)) (64 * s) 64 rfl
            rw [image_part OK4.out (by show s < d3.n; rw [C3.out.n]; exact h32)] at this
            rw [Nat.zero_add] at this
            exact this
          have PW : Hid (IsB w8 (some ⟨gw, 64 * s, none⟩) (d2.sure s)) := by
            have := IsB.part (R8.out.isB (imageL_allB OK2.out)) (64 * s) 64 rfl
            rw [image_part OK2.out (by rw [C2.out.n]; exact h32)] at this
            rw [Nat.zero_add] at this
            exact this
          have LN : Hid (64 = (d2.sure s).length) := (OK2.out.sec s (by rw [C2.out.n]; exact h32)).1.symm
          cases A
          · have E : Hid ((crashD d3 ks).sure s = d2.sure s) := SE rfl
            have PE : Hid (IsB w8 (some ⟨gn, 64 * s, none⟩) (d2.sure s)) := by show IsB _ _ _; rw [← E.out]; exact PN.out
            clear SE
            rcases hcond with ⟨rfl, hc⟩ | rfl
            all_goals
              go_wp2_with fail
              go_quiet ((go_at_call 16; exact (same_q _ _ _ _ _ _ (d2.sure s) _ (IsB.drewN PE.out _) (IsB.drewN PW.out _) LN.out LN.out).mono (fun e w'' h => ⟨h.1, _, h.2⟩)))
              go_wp2
              go_roundw
              case rel => exact ⟨s + 1, _, by omega, by go_num, rfl⟩
              case measure => simp [intOf]; omega
          · clear SE
            rcases hcond with ⟨rfl, hc⟩ | rfl
            all_goals
              go_wp2_with fail
              go_quiet (fail)
              go_wp2
              go_roundw
              case rel => exact ⟨s + 1, _, by omega, by go_num, rfl⟩
              case measure => simp [intOf]; omega
    · obtain rfl : s = 32 := by omega
      go_wp2
      go_ret
      exact ⟨rfl, below_drewN B8.out _⟩
end Go.Proofs.Ytddkmmkhlfjhiaa
