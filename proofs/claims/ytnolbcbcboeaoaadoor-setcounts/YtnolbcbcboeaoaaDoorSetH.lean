/- Whatever is put in, just these places are in: the walk of the law SetCounts. -/
import Derived.Test.YtnolbcbcboeaoaaDoorSetG
import Derived.Deep.QuietTactic
import Derived.BigQuiet
namespace Go.Proofs.YtnolbcbcboeaoaaDoor
open Go.RowKit
set_option linter.unusedVariables false

theorem cnt_put (f : Nat → Bool) (i : Nat) (hf : f i = false) : ∀ n, cnt (put f i true) n = cnt f n + (if i < n then 1 else 0)
  | 0 => by simp [cnt]
  | n + 1 => by
    have ih := cnt_put f i hf n
    by_cases h : i = n
    · subst h
      have e : put f i true i = true := by simp [put]
      rw [cnt, cnt, ih, e, hf]
      simp
    · have e : put f i true n = f n := by simp [put, Ne.symm h]
      rw [cnt, cnt, ih, e]
      by_cases h' : i < n
      · simp [h', show i < n + 1 by omega]; omega
      · simp [h', show ¬ i < n + 1 by omega]

theorem cnt_none : ∀ n, cnt (fun _ => false) n = 0
  | 0 => rfl
  | n + 1 => by rw [cnt, cnt_none n]; rfl

theorem cnt_add_turn (n : Nat) (f : Nat → Bool) (x : Int) : cnt (turn n f x true) n = cnt f n + (if (isP n x && !f x.toNat) = true then 1 else 0) := by
  by_cases hp : isP n x = true
  · have e : turn n f x true = put f x.toNat true := funext fun i => (turn_put hp i).symm
    obtain ⟨h0, h1⟩ := isP_true.1 hp
    cases hf : f x.toNat
    · rw [e, cnt_put f _ hf, if_pos (by omega), hp]; simp
    · have e2 : put f x.toNat true = f := funext fun i => by rw [put]; split <;> simp_all
      rw [e, e2]; simp
  · have e : turn n f x true = f := funext fun i => (turn_same (fun h => absurd h hp) i).symm
    rw [e]
    simp [hp]

theorem lsL_pair (f : Nat → Bool) : ∀ k, (lsL f k).Pairwise (· < ·)
  | 0 => List.Pairwise.nil
  | k + 1 => by
    rw [lsL, List.pairwise_append]
    refine ⟨lsL_pair f k, by split <;> simp, fun a ha b hb => ?_⟩
    obtain ⟨i, rfl, hi, _⟩ := lsL_mem f a k ha
    split at hb
    · simp at hb; omega
    · simp at hb

theorem lsL_rise (f : Nat → Bool) (n i : Nat) (h0 : 0 < i) (h : i < (lsL f n).length) : (lsL f n).getD (i - 1) 0 < (lsL f n).getD i 0 := by
  have := List.pairwise_iff_getElem.1 (lsL_pair f n) (i - 1) i (by omega) h (by omega)
  simpa [List.getD, h, show i - 1 < (lsL f n).length by omega] using this

theorem lsL_at (f : Nat → Bool) (n i : Nat) (h : i < (lsL f n).length) : ∃ j : Nat, (lsL f n).getD i 0 = j ∧ j < n ∧ f j = true := by
  have : (lsL f n).getD i 0 ∈ lsL f n := by
    simp [List.getD, h]
  exact lsL_mem f _ n this

theorem SetAt.drewN {w : World} {b g n : Nat} {f : Nat → Bool} (h : SetAt w b g n f) (m : Nat) : SetAt (w.drewN m) b g n f :=
  ⟨h.len, h.words, h.word, h.thawed, h.few, h.within, h.hb, h.hg, h.apart⟩

theorem below_drewN {B : Nat} {w w' : World} (h : Below B w w') (m : Nat) : Below B w (w'.drewN m) := ⟨h.os, h.tape, h.output, h.size, h.block⟩
theorem owns_drewN {w : World} {base cap : Nat} {e : TypeId} {k : IntKind} {a : Option Addr} {l : List Int} (h : Owns w base e k a l cap) (m : Nat) : Owns (w.drewN m) base e k a l cap := h

theorem has_q (b g n : Nat) (f : Nat → Bool) (i : Int) (v : Bool) (w : World) (h : SetAt w b g n f) (e : hasB n f i = v) :
    Calls Tryd.prog 24 #[.pointer (some ⟨b, 0, none⟩), .int .i64 i] w fun e w' => e = .returned (.bool v) ∧ w' = w := by
  refine (has_any b g n f i w h).mono ?_
  rintro e w' ⟨rfl, rfl⟩
  exact ⟨by rw [e], rfl⟩

theorem len_q (b n : Nat) (w : World) (h : w.cell? ⟨b, 0, none⟩ = some (.int .i64 n)) :
    Calls Tryd.prog 12 #[.pointer (some ⟨b, 0, none⟩)] w fun e w' => e = .returned (.int .i64 n) ∧ w' = w := by
  refine (len_any b n w h).mono ?_
  rintro e w' ⟨rfl, rfl⟩
  exact ⟨rfl, rfl⟩

theorem added (n : Nat) (f : Nat → Bool) (x : Int) : hasB n (turn n f x true) x = isP n x := by
  rw [hasB, turn]
  cases h : isP n x <;> simp

set_option maxRecDepth 20000 in
set_option maxHeartbeats 2000000 in
theorem setCounts_any (n : Int) (a : Option Addr) (ca : Nat) (l : List Int) (w : World) (hT : TabIn w) (hL : IsL w .i64 a l) (hl : l.length ≤ maxLen) :
    Calls Tryd.prog 8 #[.int .i64 n, .slice a l.length ca] w fun e w' => e = .returned (.bool true) ∧ Below w.heap.size w w' := by
  have HT : Hid (TabIn w) := hT
  have HL : Hid (IsL w .i64 a l) := hL
  have few := clamp_le n
  unfold maxLen at hl
  clear hT hL
  go_enter Tryd.func8, Tryd.ntmps8
  go_wp2_with fail
  refine (alive_any w HT.out).mono ?_
  rintro e w1 ⟨rfl, b1⟩
  have B1 : Hid (Below w.heap.size w w1) := b1
  clear b1
  go_wp2_with fail
  refine (new_any n w1).mono ?_
  rintro e w2 ⟨rfl, hw2⟩
  obtain ⟨N, hN⟩ : ∃ N, clampN n = N := ⟨_, rfl⟩
  rw [hN] at hw2 few
  have S2 : Hid (SetAt w2 (w1.heap.size + 1) w1.heap.size N (fun _ => false)) := by rw [← hw2]; exact newW_at w1 N few
  have B2 : Hid (Below w.heap.size w w2) := B1.out.trans ((by rw [← hw2]; exact newW_below w1 N : Below w1.heap.size w1 w2).mono B1.out.size)
  obtain ⟨b, hb⟩ : ∃ b, w1.heap.size + 1 = b := ⟨_, rfl⟩
  obtain ⟨g, hg⟩ : ∃ g, w1.heap.size = g := ⟨_, rfl⟩
  have GE : Hid (w.heap.size ≤ g) := by show _ ≤ _; rw [← hg]; exact B1.out.size
  rw [hb, hg] at S2
  rw [hb]
  clear hw2 hN hb hg B1
  go_wp2
  go_loopw [6, 7] (fun cv iv wr => ∃ (k : Nat) (f : Nat → Bool), k ≤ l.length ∧ k ≤ 500 ∧ iv = .int .i64 k ∧ cv = .int .i64 (cnt f N : Nat) ∧ SetAt wr b g N f ∧ Below w.heap.size w wr) (fun _ iv _ => 500 - (intOf iv).toNat)
  case atStart => exact ⟨0, fun _ => false, Nat.zero_le _, by omega, rfl, by rw [show cnt (fun _ => false) N = 0 from by simp [cnt_none]]; rfl, S2.out, B2.out⟩
  case round =>
    obtain ⟨k, f, hk, hk5, rfl, rfl, hS, hB⟩ := hrel
    have HS : Hid (SetAt _ b g N f) := hS
    have HB : Hid (Below w.heap.size w _) := hB
    have hcn := cnt_le f N
    clear hS hB
    by_cases hlt : k < l.length ∧ k < 500
    · obtain ⟨h1, h2⟩ := hlt
      obtain ⟨x, hx⟩ : ∃ x, l.getD k 0 = x := ⟨_, rfl⟩
      obtain h0 | ⟨bl, off, rfl, hbs, hc⟩ := HL.out
      · rw [h0] at h1; simp at h1
      have hcell := (HB.out.cell (p := ⟨bl, off + k, none⟩) hbs).trans (hc k h1)
      rw [hx] at hcell
      have BL : Hid (bl < w.heap.size) := hbs
      clear hc hx hbs
      go_wp2_with fail
      refine (add_any b g N f x _ HS.out).mono ?_
      rintro e w3 ⟨rfl, S3, o3⟩
      have B3 : Hid (Below w.heap.size w w3) := HB.out.trans (o3.below GE.out)
      have hcell3 : w3.cell? ⟨bl, off + k, none⟩ = some (.int .i64 x) := by
        rw [o3.cell (p := ⟨bl, off + k, none⟩) (by show bl ≠ g; have := BL.out; have := GE.out; omega)]; exact hcell
      have hlen3 := S3.len
      have H3 : Hid (SetAt w3 b g N (turn N f x true)) := S3
      have HC : Hid (cnt (turn N f x true) N = cnt f N + (if (isP N x && !f x.toNat) = true then 1 else 0)) := cnt_add_turn N f x
      clear S3 o3 hcell HS HB
      cases ha : (isP N x && !f x.toNat)
      all_goals
        have HA : Hid ((isP N x && !f x.toNat) = _) := ha
        clear ha
        have HC2 := HC.out
        rw [HA.out] at HC2
        simp only [if_true, if_false, Bool.false_eq_true, Nat.add_zero] at HC2
        have HC3 : Hid (cnt (turn N f x true) N = _) := HC2
        clear HC2
        by_cases h0 : 0 ≤ x
        · by_cases hxN : x < N
          · have HV : Hid (hasB N (turn N f x true) x = true) := (added N f x).trans (isP_true.2 ⟨h0, hxN⟩)
            go_wp2_with fail
            go_quiet (first | (go_at_call 24; exact Calls.quiet_of_same (has_q b g N _ x true _ (H3.out.drewN _) HV.out)) | (go_at_call 12; exact Calls.quiet_of_same (len_q b N _ hlen3)))
            go_wp2
            go_roundw
            case rel => exact ⟨k + 1, turn N f x true, by omega, by omega, by go_num, by first | (rw [HC3.out]; go_num) | rw [HC3.out], H3.out.drewN _, below_drewN B3.out _⟩
            case measure => simp [intOf]; omega
          · have HV : Hid (hasB N (turn N f x true) x = false) := (added N f x).trans (isP_false.2 (by omega))
            go_wp2_with fail
            go_quiet (first | (go_at_call 24; exact Calls.quiet_of_same (has_q b g N _ x false _ (H3.out.drewN _) HV.out)) | (go_at_call 12; exact Calls.quiet_of_same (len_q b N _ hlen3)))
            go_wp2
            go_roundw
            case rel => exact ⟨k + 1, turn N f x true, by omega, by omega, by go_num, by first | (rw [HC3.out]; go_num) | rw [HC3.out], H3.out.drewN _, below_drewN B3.out _⟩
            case measure => simp [intOf]; omega
        · have HV : Hid (hasB N (turn N f x true) x = false) := (added N f x).trans (isP_false.2 (by omega))
          have hd : decide (0 ≤ x) = false := by simpa using h0
          go_wp2_with fail
          go_quiet (first | (go_at_call 24; exact Calls.quiet_of_same (has_q b g N _ x false _ (H3.out.drewN _) HV.out)) | (go_at_call 12; exact Calls.quiet_of_same (len_q b N _ hlen3)))
          go_wp2
          go_roundw
          case rel => exact ⟨k + 1, turn N f x true, by omega, by omega, by go_num, by first | (rw [HC3.out]; go_num) | rw [HC3.out], H3.out.drewN _, below_drewN B3.out _⟩
          case measure => simp [intOf]; omega
    · have T3 : Hid (TabIn _) := HT.out.keep HB.out HT.out.1
      have hcl : (lsL f N).length = cnt f N := lsL_len f N
      have HCL : Hid ((lsL f N).length = cnt f N) := hcl
      have hLN : (lsL f N).length ≤ 65536 := by rw [hcl]; omega
      clear hcl
      by_cases hk2 : k < l.length
      all_goals
        first | (have hd5 : decide ((k : Int) < 500) = false := by simp; omega) | (have hd5 : decide ((k : Int) < (l.length : Int)) = false := by simp; omega)
        clear hlt
        go_wp2_with fail
        refine (list_any b g N f _ HS.out T3.out).mono ?_
        rintro e w4 ⟨al, cl, rfl, O4, b4⟩
        have S4 : Hid (SetAt w4 b g N f) := HS.out.keepAll b4
        have B4 : Hid (Below w.heap.size w w4) := HB.out.trans (b4.mono HB.out.size)
        have OO : Hid (Owns w4 _ 3 .i64 al (lsL f N) cl) := O4
        clear O4 b4 HS HB T3
        go_wp2
        go_loopw [57] (fun iv wq => ∃ j : Nat, j ≤ (lsL f N).length ∧ iv = .int .i64 j ∧ SetAt wq b g N f ∧ IsL wq .i64 al (lsL f N) ∧ Below w.heap.size w wq) (fun iv _ => (lsL f N).length - (intOf iv).toNat)
        case atStart => exact ⟨0, Nat.zero_le _, rfl, S4.out, OO.out.isL, B4.out⟩
        case round =>
          obtain ⟨j, hj, rfl, hS, hI, hB⟩ := hrel
          have HS : Hid (SetAt _ b g N f) := hS
          have HI : Hid (IsL _ .i64 al (lsL f N)) := hI
          have HB : Hid (Below w.heap.size w _) := hB
          clear hS hI hB S4 OO B4
          by_cases hlt : j < (lsL f N).length
          · obtain ⟨y, hy, hyN, hfy⟩ := lsL_at f N j hlt
            obtain h0 | ⟨bl, off, rfl, hbs, hc⟩ := HI.out
            · rw [h0] at hlt; simp at hlt
            have hcell := hc j hlt
            rw [hy] at hcell
            have HV : Hid (hasB N f (y : Int) = true) := by show hasB N f y = true; rw [hasB, isP_true.2 ⟨by omega, by omega⟩, Int.toNat_natCast, hfy]; rfl
            rcases Nat.eq_zero_or_pos j with hz | hpos
            · have hd0 : decide ((0 : Int) < (j : Int)) = false := by simp; omega
              have hd1 : decide (0 < j) = false := by simp; omega
              have hn0 : ¬ 0 < j := by omega
              have hn1 : ¬ (0 : Int) < (j : Int) := by omega
              have HZ : Hid (j = 0) := hz
              clear hc hy hfy hbs hz
              go_wp2_with fail
              go_quiet ((go_at_call 24; exact Calls.quiet_of_same (has_q b g N _ y true _ (HS.out.drewN _) HV.out)))
              go_wp2
              go_roundw
              case rel => exact ⟨j + 1, by omega, by go_num, HS.out.drewN _, HI.out, below_drewN HB.out _⟩
              case measure => simp [intOf]; omega
            · obtain ⟨t, rfl⟩ : ∃ t, j = t + 1 := ⟨j - 1, by omega⟩
              obtain ⟨y2, hy2, hyN2, _⟩ := lsL_at f N t (by omega)
              have hcell2 := hc t (by omega)
              rw [hy2] at hcell2
              have hrise := lsL_rise f N (t + 1) hpos hlt
              rw [hy, show t + 1 - 1 = t from rfl, hy2] at hrise
              clear hc hy hfy hbs hy2
              go_wp2_with fail
              go_quiet ((go_at_call 24; exact Calls.quiet_of_same (has_q b g N _ y true _ (HS.out.drewN _) HV.out)))
              go_wp2
              go_roundw
              case rel => exact ⟨t + 1 + 1, by omega, by go_num, HS.out.drewN _, HI.out, below_drewN HB.out _⟩
              case measure => simp [intOf]; omega
          · obtain rfl : j = (lsL f N).length := by omega
            have hq : (lsL f N).length = cnt f N := HCL.out
            rw [hq]
            go_wp2_with (go_at_call 13; refine (count_any b g N f _ HS.out).mono ?_; rintro e w' ⟨rfl, rfl⟩)
            go_ret
            exact ⟨rfl, HB.out⟩
end Go.Proofs.YtnolbcbcboeaoaaDoor
