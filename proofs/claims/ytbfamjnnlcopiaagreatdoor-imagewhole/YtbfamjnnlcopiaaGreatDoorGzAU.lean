/- Layer 17: RoH again -/
import Derived.Test.YtbfamjnnlcopiaaGreatDoorAuB
import Derived.Test.YtbfamjnnlcopiaaGreatDoorMhA
import Derived.Test.YtbfamjnnlcopiaaGreatDoorGzAT
namespace Go.Proofs.YtbfamjnnlcopiaaGreatDoor
open Go.RowKit
set_option linter.unusedVariables false
set_option maxRecDepth 4000
set_option maxHeartbeats 4000000 in
/-- The table may not be. -/
theorem oapply_form (a al : Option Addr) (c cl : Nat) (b l : List Int) (fr t n : Int) (w : World) (h : argT fr t n) (hr : rrightT b.length l = false) (hI : IsI w al l) (hm : l.length ≤ maxLen) (hb : b.length ≤ 140737488355328) :
    Calls Tryz.prog 58 #[.slice a b.length c, .slice al l.length cl, .int .i64 fr, .int .i64 t, .int .i64 n] w (ApplyP w (applyB b l fr t n) (applyE b l fr t n)) := by
  obtain ⟨e1, e2⟩ := apply_form h hr
  rw [e1, e2]
  clear e1 e2
  have FIN : Hid (ApplyP w [] 4 (.returned (.tuple #[.slice none 0 0, .int .i64 4])) w) := ⟨none, 0, rfl, ⟨AllB.nil, .inl rfl⟩, by simp, Nat.zero_le _, fun _ => ⟨rfl, rfl⟩, Below.refl _ _⟩
  obtain ⟨g1, g2, n0, n1⟩ := h
  have G1 : Hid (decide (goodR fr) = true) := decide_eq_true g1
  have G2 : Hid (decide (goodR t) = true) := decide_eq_true g2
  have HR : Hid (rrightT b.length l = false) := hr
  have HI : Hid (IsI w al l) := hI
  have HM : Hid (l.length ≤ maxLen) := hm
  have q1 : ¬ n < 0 := by omega
  have q2 : ¬ 1048576 < n := by omega
  clear g1 g2 hr hI hm
  go_enter Tryz.func58, Tryz.ntmps58
  go_wp2
  go_step3
  go_wp2_with (first | (go_at_call 74; refine (oright_is al cl _ l _ false _ rfl HR.out HI.out HM.out (by omega)).mono ?_; rintro e w1 ⟨rfl, rfl⟩) | (go_at_call_of 55 t; refine (good_of t true _ G2.out).mono ?_; rintro e w1 ⟨rfl, rfl⟩) | (go_at_call_of 55 fr; refine (good_of fr true _ G1.out).mono ?_; rintro e w1 ⟨rfl, rfl⟩))
  (try rw [Exit.noGoto_ret])
  go_ret2
  exact FIN.out

theorem ApA.zero {w w1 : World} {b l : List Int} {fr t n : Int} {g : Nat} (hr : RowB w1 g b) (hb : Below w.heap.size w w1) (hg : w.heap.size ≤ g) : ApA w w1 b l fr t n g 0 := ⟨hr, hb, hg, rfl⟩
theorem ApA.stay {w wr : World} {b l : List Int} {fr t n : Int} {g k : Nat} (h : ApA w wr b l fr t n g k) (hk : k < l.length) (h0 : wordT b (l.getD k 0) = 0) : ApA w wr b l fr t n g (k + 1) := by
  refine ⟨?_, h.below, h.ge, ?_⟩
  · rw [goT_take fr t b l b k hk, stepT, if_pos h0]; exact h.row
  · rw [allT_snoc hk, h.all, h0]; simp [inT]
theorem ApA.next {w wr w1 : World} {b l : List Int} {fr t n : Int} {g k : Nat} (h : ApA w wr b l fr t n g k) (hk : k < l.length) (h0 : wordT b (l.getD k 0) ≠ 0) (hin : inT fr n (wordT b (l.getD k 0)))
    (hr : RowB w1 g (overR (goT fr t b (l.take k) b) (l.getD k 0).toNat (putL 8 (wordT b (l.getD k 0) - fr + t)))) (hb : Below w.heap.size wr w1) : ApA w w1 b l fr t n g (k + 1) := by
  refine ⟨?_, h.below.trans hb, h.ge, ?_⟩
  · rw [goT_take fr t b l b k hk, stepT, if_neg h0]; exact hr
  · rw [allT_snoc hk, h.all, decide_eq_true hin]; rfl

set_option maxHeartbeats 8000000 in
/-- Word by word. -/
theorem oapply_go (a al : Option Addr) (c cl : Nat) (b l : List Int) (fr t n : Int) (w : World) (h : argT fr t n) (hr : rrightT b.length l = true) (hB : IsB w a b) (hc : b.length ≤ c) (hI : IsI w al l) (hm : l.length ≤ maxLen) (hb : b.length ≤ 140737488355328) :
    Calls Tryz.prog 58 #[.slice a b.length c, .slice al l.length cl, .int .i64 fr, .int .i64 t, .int .i64 n] w (ApplyP w (applyB b l fr t n) (applyE b l fr t n)) := by
  have ARG : Hid (argT fr t n) := h
  obtain ⟨g1, g2, n0, n1⟩ := h
  have G1 : Hid (decide (goodR fr) = true) := decide_eq_true g1
  have G2 : Hid (decide (goodR t) = true) := decide_eq_true g2
  have HR : Hid (rrightT b.length l = true) := hr
  have HI : Hid (IsI w al l) := hI
  have HB : Hid (IsB w a b) := hB
  have HM : Hid (l.length ≤ maxLen) := hm
  have RIN : Hid (∀ p ∈ l, inB b.length p) := (right_in hr).1
  have hmk := fun w : World => rmake_T w b.length hb
  have q1 : ¬ n < 0 := by omega
  have q2 : ¬ 1048576 < n := by omega
  have hlm : l.length ≤ 8192 := (right_iff.1 hr).1
  unfold goodR at g1 g2
  obtain ⟨f0, f1, _⟩ := g1
  obtain ⟨t0, t1, _⟩ := g2
  have hz : RowB (w.alloc (.cells (cellsB (List.replicate b.length 0)).toArray 5)) w.heap.size (List.replicate b.length 0) := Go.heap_alloc_new w _
  have bz : Below w.heap.size w (w.alloc (.cells (cellsB (List.replicate b.length 0)).toArray 5)) := (Below.refl _ w).alloc (Nat.le_refl _) _
  obtain ⟨D, hD⟩ : ∃ D, w.alloc (.cells (cellsB (List.replicate b.length 0)).toArray 5) = D := ⟨_, rfl⟩
  have hmk0 := rmake_T w b.length hb
  rw [hD] at hz bz hmk0
  have HZ : Hid (RowB D w.heap.size (List.replicate b.length 0)) := hz
  have BZ : Hid (Below w.heap.size w D) := bz
  obtain ⟨w1, hcp, r1, o1⟩ := copy_run D w.heap.size 0 b.length b.length (List.replicate b.length 0) b (some ⟨w.heap.size, 0, none⟩) a b.length c b.length rfl (by simp) hz (hB.keep bz) (by simp) (.inr rfl)
  have A0 : Hid (ApA w w1 b l fr t n w.heap.size 0) := ApA.zero (by simpa using r1) (bz.trans (o1.below (Nat.le_refl _))) (Nat.le_refl _)
  obtain ⟨g, hg⟩ : ∃ g, w.heap.size = g := ⟨_, rfl⟩
  rw [hg] at hmk0 hcp A0
  have HG : Hid (w.heap.size = g) := hg
  clear hr hI hm hB hz bz hD hmk r1 o1 hg HZ BZ
  go_enter Tryz.func58, Tryz.ntmps58
  go_wp2
  go_step3
  go_wp2_with (first
    | (go_at_call 74; refine (oright_is al cl _ l _ true _ rfl HR.out HI.out HM.out (by omega)).mono ?_; rintro e w1 ⟨rfl, rfl⟩) | (go_at_call_of 55 t; refine (good_of t true _ G2.out).mono ?_; rintro e w1 ⟨rfl, rfl⟩) | (go_at_call_of 55 fr; refine (good_of fr true _ G1.out).mono ?_; rintro e w1 ⟨rfl, rfl⟩))
  go_step3
  go_wp2
  clear hcp hmk0
  go_loopw [13, 46] (fun ev iv wr => ∃ k : Nat, k ≤ l.length ∧ iv = .int .i64 k ∧ ev = .int .i64 0 ∧ ApA w wr b l fr t n g k) (fun _ iv _ => l.length - (intOf iv).toNat)
  case atStart => exact ⟨0, Nat.zero_le _, rfl, rfl, A0.out⟩
  case round =>
    obtain ⟨k, hk, rfl, rfl, hA⟩ := hrel
    have HA : Hid (ApA w wr b l fr t n g k) := hA
    by_cases hlt : k < l.length
    · have hmem : l.getD k 0 ∈ l := by simp [List.getD, hlt]
      obtain ⟨hin, h0 | ⟨lb, loff, rfl, hsz, hcl⟩⟩ := HI.out.keep hA.below
      · rw [h0] at hlt; simp at hlt
      have hcell := hcl k hlt
      obtain ⟨p0, p1⟩ := RIN.out _ hmem
      obtain ⟨o, ho⟩ : ∃ o : Nat, l.getD k 0 = (o : Int) := ⟨(l.getD k 0).toNat, by omega⟩
      rw [ho] at hcell p0 p1
      have HO : Hid (l.getD k 0 = (o : Int)) := ho
      have IB := HB.out.keep hA.below
      obtain ⟨hbb, h0 | ⟨bb, boff, rfl, hbs, hbc⟩⟩ := HB.out
      · rw [h0] at p1; simp at p1; omega
      have IP : Hid (IsB wr (some ⟨bb, boff + o, none⟩) ((b.drop o).take 8)) := IB.partR o 8
      have HL : Hid (8 = ((b.drop o).take 8).length) := by show _ = _; simp; omega
      obtain ⟨W, hW⟩ : ∃ W, wordT b (o : Int) = W := ⟨_, rfl⟩
      have HV : Hid (getL (((b.drop o).take 8).take 8) = W) := by
        show _ = _
        rw [← hW, wordT, Int.toNat_natCast, List.take_take]
        rfl
      obtain ⟨W0, W1⟩ := wordT_range hbb (o : Int)
      rw [hW] at W0 W1
      have HW : Hid (wordT b (l.getD k 0) = W) := by show _ = _; rw [HO.out, hW]
      have s1 : ¬ ((o : Int) + 8 < (o : Int)) := by omega
      have s2 : (o : Int) + 8 ≤ (c : Int) := by omega
      have p2 : o + 8 ≤ b.length := by omega
      clear hcl hin hsz hmem ho IB hbb hbs hbc hW hA p1
      by_cases w0 : W = 0
      · subst w0
        have NX : Hid (ApA w wr b l fr t n g (k + 1)) := HA.out.stay hlt HW.out
        go_wp2_with (go_at_call 69; (refine (get_of _ _ _ ((b.drop o).take 8) 0 _ (by have := HL.out; omega) HV.out IP.out (by have := HL.out; unfold maxLen; omega)).mono ?_; rintro e w' ⟨rfl, rfl⟩))
        go_roundw
        case rel => exact ⟨k + 1, by omega, by go_num, rfl, NX.out⟩
        case measure => simp [intOf]; omega
      · have w0' : (W == 0) = false := by rw [beq_eq_false_iff_ne]; exact w0
        by_cases win : fr ≤ W ∧ W - fr < n
        · have HIN : Hid (decide (fr ≤ W ∧ W - fr < n) = true) := decide_eq_true win
          obtain ⟨wa, wb⟩ := win
          have IIN : Hid (inT fr n (wordT b (l.getD k 0))) := by show inT _ _ _; rw [HW.out]; exact .inr ⟨wa, wb⟩
          have NZ : Hid (wordT b (l.getD k 0) ≠ 0) := by show _ ≠ _; rw [HW.out]; exact w0
          have LG : Hid ((goT fr t b (l.take k) b).length = b.length) := goT_len _ b (fun p hp => RIN.out p (List.mem_of_mem_take hp))
          obtain ⟨cur, hcur⟩ : ∃ cur, goT fr t b (l.take k) b = cur := ⟨_, rfl⟩
          have RC : Hid (RowB wr g cur) := by show RowB _ _ _; rw [← hcur]; exact HA.out.row
          have LC : Hid (cur.length = b.length) := by show _ = _; rw [← hcur]; exact LG.out
          have HCUR : Hid (goT fr t b (l.take k) b = cur) := hcur
          have hgl : g < wr.heap.size := HA.out.row.lt
          have s3 : (o : Int) + 8 ≤ (b.length : Int) := by omega
          have s4 : ¬ b.length = o := by omega
          have s5 : IntKind.i64.wrap ((o : Int) + 8) = (o : Int) + 8 := by rw [IntKind.wrap_i64]; omega
          have s6 : (0 : Int) ≤ (o : Int) := by omega
          have u1 : IntKind.u64.wrap fr = fr := by rw [IntKind.wrap_u64]; omega
          have u2 : IntKind.u64.wrap t = t := by rw [IntKind.wrap_u64]; omega
          have u3 : IntKind.u64.wrap (W - fr) = W - fr := by rw [IntKind.wrap_u64]; omega
          have u4 : IntKind.u64.wrap (W - fr + t) = W - fr + t := by rw [IntKind.wrap_u64]; omega
          clear hcur LG
          go_wp2_with (first
            | (go_at_call 90; refine (owithin_of W fr n true _ HIN.out W0 W1 (by omega) f1 (by omega) (by omega)).mono ?_; rintro e w' ⟨rfl, rfl⟩)
            | (go_at_call 69; refine (get_of _ _ _ ((b.drop o).take 8) W _ (by have := HL.out; omega) HV.out IP.out (by have := HL.out; unfold maxLen; omega)).mono ?_; rintro e w' ⟨rfl, rfl⟩))
          have STEP : Hid (∀ w2, RowB w2 wr.heap.size (putL 8 (W - fr + t)) → Below wr.heap.size wr w2 → ∃ w3, (∀ ty, (Builtin.copy_ #[25, 25] ty #[.slice (some ⟨g, o, none⟩) 8 (b.length - o), .slice (some ⟨wr.heap.size, 0, none⟩) 8 8]).run Tryz.prog w2 = .ok (goInt 8) w3) ∧ ApA w w3 b l fr t n g (k + 1)) := by
            intro w2 r2 b2
            have row2 : RowB w2 g cur := RC.out.keep b2
            obtain ⟨w3, hcp, r3, o3⟩ := copy_run w2 g o 8 (b.length - o) cur (putL 8 (W - fr + t)) (some ⟨g, o, none⟩) (some ⟨wr.heap.size, 0, none⟩) 8 8 8 (putT_len _).symm rfl row2 (r2.isB (putL_byte 8 _)) (by rw [LC.out]; exact p2) (.inr rfl)
            refine ⟨w3, hcp, ?_⟩
            have e8 : (putL 8 (W - fr + t)).take 8 = putL 8 (W - fr + t) := List.take_of_length_le (by rw [putT_len]; exact Nat.le_refl _)
            refine HA.out.next hlt NZ.out IIN.out ?_ ((b2.mono HA.out.below.size).trans (o3.below HA.out.ge))
            rw [HW.out, HCUR.out, HO.out, Int.toNat_natCast, overR, putT_len]
            rw [e8] at r3
            exact r3
          go_region_held3 (fun w' => True) (first | trivial | go_keep)
            ((first
            | (go_at_call 91; refine (put_word (W - fr + t) (by omega) (by omega) _).mono ?_; rintro e w2 ⟨rfl, r2, b2⟩; obtain ⟨w3, hcq, hnx⟩ := STEP.out w2 r2 (Below.ofDrew b2); have NX : Hid _ := hnx; clear r2 b2 hnx)
            | (have hcr := hcq; refine step_copyB rfl _ _ rfl (.slice (some ⟨g, o, none⟩) 8 (b.length - o)) (.slice (some ⟨wr.heap.size, 0, none⟩) 8 8) (by simp [Act.eval]; omega) (by simp [Act.eval]) (.int .i64 8) w3 (hcq _) ?_)))
          all_goals
            go_wp2
            go_roundw
            case rel => exact ⟨k + 1, by omega, by go_num, rfl, NX.out⟩
            case measure => simp [intOf]; omega
        · have HIN : Hid (decide (fr ≤ W ∧ W - fr < n) = false) := decide_eq_false win
          obtain ⟨e1, e2⟩ := apply_addr ARG.out HR.out (allT_not hlt (by rw [HW.out]; unfold inT; omega))
          have HE : Hid (applyB b l fr t n = [] ∧ applyE b l fr t n = 10) := ⟨e1, e2⟩
          clear e1 e2 win
          go_wp2_with (first
            | (go_at_call 90; refine (owithin_of W fr n false _ HIN.out W0 W1 (by omega) f1 (by omega) (by omega)).mono ?_; rintro e w' ⟨rfl, rfl⟩)
            | (go_at_call 69; refine (get_of _ _ _ ((b.drop o).take 8) W _ (by have := HL.out; omega) HV.out IP.out (by have := HL.out; unfold maxLen; omega)).mono ?_; rintro e w' ⟨rfl, rfl⟩))
          (try rw [Exit.noGoto_ret])
          go_ret2
          rw [HE.out.1, HE.out.2]
          exact ⟨none, 0, rfl, ⟨AllB.nil, .inl rfl⟩, by simp, Nat.zero_le _, fun _ => ⟨rfl, rfl⟩, HA.out.below⟩
    · obtain rfl : k = l.length := by omega
      have et : l.take l.length = l := List.take_length
      have AL := hA.all
      have RW := hA.row
      rw [et] at AL RW
      obtain ⟨e1, e2⟩ := apply_ok ARG.out HR.out AL
      have LEN : Hid ((goT fr t b l b).length = b.length) := goT_len l b RIN.out
      have ALLG : Hid (AllB (goT fr t b l b)) := goT_all l b HB.out.1
      have RWH : Hid (RowB wr g (goT fr t b l b)) := RW
      have HE : Hid (applyB b l fr t n = goT fr t b l b ∧ applyE b l fr t n = 0) := ⟨e1, e2⟩
      clear et AL RW e1 e2 hA
      go_wp2
      (try rw [Exit.noGoto_ret])
      go_ret2
      rw [HE.out.1, HE.out.2]
      exact ⟨some ⟨g, 0, none⟩, b.length, by rw [LEN.out]; rfl, ⟨ALLG.out, .inr ⟨g, rfl, HA.out.ge, RWH.out⟩⟩, by rw [LEN.out]; exact Nat.le_refl _, by unfold maxLen; omega, (fun h => by cases h), HA.out.below⟩

/-- What Apply answers. -/
theorem oapply_any (a al : Option Addr) (c cl : Nat) (b l : List Int) (fr t n : Int) (w : World) (hB : IsB w a b) (hc : b.length ≤ c) (hI : IsI w al l) (hm : l.length ≤ maxLen) (hb : b.length ≤ 140737488355328) :
    Calls Tryz.prog 58 #[.slice a b.length c, .slice al l.length cl, .int .i64 fr, .int .i64 t, .int .i64 n] w (ApplyP w (applyB b l fr t n) (applyE b l fr t n)) := by
  by_cases h : argT fr t n
  · rcases hr : rrightT b.length l with _ | _
    · exact oapply_form a al c cl b l fr t n w h hr hI hm hb
    · exact oapply_go a al c cl b l fr t n w h hr hB hc hI hm hb
  · exact oapply_arg a al c cl b l fr t n w h
end Go.Proofs.YtbfamjnnlcopiaaGreatDoor

/- Layer 17: RoI again -/
namespace Go.Proofs.YtbfamjnnlcopiaaGreatDoor
open Go.RowKit
set_option linter.unusedVariables false
set_option maxRecDepth 4000
end Go.Proofs.YtbfamjnnlcopiaaGreatDoor

/- Layer 17: NumRd again -/
namespace Go.Proofs.YtbfamjnnlcopiaaGreatDoor
open Go.RowKit
set_option linter.unusedVariables false
set_option maxRecDepth 4000
theorem end_long (B : Nat) (a : Option Addr) (n cap : Nat) (w : World) (h0 : w.cell? ⟨B, 0, none⟩ = some (.slice a n cap)) (h : w.cell? ⟨B, 1, none⟩ = some (.int .i64 0)) (hn : (0 : Int) < (n : Int)) :
    Calls Tryz.prog 54 #[.pointer (some ⟨B, 0, none⟩)] w fun r w' => r = .returned (.int .i64 6) ∧ w = w' := by
  go_enter Tryz.func54, Tryz.ntmps54
  go_wp2_with (go_at_call 89; refine (left_ok B a n cap _ h0 h).mono ?_; rintro r w' ⟨rfl, rfl⟩)
  go_ret
  exact ⟨rfl, rfl⟩

theorem end_ok (B : Nat) (a : Option Addr) (cap : Nat) (w : World) (h0 : w.cell? ⟨B, 0, none⟩ = some (.slice a 0 cap)) (h : w.cell? ⟨B, 1, none⟩ = some (.int .i64 0)) :
    Calls Tryz.prog 54 #[.pointer (some ⟨B, 0, none⟩)] w fun r w' => r = .returned (.int .i64 0) ∧ w = w' := by
  go_enter Tryz.func54, Tryz.ntmps54
  go_wp2_with (first
    | (go_at_call 89; refine (left_ok B a 0 cap _ h0 h).mono ?_; rintro r w' ⟨rfl, rfl⟩)
    | (go_at_call 85; refine (err_two B 0 _ h).mono ?_; rintro r w' ⟨rfl, rfl⟩))
  go_ret
  exact ⟨rfl, rfl⟩

theorem end_fault (B : Nat) (e : Int) (w : World) (h : w.cell? ⟨B, 1, none⟩ = some (.int .i64 e)) (he : (e != 0) = true) :
    Calls Tryz.prog 54 #[.pointer (some ⟨B, 0, none⟩)] w fun r w' => r = .returned (.int .i64 e) ∧ w = w' := by
  go_enter Tryz.func54, Tryz.ntmps54
  go_wp2_with (first
    | (go_at_call 89; refine (left_fault B e _ h he).mono ?_; rintro r w' ⟨rfl, rfl⟩)
    | (go_at_call 85; refine (err_two B e _ h).mono ?_; rintro r w' ⟨rfl, rfl⟩))
  go_ret
  exact ⟨rfl, rfl⟩

end Go.Proofs.YtbfamjnnlcopiaaGreatDoor

/- Layer 17: NumFx again -/
namespace Go.Proofs.YtbfamjnnlcopiaaGreatDoor
open Go.RowKit
set_option linter.unusedVariables false
set_option maxRecDepth 4000
/-- What Bytes answers, what is left behind it, and the fault. -/
def bsS (l : List Int) (e : Int) (K : Nat) : List Int × List Int × Int :=
  if e = 0 then (if K ≤ l.length then (l.take K, l.drop K, 0) else ([], l, 3)) else ([], l, e)

theorem bytes_fault (B : Nat) (e N : Int) (w : World) (h : w.cell? ⟨B, 1, none⟩ = some (.int .i64 e)) (he : (e != 0) = true) :
    Calls Tryz.prog 53 #[.pointer (some ⟨B, 0, none⟩), .int .i64 N] w fun r w' => r = .returned (.slice none 0 0) ∧ w = w' := by
  rcases Int.lt_trichotomy 0 N with hn | rfl | hn
  all_goals
    go_enter Tryz.func53, Tryz.ntmps53
    go_wp2_with fail
    refine (take_fault B e _ _ h he).mono ?_
    rintro r w' ⟨rfl, rfl⟩
    go_wp2_with fail
    refine (clone_nil 0 0 _).mono ?_
    rintro r w' ⟨rfl, rfl⟩
    go_wp2
    go_ret
    exact ⟨rfl, rfl⟩

theorem take_over (B : Nat) (l : List Int) (k : Int) (w : World) (h : RdAt w B l 0) (hk : (l.length : Int) < k) :
    Calls Tryz.prog 87 #[.pointer (some ⟨B, 0, none⟩), .int .i64 k] w fun r w' => r = .returned (.slice none 0 0) ∧ RdAt w' B l 3 ∧ w.grownBy w' (some B) := by
  obtain ⟨a, cap, c1, c2, c3, c4, _, _, _⟩ := isB_of_rd h
  refine (take_short B a l.length cap k w c1 c2 c4 hk).mono ?_
  rintro r w' ⟨rfl, rfl⟩
  exact ⟨rfl, rd_fault h 3, grown_set _ _ _⟩

/-- A copy of bytes of the call's own: what it owns may be written. -/
def FreshB (w' : World) (base : Nat) (a : Option Addr) (l : List Int) (cap : Nat) : Prop :=
  (l = [] ∧ a = none ∧ cap = 0) ∨ ∃ g, a = some ⟨g, 0, none⟩ ∧ base ≤ g ∧ w'.ownsRow base 5 1 (.slice (some ⟨g, 0, none⟩) l.length cap) l.length (l.map (Value.int .u8))

theorem clone_any (a : Option Addr) (n cap : Nat) (l : List Int) (w : World) (h : IsB w a l) (hn : l.length = n) (hm : l.length ≤ 140737488355328) :
    Calls Tryz.prog 57 #[.slice a n cap] w fun e w' => ∃ a' cap', e = .returned (.slice a' n cap') ∧ FreshB w' w.heap.size a' l cap' ∧ Below w.heap.size w w' := by
  subst hn
  rcases a with _ | ad
  · obtain ⟨_, rfl | ⟨b, off, e, _⟩⟩ := h
    · refine (clone_nil _ cap w).mono ?_
      rintro e w' ⟨rfl, rfl⟩
      exact ⟨none, 0, rfl, .inl ⟨rfl, rfl, rfl⟩, Below.refl _ _⟩
    · cases e
  · have hc : ∀ i, i < l.length → w.cell? (ad.add i) = some (.int .u8 (l.getD i 0)) := by
      intro i hi
      obtain ⟨_, rfl | ⟨b, off, e, _, hc⟩⟩ := h
      · simp at hi
      · cases e
        rw [addr_add]; exact hc i hi
    refine (rclone_at ad l.length cap l w rfl hm hc).mono ?_
    rintro e w' ⟨v, rfl, hown, hv, hbel⟩
    obtain ⟨g, c, rfl, hg1, hg2, hc1, hc2, hcell⟩ := owns_parts rfl hown hv
    exact ⟨some ⟨g, 0, none⟩, c, rfl, .inr ⟨g, rfl, hg1, hown⟩, hbel⟩

set_option maxHeartbeats 1000000 in
theorem bytes_any (B : Nat) (l : List Int) (e N M : Int) (w : World) (h : RdAt w B l e) (hM : N < 0 ∧ M = 0 ∨ N = 0 ∧ M = 0 ∨ 0 < N ∧ M = N) (hm : l.length ≤ 140737488355328) :
    Calls Tryz.prog 53 #[.pointer (some ⟨B, 0, none⟩), .int .i64 N] w fun r w' => ∃ a' cap', r = .returned (.slice a' (bsS l e M.toNat).1.length cap') ∧ FreshB w' w.heap.size a' (bsS l e M.toNat).1 cap' ∧ RdAt w' B (bsS l e M.toNat).2.1 (bsS l e M.toNat).2.2 ∧ w.grownBy w' (some B) := by
  have HR : Hid (RdAt w B l e) := h
  by_cases he : e = 0
  · subst he
    clear h
    obtain ⟨K, hK⟩ : ∃ K : Nat, M = K := ⟨M.toNat, by omega⟩
    by_cases hk : K ≤ l.length
    · have HF : Hid (bsS l 0 M.toNat = (l.take K, l.drop K, 0)) := by show _ = _; rw [hK, Int.toNat_natCast, bsS, if_pos rfl, if_pos hk]
      have ht : (l.take K).length = K := by rw [List.length_take]; omega
      have HT : Hid ((l.take K).length = K) := ht
      have hK0 : N < 0 ∧ K = 0 ∨ N = 0 ∧ K = 0 ∨ 0 < N ∧ N = K := by omega
      clear hK ht hM
      rcases hK0 with ⟨h1, rfl⟩ | ⟨rfl, rfl⟩ | ⟨h1, rfl⟩
      all_goals
        go_enter Tryz.func53, Tryz.ntmps53
        go_wp2_with fail
        refine (take_rd B _ l w HR.out hk).mono ?_
        rintro r w1 ⟨a1, cap1, rfl, hR1, hg1, i1⟩
        go_wp2_with fail
        refine (clone_any a1 _ cap1 _ w1 i1 HT.out (by rw [List.length_take]; omega)).mono ?_
        rintro r w2 ⟨a2, cap2, rfl, hF2, b2⟩
        go_wp2
        go_ret
        rw [HF.out]
        refine ⟨a2, cap2, ret_slice HT.out.symm, ?_, rd_keep hR1 b2, grown_then hg1 b2⟩
        rcases hF2 with h | ⟨g, e1, e2, e3⟩
        · exact .inl h
        · refine .inr ⟨g, e1, Nat.le_trans hg1.size e2, ?_⟩
          obtain ⟨q1, q2⟩ := e3
          refine ⟨q1, ?_⟩
          rcases q2 with q2 | ⟨g', c', cur, r1, r2, r3⟩
          · exact .inl q2
          · exact .inr ⟨g', c', cur, r1, Nat.le_trans hg1.size r2, r3⟩
    · have HF : Hid (bsS l 0 M.toNat = ([], l, 3)) := by show _ = _; rw [hK, Int.toNat_natCast, bsS, if_pos rfl, if_neg hk]
      have hN : 0 < N ∧ N = K := by omega
      obtain ⟨h1, rfl⟩ := hN
      clear hK hM
      go_enter Tryz.func53, Tryz.ntmps53
      go_wp2_with fail
      refine (take_over B l _ w HR.out (by omega)).mono ?_
      rintro r w1 ⟨rfl, hR1, hg1⟩
      go_wp2_with fail
      refine (clone_nil 0 0 _).mono ?_
      rintro r w' ⟨rfl, rfl⟩
      go_wp2
      go_ret
      rw [HF.out]
      exact ⟨none, 0, rfl, .inl ⟨rfl, rfl, rfl⟩, hR1, hg1⟩
  · obtain ⟨a, cap, c1, c2, c3, c4, _, _, _⟩ := isB_of_rd h
    refine (bytes_fault B e N w c2 (by rw [bne_iff_ne]; exact he)).mono ?_
    rintro r w' ⟨rfl, rfl⟩
    rw [bsS, if_neg he]
    exact ⟨none, 0, rfl, .inl ⟨rfl, rfl, rfl⟩, h, World.grownBy.refl _ _⟩
end Go.Proofs.YtbfamjnnlcopiaaGreatDoor

/- Layer 17: NumRr again -/
namespace Go.Proofs.YtbfamjnnlcopiaaGreatDoor
open Go.RowKit
set_option linter.unusedVariables false
set_option maxRecDepth 4000
def endV (l : List Int) (e : Int) : Int := if e = 0 then (if l.length = 0 then 0 else 6) else e

theorem end_any (B : Nat) (l : List Int) (e : Int) (w : World) (h : RdAt w B l e) :
    Calls Tryz.prog 54 #[.pointer (some ⟨B, 0, none⟩)] w fun r w' => r = .returned (.int .i64 (endV l e)) ∧ w = w' := by
  obtain ⟨a, cap, c1, c2, c3, c4, _, _, _⟩ := isB_of_rd h
  by_cases he : e = 0
  · subst he
    by_cases hl : l.length = 0
    · rw [endV, if_pos rfl, if_pos hl]
      rw [hl] at c1
      exact end_ok B a cap w c1 c2
    · rw [endV, if_pos rfl, if_neg hl]
      exact end_long B a l.length cap w c1 c2 (by omega)
  · rw [endV, if_neg he]
    exact end_fault B e w c2 (by rw [bne_iff_ne]; exact he)

end Go.Proofs.YtbfamjnnlcopiaaGreatDoor
