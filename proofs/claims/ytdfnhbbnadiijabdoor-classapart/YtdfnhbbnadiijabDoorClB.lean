/- How many pages objects need: what Need answers. -/
import Derived.Test.YtdfnhbbnadiijabDoorClA
import Derived.Deep.WholeRow
namespace Go.Proofs.YtdfnhbbnadiijabDoor
open Go.RowKit
set_option linter.unusedVariables false

/-- A slice of numbers. -/
def IsI (w : World) (a : Option Addr) (l : List Int) : Prop :=
  (∀ x ∈ l, -9223372036854775808 ≤ x ∧ x ≤ 9223372036854775807) ∧ (l = [] ∨ ∃ b off, a = some ⟨b, off, none⟩ ∧ b < w.heap.size ∧ ∀ i, i < l.length → w.cell? ⟨b, off + i, none⟩ = some (.int .i64 (l.getD i 0)))
theorem IsI.keep {w w' : World} {a : Option Addr} {l : List Int} (h : IsI w a l) (hb : Below w.heap.size w w') : IsI w' a l := by
  obtain ⟨h1, h2 | ⟨b, off, e, hs, hc⟩⟩ := h
  · exact ⟨h1, .inl h2⟩
  · refine ⟨h1, .inr ⟨b, off, e, by have := hb.size; omega, fun i hi => ?_⟩⟩
    rw [hb.cell (p := ⟨b, off + i, none⟩) hs]; exact hc i hi

/-- Seven counts as the cells of an array. -/
def cells7 (f : Nat → Nat) : Array Value := #[.int .i64 (f 0 : Nat), .int .i64 (f 1 : Nat), .int .i64 (f 2 : Nat), .int .i64 (f 3 : Nat), .int .i64 (f 4 : Nat), .int .i64 (f 5 : Nat), .int .i64 (f 6 : Nat)]
theorem cells7_at (f : Nat → Nat) (k : Nat) (h : k < 7) : (cells7 f)[k]? = some (.int .i64 (f k : Nat)) := by
  rcases k with _ | _ | _ | _ | _ | _ | _ | k <;> first | rfl | omega
theorem cells7_set (f : Nat → Nat) (k : Nat) (h : k < 7) (v : Nat) : (cells7 f).setIfInBounds k (.int .i64 (v : Nat)) = cells7 (fun j => if j = k then v else f j) := by
  rcases k with _ | _ | _ | _ | _ | _ | _ | k <;> first | rfl | omega
theorem size_arr : (Tryd.prog.info? 27).map (·.size) = some 7 := by kernel_rfl

theorem index_arr (f : Nat → Nat) (k : Nat) (hk : k < 7) (w : World) :
    (Instr.index 27 (.agg (cells7 f)) (.int .i64 (k : Nat))).run Tryd.prog w = .ok (.int .i64 ((f k : Nat) : Int)) w := by
  have e := cells7_at f k hk
  simp [Instr.index, asIntOf, Sem.run_bind, run_underlying Tryd.underlying27, hk, Tryd.sizeOf3, part, Tryd.isAgg3, e]

/-- The counts in their block. -/
structure ArrAt (w : World) (g : Nat) (f : Nat → Nat) : Prop where
  block : w.heap[g]? = some (.cells (cells7 f) 27 (0, 0))
theorem ArrAt.cell {w : World} {g : Nat} {f : Nat → Nat} (h : ArrAt w g f) (k : Nat) (hk : k < 7) : w.cell? ⟨g, k, none⟩ = some (.int .i64 (f k : Nat)) := by
  rw [cell_of_row _ _ k _ _ _ h.block]; exact cells7_at f k hk
theorem ArrAt.thawed {w : World} {g : Nat} {f : Nat → Nat} (h : ArrAt w g f) (k : Nat) : w.frozen? ⟨g, k, none⟩ = false := by
  simp [World.frozen?, h.block]
theorem ArrAt.ext {w : World} {g : Nat} {f f' : Nat → Nat} (h : ArrAt w g f) (e : ∀ k, k < 7 → f k = f' k) : ArrAt w g f' := by
  refine ⟨?_⟩
  have : cells7 f' = cells7 f := by
    unfold cells7
    rw [e 0 (by decide), e 1 (by decide), e 2 (by decide), e 3 (by decide), e 4 (by decide), e 5 (by decide), e 6 (by decide)]
  rw [this]
  exact h.block
theorem ArrAt.stored {w : World} {g : Nat} {f : Nat → Nat} (h : ArrAt w g f) (k : Nat) (hk : k < 7) (v : Nat) : ArrAt (w.setCell ⟨g, k, none⟩ (.int .i64 (v : Nat))) g (fun j => if j = k then v else f j) :=
  ⟨by rw [heap_setCell_same w g k (cells7 f) 27 _ h.block, cells7_set f k hk]⟩

set_option maxHeartbeats 1000000 in
theorem need_any (a : Option Addr) (cap : Nat) (l : List Int) (w : World) (hT : TabIn w) (hI : IsI w a l) (hl : l.length ≤ 10000) :
    Calls Tryd.prog 5 #[.slice a l.length cap] w fun e w' => e = .returned (.int .i64 (needN l : Nat)) ∧ Below w.heap.size w w' := by
  have HT : Hid (TabIn w) := hT
  have HI : Hid (IsI w a l) := hI
  have EN : Hid (needN l = largeN l + upN l 7) := by show needN l = _; unfold needN; omega
  have hll := large_le l
  rw [EN.out]
  clear hT hI
  go_enter Tryd.func5, Tryd.ntmps5
  go_wp2
  go_loopw [3, 12] (fun pv iv wr => ∃ k : Nat, k ≤ l.length ∧ pv = .int .i64 (largeN (l.take k) : Nat) ∧ iv = .int .i64 (k : Nat) ∧ ArrAt wr w.heap.size (fun c => cntN c (l.take k)) ∧ Below w.heap.size w wr) (fun _ iv _ => l.length - (intOf iv).toNat)
  case atStart => exact ⟨0, Nat.zero_le _, rfl, rfl, ⟨Go.heap_alloc_new w _⟩, (Below.refl _ w).alloc (Nat.le_refl _) _⟩
  case round =>
    obtain ⟨k, hk, rfl, rfl, hA, hB⟩ := hrel
    have HA : Hid (ArrAt _ w.heap.size (fun c => cntN c (l.take k))) := hA
    have HB : Hid (Below w.heap.size w _) := hB
    have hlk : largeN (l.take k) ≤ 16 * 10000 := by have := large_le (l.take k); rw [List.length_take] at this; omega
    by_cases hlt : k < l.length
    · obtain ⟨hin, rfl | ⟨b, off, rfl, hs, hc⟩⟩ := HI.out
      · simp at hlt
      have hcell := hc k hlt
      rw [← hB.cell (p := ⟨b, off + k, none⟩) hs] at hcell
      have ET : Hid (largeN (l.take (k + 1)) = largeN (l.take k) + if ofI (l.getD k 0) = 7 then pagesN (l.getD k 0) else 0) := large_take l k hlt
      have EC : Hid (∀ c, cntN c (l.take (k + 1)) = cntN c (l.take k) + if ofI (l.getD k 0) = (c : Int) then 1 else 0) := fun c => cnt_take c l k hlt
      obtain ⟨x, hx⟩ : ∃ x, l.getD k 0 = x := ⟨_, rfl⟩
      rw [hx] at hcell ET EC
      have hpx := pagesN_le x
      have hr := ofI_range x
      clear hc hx hin hA hB
      by_cases hsm : 0 ≤ ofI x ∧ ofI x < 7
      · obtain ⟨j, hj⟩ : ∃ j : Nat, ofI x = j := ⟨(ofI x).toNat, by omega⟩
        rw [hj] at hsm
        have hj7 : j < 7 := by omega
        have HJ : Hid (ofI x = (j : Int)) := hj
        have hd : Hid (decide (0 ≤ (j : Int) ∧ (j : Int) < 7) = true) := decide_eq_true hsm
        have hcj := HA.out.cell j hj7
        have hzj := HA.out.thawed j
        have hnj : cntN j (l.take k) ≤ 10000 := by have := cntN_le j (l.take k); rw [List.length_take] at this; omega
        clear hj hsm hr
        go_wp2_with (first
          | (go_at_call 6; refine (of_any x _ (HT.out.keep HB.out)).mono ?_; rw [HJ.out]; rintro e w' ⟨rfl, rfl⟩)
          | (go_at_call 9; refine (isSmall_any (j : Int) _ (by omega) (by omega)).mono ?_; rw [hd.out]; rintro e w' ⟨rfl, rfl⟩))
        go_roundw
        case rel =>
          refine ⟨k + 1, by omega, ?_, by go_num, ?_, ?_⟩
          · rw [ET.out, HJ.out, if_neg (by omega), Nat.add_zero]
          · refine ((HA.out.stored j hj7 (cntN j (l.take k) + 1)).ext fun c hc => ?_)
            rw [EC.out, HJ.out]
            by_cases e : c = j
            · subst e; rw [if_pos rfl, if_pos rfl]
            · rw [if_neg e, if_neg (by omega)]; rfl
          · exact HB.out.setCell (Nat.le_refl _) _
        case measure => simp [intOf]; omega
      · have hd : Hid (decide (0 ≤ ofI x ∧ ofI x < 7) = false) := decide_eq_false hsm
        have EP : Hid ((if ofI x = 7 then pagesN x else 0) = pagesN x) := by
          show _ = _
          by_cases h7 : ofI x = 7
          · rw [if_pos h7]
          · rw [if_neg h7, pagesN_none (by omega)]
        have HS : Hid (¬ (0 ≤ ofI x ∧ ofI x < 7)) := hsm
        obtain ⟨c, hc⟩ : ∃ c, ofI x = c := ⟨_, rfl⟩
        have HC : Hid (ofI x = c) := hc
        rw [hc] at hr
        have hd : Hid (decide (0 ≤ c ∧ c < 7) = false) := by show _ = _; rw [← hc]; exact hd.out
        clear hsm hc
        go_wp2_with (first
          | (go_at_call 6; refine (of_any x _ (HT.out.keep HB.out)).mono ?_; rw [HC.out]; rintro e w' ⟨rfl, rfl⟩)
          | (go_at_call 9; refine (isSmall_any c _ (by omega) (by omega)).mono ?_; rw [hd.out]; rintro e w' ⟨rfl, rfl⟩)
          | (go_at_call 8; refine (pages_any x _ (HT.out.keep HB.out)).mono ?_; rintro e w' ⟨rfl, rfl⟩))
        go_roundw
        case rel =>
          refine ⟨k + 1, by omega, ?_, by go_num, ?_, HB.out⟩
          · rw [ET.out, EP.out]; go_num
          · refine HA.out.ext fun c' hc' => ?_
            rw [EC.out, if_neg (by have := HS.out; omega)]; rfl
        case measure => simp [intOf]; omega
    · obtain rfl : k = l.length := by omega
      have EL : l.take l.length = l := List.take_length
      rw [EL] at HA hlk ⊢
      have hbk := HA.out.block
      clear hlt hA hB EL HI
      go_wp2_with (refine wpList_load_row rfl 27 _ rfl w.heap.size rfl 27 (cells7 fun c => cntN c l) (0, 0) _ hbk Tryd.underlying27 rfl size_arr ?_)
      go_loop [3, 31] (fun pv iv => ∃ c : Nat, c ≤ 7 ∧ pv = .int .i64 (largeN l + upN l c : Nat) ∧ iv = .int .i64 (c : Nat)) (fun _ iv => 7 - (intOf iv).toNat)
      case atStart => exact ⟨0, Nat.zero_le _, rfl, rfl⟩
      case round =>
        obtain ⟨c, hc, rfl, rfl⟩ := hrel
        have hup := up_len l c hc
        by_cases h7 : c < 7
        · have hidx := index_arr (fun c => cntN c l) c h7
          have hnc := cntN_le c l
          have hsp := slotsN_pos c h7
          have hup1 := up_len l (c + 1) (by omega)
          have EU : Hid (upN l (c + 1) = upN l c + ceilN (cntN c l) (slotsN c)) := rfl
          have hce : ceilN (cntN c l) (slotsN c) ≤ 160000 := by have := EU.out; omega
          go_wp2_with (first
            | (go_at_call 7; refine (size_small c _ (HT.out.keep HB.out) h7).mono ?_; rintro e w' ⟨rfl, rfl⟩)
            | (go_at_call 10; refine (parts_any _ _ (cntN c l) (slotsN c) _ rfl rfl (by omega) hsp.1 (by omega)).mono ?_; rintro e w' ⟨rfl, rfl⟩))
          go_round
          case rel => exact ⟨c + 1, by omega, by rw [EU.out]; go_num, by go_num⟩
          case measure => simp [intOf]; omega
        · obtain rfl : c = 7 := by omega
          go_wp2
          go_ret
          exact ⟨rfl, HB.out⟩
end Go.Proofs.YtdfnhbbnadiijabDoor
