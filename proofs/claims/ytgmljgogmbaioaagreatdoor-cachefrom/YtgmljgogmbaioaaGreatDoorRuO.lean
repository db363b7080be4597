/- What Take answers. -/
import Derived.Test.YtgmljgogmbaioaaGreatDoorRuIK
namespace Go.Proofs.YtgmljgogmbaioaaGreatDoor
open Go.RowKit
set_option linter.unusedVariables false
set_option maxRecDepth 4000


set_option maxHeartbeats 4000000 in
theorem utake_any (S : Nat → Prop) (b n : Nat) (f : Nat → Bool) (k : Int) (w : World) (h : IsR w S b n f) (hS : ∀ i, w.heap.size ≤ i → S i) (hn : n ≤ 65536) (hk : -9223372036854775808 ≤ k ∧ k ≤ 9223372036854775807) :
    Calls Tryz.prog 123 #[.pointer (some ⟨b, 0, none⟩), .int .i64 k] w fun e w' => ∃ x r f', e = .returned (.tuple #[.int .i64 x, .int .i64 r]) ∧ TakeU n f k x r f' ∧ IsR w' S b n f' ∧ Tu S w w' := by
  have H : Hid (IsR w S b n f) := h
  by_cases h1 : k < 1
  · have TR : Hid (TakeU n f k 0 2 f) := .inl ⟨h1, rfl, rfl, rfl⟩
    clear h
    go_enter Tryz.func123, Tryz.ntmps123
    go_wp2
    go_ret2
    exact ⟨0, 2, f, rfl, TR.out, H.out, Tu.refl _ _⟩
  · have FLL := freeL_FL f n
    have hll := freeL_len f n
    unfold IsR at h
    obtain ⟨L, hL⟩ : ∃ L, freeL f n = L := ⟨_, rfl⟩
    rw [hL] at h hll FLL
    have HF : Hid (FL n f L) := FLL
    have AZ : Hid (At w S b n L) := h
    have hk1 : 1 ≤ k := by omega
    obtain ⟨a, cap, hB⟩ := h
    have HB : Hid (Box w S b a cap n L) := hB
    have c1 := hB.cell1
    have B0 : Hid (Below w.heap.size w w) := Below.refl _ _
    clear hB hL FLL
    go_enter Tryz.func123, Tryz.ntmps123
    go_wp2
    go_loopw [17] (fun iv wr => ∃ i : Nat, i ≤ L.length ∧ iv = .int .i64 (i : Nat) ∧ (∀ r ∈ L.take i, ((r.2 : Nat) : Int) < k) ∧ Below w.heap.size w wr) (fun iv _ => L.length - (intOf iv).toNat)
    case atStart => exact ⟨0, Nat.zero_le _, rfl, by simp, B0.out⟩
    case round =>
      obtain ⟨i, hi, rfl, hA, hb⟩ := hrel
      rename World => wr
      have BB : Hid (Below w.heap.size w wr) := hb
      have HA : Hid (∀ r ∈ L.take i, ((r.2 : Nat) : Int) < k) := hA
      by_cases hlt : i < L.length
      · obtain ⟨g, rfl, _, hgl, d0, d1⟩ := (HB.out.keep hb).run hlt
        have hxb := HF.out.pos L[i] (List.getElem_mem hlt)
        obtain ⟨x, hx⟩ : ∃ x, L[i] = x := ⟨_, rfl⟩
        have EX : Hid (L[i] = x) := hx
        rw [hx] at d0 d1 hxb
        obtain ⟨x1, x2⟩ := x
        simp only at d0 d1 hxb
        have hlt' : (i : Int) < (L.length : Int) := by omega
        clear hA hb hx
        by_cases hge : k ≤ (x2 : Int)
        · obtain ⟨q, rfl⟩ : ∃ q : Nat, k = q := ⟨k.toNat, by omega⟩
          have hq1 : 1 ≤ q := by omega
          have hqx : q ≤ x2 := by omega
          obtain ⟨D, hD⟩ : ∃ D, wr.alloc (.cells #[.int .i64 (x1 : Nat), .int .i64 (x2 : Nat)] 55) = D := ⟨_, rfl⟩
          have BD : Hid (Below w.heap.size w D) := by show Below _ _ _; rw [← hD]; exact BB.out.alloc BB.out.size _
          have DQ : Hid (D.heap[wr.heap.size]? = some (.cells #[.int .i64 (x1 : Nat), .int .i64 (x2 : Nat)] 55 (0, 0))) := by show _ = _; rw [← hD]; exact Go.heap_alloc_new wr _
          have DS : Hid (D.heap.size = wr.heap.size + 1) := by show _ = _; rw [← hD]; simp
          have AD : Hid (At D (fun k => S k ∧ k ≠ wr.heap.size) b n L) := AZ.out.fresh _ BD.out BB.out.size
          have FC : Hid (FL n (turnU f x1 q true) (L.take i ++ [(L[i].1, x1 - L[i].1), (x1 + q, L[i].1 + L[i].2 - (x1 + q))].filter notE ++ L.drop (i + 1))) := by
            have q1 := HF.out
            rw [list_parts L i hlt] at q1
            exact cut_FL (a := L[i].1) (l := L[i].2) q1 (by rw [EX.out]; exact Nat.le_refl _) (by rw [EX.out]; simp only; omega) hq1
          have TR : Hid (TakeU n f q x1 0 (turnU f x1 q true)) := by
            refine .inr (.inr ⟨hk1, x1, ?_, rfl, rfl, by simp⟩)
            have := HF.out.take_some (k := q) (i := i) hq1 hlt (by rw [EX.out]; exact hqx) (fun r hr => by have := HA.out r hr; omega)
            rw [EX.out] at this
            simpa using this
          have HD : Hid (wr.alloc (.cells #[.int .i64 (x1 : Nat), .int .i64 (x2 : Nat)] 55) = D) := hD
          have v0 : D.cell? ⟨wr.heap.size, 0, none⟩ = some (.int .i64 (x1 : Nat)) := cell_of_row _ _ 0 _ _ _ DQ.out
          have v1 : D.cell? ⟨wr.heap.size, 1, none⟩ = some (.int .i64 (x2 : Nat)) := cell_of_row _ _ 1 _ _ _ DQ.out
          go_wp2_with (go_at_call 110; refine (cut_any (fun k => S k ∧ k ≠ wr.heap.size) b n i x1 q L D AD.out (fun k hk => ⟨hS k (by have := BD.out.size; omega), by have := DS.out; omega⟩) hlt (by omega) (by rw [EX.out]; exact Nat.le_refl _) (by rw [EX.out]; simp only; omega) (by rw [EX.out]; simp only; omega)).mono ?_; rintro e w9 ⟨rfl, h9, t9⟩; have I9 : Hid (IsR w9 S b n (turnU f x1 q true)) := IsR.of (h9.mono (fun i _ hs => hs.1)) FC.out; have T9 : Hid (Tu S w w9) := (Tu.ofBelow BD.out).trans (t9.mono (fun i _ hs => hs.1)); have v9 : w9.cell? ⟨wr.heap.size, 0, none⟩ = some (.int .i64 (x1 : Nat)) := (t9.cell (fun hs => hs.2 rfl) (by have := DS.out; omega)).trans v0; clear h9 t9)
          go_ret2
          exact ⟨x1, 0, turnU f x1 q true, rfl, TR.out, I9.out, T9.out⟩
        · have hlt2 : (x2 : Int) < k := by omega
          go_wp2
          go_roundw
          case rel =>
            refine ⟨i + 1, by omega, by go_num, ?_, BB.out.alloc BB.out.size _⟩
            intro r hr
            rw [List.take_succ_eq_append_getElem hlt, List.mem_append] at hr
            rcases hr with hr | hr
            · exact HA.out r hr
            · simp at hr; subst hr; rw [EX.out]; exact hlt2
          case measure => simp [intOf]; omega
      · obtain rfl : i = L.length := by omega
        have TR : Hid (TakeU n f k 0 7 f) := by
          refine .inr (.inl ⟨hk1, HF.out.take_none (by omega) (fun r hr => ?_), rfl, rfl, rfl⟩)
          have := HA.out r (by rw [List.take_length]; exact hr)
          omega
        clear hA hb
        go_wp2
        go_ret2
        exact ⟨0, 7, f, rfl, TR.out, H.out.keep BB.out, Tu.ofBelow BB.out⟩
end Go.Proofs.YtgmljgogmbaioaaGreatDoor
