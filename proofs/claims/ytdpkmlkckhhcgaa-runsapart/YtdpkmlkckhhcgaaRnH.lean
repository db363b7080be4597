/- What Left and Most answer. -/
import Derived.Test.YtdpkmlkckhhcgaaRnG
namespace Go.Proofs.Ytdpkmlkckhhcgaa
open Go.RowKit
set_option linter.unusedVariables false

theorem IsR.keep {w w' : World} {S : Nat → Prop} {b n : Nat} {f : Nat → Bool} (h : IsR w S b n f) (hb : Below w.heap.size w w') : IsR w' S b n f := At.keep h hb
theorem IsR.same {w w' : World} {S : Nat → Prop} {b n : Nat} {f : Nat → Bool} (h : IsR w S b n f) (he : ∀ (i : Nat) (o : Obj), w.heap[i]? = some o → S i → w'.heap[i]? = some o) : IsR w' S b n f := At.same h he
theorem IsR.mono {w : World} {S T : Nat → Prop} {b n : Nat} {f : Nat → Bool} (h : IsR w S b n f) (he : ∀ i, i < w.heap.size → S i → T i) : IsR w T b n f := At.mono h he
theorem IsR.drewN {w : World} {S : Nat → Prop} {b n : Nat} {f : Nat → Bool} (h : IsR w S b n f) (m : Nat) : IsR (w.drewN m) S b n f := At.drewN h m
theorem IsR.drew {w : World} {S : Nat → Prop} {b n : Nat} {f : Nat → Bool} (h : IsR w S b n f) : IsR w.drew S b n f := At.drew h
theorem IsR.lt {w : World} {S : Nat → Prop} {b n : Nat} {f : Nat → Bool} (h : IsR w S b n f) : b < w.heap.size ∧ S b := by obtain ⟨a, cap, h⟩ := h; exact ⟨h.lt, h.sb⟩

theorem maxL_le {n : Nat} {f : Nat → Bool} {L : List (Nat × Nat)} (h : FL n f L) : maxL L ≤ n := by
  rcases maxL_in L with e | ⟨r, hr, e⟩
  · omega
  · have := h.pos r hr; omega

set_option maxHeartbeats 1000000 in
theorem left_any (S : Nat → Prop) (b n : Nat) (f : Nat → Bool) (w : World) (h : IsR w S b n f) (hn : n ≤ 65536) :
    Calls Try.prog 17 #[.pointer (some ⟨b, 0, none⟩)] w fun e w' => e = .returned (.int .i64 (sumL (freeL f n) : Nat)) ∧ Below w.heap.size w w' := by
  have hsum := (freeL_FL f n).sum_le
  have hll := freeL_len f n
  have hpos := (freeL_FL f n).pos
  unfold IsR at h
  obtain ⟨L, hL⟩ : ∃ L, freeL f n = L := ⟨_, rfl⟩
  rw [hL] at h hsum hll hpos ⊢
  clear hL
  have HP : Hid (∀ r ∈ L, 1 ≤ r.2 ∧ r.1 + r.2 ≤ n) := hpos
  obtain ⟨a, cap, hB⟩ := h
  have HB : Hid (Box w S b a cap n L) := hB
  have c1 := hB.cell1
  have B0 : Hid (Below w.heap.size w w) := Below.refl _ _
  obtain ⟨T, hT⟩ : ∃ T, sumL L = T := ⟨_, rfl⟩
  have ET : Hid (sumL L = T) := hT
  rw [hT] at hsum ⊢
  clear hB hpos hT
  go_enter Try.func17, Try.ntmps17
  go_wp2
  go_loopw [3, 13] (fun sv iv wr => ∃ i s : Nat, i ≤ L.length ∧ iv = .int .i64 (i : Nat) ∧ sv = .int .i64 (s : Nat) ∧ s = sumL (L.take i) ∧ Below w.heap.size w wr) (fun _ iv _ => L.length - (intOf iv).toNat)
  case atStart => exact ⟨0, 0, Nat.zero_le _, rfl, rfl, by simp [sumL], B0.out⟩
  case round =>
    obtain ⟨i, s, hi, rfl, rfl, hs, hb⟩ := hrel
    rename World => wr
    have BB : Hid (Below w.heap.size w wr) := hb
    have HS : Hid (s = sumL (L.take i)) := hs
    have hsl : s ≤ T := by
      have := sumL_append (L.take i) (L.drop i)
      rw [List.take_append_drop, ET.out] at this
      omega
    by_cases hlt : i < L.length
    · obtain ⟨g, rfl, _, hgl, d0, d1⟩ := (HB.out.keep hb).run hlt
      obtain ⟨x, hx⟩ : ∃ x, L[i] = x := ⟨_, rfl⟩
      have hxb := HP.out L[i] (List.getElem_mem hlt)
      have EX : Hid (L[i] = x) := hx
      rw [hx] at d0 d1 hxb
      obtain ⟨x1, x2⟩ := x
      simp only at d0 d1 hxb
      have hlt' : (i : Int) < (L.length : Int) := by omega
      clear hb hs hx
      go_wp2
      go_roundw
      case rel =>
        refine ⟨i + 1, s + x2, by omega, by go_num, by go_num, ?_, BB.out.alloc BB.out.size _⟩
        rw [List.take_succ_eq_append_getElem hlt, sumL_snoc, EX.out, HS.out]
      case measure => simp [intOf]; omega
    · obtain rfl : i = L.length := by omega
      have e : s = T := by rw [hs, List.take_length]; exact ET.out
      subst e
      clear hb hs
      go_wp2
      go_ret
      exact ⟨rfl, BB.out⟩

set_option maxHeartbeats 1000000 in
theorem most_any (S : Nat → Prop) (b n : Nat) (f : Nat → Bool) (w : World) (h : IsR w S b n f) (hn : n ≤ 65536) :
    Calls Try.prog 18 #[.pointer (some ⟨b, 0, none⟩)] w fun e w' => e = .returned (.int .i64 (maxL (freeL f n) : Nat)) ∧ Below w.heap.size w w' := by
  have hmax := maxL_le (freeL_FL f n)
  have hll := freeL_len f n
  have hpos := (freeL_FL f n).pos
  unfold IsR at h
  obtain ⟨L, hL⟩ : ∃ L, freeL f n = L := ⟨_, rfl⟩
  rw [hL] at h hmax hll hpos ⊢
  clear hL
  have HP : Hid (∀ r ∈ L, 1 ≤ r.2 ∧ r.1 + r.2 ≤ n) := hpos
  obtain ⟨a, cap, hB⟩ := h
  have HB : Hid (Box w S b a cap n L) := hB
  have c1 := hB.cell1
  have B0 : Hid (Below w.heap.size w w) := Below.refl _ _
  obtain ⟨T, hT⟩ : ∃ T, maxL L = T := ⟨_, rfl⟩
  have ET : Hid (maxL L = T) := hT
  rw [hT] at hmax ⊢
  clear hB hpos hT
  go_enter Try.func18, Try.ntmps18
  go_wp2
  go_loopw [3, 13] (fun sv iv wr => ∃ i s : Nat, i ≤ L.length ∧ iv = .int .i64 (i : Nat) ∧ sv = .int .i64 (s : Nat) ∧ s = maxL (L.take i) ∧ Below w.heap.size w wr) (fun _ iv _ => L.length - (intOf iv).toNat)
  case atStart => exact ⟨0, 0, Nat.zero_le _, rfl, rfl, by simp [maxL], B0.out⟩
  case round =>
    obtain ⟨i, s, hi, rfl, rfl, hs, hb⟩ := hrel
    rename World => wr
    have BB : Hid (Below w.heap.size w wr) := hb
    have HS : Hid (s = maxL (L.take i)) := hs
    have hsl : s ≤ T := by
      have := maxL_append (L.take i) (L.drop i)
      rw [List.take_append_drop, ET.out] at this
      omega
    by_cases hlt : i < L.length
    · obtain ⟨g, rfl, _, hgl, d0, d1⟩ := (HB.out.keep hb).run hlt
      obtain ⟨x, hx⟩ : ∃ x, L[i] = x := ⟨_, rfl⟩
      have hxb := HP.out L[i] (List.getElem_mem hlt)
      have EX : Hid (L[i] = x) := hx
      rw [hx] at d0 d1 hxb
      obtain ⟨x1, x2⟩ := x
      simp only at d0 d1 hxb
      have hlt' : (i : Int) < (L.length : Int) := by omega
      have NX : Hid (max s x2 = maxL (L.take (i + 1))) := by show _ = _; rw [List.take_succ_eq_append_getElem hlt, maxL_snoc, EX.out, HS.out]
      clear hb hs hx
      rcases Nat.lt_trichotomy s x2 with h1 | rfl | h1
      · have NE : Hid (x2 = maxL (L.take (i + 1))) := by show _ = _; rw [← NX.out]; omega
        have h1' : (s : Int) < (x2 : Int) := by omega
        clear NX
        go_wp2
        go_roundw
        case rel => exact ⟨i + 1, x2, by omega, by go_num, by go_num, NE.out, BB.out.alloc BB.out.size _⟩
        case measure => simp [intOf]; omega
      · have NE : Hid (s = maxL (L.take (i + 1))) := by show _ = _; rw [← NX.out]; omega
        clear NX
        go_wp2
        go_roundw
        case rel => exact ⟨i + 1, s, by omega, by go_num, by go_num, NE.out, BB.out.alloc BB.out.size _⟩
        case measure => simp [intOf]; omega
      · have NE : Hid (s = maxL (L.take (i + 1))) := by show _ = _; rw [← NX.out]; omega
        have h1' : (x2 : Int) < (s : Int) := by omega
        clear NX
        go_wp2
        go_roundw
        case rel => exact ⟨i + 1, s, by omega, by go_num, by go_num, NE.out, BB.out.alloc BB.out.size _⟩
        case measure => simp [intOf]; omega
    · obtain rfl : i = L.length := by omega
      have e : s = T := by rw [hs, List.take_length]; exact ET.out
      subst e
      clear hb hs
      go_wp2
      go_ret
      exact ⟨rfl, BB.out⟩
end Go.Proofs.Ytdpkmlkckhhcgaa
