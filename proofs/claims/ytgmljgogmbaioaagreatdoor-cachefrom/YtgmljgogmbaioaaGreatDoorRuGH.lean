/- Small calls of layer 7: check, Len, Has, Left, Most; nil ones. -/
import Derived.Test.YtgmljgogmbaioaaGreatDoorRuAF
namespace Go.Proofs.YtgmljgogmbaioaaGreatDoor
open Go.RowKit
set_option linter.unusedVariables false
set_option maxRecDepth 4000


/-- Units of which these are taken, in blocks of the set S. -/
def IsR (w : World) (S : Nat → Prop) (b n : Nat) (f : Nat → Bool) : Prop := At w S b n (freeL f n)
/-- Not all of these units are there. -/
def badE (n : Nat) (x k : Int) : Prop := k < 1 ∨ x < 0 ∨ (n : Int) < x + k
theorem check_bad (S : Nat → Prop) (b n : Nat) (f : Nat → Bool) (x k : Int) (w : World) (h : IsR w S b n f) (hn : n ≤ 65536) (hx : -9223372036854775808 ≤ x ∧ x ≤ 9223372036854775807) (hk : -9223372036854775808 ≤ k ∧ k ≤ 9223372036854775807) (hbad : badE n x k) :
    Calls Tryz.prog 107 #[.pointer (some ⟨b, 0, none⟩), .int .i64 x, .int .i64 k] w fun e w' => e = .returned (.int .i64 2) ∧ w = w' := by
  obtain ⟨a, cap, hB⟩ := h
  have c0 := hB.cell0
  clear hB
  by_cases h1 : k < 1
  · clear hbad
    go_enter Tryz.func107, Tryz.ntmps107
    go_wp2
    go_ret
    exact ⟨rfl, rfl⟩
  · by_cases h2 : x < 0
    · clear hbad
      go_enter Tryz.func107, Tryz.ntmps107
      go_wp2
      go_ret
      exact ⟨rfl, rfl⟩
    · have h3 : (n : Int) - k < x := by rcases hbad with h | h | h <;> omega
      clear hbad
      go_enter Tryz.func107, Tryz.ntmps107
      go_wp2
      go_ret
      exact ⟨rfl, rfl⟩
theorem check_ok (S : Nat → Prop) (b n : Nat) (f : Nat → Bool) (x k : Nat) (w : World) (h : IsR w S b n f) (hn : n ≤ 65536) (hk : 1 ≤ k) (hxk : x + k ≤ n) :
    Calls Tryz.prog 107 #[.pointer (some ⟨b, 0, none⟩), .int .i64 (x : Nat), .int .i64 (k : Nat)] w fun e w' => e = .returned (.int .i64 0) ∧ w = w' := by
  obtain ⟨a, cap, hB⟩ := h
  have c0 := hB.cell0
  have h1 : ¬ ((k : Int) < 1) := by omega
  have h2 : ¬ ((x : Int) < 0) := by omega
  have h3 : ¬ ((n : Int) - (k : Int) < (x : Int)) := by omega
  clear hB
  go_enter Tryz.func107, Tryz.ntmps107
  go_wp2
  go_ret
  exact ⟨rfl, rfl⟩
theorem check_nil (x k : Int) (w : World) :
    Calls Tryz.prog 107 #[.pointer none, .int .i64 x, .int .i64 k] w fun e w' => e = .returned (.int .i64 1) ∧ w = w' := by
  go_enter Tryz.func107, Tryz.ntmps107
  go_wp2
  go_ret
  exact ⟨rfl, rfl⟩
/-- The i-th free run in memory. -/
theorem Box.run {w : World} {S : Nat → Prop} {b : Nat} {a : Option Addr} {cap n : Nat} {L : List (Nat × Nat)} (h : Box w S b a cap n L) {i : Nat} (hi : i < L.length) :
    ∃ g, a = some ⟨g, 0, none⟩ ∧ S g ∧ g < w.heap.size ∧ w.cell? ⟨g, i * 2, none⟩ = some (.int .i64 (L[i].1 : Nat)) ∧ w.cell? ⟨g, i * 2 + 1, none⟩ = some (.int .i64 (L[i].2 : Nat)) := by
  obtain ⟨_, ⟨_, e, _⟩ | ⟨g, xs, e, hs, hr, hl, ht⟩⟩ := h.row
  · rw [e] at hi; simp at hi
  · have hkx : i < xs.length := by have := congrArg List.length ht; simp at this; omega
    have ex : xs[i] = L[i] := by
      have : L[i]? = xs[i]? := by rw [← ht, List.getElem?_take, if_pos hi]
      rw [List.getElem?_eq_getElem hi, List.getElem?_eq_getElem hkx] at this
      exact (Option.some.inj this).symm
    have c0 := hr.cell0 i hkx
    have c1 := hr.cell1 i hkx
    rw [ex] at c0 c1
    exact ⟨g, e, hs, hr.lt, c0, c1⟩
end Go.Proofs.YtgmljgogmbaioaaGreatDoor

/- What Left and Most answer. -/
namespace Go.Proofs.YtgmljgogmbaioaaGreatDoor
open Go.RowKit
set_option linter.unusedVariables false
set_option maxRecDepth 4000


theorem IsR.keep {w w' : World} {S : Nat → Prop} {b n : Nat} {f : Nat → Bool} (h : IsR w S b n f) (hb : Below w.heap.size w w') : IsR w' S b n f := At.keep h hb
theorem IsR.same {w w' : World} {S : Nat → Prop} {b n : Nat} {f : Nat → Bool} (h : IsR w S b n f) (he : ∀ (i : Nat) (o : Obj), w.heap[i]? = some o → S i → w'.heap[i]? = some o) : IsR w' S b n f := At.same h he
theorem IsR.mono {w : World} {S T : Nat → Prop} {b n : Nat} {f : Nat → Bool} (h : IsR w S b n f) (he : ∀ i, i < w.heap.size → S i → T i) : IsR w T b n f := At.mono h he
theorem IsR.drewN {w : World} {S : Nat → Prop} {b n : Nat} {f : Nat → Bool} (h : IsR w S b n f) (m : Nat) : IsR (w.drewN m) S b n f := At.drewN h m
theorem IsR.drew {w : World} {S : Nat → Prop} {b n : Nat} {f : Nat → Bool} (h : IsR w S b n f) : IsR w.drew S b n f := At.drew h
theorem IsR.lt {w : World} {S : Nat → Prop} {b n : Nat} {f : Nat → Bool} (h : IsR w S b n f) : b < w.heap.size ∧ S b := by obtain ⟨a, cap, h⟩ := h; exact ⟨h.lt, h.sb⟩
theorem maxL_le {n : Nat} {f : Nat → Bool} {L : List (Nat × Nat)} (h : FL n f L) : maxL L ≤ n := by
  rcases maxL_in L with e | ⟨r, hr, e⟩
  · omega
  · have := h.pos r hr; omega
set_option maxHeartbeats 1000000 in
theorem left_any (S : Nat → Prop) (b n : Nat) (f : Nat → Bool) (w : World) (h : IsR w S b n f) (hn : n ≤ 65536) :
    Calls Tryz.prog 72 #[.pointer (some ⟨b, 0, none⟩)] w fun e w' => e = .returned (.int .i64 (sumL (freeL f n) : Nat)) ∧ Below w.heap.size w w' := by
  have hsum := (freeL_FL f n).sum_le
  have hll := freeL_len f n
  have hpos := (freeL_FL f n).pos
  unfold IsR at h
  obtain ⟨L, hL⟩ : ∃ L, freeL f n = L := ⟨_, rfl⟩
  rw [hL] at h hsum hll hpos ⊢
  clear hL
  have HP : Hid (∀ r ∈ L, 1 ≤ r.2 ∧ r.1 + r.2 ≤ n) := hpos
  obtain ⟨a, cap, hB⟩ := h
  have HB : Hid (Box w S b a cap n L) := hB
  have c1 := hB.cell1
  have B0 : Hid (Below w.heap.size w w) := Below.refl _ _
  obtain ⟨T, hT⟩ : ∃ T, sumL L = T := ⟨_, rfl⟩
  have ET : Hid (sumL L = T) := hT
  rw [hT] at hsum ⊢
  clear hB hpos hT
  go_enter Tryz.func72, Tryz.ntmps72
  go_wp2
  go_loopw [3, 13] (fun sv iv wr => ∃ i s : Nat, i ≤ L.length ∧ iv = .int .i64 (i : Nat) ∧ sv = .int .i64 (s : Nat) ∧ s = sumL (L.take i) ∧ Below w.heap.size w wr) (fun _ iv _ => L.length - (intOf iv).toNat)
  case atStart => exact ⟨0, 0, Nat.zero_le _, rfl, rfl, by simp [sumL], B0.out⟩
  case round =>
    obtain ⟨i, s, hi, rfl, rfl, hs, hb⟩ := hrel
    rename World => wr
    have BB : Hid (Below w.heap.size w wr) := hb
    have HS : Hid (s = sumL (L.take i)) := hs
    have hsl : s ≤ T := by
      have := sumL_append (L.take i) (L.drop i)
      rw [List.take_append_drop, ET.out] at this
      omega
    by_cases hlt : i < L.length
    · obtain ⟨g, rfl, _, hgl, d0, d1⟩ := (HB.out.keep hb).run hlt
      obtain ⟨x, hx⟩ : ∃ x, L[i] = x := ⟨_, rfl⟩
      have hxb := HP.out L[i] (List.getElem_mem hlt)
      have EX : Hid (L[i] = x) := hx
      rw [hx] at d0 d1 hxb
      obtain ⟨x1, x2⟩ := x
      simp only at d0 d1 hxb
      have hlt' : (i : Int) < (L.length : Int) := by omega
      clear hb hs hx
      go_wp2
      go_roundw
      case rel =>
        refine ⟨i + 1, s + x2, by omega, by go_num, by go_num, ?_, BB.out.alloc BB.out.size _⟩
        rw [List.take_succ_eq_append_getElem hlt, sumL_snoc, EX.out, HS.out]
      case measure => simp [intOf]; omega
    · obtain rfl : i = L.length := by omega
      have e : s = T := by rw [hs, List.take_length]; exact ET.out
      subst e
      clear hb hs
      go_wp2
      go_ret
      exact ⟨rfl, BB.out⟩
end Go.Proofs.YtgmljgogmbaioaaGreatDoor
