/- What the laws over the code's table alone stand on. -/
import Derived.Test.YtjdgildeilcfiaaHdL
namespace Go.Proofs.Ytjdgildeilcfiaa
open Go.RowKit
set_option linter.unusedVariables false

/-- A handle that was dropped. -/
def Gone (L : List Rw) (h : Nat) : Prop := ∃ (i : Nat) (r : Rw), L[i]? = some r ∧ h % 65536 = i + 1 ∧ (((h / 65536 : Nat) : Int) < r.gen ∨ (r.gen = (h / 65536 : Nat) ∧ r.live = false))
theorem Gone.no {L : List Rw} {h : Nat} (g : Gone L h) : ¬ ∃ i, LvAt L h i := by
  rintro ⟨j, r', e', l', g', h'⟩
  obtain ⟨i, r, e, hi, k⟩ := g
  obtain rfl : i = j := by omega
  rw [e] at e'
  cases e'
  rcases k with k | ⟨_, k⟩
  · omega
  · rw [l'] at k; cases k
theorem gone_of {L : List Rw} {h i : Nat} (k : LvAt L h i) : Gone (dropL L i) h := by
  have hl := k.lt
  have hg := k.gen
  obtain ⟨_, _, _, _, hi⟩ := k
  rw [dropL_eq hl]
  exact ⟨i, ⟨L[i].gen, false, 0, 0⟩, by simp [hl], hi, .inr ⟨hg, rfl⟩⟩
theorem Gone.make {n : Nat} {L : List Rw} {h : Nat} (hg : Gd n L) (hn : nxL L < n) (g : Gone L h) (k a : Int) : Gone (makeL L k a) h ∧ ofN ((nxL L : Nat) + 1) (makeG L) ≠ h := by
  obtain ⟨i, r, e, hi, q⟩ := g
  obtain ⟨hil, hr⟩ := List.getElem?_eq_some_iff.1 e
  have mi := makeG_in hg
  have n2 := hg.n2
  by_cases hx : i = nxL L
  · subst hx
    have hG : makeG L = r.gen + 1 := by unfold makeG; rw [dif_pos hil, hr]
    refine ⟨⟨nxL L, _, makeL_at L k a, hi, .inl ?_⟩, ?_⟩
    · show ((h / 65536 : Nat) : Int) < makeG L
      rcases q with q | ⟨q, _⟩ <;> omega
    · rw [of_in (by omega)]
      rcases q with q | ⟨q, _⟩ <;> omega
  · refine ⟨⟨i, r, by rw [makeL_ne k a hx hil]; exact e, hi, q⟩, ?_⟩
    rw [of_in (by omega)]
    omega
theorem Gone.drop {L : List Rw} {h j : Nat} (g : Gone L h) (hj : j < L.length) : Gone (dropL L j) h := by
  obtain ⟨i, r, e, hi, q⟩ := g
  obtain ⟨hil, hr⟩ := List.getElem?_eq_some_iff.1 e
  rw [dropL_eq hj]
  by_cases hx : i = j
  · subst hx
    refine ⟨i, ⟨L[i].gen, false, 0, 0⟩, by simp [hil], hi, ?_⟩
    rw [hr]
    rcases q with q | ⟨q, _⟩
    · exact .inl q
    · exact .inr ⟨q, rfl⟩
  · exact ⟨i, r, by rw [List.getElem?_set_ne (Ne.symm hx)]; exact e, hi, q⟩
/-- All rows live. -/
def AllV (L : List Rw) : Prop := ∀ r ∈ L, r.live = true
theorem AllV.nx {L : List Rw} (h : AllV L) : nxL L = L.length := nx_none (fun j hj => by
  have := h _ (List.getElem_mem hj)
  simp [canG, this])
theorem AllV.make {L : List Rw} (h : AllV L) (k a : Int) : AllV (makeL L k a) ∧ makeL L k a ≠ [] := by
  have e := h.nx
  unfold makeL
  rw [dif_neg (by omega)]
  refine ⟨fun r hr => ?_, by simp⟩
  simp at hr
  rcases hr with hr | rfl
  · exact h r hr
  · rfl
theorem AllV.live {L : List Rw} (h : AllV L) (e : (liveF 0 L).length = 0) : L = [] := by
  cases L with
  | nil => rfl
  | cons r l =>
    rw [liveF, if_pos (h r (by simp))] at e
    simp at e

/-- A table behind a part of a script. -/
structure On (w wr : World) (b : Nat) (a : Option Addr) (c n : Nat) (L : List Rw) : Prop where
  ct : Ct wr w.heap.size b a c n L
  bel : Below w.heap.size w wr
theorem On.keep {w wr w' : World} {b : Nat} {a : Option Addr} {c n : Nat} {L : List Rw} (h : On w wr b a c n L) (hb : Below wr.heap.size wr w') : On w w' b a c n L := ⟨h.ct.keep hb, h.bel.trans (hb.mono h.bel.size)⟩
theorem On.turn {w wr w' : World} {b : Nat} {a a' : Option Addr} {c c' n : Nat} {L L' : List Rw} (h : On w wr b a c n L) (hc : Ct w' w.heap.size b a' c' n L') (ht : Tu (Mine b a) wr w') : On w w' b a' c' n L' := ⟨hc, h.bel.trans (h.ct.below ht h.bel.size)⟩
theorem On.drew {w wr : World} {b : Nat} {a : Option Addr} {c n : Nat} {L : List Rw} (h : On w wr b a c n L) : On w wr.drew b a c n L := ⟨h.ct.drew, ⟨h.bel.os, h.bel.tape, h.bel.output, h.bel.size, h.bel.block⟩⟩
theorem On.drewN {w wr : World} {b : Nat} {a : Option Addr} {c n : Nat} {L : List Rw} (h : On w wr b a c n L) (m : Nat) : On w (wr.drewN m) b a c n L := ⟨h.ct.drewN m, ⟨h.bel.os, h.bel.tape, h.bel.output, h.bel.size, h.bel.block⟩⟩
/-- Make, whatever it answers. -/
theorem make_on (w wr : World) (b : Nat) (a : Option Addr) (c n : Nat) (L : List Rw) (kd pl : Int) (h : On w wr b a c n L) :
    Calls Try.prog 20 #[.pointer (some ⟨b, 0, none⟩), .int .i64 kd, .int .i64 pl] wr fun e w' => ∃ (N : Nat) (E : Int) (a' : Option Addr) (c' : Nat) (L' : List Rw), e = .returned (.tuple #[.int .u64 (N : Nat), .int .i64 E]) ∧ On w w' b a' c' n L' ∧ ((n ≤ nxL L ∧ N = 0 ∧ E = 7 ∧ L' = L) ∨ (nxL L < n ∧ N = ofN ((nxL L : Nat) + 1) (makeG L) ∧ E = 0 ∧ L' = makeL L kd pl)) := by
  by_cases hf : n ≤ nxL L
  · refine (make_full w.heap.size b a c n L kd pl wr h.ct hf).mono ?_
    rintro e w' ⟨rfl, hb⟩
    exact ⟨0, 7, a, c, L, rfl, h.keep hb, .inl ⟨hf, rfl, rfl, rfl⟩⟩
  · refine (make_any w.heap.size b a c n L kd pl wr h.ct h.bel.size (by omega)).mono ?_
    rintro e w' ⟨a', c', rfl, hc, ht, _⟩
    exact ⟨_, 0, a', c', _, rfl, h.turn hc ht, .inr ⟨by omega, rfl, rfl, rfl⟩⟩
/-- Drop of a live one. -/
theorem drop_on (w wr : World) (b : Nat) (a : Option Addr) (c n : Nat) (L : List Rw) (h i : Nat) (hO : On w wr b a c n L) (hh : h < 18446744073709551616) (hi : LvAt L h i) :
    Calls Try.prog 22 #[.pointer (some ⟨b, 0, none⟩), .int .u64 (h : Nat)] wr fun e w' => e = .returned (.int .i64 0) ∧ On w w' b a c n (dropL L i) ∧ Tu (Mine b a) wr w' := by
  refine (drop_ok w.heap.size b a c n L h i wr hO.ct hh hi).mono ?_
  rintro e w' ⟨rfl, hc, ht⟩
  exact ⟨rfl, hO.turn hc ht, ht⟩
/-- The j-th live handle. -/
theorem Ct.nth {w : World} {B b : Nat} {a : Option Addr} {c n : Nat} {L : List Rw} (h : Ct w B b a c n L) (j : Nat) (hj : j < (liveF 0 L).length) : ∃ i, LvAt L (liveF 0 L)[j] i ∧ (liveF 0 L)[j] < 18446744073709551616 := by
  obtain ⟨i, hi⟩ := (mem_live h.gd _).1 (List.getElem_mem hj)
  refine ⟨i, hi, ?_⟩
  have hr := (h.gd.at hi.lt).2.1
  have hg := hi.gen
  omega
theorem rem_small (X : Int) (W : Nat) (h : 1 ≤ W) (h8 : W ≤ 100000) : ∃ V : Nat, IntKind.i64.wrap ((IntKind.u64.wrap X).tmod (W : Int)) = (V : Int) ∧ V < W := by
  have hu : 0 ≤ IntKind.u64.wrap X := by rw [IntKind.wrap_u64]; exact Int.emod_nonneg _ (by decide)
  have h1 := Int.emod_nonneg (IntKind.u64.wrap X) (by omega : (W : Int) ≠ 0)
  have h2 := Int.emod_lt_of_pos (IntKind.u64.wrap X) (by omega : (0 : Int) < (W : Int))
  rw [Int.tmod_eq_emod_of_nonneg hu]
  refine ⟨(IntKind.u64.wrap X % (W : Int)).toNat, ?_, by omega⟩
  rw [IntKind.wrap_i64]
  omega
end Go.Proofs.Ytjdgildeilcfiaa
