/- Layer 17: SetR again -/
import Derived.Test.YtbfamjnnlcopiaaDoorGtD
import Derived.Test.YtbfamjnnlcopiaaDoorGtE
import Derived.Test.YtbfamjnnlcopiaaDoorAuB
import Derived.Test.YtbfamjnnlcopiaaDoorMhA
import Derived.RegionTactic
namespace Go.Proofs.YtbfamjnnlcopiaaDoor
open Go.RowKit
set_option linter.unusedVariables false
set_option maxRecDepth 4000
/-- The document's set of n places in the block b, its places in the block g; f says which are in. -/
structure RefAt (w : World) (b g n : Nat) (f : Nat → Bool) : Prop where
  ins : w.cell? ⟨b, 0, none⟩ = some (.slice (some ⟨g, 0, none⟩) n n)
  cell : ∀ j, j < n → w.cell? ⟨g, j, none⟩ = some (.bool (f j))
  thawed : ∀ j, w.frozen? ⟨g, j, none⟩ = false
  few : n ≤ 65536
  within : ∀ i, f i = true → i < n
  hb : b < w.heap.size
  hg : g < w.heap.size
  apart : b ≠ g

theorem RefAt.keep {w w' : World} {b g n B : Nat} {f : Nat → Bool} (h : RefAt w b g n f) (hb : Below B w w') (h1 : b < B) (h2 : g < B) : RefAt w' b g n f where
  ins := by rw [hb.cell (p := ⟨b, 0, none⟩) h1]; exact h.ins
  cell := fun j hj => by rw [hb.cell (p := ⟨g, j, none⟩) h2]; exact h.cell j hj
  thawed := fun j => by rw [hb.frozen (p := ⟨g, j, none⟩) h2]; exact h.thawed j
  few := h.few
  within := h.within
  hb := by have := hb.size; have := h.hb; omega
  hg := by have := hb.size; have := h.hg; omega
  apart := h.apart

theorem RefAt.keepAll {w w' : World} {b g n : Nat} {f : Nat → Bool} (h : RefAt w b g n f) (hb : Below w.heap.size w w') : RefAt w' b g n f := h.keep hb h.hb h.hg

theorem RefAt.beside {w w' : World} {b g n o : Nat} {f : Nat → Bool} (h : RefAt w b g n f) (ho : Only o w w') (h1 : b ≠ o) (h2 : g ≠ o) : RefAt w' b g n f where
  ins := by rw [ho.cell (p := ⟨b, 0, none⟩) h1]; exact h.ins
  cell := fun j hj => by rw [ho.cell (p := ⟨g, j, none⟩) h2]; exact h.cell j hj
  thawed := fun j => by rw [ho.frozen (p := ⟨g, j, none⟩) h2]; exact h.thawed j
  few := h.few
  within := h.within
  hb := by have := ho.size; have := h.hb; omega
  hg := by have := ho.size; have := h.hg; omega
  apart := h.apart

theorem RefAt.congr {w : World} {b g n : Nat} {f f' : Nat → Bool} (h : RefAt w b g n f) (e : ∀ i, f i = f' i) : RefAt w b g n f' := by
  have : f = f' := funext e
  exact this ▸ h

theorem RefAt.stored {w : World} {b g n i : Nat} {f : Nat → Bool} (c : Bool) (h : RefAt w b g n f) (hi : i < n) : RefAt (w.setCell ⟨g, i, none⟩ (.bool c)) b g n (put f i c) where
  ins := by rw [(Only.set g i _ w).cell (p := ⟨b, 0, none⟩) h.apart]; exact h.ins
  cell := fun k hk => by
    by_cases e : k = i
    · subst e; rw [cell_set (h.cell k hk), put, if_pos rfl]
    · rw [cell_else e, put, if_neg e]; exact h.cell k hk
  thawed := fun k => by rw [frozen_set]; exact h.thawed k
  few := h.few
  within := put_within h.within hi
  hb := by simpa using h.hb
  hg := by simpa using h.hg
  apart := h.apart

theorem make_bools (c : Nat) (hc : c ≤ 65536) (w : World) : (Instr.makeSlice 105 (.int .i64 (c : Int)) (.int .i64 (c : Int))).run Tryd.prog w = .ok (.slice (some ⟨w.heap.size, 0, none⟩) c c) (w.alloc (.cells (madeCells #[.bool false] c) 4)) :=
  run_make_row' (P := Tryd.prog) 105 4 (.bool false) 1 Tryd.underlying105 Tryd.info4 rfl .i64 .i64 c (by omega) (by omega) w

end Go.Proofs.YtbfamjnnlcopiaaDoor

/- Layer 17: SetS again -/
namespace Go.Proofs.YtbfamjnnlcopiaaDoor
open Go.RowKit
set_option linter.unusedVariables false
set_option maxRecDepth 4000
theorem bysL_snoc (f : Nat → Bool) (m : Nat) : bysL f (m + 1) = bysL f m ++ [((byt f m : Nat) : Int)] := by
  simp [bysL, List.range_succ]

/-- Eight bits a byte, as far as there are places. -/
theorem byt_short (f : Nat → Bool) (j t n : Nat) (h : ∀ i, f i = true → i < n) (hn : n ≤ 8 * j + t) : numOf (fun k => f (8 * j + k)) t = byt f j ∨ 8 < t := by
  by_cases h8 : 8 < t
  · exact .inr h8
  · left
    refine eq_numOf (Nat.lt_of_lt_of_le (numOf_lt _ t) (Nat.pow_le_pow_right (by decide) (by omega))) fun k hk => ?_
    rw [numOf_bit]
    by_cases hkt : k < t
    · simp [hkt]
    · have : f (8 * j + k) ≠ true := fun e => by have := h _ e; omega
      simp [hkt, this]

end Go.Proofs.YtbfamjnnlcopiaaDoor
