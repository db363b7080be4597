/- Layer 17: SetE again -/
import Derived.Test.YtbfamjnnlcopiaaDoorAuB
import Derived.Test.YtbfamjnnlcopiaaDoorMhA
import Derived.RegionTactic
import Derived.ChangeAlike
import Derived.Deep.OwnRows
import Derived.OwnWalk
import Derived.Laws.AppendOwnNone
namespace Go.Proofs.YtbfamjnnlcopiaaDoor
open Go.RowKit
set_option linter.unusedVariables false
set_option maxRecDepth 4000
theorem parts8 (x : Int) (n : Nat) (w : World) (hx : x = n) (hn : n ≤ 65536) :
    Calls Tryd.prog 73 #[.int .i64 x, .int .i64 8] w fun r w' => ∃ c : Nat, r = .returned (.int .i64 c) ∧ c ≤ 8192 ∧ Hid (c = (n + 7) / 8) ∧ w = w' := by
  subst hx
  refine (sparts_any n 8 w hn (.inl rfl)).mono ?_
  rintro r w' ⟨rfl, rfl⟩
  exact ⟨_, rfl, by omega, rfl, rfl⟩

end Go.Proofs.YtbfamjnnlcopiaaDoor

/- Layer 17: SetF again -/
namespace Go.Proofs.YtbfamjnnlcopiaaDoor
open Go.RowKit
set_option linter.unusedVariables false
set_option maxRecDepth 4000
/-- The bytes of a set of n places. -/
def bysL (f : Nat → Bool) (m : Nat) : List Int := (List.range m).map (fun j => ((byt f j : Nat) : Int))

theorem bysL_len (f : Nat → Bool) (m : Nat) : (bysL f m).length = m := by simp [bysL]
theorem bysL_at (f : Nat → Bool) (m j : Nat) (h : j < m) : (bysL f m).getD j 0 = (byt f j : Nat) := by simp [bysL, List.getD, h]

/-- The first k bytes lie in the block o. -/
structure Filled (wr : World) (o m k : Nat) (f : Nat → Bool) : Prop where
  cell : ∀ j, j < m → wr.cell? ⟨o, j, none⟩ = some (.int .u8 (if j < k then (byt f j : Nat) else 0 : Nat))
  thawed : ∀ j, wr.frozen? ⟨o, j, none⟩ = false
  size : o < wr.heap.size

theorem Filled.more {wr : World} {o m k : Nat} {f : Nat → Bool} (h : Filled wr o m k f) (hk : k < m) : Filled (wr.setCell ⟨o, k, none⟩ (.int .u8 (byt f k : Nat))) o m (k + 1) f where
  cell := fun j hj => by
    by_cases e : j = k
    · subst e
      rw [cell_set (h.cell j hj), if_pos (by omega)]
    · rw [cell_else e, h.cell j hj]
      by_cases h' : j < k
      · rw [if_pos h', if_pos (by omega)]
      · rw [if_neg h', if_neg (by omega)]
  thawed := fun j => by rw [frozen_set]; exact h.thawed j
  size := by simpa using h.size

theorem Filled.isL {wr : World} {o m : Nat} {f : Nat → Bool} (h : Filled wr o m m f) : IsL wr .u8 (some ⟨o, 0, none⟩) (bysL f m) := by
  refine .inr ⟨o, 0, rfl, h.size, fun i hi => ?_⟩
  rw [bysL_len] at hi
  rw [Nat.zero_add, h.cell i hi, if_pos hi, bysL_at f m i hi]

theorem byte_int (f : Nat → Bool) (k : Nat) : ((wd f (k / 8) : Nat) : Int) / 2 ^ (k % 8 * 8) % 256 = (byt f k : Nat) := by
  have e : (((wd f (k / 8) : Nat) : Int) / 2 ^ (k % 8 * 8)) = ((wd f (k / 8) / 2 ^ (k % 8 * 8) : Nat) : Int) := by simp
  rw [e, ← byte_word f k]
  omega

set_option maxHeartbeats 1000000 in
theorem sbytes_any (b g n : Nat) (f : Nat → Bool) (w : World) (hS : SetAt w b g n f) :
    Calls Tryd.prog 55 #[.pointer (some ⟨b, 0, none⟩)] w fun e w' => e = .returned (.slice (some ⟨w.heap.size, 0, none⟩) ((n + 7) / 8) ((n + 7) / 8)) ∧ Filled w' w.heap.size ((n + 7) / 8) ((n + 7) / 8) f ∧ Below w.heap.size w w' := by
  have few := hS.few
  have hl := hS.len
  have HS : Hid (SetAt w b g n f) := hS
  have hmk := fun c : Nat => fun hc : c ≤ 8192 => run_make_row' (P := Tryd.prog) 25 5 (.int .u8 0) 1 Tryd.underlying25 Tryd.info5 rfl .i64 .i64 c (by omega) (by omega)
  have HM : Hid (∀ c : Nat, c ≤ 8192 → ∀ w : World, (Instr.makeSlice 25 (.int .i64 (c : Int)) (.int .i64 (c : Int))).run Tryd.prog w = .ok (.slice (some ⟨w.heap.size, 0, none⟩) c c) (w.alloc (.cells (madeCells #[.int .u8 0] c) 5))) := hmk
  clear hmk hS
  obtain ⟨c, hcn⟩ : ∃ c : Nat, (n + 7) / 8 = c := ⟨_, rfl⟩
  have HN : Hid ((n + 7) / 8 = c) := hcn
  rw [hcn]
  clear hcn
  go_enter Tryd.func55, Tryd.ntmps55
  go_wp2_with (first | (go_at_call 77; refine (slen_any b n _ hl).mono ?_; rintro e w' ⟨rfl, rfl⟩) | (go_at_call 73; refine (parts8 _ n _ rfl few).mono ?_; rintro e w' ⟨c', rfl, hc, HC, rfl⟩; obtain rfl : c = c' := HN.out.symm.trans HC.out.symm; have hmk := HM.out c hc))
  go_loopw [11] (fun iv wr => ∃ k : Nat, k ≤ c ∧ iv = .int .i64 k ∧ Filled wr w.heap.size c k f ∧ Below w.heap.size w wr) (fun iv _ => c - (intOf iv).toNat)
  case atStart =>
    refine ⟨0, Nat.zero_le _, rfl, ⟨fun j hj => ?_, fun j => ?_, by simp⟩, (Below.refl _ w).alloc (Nat.le_refl _) _⟩
    · rw [World.cell?_alloc_at _ _ _ _ rfl, made_cell _ _ _ hj]; rfl
    · rw [World.frozen?_alloc_at _ _ _ _ rfl]
  case round =>
    obtain ⟨k, hk, rfl, hF, hB⟩ := hrel
    have HF : Hid (Filled _ w.heap.size c k f) := hF
    have HB : Hid (Below w.heap.size w _) := hB
    by_cases hlt : k < c
    · have hS2 := HS.out.keepAll hB
      have hcn := HN.out
      have hs := hS2.words
      have hj : k / 8 < (n + 63) / 64 := by omega
      have hw := hS2.word (k / 8) hj
      have hcell := hF.cell k hlt
      rw [if_neg (Nat.lt_irrefl k)] at hcell
      have hz := hF.thawed k
      have hwl := wd_lt f (k / 8)
      have HY : Hid (((wd f (k / 8) : Nat) : Int) / 2 ^ (k % 8 * 8) % 256 = (byt f k : Nat)) := byte_int f k
      clear hS2 hF hB hcn
      go_wp2
      go_roundw
      case rel =>
        refine ⟨k + 1, by omega, by go_num, ?_, ?_⟩
        · rw [HY.out]; exact HF.out.more hlt
        · exact HB.out.setCell (Nat.le_refl _) _
      case measure => simp [intOf]; omega
    · obtain rfl : k = c := by omega
      clear hF hB
      go_wp2
      go_ret
      exact ⟨rfl, HF.out, HB.out⟩
end Go.Proofs.YtbfamjnnlcopiaaDoor
