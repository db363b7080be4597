/- What first, Decode and Split answer. -/
import Derived.Test.YtjmbmicollkmkaaFrE
import Derived.Deep.RegionHeld3
namespace Go.Proofs.Ytjmbmicollkmkaa
open Go.RowKit
set_option linter.unusedVariables false

/-- A frame as a value. -/
def frV (k : Int) (a : Option Addr) (n cap : Nat) : Value := .agg #[.int .i64 k, .slice a n cap]

theorem body_part {l : List Int} {M : Nat} (h : extL l = M + 4) : bodyL l = (l.drop 3).take (M - 3) := by
  rw [bodyL, h, Nat.add_sub_cancel, List.drop_take]

theorem cell_set {w : World} {g j : Nat} {u v : Value} (h : w.cell? ⟨g, j, none⟩ = some u) : (w.setCell ⟨g, j, none⟩ v).cell? ⟨g, j, none⟩ = some v := by
  simp only [World.cell?, World.setCell, Array.getElem?_modify] at h ⊢
  split at h
  · rename_i c t fr hh
    simp at h
    have hj : j < c.size := by
      have := h
      exact (Array.getElem?_eq_some_iff.1 this).1
    simp [hh, hj]
  · cases h

theorem cell_else {w : World} {g j k : Nat} {v : Value} (h : k ≠ j) : (w.setCell ⟨g, j, none⟩ v).cell? ⟨g, k, none⟩ = w.cell? ⟨g, k, none⟩ := by
  simp only [World.cell?, World.setCell, Array.getElem?_modify]
  rcases hh : w.heap[g]? with _ | o
  · simp
  · rcases o with ⟨c, t, fr⟩ | _ <;> simp [Ne.symm h]

theorem frozen_set {w : World} {g j k : Nat} {v : Value} : (w.setCell ⟨g, j, none⟩ v).frozen? ⟨g, k, none⟩ = w.frozen? ⟨g, k, none⟩ := by
  simp only [World.frozen?, World.setCell, Array.getElem?_modify]
  rcases hh : w.heap[g]? with _ | o
  · simp
  · rcases o with ⟨c, t, fr⟩ | _ <;> simp

/-- A frame is stored into its variable. -/
def laid (w : World) (g : Nat) (k : Int) (v : Value) : World := (w.setCell ⟨g, 0, none⟩ (.int .i64 k)).setCell ⟨g, 1, none⟩ v

theorem laid0 {w : World} {g : Nat} {k : Int} {v u : Value} (h : w.cell? ⟨g, 0, none⟩ = some u) : (laid w g k v).cell? ⟨g, 0, none⟩ = some (.int .i64 k) := by
  rw [laid, cell_else (by decide), cell_set h]
theorem laid1 {w : World} {g : Nat} {k : Int} {v u : Value} (h : w.cell? ⟨g, 1, none⟩ = some u) : (laid w g k v).cell? ⟨g, 1, none⟩ = some v := by
  rw [laid, cell_set (u := u)]
  rw [cell_else (by decide)]; exact h
theorem laid_below {w w' : World} {g B : Nat} {k : Int} {v : Value} (h : Below B w w') (hB : B ≤ g) : Below B w (laid w' g k v) := (h.setCell hB _).setCell hB _
theorem laid_owns {w : World} {g base cap : Nat} {k : Int} {v : Value} {a : Option Addr} {l : List Int} (h : OwnsB w base a l cap) (hg : g < base) : OwnsB (laid w g k v) base a l cap :=
  ownsRow_setCell_below (ownsRow_setCell_below h (a := ⟨g, 0, none⟩) hg _) (a := ⟨g, 1, none⟩) hg _

set_option maxHeartbeats 1000000 in
theorem first_any (a : Option Addr) (cap n : Nat) (l : List Int) (w : World) (hn : n = l.length) (h : IsB w a l) (hc : l.length ≤ cap) (hm : cap ≤ maxLen) (he : extL l ≤ l.length) :
    Calls Try.prog 24 #[.slice a n cap] w fun e w' => ∃ a' cap', e = .returned (frV (l.getD 0 0) a' (bodyL l).length cap') ∧ OwnsB w' w.heap.size a' (bodyL l) cap' ∧ Below w.heap.size w w' := by
  subst hn
  have H : Hid (IsB w a l) := h
  have HM : Hid (cap ≤ maxLen) := hm
  have hge := extL_ge l
  have hle := extL_le h.1
  have hb : AllB l := h.1
  obtain ⟨_, rfl | ⟨b, off, rfl, hs, hcell⟩⟩ := h
  · simp at he; omega
  obtain ⟨M, hM⟩ : ∃ M, extL l = M + 4 := ⟨extL l - 4, by omega⟩
  rw [hM] at he hge hle
  have HM4 : Hid (extL l = M + 4) := hM
  have hB := body_part hM
  have hc0 := hcell 0 (by omega)
  obtain ⟨y, hy⟩ : ∃ y, l.getD 0 0 = y := ⟨_, rfl⟩
  rw [hy, Nat.add_zero] at hc0
  have hyb := hb.at 0
  rw [hy] at hyb
  rw [hy, hB]
  have hL : ((l.drop 3).take (M - 3)).length = M - 3 := by rw [List.length_take, List.length_drop]; omega
  have I1 : Hid (IsB w (some ⟨b, off + 3, none⟩) ((l.drop 3).take (M - 3))) := IsB.part H.out 3 (M - 3)
  generalize (l.drop 3).take (M - 3) = X at *
  have HL : Hid (X.length = M - 3) := hL
  unfold maxLen at hm
  have hc1 : (w.alloc (.cells #[.int .i64 0, .slice none 0 0] 29)).cell? ⟨b, off, none⟩ = some (.int .u8 y) := Lib.cell?_alloc_some _ hc0
  have B1 : Hid (Below w.heap.size w (w.alloc (.cells #[.int .i64 0, .slice none 0 0] 29))) := (Below.refl _ w).alloc (Nat.le_refl _) _
  clear hM hB hcell hL hb
  have g1 : (0 : Int) < (l.length : Int) := by omega
  have g2 : 0 < l.length := by omega
  have g3 : (3 : Int) ≤ (M : Int) := by omega
  have g4 : (M : Int) ≤ (cap : Int) := by omega
  have g5 : IntKind.i64.wrap (((M + 4 : Nat) : Int) - 4) = (M : Int) := by rw [IntKind.wrap_i64]; omega
  have g6 : IntKind.i64.wrap ((M : Int) + 4 - 4) = (M : Int) := by rw [IntKind.wrap_i64]; omega
  have g7 : 3 ≤ M := by omega
  have g8 : M ≤ cap := by omega
  have g9 : (0 : Int) ≤ (M : Int) := by omega
  have hnew := World.new_ne w ⟨b, off, none⟩ hc0
  have g11 : ¬ cap = 3 := by omega
  have g10 : IntKind.i64.wrap (M : Int) = (M : Int) := by rw [IntKind.wrap_i64]; omega
  have g12 : IntKind.i64.wrap y = y := by rw [IntKind.wrap_i64]; omega
  go_enter Try.func24, Try.ntmps24
  go_wp2_with fail
  go_region_held3 (fun w' => w'.cell? ⟨b, off, none⟩ = some (.int .u8 y)) (first | assumption | go_keep) (first
    | (go_at_call 28; refine (extent_any _ cap _ l _ rfl ?_ hc HM.out).mono ?_; exact (H.out.keep B1.out).drewN 1; rintro e w' ⟨⟨E, rfl, hE1, hE2, HE⟩, rfl⟩; obtain rfl : E = M + 4 := HE.out.trans HM4.out)
    | (go_at_call 27; refine (clone_any _ _ _ X _ ?_ ?_ ?_ ?_).mono ?_; exact HL.out.symm; exact (I1.out.keep B1.out).drewN 1; exact (by have := HL.out; omega); exact (fun h => by cases h); rintro e w2 ⟨a2, c2, rfl, o2, b2⟩; have hx2 : w2.cell? ⟨b, off, none⟩ = some (.int .u8 y) := (b2.cell (p := ⟨b, off, none⟩) (by simp; omega)).trans hc1; have hr0 : w2.cell? ⟨w.heap.size, 0, none⟩ = some (.int .i64 0) := (b2.cell (p := ⟨w.heap.size, 0, none⟩) (by simp)).trans (by simp); have hr1 : w2.cell? ⟨w.heap.size, 1, none⟩ = some (.slice none 0 0) := (b2.cell (p := ⟨w.heap.size, 1, none⟩) (by simp)).trans (by simp); have hz0 : w2.frozen? ⟨w.heap.size, 0, none⟩ = false := (b2.frozen (p := ⟨w.heap.size, 0, none⟩) (by simp)).trans (by simp); have hz1 : w2.frozen? ⟨w.heap.size, 1, none⟩ = false := (b2.frozen (p := ⟨w.heap.size, 1, none⟩) (by simp)).trans (by simp)))
  have q0 := laid0 (k := y) (v := .slice a2 X.length c2) hr0
  have q1 := laid1 (k := y) (v := .slice a2 X.length c2) hr1
  have O3 : Hid (OwnsB (laid w2 w.heap.size y (.slice a2 X.length c2)) w.heap.size a2 X c2) := (laid_owns o2 (by simp)).mono (by simp)
  have B3 : Hid (Below w.heap.size w (laid w2 w.heap.size y (.slice a2 X.length c2))) := laid_below (B1.out.trans ((below_drewN (Below.refl _ _) 1).trans (b2.mono (by simp)))) (Nat.le_refl _)
  unfold laid at q0 q1
  go_wp2
  refine bodyPost_ret (v := frV y a2 X.length c2) (by simp [results, Try.results24, go_sem, q0, q1, frV]) rfl ⟨a2, c2, rfl, O3.out, B3.out⟩
end Go.Proofs.Ytjmbmicollkmkaa
