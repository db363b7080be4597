/- The document's set: what its New, Put, Next, List and Bytes answer. -/
import Derived.Test.YtnolbcbcboeaoaaDoorSetG
import Derived.RegionTactic
namespace Go.Proofs.YtnolbcbcboeaoaaDoor
open Go.RowKit
set_option linter.unusedVariables false

/-- The document's set of n places in the block b, its places in the block g; f says which are in. -/
structure RefAt (w : World) (b g n : Nat) (f : Nat → Bool) : Prop where
  ins : w.cell? ⟨b, 0, none⟩ = some (.slice (some ⟨g, 0, none⟩) n n)
  cell : ∀ j, j < n → w.cell? ⟨g, j, none⟩ = some (.bool (f j))
  thawed : ∀ j, w.frozen? ⟨g, j, none⟩ = false
  few : n ≤ 65536
  within : ∀ i, f i = true → i < n
  hb : b < w.heap.size
  hg : g < w.heap.size
  apart : b ≠ g

theorem RefAt.keep {w w' : World} {b g n B : Nat} {f : Nat → Bool} (h : RefAt w b g n f) (hb : Below B w w') (h1 : b < B) (h2 : g < B) : RefAt w' b g n f where
  ins := by rw [hb.cell (p := ⟨b, 0, none⟩) h1]; exact h.ins
  cell := fun j hj => by rw [hb.cell (p := ⟨g, j, none⟩) h2]; exact h.cell j hj
  thawed := fun j => by rw [hb.frozen (p := ⟨g, j, none⟩) h2]; exact h.thawed j
  few := h.few
  within := h.within
  hb := by have := hb.size; have := h.hb; omega
  hg := by have := hb.size; have := h.hg; omega
  apart := h.apart

theorem RefAt.keepAll {w w' : World} {b g n : Nat} {f : Nat → Bool} (h : RefAt w b g n f) (hb : Below w.heap.size w w') : RefAt w' b g n f := h.keep hb h.hb h.hg

theorem RefAt.beside {w w' : World} {b g n o : Nat} {f : Nat → Bool} (h : RefAt w b g n f) (ho : Only o w w') (h1 : b ≠ o) (h2 : g ≠ o) : RefAt w' b g n f where
  ins := by rw [ho.cell (p := ⟨b, 0, none⟩) h1]; exact h.ins
  cell := fun j hj => by rw [ho.cell (p := ⟨g, j, none⟩) h2]; exact h.cell j hj
  thawed := fun j => by rw [ho.frozen (p := ⟨g, j, none⟩) h2]; exact h.thawed j
  few := h.few
  within := h.within
  hb := by have := ho.size; have := h.hb; omega
  hg := by have := ho.size; have := h.hg; omega
  apart := h.apart

theorem RefAt.congr {w : World} {b g n : Nat} {f f' : Nat → Bool} (h : RefAt w b g n f) (e : ∀ i, f i = f' i) : RefAt w b g n f' := by
  have : f = f' := funext e
  exact this ▸ h

theorem RefAt.stored {w : World} {b g n i : Nat} {f : Nat → Bool} (c : Bool) (h : RefAt w b g n f) (hi : i < n) : RefAt (w.setCell ⟨g, i, none⟩ (.bool c)) b g n (put f i c) where
  ins := by rw [(Only.set g i _ w).cell (p := ⟨b, 0, none⟩) h.apart]; exact h.ins
  cell := fun k hk => by
    by_cases e : k = i
    · subst e; rw [cell_set (h.cell k hk), put, if_pos rfl]
    · rw [cell_else e, put, if_neg e]; exact h.cell k hk
  thawed := fun k => by rw [frozen_set]; exact h.thawed k
  few := h.few
  within := put_within h.within hi
  hb := by simpa using h.hb
  hg := by simpa using h.hg
  apart := h.apart

theorem Tryd.info4 : (Tryd.prog.info? 4).map (fun i => (i.zero, i.size, i.bytes)) = some (some (.bool false), 1, 1) := by kernel_rfl

/-- What the document's New lays into memory. -/
def rnewW (w : World) (n : Nat) : World := (w.alloc (.cells (madeCells #[.bool false] n) 4)).alloc (.cells #[.slice (some ⟨w.heap.size, 0, none⟩) n n] 33)

theorem rnewW_at (w : World) (n : Nat) (hn : n ≤ 65536) : RefAt (rnewW w n) (w.heap.size + 1) w.heap.size n (fun _ => false) where
  ins := by rw [rnewW, World.cell?_alloc_at _ _ _ _ (by simp)]; rfl
  cell := fun j hj => by
    rw [rnewW, World.cell?_alloc_past _ _ _ (by simp), World.cell?_alloc_at _ _ _ _ rfl, made_cell _ _ _ hj]
  thawed := fun j => by
    rw [rnewW, World.frozen?_alloc_past _ _ _ (by simp), World.frozen?_alloc_at _ _ _ _ rfl]
  few := hn
  within := fun i h => by cases h
  hb := by simp [rnewW]
  hg := by simp [rnewW]; omega
  apart := by omega

theorem rnewW_below (w : World) (n : Nat) : Below w.heap.size w (rnewW w n) :=
  ((Below.refl _ w).alloc (Nat.le_refl _) _).alloc (by simp) _

theorem make_bools (c : Nat) (hc : c ≤ 65536) (w : World) : (Instr.makeSlice 31 (.int .i64 (c : Int)) (.int .i64 (c : Int))).run Tryd.prog w = .ok (.slice (some ⟨w.heap.size, 0, none⟩) c c) (w.alloc (.cells (madeCells #[.bool false] c) 4)) :=
  run_make_row' (P := Tryd.prog) 31 4 (.bool false) 1 Tryd.underlying31 Tryd.info4 rfl .i64 .i64 c (by omega) (by omega) w

theorem rnew_any (n : Int) (w : World) :
    Calls Tryd.prog 29 #[.int .i64 n] w fun e w' => e = .returned (.pointer (some ⟨w.heap.size + 1, 0, none⟩)) ∧ rnewW w (clampN n) = w' := by
  rcases clamp_cases n with ⟨h1, h2⟩ | ⟨h1, h2, h3⟩ | ⟨h1, h2⟩
  · rw [h2]
    clear h2
    have hmk := make_bools 0 (by decide)
    rw [show ((0 : Nat) : Int) = 0 from rfl] at hmk
    go_enter Tryd.func29, Tryd.ntmps29
    go_wp2
    go_ret
    exact ⟨rfl, rfl⟩
  · obtain ⟨m, hm⟩ : ∃ m, clampN n = m := ⟨_, rfl⟩
    have hm6 := clamp_le n
    rw [hm] at h3 hm6 ⊢
    clear hm
    subst h3
    have hmk := make_bools m hm6
    go_enter Tryd.func29, Tryd.ntmps29
    go_wp2
    go_ret
    exact ⟨rfl, rfl⟩
  · rw [h2]
    clear h2
    have hmk := make_bools 65536 (Nat.le_refl _)
    rw [← c65536] at hmk
    rcases Int.lt_or_eq_of_le h1 with h3 | rfl
    all_goals
      go_enter Tryd.func29, Tryd.ntmps29
      go_wp2
      go_ret
      exact ⟨rfl, rfl⟩

theorem put_any (b g n : Nat) (f : Nat → Bool) (i : Int) (c : Bool) (w : World) (h : RefAt w b g n f) :
    Calls Tryd.prog 30 #[.pointer (some ⟨b, 0, none⟩), .int .i64 i, .bool c] w fun e w' => e = .returned (.bool (isP n i && (f i.toNat != c))) ∧ RefAt w' b g n (turn n f i c) ∧ Only g w w' := by
  have hs := h.ins
  have few := h.few
  cases hp : isP n i
  · have hE : RefAt w b g n (turn n f i c) := h.congr (turn_same (fun e => by rw [hp] at e; cases e))
    have HE : Hid (RefAt w b g n (turn n f i c)) := hE
    have hn := isP_false.1 hp
    clear h hp hE
    by_cases h0 : i < 0
    · go_enter Tryd.func30, Tryd.ntmps30
      go_wp2
      go_ret
      exact ⟨ret_bool rfl, HE.out, Only.refl _ _⟩
    · have h1 : (n : Int) ≤ i := by omega
      clear hn
      go_enter Tryd.func30, Tryd.ntmps30
      go_wp2
      go_ret
      exact ⟨ret_bool rfl, HE.out, Only.refl _ _⟩
  · obtain ⟨h0, h1⟩ := isP_true.1 hp
    obtain ⟨k, rfl⟩ : ∃ k : Nat, i = k := ⟨i.toNat, by omega⟩
    rw [Int.toNat_natCast]
    have hc := h.cell k (by omega)
    have hz := h.thawed k
    cases hf : (f k != c)
    · have hfc : f k = c := by simpa using hf
      have HE : Hid (RefAt w b g n (turn n f k c)) := h.congr (turn_same (fun e => by rw [Int.toNat_natCast]; exact hfc))
      rw [hfc] at hc
      clear h hp hf hfc
      cases c
      all_goals
        go_enter Tryd.func30, Tryd.ntmps30
        go_wp2
        go_ret
        exact ⟨ret_bool rfl, HE.out, Only.refl _ _⟩
    · have hfc : f k = !c := by cases hh : f k <;> cases c <;> simp_all
      have HE : Hid (RefAt (w.setCell ⟨g, k, none⟩ (.bool c)) b g n (turn n f k c)) := (h.stored c (by omega)).congr (turn_put hp)
      rw [hfc] at hc
      clear h hp hf hfc
      cases c
      all_goals
        go_enter Tryd.func30, Tryd.ntmps30
        go_wp2
        go_ret
        exact ⟨ret_bool rfl, HE.out, Only.set _ _ _ _⟩
end Go.Proofs.YtnolbcbcboeaoaaDoor
