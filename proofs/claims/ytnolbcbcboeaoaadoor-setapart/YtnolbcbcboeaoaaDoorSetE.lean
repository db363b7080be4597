/- A set in memory: New, Add and Del; what a store into its words leaves as it was. -/
import Derived.Test.YtnolbcbcboeaoaaDoorSetD
import Derived.RegionTactic
import Derived.ChangeAlike
import Derived.Deep.OwnRows
namespace Go.Proofs.YtnolbcbcboeaoaaDoor
open Go.RowKit
set_option linter.unusedVariables false

/-- Of the block g alone another may be. -/
structure Only (g : Nat) (w w' : World) : Prop where
  os : w'.os = w.os
  tape : w'.tape = w.tape
  output : w'.output = w.output
  size : w'.heap.size = w.heap.size
  block : ∀ k, k ≠ g → w'.heap[k]? = w.heap[k]?

theorem Only.refl (g : Nat) (w : World) : Only g w w := ⟨rfl, rfl, rfl, rfl, fun _ _ => rfl⟩
theorem Only.trans {g : Nat} {a b c : World} (h : Only g a b) (k : Only g b c) : Only g a c :=
  ⟨k.os.trans h.os, k.tape.trans h.tape, k.output.trans h.output, k.size.trans h.size, fun i hi => (k.block i hi).trans (h.block i hi)⟩
theorem Only.below {g B : Nat} {w w' : World} (h : Only g w w') (hB : B ≤ g) : Below B w w' :=
  ⟨h.os, h.tape, h.output, by rw [h.size]; exact Nat.le_refl _, fun k hk => h.block k (by omega)⟩
theorem Only.drew {g : Nat} {w w' : World} (h : Only g w w') : Only g w w'.drew := ⟨h.os, h.tape, h.output, h.size, h.block⟩
theorem Only.set (g j : Nat) (v : Value) (w : World) : Only g w (w.setCell ⟨g, j, none⟩ v) :=
  ⟨rfl, rfl, rfl, by simp, fun k hk => Below.heap_setCell _ _ _ _ hk⟩
theorem Only.cell {g : Nat} {w w' : World} (h : Only g w w') {p : Addr} (hp : p.block ≠ g) : w'.cell? p = w.cell? p := World.cell?_of_block (h.block p.block hp)
theorem Only.frozen {g : Nat} {w w' : World} (h : Only g w w') {p : Addr} (hp : p.block ≠ g) : w'.frozen? p = w.frozen? p := World.frozen?_of_block (h.block p.block hp)

theorem TabIn.keep {w w' : World} {B : Nat} (h : TabIn w) (hb : Below B w w') (hB : 0 < B) : TabIn w' :=
  ⟨by have := hb.size; have := h.1; omega, fun j hj => by rw [hb.cell (p := ⟨0, j, none⟩) hB]; exact h.2 j hj⟩

theorem SetAt.keep {w w' : World} {b g n B : Nat} {f : Nat → Bool} (h : SetAt w b g n f) (hb : Below B w w') (h1 : b < B) (h2 : g < B) : SetAt w' b g n f where
  len := by rw [hb.cell (p := ⟨b, 0, none⟩) h1]; exact h.len
  words := by rw [hb.cell (p := ⟨b, 1, none⟩) h1]; exact h.words
  word := fun j hj => by rw [hb.cell (p := ⟨g, j, none⟩) h2]; exact h.word j hj
  thawed := fun j => by rw [hb.frozen (p := ⟨g, j, none⟩) h2]; exact h.thawed j
  few := h.few
  within := h.within
  hb := by have := hb.size; have := h.hb; omega
  hg := by have := hb.size; have := h.hg; omega
  apart := h.apart

theorem SetAt.keepAll {w w' : World} {b g n : Nat} {f : Nat → Bool} (h : SetAt w b g n f) (hb : Below w.heap.size w w') : SetAt w' b g n f := h.keep hb h.hb h.hg

theorem SetAt.beside {w w' : World} {b g n o : Nat} {f : Nat → Bool} (h : SetAt w b g n f) (ho : Only o w w') (h1 : b ≠ o) (h2 : g ≠ o) : SetAt w' b g n f where
  len := by rw [ho.cell (p := ⟨b, 0, none⟩) h1]; exact h.len
  words := by rw [ho.cell (p := ⟨b, 1, none⟩) h1]; exact h.words
  word := fun j hj => by rw [ho.cell (p := ⟨g, j, none⟩) h2]; exact h.word j hj
  thawed := fun j => by rw [ho.frozen (p := ⟨g, j, none⟩) h2]; exact h.thawed j
  few := h.few
  within := h.within
  hb := by have := ho.size; have := h.hb; omega
  hg := by have := ho.size; have := h.hg; omega
  apart := h.apart

theorem SetAt.drew {w : World} {b g n : Nat} {f : Nat → Bool} (h : SetAt w b g n f) : SetAt w.drew b g n f :=
  ⟨h.len, h.words, h.word, h.thawed, h.few, h.within, h.hb, h.hg, h.apart⟩

theorem SetAt.congr {w : World} {b g n : Nat} {f f' : Nat → Bool} (h : SetAt w b g n f) (e : ∀ i, f i = f' i) : SetAt w b g n f' := by
  have : f = f' := funext e
  exact this ▸ h

theorem cell_set {w : World} {g j : Nat} {u v : Value} (h : w.cell? ⟨g, j, none⟩ = some u) : (w.setCell ⟨g, j, none⟩ v).cell? ⟨g, j, none⟩ = some v := by
  simp only [World.cell?, World.setCell, Array.getElem?_modify] at h ⊢
  split at h
  · rename_i c t fr hh
    simp at h
    have hj : j < c.size := by
      have := h
      exact (Array.getElem?_eq_some_iff.1 this).1
    simp [hh, hj]
  · cases h

theorem cell_else {w : World} {g j k : Nat} {v : Value} (h : k ≠ j) : (w.setCell ⟨g, j, none⟩ v).cell? ⟨g, k, none⟩ = w.cell? ⟨g, k, none⟩ := by
  simp only [World.cell?, World.setCell, Array.getElem?_modify]
  rcases hh : w.heap[g]? with _ | o
  · simp
  · rcases o with ⟨c, t, fr⟩ | _ <;> simp [Ne.symm h]

theorem frozen_set {w : World} {g j k : Nat} {v : Value} : (w.setCell ⟨g, j, none⟩ v).frozen? ⟨g, k, none⟩ = w.frozen? ⟨g, k, none⟩ := by
  simp only [World.frozen?, World.setCell, Array.getElem?_modify]
  rcases hh : w.heap[g]? with _ | o
  · simp
  · rcases o with ⟨c, t, fr⟩ | _ <;> simp

/-- A word is stored: just the places of that word are others. -/
theorem SetAt.stored {w : World} {b g n j : Nat} {f f' : Nat → Bool} (h : SetAt w b g n f) (hj : j < (n + 63) / 64) (he : ∀ k, k ≠ j → wd f' k = wd f k) (hw : ∀ i, f' i = true → i < n) : SetAt (w.setCell ⟨g, j, none⟩ (.int .u64 (wd f' j : Nat))) b g n f' where
  len := by rw [(Only.set g j _ w).cell (p := ⟨b, 0, none⟩) h.apart]; exact h.len
  words := by rw [(Only.set g j _ w).cell (p := ⟨b, 1, none⟩) h.apart]; exact h.words
  word := fun k hk => by
    by_cases e : k = j
    · subst e; exact cell_set (h.word k hk)
    · rw [cell_else e, he k e]; exact h.word k hk
  thawed := fun k => by rw [frozen_set]; exact h.thawed k
  few := h.few
  within := hw
  hb := by simpa using h.hb
  hg := by simpa using h.hg
  apart := h.apart

theorem put_within {n i : Nat} {f : Nat → Bool} {c : Bool} (h : ∀ k, f k = true → k < n) (hi : i < n) : ∀ k, put f i c k = true → k < n := by
  intro k hk
  rw [put] at hk
  split at hk
  · omega
  · exact h k hk

/-- What Add and Del make of a set. -/
def turn (n : Nat) (f : Nat → Bool) (i : Int) (c : Bool) : Nat → Bool := fun x => if isP n i = true ∧ x = i.toNat then c else f x

theorem turn_same {n : Nat} {f : Nat → Bool} {i : Int} {c : Bool} (h : isP n i = true → f i.toNat = c) : ∀ x, f x = turn n f i c x := by
  intro x
  rw [turn]
  split
  · rename_i hx; rw [hx.2]; exact h hx.1
  · rfl

theorem turn_put {n : Nat} {f : Nat → Bool} {i : Int} {c : Bool} (h : isP n i = true) : ∀ x, put f i.toNat c x = turn n f i c x := by
  intro x
  rw [turn, put]
  simp [h]

theorem shl_int (k : Nat) (hk : k < 64) : IntKind.u64.wrap (2 ^ k) = ((2 ^ k : Nat) : Int) := by
  have hp : 2 ^ k < 2 ^ 64 := Nat.pow_lt_pow_right (by decide) hk
  rw [IntKind.wrap_u64]
  have : ((2 : Int) ^ k) = ((2 ^ k : Nat) : Int) := by simp
  rw [this]
  generalize 2 ^ k = p at *
  omega

theorem add_int (f : Nat → Bool) (k : Nat) : bits BinOp.or IntKind.u64 ((wd f (k / 64) : Nat) : Int) (IntKind.u64.wrap (2 ^ (k % 64))) = (wd (put f k true) (k / 64) : Nat) := by
  have hp : 2 ^ (k % 64) < 2 ^ 64 := Nat.pow_lt_pow_right (by decide) (by omega)
  rw [shl_int _ (by omega), bits_or_u64_nat _ _ (wd_lt f _) (by omega), add_word]

theorem del_int (f : Nat → Bool) (k : Nat) : bits BinOp.andNot IntKind.u64 ((wd f (k / 64) : Nat) : Int) (IntKind.u64.wrap (2 ^ (k % 64))) = (wd (put f k false) (k / 64) : Nat) := by
  have hp : 2 ^ (k % 64) < 2 ^ 64 := Nat.pow_lt_pow_right (by decide) (by omega)
  rw [shl_int _ (by omega), u64_andNot_nat _ _ (wd_lt f _) (by omega), del_word]

set_option maxHeartbeats 1000000 in
theorem add_any (b g n : Nat) (f : Nat → Bool) (i : Int) (w : World) (h : SetAt w b g n f) :
    Calls Tryd.prog 26 #[.pointer (some ⟨b, 0, none⟩), .int .i64 i] w fun e w' => e = .returned (.bool (isP n i && !f i.toNat)) ∧ SetAt w' b g n (turn n f i true) ∧ Only g w w' := by
  have hl := h.len
  have hs := h.words
  have few := h.few
  have HS : Hid (SetAt w b g n f) := h
  cases hp : isP n i
  · have HP : Hid (isP n i = false) := hp
    have HE : Hid (SetAt w b g n (turn n f i true)) := h.congr (turn_same (fun e => by rw [hp] at e; cases e))
    clear h hp
    go_enter Tryd.func26, Tryd.ntmps26
    go_wp2_with (go_at_call 35; refine (isPlace_any b n i _ hl).mono ?_; rintro e w' ⟨rfl, rfl⟩; rw [HP.out])
    go_ret
    exact ⟨ret_bool rfl, HE.out, Only.refl _ _⟩
  · have HP : Hid (isP n i = true) := hp
    obtain ⟨h0, h1⟩ := isP_true.1 hp
    obtain ⟨k, rfl⟩ : ∃ k : Nat, i = k := ⟨i.toNat, by omega⟩
    rw [Int.toNat_natCast]
    cases hf : f k
    · have HB : Hid (hasB n f k = false) := by show hasB n f k = false; rw [hasB, hp, Int.toNat_natCast, hf]; rfl
      have hj : k / 64 < (n + 63) / 64 := by omega
      have hw := h.word (k / 64) hj
      have hz := h.thawed (k / 64)
      have hlt := wd_lt f (k / 64)
      have HI := add_int f k
      have HA : Hid (bits BinOp.or IntKind.u64 ((wd f (k / 64) : Nat) : Int) (IntKind.u64.wrap (2 ^ (k % 64))) = (wd (put f k true) (k / 64) : Nat)) := HI
      have HE : Hid (SetAt (w.setCell ⟨g, k / 64, none⟩ (.int .u64 (wd (put f k true) (k / 64) : Nat))) b g n (turn n f k true)) :=
        (h.stored hj (fun m hm => word_else f k m true hm) (put_within h.within (by omega))).congr (turn_put hp)
      clear h hp hf HI
      go_enter Tryd.func26, Tryd.ntmps26
      go_wp2_with (first | (go_at_call 35; refine (isPlace_any b n k _ hl).mono ?_; rintro e w' ⟨rfl, rfl⟩; rw [HP.out]) | (go_at_call 24; refine (has_any b g n f k _ HS.out).mono ?_; rintro e w' ⟨rfl, rfl⟩; rw [HB.out]))
      go_region
      all_goals go_wp2
      all_goals go_ret
      all_goals rw [HA.out]
      all_goals exact ⟨rfl, HE.out.drew, (Only.set g (k / 64) _ w).drew⟩
    · have HB : Hid (hasB n f k = true) := by show hasB n f k = true; rw [hasB, hp, Int.toNat_natCast, hf]; rfl
      have HE : Hid (SetAt w b g n (turn n f k true)) := h.congr (turn_same (fun e => by rw [Int.toNat_natCast]; exact hf))
      clear h hp hf
      go_enter Tryd.func26, Tryd.ntmps26
      go_wp2_with (first | (go_at_call 35; refine (isPlace_any b n k _ hl).mono ?_; rintro e w' ⟨rfl, rfl⟩; rw [HP.out]) | (go_at_call 24; refine (has_any b g n f k _ HS.out).mono ?_; rintro e w' ⟨rfl, rfl⟩; rw [HB.out]))
      go_ret
      exact ⟨ret_bool rfl, HE.out, Only.refl _ _⟩

set_option maxHeartbeats 1000000 in
theorem del_any (b g n : Nat) (f : Nat → Bool) (i : Int) (w : World) (h : SetAt w b g n f) :
    Calls Tryd.prog 27 #[.pointer (some ⟨b, 0, none⟩), .int .i64 i] w fun e w' => e = .returned (.bool (hasB n f i)) ∧ SetAt w' b g n (turn n f i false) ∧ Only g w w' := by
  have hl := h.len
  have hs := h.words
  have few := h.few
  have HS : Hid (SetAt w b g n f) := h
  cases hB : hasB n f i
  · have HB : Hid (hasB n f i = false) := hB
    have HE : Hid (SetAt w b g n (turn n f i false)) := h.congr (turn_same (fun e => by rw [hasB, e] at hB; simpa using hB))
    clear h hB
    go_enter Tryd.func27, Tryd.ntmps27
    go_wp2_with (go_at_call 24; refine (has_any b g n f i _ HS.out).mono ?_; rintro e w' ⟨rfl, rfl⟩; rw [HB.out])
    go_ret
    exact ⟨ret_bool rfl, HE.out, Only.refl _ _⟩
  · have HB : Hid (hasB n f i = true) := hB
    have hp : isP n i = true := by rw [hasB] at hB; simp at hB; exact hB.1
    obtain ⟨h0, h1⟩ := isP_true.1 hp
    obtain ⟨k, rfl⟩ : ∃ k : Nat, i = k := ⟨i.toNat, by omega⟩
    have hj : k / 64 < (n + 63) / 64 := by omega
    have hw := h.word (k / 64) hj
    have hz := h.thawed (k / 64)
    have hlt := wd_lt f (k / 64)
    have HA : Hid (bits BinOp.andNot IntKind.u64 ((wd f (k / 64) : Nat) : Int) (IntKind.u64.wrap (2 ^ (k % 64))) = (wd (put f k false) (k / 64) : Nat)) := del_int f k
    have HE : Hid (SetAt (w.setCell ⟨g, k / 64, none⟩ (.int .u64 (wd (put f k false) (k / 64) : Nat))) b g n (turn n f k false)) :=
      (h.stored hj (fun m hm => word_else f k m false hm) (put_within h.within (by omega))).congr (turn_put hp)
    clear h hp hB
    go_enter Tryd.func27, Tryd.ntmps27
    go_wp2_with (go_at_call 24; refine (has_any b g n f k _ HS.out).mono ?_; rintro e w' ⟨rfl, rfl⟩; rw [HB.out])
    go_region
    all_goals go_wp2
    all_goals go_ret
    all_goals rw [HA.out]
    all_goals exact ⟨rfl, HE.out.drew, (Only.set g (k / 64) _ w).drew⟩

/-- How many places there are. -/
def clampN (n : Int) : Nat := if n < 0 then 0 else if 65536 < n then 65536 else n.toNat

theorem Tryd.info62 : (Tryd.prog.info? 62).map (fun i => (i.zero, i.size, i.bytes)) = some (some (.int .u64 0), 1, 8) := by kernel_rfl

theorem made_cell (z : Value) (n i : Nat) (h : i < n) : (madeCells #[z] n)[i]? = some z := by simp [madeCells, h, Nat.mod_one]

/-- What New lays into memory. -/
def newW (w : World) (n : Nat) : World := (w.alloc (.cells (madeCells #[.int .u64 0] ((n + 63) / 64)) 62)).alloc (.cells #[.int .i64 n, .slice (some ⟨w.heap.size, 0, none⟩) ((n + 63) / 64) ((n + 63) / 64)] 61)

theorem newW_at (w : World) (n : Nat) (hn : n ≤ 65536) : SetAt (newW w n) (w.heap.size + 1) w.heap.size n (fun _ => false) where
  len := by rw [newW, World.cell?_alloc_at _ _ _ _ (by simp)]; rfl
  words := by rw [newW, World.cell?_alloc_at _ _ _ _ (by simp)]; rfl
  word := fun j hj => by
    rw [wd_none, newW, World.cell?_alloc_past _ _ _ (by simp), World.cell?_alloc_at _ _ _ _ rfl, made_cell _ _ _ hj]
    rfl
  thawed := fun j => by
    rw [newW, World.frozen?_alloc_past _ _ _ (by simp), World.frozen?_alloc_at _ _ _ _ rfl]
  few := hn
  within := fun i h => by cases h
  hb := by simp [newW]
  hg := by simp [newW]; omega
  apart := by omega

theorem newW_below (w : World) (n : Nat) : Below w.heap.size w (newW w n) :=
  ((Below.refl _ w).alloc (Nat.le_refl _) _).alloc (by simp) _

theorem parts64 (x : Int) (n : Nat) (w : World) (hx : x = n) (hn : n ≤ 65536) :
    Calls Tryd.prog 33 #[.int .i64 x, .int .i64 64] w fun r w' => ∃ c : Nat, r = .returned (.int .i64 c) ∧ c ≤ 1024 ∧ Hid (c = (n + 63) / 64) ∧ w = w' := by
  subst hx
  refine (parts_any n 64 w hn (.inr rfl)).mono ?_
  rintro r w' ⟨rfl, rfl⟩
  exact ⟨_, rfl, by omega, rfl, rfl⟩

theorem parts8 (x : Int) (n : Nat) (w : World) (hx : x = n) (hn : n ≤ 65536) :
    Calls Tryd.prog 33 #[.int .i64 x, .int .i64 8] w fun r w' => ∃ c : Nat, r = .returned (.int .i64 c) ∧ c ≤ 8192 ∧ Hid (c = (n + 7) / 8) ∧ w = w' := by
  subst hx
  refine (parts_any n 8 w hn (.inl rfl)).mono ?_
  rintro r w' ⟨rfl, rfl⟩
  exact ⟨_, rfl, by omega, rfl, rfl⟩

theorem c65536 : (65536 : Int) = ((65536 : Nat) : Int) := rfl

theorem clamp_cases (n : Int) : n ≤ 0 ∧ clampN n = 0 ∨ 0 < n ∧ n < 65536 ∧ n = (clampN n : Int) ∨ 65536 ≤ n ∧ clampN n = 65536 := by
  rw [clampN]
  split <;> (try split) <;> omega

theorem clamp_le (n : Int) : clampN n ≤ 65536 := by rcases clamp_cases n with h | h | h <;> omega

theorem new_any (n : Int) (w : World) :
    Calls Tryd.prog 28 #[.int .i64 n] w fun e w' => e = .returned (.pointer (some ⟨w.heap.size + 1, 0, none⟩)) ∧ newW w (clampN n) = w' := by
  have hmk := fun c : Nat => fun hc : c ≤ 1024 => run_make_row' (P := Tryd.prog) 59 62 (.int .u64 0) 8 Tryd.underlying59 Tryd.info62 rfl .i64 .i64 c (by omega) (by omega)
  have HM : Hid (∀ c : Nat, c ≤ 1024 → ∀ w : World, (Instr.makeSlice 59 (.int .i64 (c : Int)) (.int .i64 (c : Int))).run Tryd.prog w = .ok (.slice (some ⟨w.heap.size, 0, none⟩) c c) (w.alloc (.cells (madeCells #[.int .u64 0] c) 62))) := hmk
  clear hmk
  rcases clamp_cases n with ⟨h1, h2⟩ | ⟨h1, h2, h3⟩ | ⟨h1, h2⟩
  · rw [h2]
    clear h2
    go_enter Tryd.func28, Tryd.ntmps28
    go_wp2_with (go_at_call 33; refine (parts64 _ 0 _ rfl (by decide)).mono ?_; rintro e w' ⟨c, rfl, hc, HC, rfl⟩; have hmk := HM.out c hc)
    go_ret
    obtain rfl := HC.out
    exact ⟨rfl, rfl⟩
  · obtain ⟨m, hm⟩ : ∃ m, clampN n = m := ⟨_, rfl⟩
    have hm6 := clamp_le n
    rw [hm] at h3 hm6 ⊢
    clear hm
    subst h3
    go_enter Tryd.func28, Tryd.ntmps28
    go_wp2_with (go_at_call 33; refine (parts64 _ m _ rfl hm6).mono ?_; rintro e w' ⟨c, rfl, hc, HC, rfl⟩; have hmk := HM.out c hc)
    go_ret
    obtain rfl := HC.out
    exact ⟨rfl, rfl⟩
  · rw [h2]
    clear h2
    rcases Int.lt_or_eq_of_le h1 with h3 | rfl
    all_goals
      go_enter Tryd.func28, Tryd.ntmps28
      go_wp2_with (go_at_call 33; refine (parts64 _ 65536 _ c65536 (Nat.le_refl _)).mono ?_; rintro e w' ⟨c, rfl, hc, HC, rfl⟩; have hmk := HM.out c hc)
      go_ret
      obtain rfl := HC.out
      exact ⟨rfl, rfl⟩
end Go.Proofs.YtnolbcbcboeaoaaDoor
