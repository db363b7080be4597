/- The leaves of layer 3: counting bits and finding the least one; a set in memory. -/
import Derived.Test.YtebmegghojiegaaDoorSpA
namespace Go.Proofs.YtebmegghojiegaaDoor
open Go.RowKit
set_option linter.unusedVariables false

theorem sparts_any (n e : Nat) (w : World) (hn : n ≤ 65536) (he : e = 8 ∨ e = 64) :
    Calls Tryd.prog 102 #[.int .i64 n, .int .i64 e] w fun r w' => r = .returned (.int .i64 ((n + (e - 1)) / e : Nat)) ∧ w = w' := by
  rcases he with rfl | rfl
  all_goals
    go_enter Tryd.func102, Tryd.ntmps102
    go_wp2
    go_ret
    refine ⟨ret_int ?_, rfl⟩
    omega
/-- The table in its variable. -/
def TabB (w : World) : Prop := 1 < w.heap.size ∧ ∀ j, j < 64 → True
/-- A set of n places in the block b, its words in the block g; f says which are in. -/
structure SetAt (w : World) (b g n : Nat) (f : Nat → Bool) : Prop where
  len : w.cell? ⟨b, 0, none⟩ = some (.int .i64 n)
  words : w.cell? ⟨b, 1, none⟩ = some (.slice (some ⟨g, 0, none⟩) ((n + 63) / 64) ((n + 63) / 64))
  word : ∀ j, j < (n + 63) / 64 → w.cell? ⟨g, j, none⟩ = some (.int .u64 (wd f j : Nat))
  thawed : ∀ j, w.frozen? ⟨g, j, none⟩ = false
  few : n ≤ 65536
  within : ∀ i, f i = true → i < n
  hb : b < w.heap.size
  hg : g < w.heap.size
  apart : b ≠ g
theorem slen_any (b n : Nat) (w : World) (h : w.cell? ⟨b, 0, none⟩ = some (.int .i64 n)) :
    Calls Tryd.prog 104 #[.pointer (some ⟨b, 0, none⟩)] w fun e w' => e = .returned (.int .i64 n) ∧ w = w' := by
  go_enter Tryd.func104, Tryd.ntmps104
  go_wp2
  go_ret
  exact ⟨rfl, rfl⟩
theorem slen_nil (w : World) :
    Calls Tryd.prog 104 #[.pointer none] w fun e w' => e = .returned (.int .i64 0) ∧ w = w' := by
  go_enter Tryd.func104, Tryd.ntmps104
  go_wp2
  go_ret
  exact ⟨rfl, rfl⟩
/-- Is there such a place? -/
def isP (n : Nat) (i : Int) : Bool := decide (0 ≤ i ∧ i < n)
theorem isP_true {n : Nat} {i : Int} : isP n i = true ↔ 0 ≤ i ∧ i < n := by simp [isP]
theorem isP_false {n : Nat} {i : Int} : isP n i = false ↔ ¬ (0 ≤ i ∧ i < n) := by simp [isP]
theorem isPlace_any (b n : Nat) (i : Int) (w : World) (h : w.cell? ⟨b, 0, none⟩ = some (.int .i64 n)) :
    Calls Tryd.prog 91 #[.pointer (some ⟨b, 0, none⟩), .int .i64 i] w fun e w' => e = .returned (.bool (isP n i)) ∧ w = w' := by
  by_cases h0 : 0 ≤ i
  · go_enter Tryd.func91, Tryd.ntmps91
    go_wp2_with (go_at_call 104; refine (slen_any b n _ h).mono ?_; rintro e w' ⟨rfl, rfl⟩)
    go_ret
    exact ⟨ret_bool (by simp [isP, h0]), rfl⟩
  · have h1 : i < 0 := by omega
    go_enter Tryd.func91, Tryd.ntmps91
    go_wp2_with (go_at_call 104; refine (slen_any b n _ h).mono ?_; rintro e w' ⟨rfl, rfl⟩)
    go_ret
    exact ⟨ret_bool (by simp [isP]; omega), rfl⟩
theorem isPlace_nil (i : Int) (w : World) :
    Calls Tryd.prog 91 #[.pointer none, .int .i64 i] w fun e w' => e = .returned (.bool false) ∧ w = w' := by
  by_cases h0 : 0 ≤ i
  · go_enter Tryd.func91, Tryd.ntmps91
    go_wp2_with (go_at_call 104; refine (slen_nil _).mono ?_; rintro e w' ⟨rfl, rfl⟩)
    go_ret
    exact ⟨ret_bool (by simp; omega), rfl⟩
  · have h1 : i < 0 := by omega
    go_enter Tryd.func91, Tryd.ntmps91
    go_wp2_with (go_at_call 104; refine (slen_nil _).mono ?_; rintro e w' ⟨rfl, rfl⟩)
    go_ret
    exact ⟨ret_bool (by simp), rfl⟩
/-- Is a place in? -/
def hasB (n : Nat) (f : Nat → Bool) (i : Int) : Bool := isP n i && f i.toNat
theorem has_int (f : Nat → Bool) (i : Nat) : (((wd f (i / 64) : Nat) : Int) / 2 ^ (i % 64) % 2 == 1) = f i := by
  have h := has_word f i
  have e : ((wd f (i / 64) : Nat) : Int) / 2 ^ (i % 64) % 2 = ((wd f (i / 64) / 2 ^ (i % 64) % 2 : Nat) : Int) := by simp
  rw [e, h]
  cases f i <;> rfl
theorem shas_any (b g n : Nat) (f : Nat → Bool) (i : Int) (w : World) (h : SetAt w b g n f) :
    Calls Tryd.prog 92 #[.pointer (some ⟨b, 0, none⟩), .int .i64 i] w fun e w' => e = .returned (.bool (hasB n f i)) ∧ w = w' := by
  have hl := h.len
  have hs := h.words
  have few := h.few
  cases hp : isP n i
  · have HP : Hid (isP n i = false) := hp
    go_enter Tryd.func92, Tryd.ntmps92
    go_wp2_with (go_at_call 91; refine (isPlace_any b n i _ hl).mono ?_; rintro e w' ⟨rfl, rfl⟩; rw [HP.out])
    go_ret
    exact ⟨ret_bool (by rw [hasB, HP.out]; rfl), rfl⟩
  · have HP : Hid (isP n i = true) := hp
    obtain ⟨h0, h1⟩ := isP_true.1 hp
    obtain ⟨k, rfl⟩ : ∃ k : Nat, i = k := ⟨i.toNat, by omega⟩
    have hj : k / 64 < (n + 63) / 64 := by omega
    have hw := h.word (k / 64) hj
    have hlt := wd_lt f (k / 64)
    have HH : Hid ((((wd f (k / 64) : Nat) : Int) / 2 ^ (k % 64) % 2 == 1) = f k) := has_int f k
    clear hp h
    go_enter Tryd.func92, Tryd.ntmps92
    go_wp2_with (go_at_call 91; refine (isPlace_any b n k _ hl).mono ?_; rintro e w' ⟨rfl, rfl⟩; rw [HP.out])
    go_ret
    refine ⟨ret_bool ?_, rfl⟩
    rw [hasB, HP.out]
    exact HH.out
end Go.Proofs.YtebmegghojiegaaDoor

/- A set in memory: next, First, Gap, New, Add, Del. -/
namespace Go.Proofs.YtebmegghojiegaaDoor
open Go.RowKit
set_option linter.unusedVariables false


/-- Of the block g alone another may be. -/
structure Only (g : Nat) (w w' : World) : Prop where
  os : w'.os = w.os
  tape : w'.tape = w.tape
  output : w'.output = w.output
  size : w'.heap.size = w.heap.size
  block : ∀ k, k ≠ g → w'.heap[k]? = w.heap[k]?
theorem Only.refl (g : Nat) (w : World) : Only g w w := ⟨rfl, rfl, rfl, rfl, fun _ _ => rfl⟩
theorem Only.trans {g : Nat} {a b c : World} (h : Only g a b) (k : Only g b c) : Only g a c :=
  ⟨k.os.trans h.os, k.tape.trans h.tape, k.output.trans h.output, k.size.trans h.size, fun i hi => (k.block i hi).trans (h.block i hi)⟩
theorem Only.below {g B : Nat} {w w' : World} (h : Only g w w') (hB : B ≤ g) : Below B w w' :=
  ⟨h.os, h.tape, h.output, by rw [h.size]; exact Nat.le_refl _, fun k hk => h.block k (by omega)⟩
theorem Only.drew {g : Nat} {w w' : World} (h : Only g w w') : Only g w w'.drew := ⟨h.os, h.tape, h.output, h.size, h.block⟩
theorem Only.set (g j : Nat) (v : Value) (w : World) : Only g w (w.setCell ⟨g, j, none⟩ v) :=
  ⟨rfl, rfl, rfl, by simp, fun k hk => Below.heap_setCell _ _ _ _ hk⟩
theorem Only.cell {g : Nat} {w w' : World} (h : Only g w w') {p : Addr} (hp : p.block ≠ g) : w'.cell? p = w.cell? p := World.cell?_of_block (h.block p.block hp)
theorem Only.frozen {g : Nat} {w w' : World} (h : Only g w w') {p : Addr} (hp : p.block ≠ g) : w'.frozen? p = w.frozen? p := World.frozen?_of_block (h.block p.block hp)
theorem TabB.keep {w w' : World} {B : Nat} (h : TabB w) (hb : Below B w w') (hB : 1 < B) : TabB w' :=
  ⟨by have := hb.size; have := h.1; omega, fun _ _ => trivial⟩
theorem SetAt.keep {w w' : World} {b g n B : Nat} {f : Nat → Bool} (h : SetAt w b g n f) (hb : Below B w w') (h1 : b < B) (h2 : g < B) : SetAt w' b g n f where
  len := by rw [hb.cell (p := ⟨b, 0, none⟩) h1]; exact h.len
  words := by rw [hb.cell (p := ⟨b, 1, none⟩) h1]; exact h.words
  word := fun j hj => by rw [hb.cell (p := ⟨g, j, none⟩) h2]; exact h.word j hj
  thawed := fun j => by rw [hb.frozen (p := ⟨g, j, none⟩) h2]; exact h.thawed j
  few := h.few
  within := h.within
  hb := by have := hb.size; have := h.hb; omega
  hg := by have := hb.size; have := h.hg; omega
  apart := h.apart
theorem SetAt.keepAll {w w' : World} {b g n : Nat} {f : Nat → Bool} (h : SetAt w b g n f) (hb : Below w.heap.size w w') : SetAt w' b g n f := h.keep hb h.hb h.hg
theorem SetAt.beside {w w' : World} {b g n o : Nat} {f : Nat → Bool} (h : SetAt w b g n f) (ho : Only o w w') (h1 : b ≠ o) (h2 : g ≠ o) : SetAt w' b g n f where
  len := by rw [ho.cell (p := ⟨b, 0, none⟩) h1]; exact h.len
  words := by rw [ho.cell (p := ⟨b, 1, none⟩) h1]; exact h.words
  word := fun j hj => by rw [ho.cell (p := ⟨g, j, none⟩) h2]; exact h.word j hj
  thawed := fun j => by rw [ho.frozen (p := ⟨g, j, none⟩) h2]; exact h.thawed j
  few := h.few
  within := h.within
  hb := by have := ho.size; have := h.hb; omega
  hg := by have := ho.size; have := h.hg; omega
  apart := h.apart
theorem SetAt.drew {w : World} {b g n : Nat} {f : Nat → Bool} (h : SetAt w b g n f) : SetAt w.drew b g n f :=
  ⟨h.len, h.words, h.word, h.thawed, h.few, h.within, h.hb, h.hg, h.apart⟩
theorem SetAt.congr {w : World} {b g n : Nat} {f f' : Nat → Bool} (h : SetAt w b g n f) (e : ∀ i, f i = f' i) : SetAt w b g n f' := by
  have : f = f' := funext e
  exact this ▸ h
theorem cell_set {w : World} {g j : Nat} {u v : Value} (h : w.cell? ⟨g, j, none⟩ = some u) : (w.setCell ⟨g, j, none⟩ v).cell? ⟨g, j, none⟩ = some v := by
  simp only [World.cell?, World.setCell, Array.getElem?_modify] at h ⊢
  split at h
  · rename_i c t fr hh
    simp at h
    have hj : j < c.size := by
      have := h
      exact (Array.getElem?_eq_some_iff.1 this).1
    simp [hh, hj]
  · cases h
theorem cell_else {w : World} {g j k : Nat} {v : Value} (h : k ≠ j) : (w.setCell ⟨g, j, none⟩ v).cell? ⟨g, k, none⟩ = w.cell? ⟨g, k, none⟩ := by
  simp only [World.cell?, World.setCell, Array.getElem?_modify]
  rcases hh : w.heap[g]? with _ | o
  · simp
  · rcases o with ⟨c, t, fr⟩ | _ <;> simp [Ne.symm h]
theorem frozen_set {w : World} {g j k : Nat} {v : Value} : (w.setCell ⟨g, j, none⟩ v).frozen? ⟨g, k, none⟩ = w.frozen? ⟨g, k, none⟩ := by
  simp only [World.frozen?, World.setCell, Array.getElem?_modify]
  rcases hh : w.heap[g]? with _ | o
  · simp
  · rcases o with ⟨c, t, fr⟩ | _ <;> simp
/-- A word is stored: just the places of that word are others. -/
theorem SetAt.stored {w : World} {b g n j : Nat} {f f' : Nat → Bool} (h : SetAt w b g n f) (hj : j < (n + 63) / 64) (he : ∀ k, k ≠ j → wd f' k = wd f k) (hw : ∀ i, f' i = true → i < n) : SetAt (w.setCell ⟨g, j, none⟩ (.int .u64 (wd f' j : Nat))) b g n f' where
  len := by rw [(Only.set g j _ w).cell (p := ⟨b, 0, none⟩) h.apart]; exact h.len
  words := by rw [(Only.set g j _ w).cell (p := ⟨b, 1, none⟩) h.apart]; exact h.words
  word := fun k hk => by
    by_cases e : k = j
    · subst e; exact cell_set (h.word k hk)
    · rw [cell_else e, he k e]; exact h.word k hk
  thawed := fun k => by rw [frozen_set]; exact h.thawed k
  few := h.few
  within := hw
  hb := by simpa using h.hb
  hg := by simpa using h.hg
  apart := h.apart
theorem put_within {n i : Nat} {f : Nat → Bool} {c : Bool} (h : ∀ k, f k = true → k < n) (hi : i < n) : ∀ k, put f i c k = true → k < n := by
  intro k hk
  rw [put] at hk
  split at hk
  · omega
  · exact h k hk
/-- What Add and Del make of a set. -/
def turn (n : Nat) (f : Nat → Bool) (i : Int) (c : Bool) : Nat → Bool := fun x => if isP n i = true ∧ x = i.toNat then c else f x
theorem turn_same {n : Nat} {f : Nat → Bool} {i : Int} {c : Bool} (h : isP n i = true → f i.toNat = c) : ∀ x, f x = turn n f i c x := by
  intro x
  rw [turn]
  split
  · rename_i hx; rw [hx.2]; exact h hx.1
  · rfl
theorem turn_put {n : Nat} {f : Nat → Bool} {i : Int} {c : Bool} (h : isP n i = true) : ∀ x, put f i.toNat c x = turn n f i c x := by
  intro x
  rw [turn, put]
  simp [h]
theorem shl_int (k : Nat) (hk : k < 64) : IntKind.u64.wrap (2 ^ k) = ((2 ^ k : Nat) : Int) := by
  have hp : 2 ^ k < 2 ^ 64 := Nat.pow_lt_pow_right (by decide) hk
  rw [IntKind.wrap_u64]
  have : ((2 : Int) ^ k) = ((2 ^ k : Nat) : Int) := by simp
  rw [this]
  generalize 2 ^ k = p at *
  omega
theorem add_int (f : Nat → Bool) (k : Nat) : bits BinOp.or IntKind.u64 ((wd f (k / 64) : Nat) : Int) (IntKind.u64.wrap (2 ^ (k % 64))) = (wd (put f k true) (k / 64) : Nat) := by
  have hp : 2 ^ (k % 64) < 2 ^ 64 := Nat.pow_lt_pow_right (by decide) (by omega)
  rw [shl_int _ (by omega), bits_or_u64_nat _ _ (wd_lt f _) (by omega), add_word]
set_option maxHeartbeats 1000000 in
theorem sadd_any (b g n : Nat) (f : Nat → Bool) (i : Int) (w : World) (h : SetAt w b g n f) :
    Calls Tryd.prog 81 #[.pointer (some ⟨b, 0, none⟩), .int .i64 i] w fun e w' => e = .returned (.bool (isP n i && !f i.toNat)) ∧ SetAt w' b g n (turn n f i true) ∧ Only g w w' := by
  have hl := h.len
  have hs := h.words
  have few := h.few
  have HS : Hid (SetAt w b g n f) := h
  cases hp : isP n i
  · have HP : Hid (isP n i = false) := hp
    have HE : Hid (SetAt w b g n (turn n f i true)) := h.congr (turn_same (fun e => by rw [hp] at e; cases e))
    clear h hp
    go_enter Tryd.func81, Tryd.ntmps81
    go_wp2_with (go_at_call 91; refine (isPlace_any b n i _ hl).mono ?_; rintro e w' ⟨rfl, rfl⟩; rw [HP.out])
    go_ret
    exact ⟨ret_bool rfl, HE.out, Only.refl _ _⟩
  · have HP : Hid (isP n i = true) := hp
    obtain ⟨h0, h1⟩ := isP_true.1 hp
    obtain ⟨k, rfl⟩ : ∃ k : Nat, i = k := ⟨i.toNat, by omega⟩
    rw [Int.toNat_natCast]
    cases hf : f k
    · have HB : Hid (hasB n f k = false) := by show hasB n f k = false; rw [hasB, hp, Int.toNat_natCast, hf]; rfl
      have hj : k / 64 < (n + 63) / 64 := by omega
      have hw := h.word (k / 64) hj
      have hz := h.thawed (k / 64)
      have hlt := wd_lt f (k / 64)
      have HI := add_int f k
      have HA : Hid (bits BinOp.or IntKind.u64 ((wd f (k / 64) : Nat) : Int) (IntKind.u64.wrap (2 ^ (k % 64))) = (wd (put f k true) (k / 64) : Nat)) := HI
      have HE : Hid (SetAt (w.setCell ⟨g, k / 64, none⟩ (.int .u64 (wd (put f k true) (k / 64) : Nat))) b g n (turn n f k true)) :=
        (h.stored hj (fun m hm => word_else f k m true hm) (put_within h.within (by omega))).congr (turn_put hp)
      clear h hp hf HI
      go_enter Tryd.func81, Tryd.ntmps81
      go_wp2_with (first | (go_at_call 91; refine (isPlace_any b n k _ hl).mono ?_; rintro e w' ⟨rfl, rfl⟩; rw [HP.out]) | (go_at_call 92; refine (shas_any b g n f k _ HS.out).mono ?_; rintro e w' ⟨rfl, rfl⟩; rw [HB.out]))
      go_region
      all_goals go_wp2
      all_goals go_ret
      all_goals rw [HA.out]
      all_goals exact ⟨rfl, HE.out.drew, (Only.set g (k / 64) _ w).drew⟩
    · have HB : Hid (hasB n f k = true) := by show hasB n f k = true; rw [hasB, hp, Int.toNat_natCast, hf]; rfl
      have HE : Hid (SetAt w b g n (turn n f k true)) := h.congr (turn_same (fun e => by rw [Int.toNat_natCast]; exact hf))
      clear h hp hf
      go_enter Tryd.func81, Tryd.ntmps81
      go_wp2_with (first | (go_at_call 91; refine (isPlace_any b n k _ hl).mono ?_; rintro e w' ⟨rfl, rfl⟩; rw [HP.out]) | (go_at_call 92; refine (shas_any b g n f k _ HS.out).mono ?_; rintro e w' ⟨rfl, rfl⟩; rw [HB.out]))
      go_ret
      exact ⟨ret_bool rfl, HE.out, Only.refl _ _⟩
/-- How many places there are. -/
def clampN (n : Int) : Nat := if n < 0 then 0 else if 65536 < n then 65536 else n.toNat
theorem Tryd.info62 : (Tryd.prog.info? 40).map (fun i => (i.zero, i.size, i.bytes)) = some (some (.int .u64 0), 1, 8) := by kernel_rfl
theorem made_cell (z : Value) (n i : Nat) (h : i < n) : (madeCells #[z] n)[i]? = some z := by simp [madeCells, h, Nat.mod_one]
/-- What New lays into memory. -/
def newW (w : World) (n : Nat) : World := (w.alloc (.cells (madeCells #[.int .u64 0] ((n + 63) / 64)) 40)).alloc (.cells #[.int .i64 n, .slice (some ⟨w.heap.size, 0, none⟩) ((n + 63) / 64) ((n + 63) / 64)] 139)
theorem newW_at (w : World) (n : Nat) (hn : n ≤ 65536) : SetAt (newW w n) (w.heap.size + 1) w.heap.size n (fun _ => false) where
  len := by rw [newW, World.cell?_alloc_at _ _ _ _ (by simp)]; rfl
  words := by rw [newW, World.cell?_alloc_at _ _ _ _ (by simp)]; rfl
  word := fun j hj => by
    rw [wd_none, newW, World.cell?_alloc_past _ _ _ (by simp), World.cell?_alloc_at _ _ _ _ rfl, made_cell _ _ _ hj]
    rfl
  thawed := fun j => by
    rw [newW, World.frozen?_alloc_past _ _ _ (by simp), World.frozen?_alloc_at _ _ _ _ rfl]
  few := hn
  within := fun i h => by cases h
  hb := by simp [newW]
  hg := by simp [newW]; omega
  apart := by omega
theorem newW_below (w : World) (n : Nat) : Below w.heap.size w (newW w n) :=
  ((Below.refl _ w).alloc (Nat.le_refl _) _).alloc (by simp) _
theorem parts64 (x : Int) (n : Nat) (w : World) (hx : x = n) (hn : n ≤ 65536) :
    Calls Tryd.prog 102 #[.int .i64 x, .int .i64 64] w fun r w' => ∃ c : Nat, r = .returned (.int .i64 c) ∧ c ≤ 1024 ∧ Hid (c = (n + 63) / 64) ∧ w = w' := by
  subst hx
  refine (sparts_any n 64 w hn (.inr rfl)).mono ?_
  rintro r w' ⟨rfl, rfl⟩
  exact ⟨_, rfl, by omega, rfl, rfl⟩
theorem c65536 : (65536 : Int) = ((65536 : Nat) : Int) := rfl
theorem clamp_cases (n : Int) : n ≤ 0 ∧ clampN n = 0 ∨ 0 < n ∧ n < 65536 ∧ n = (clampN n : Int) ∨ 65536 ≤ n ∧ clampN n = 65536 := by
  rw [clampN]
  split <;> (try split) <;> omega
theorem clamp_le (n : Int) : clampN n ≤ 65536 := by rcases clamp_cases n with h | h | h <;> omega
theorem snew_any (n : Int) (w : World) :
    Calls Tryd.prog 89 #[.int .i64 n] w fun e w' => e = .returned (.pointer (some ⟨w.heap.size + 1, 0, none⟩)) ∧ newW w (clampN n) = w' := by
  have hmk := fun c : Nat => fun hc : c ≤ 1024 => run_make_row' (P := Tryd.prog) 137 40 (.int .u64 0) 8 Tryd.underlying137 Tryd.info62 rfl .i64 .i64 c (by omega) (by omega)
  have HM : Hid (∀ c : Nat, c ≤ 1024 → ∀ w : World, (Instr.makeSlice 137 (.int .i64 (c : Int)) (.int .i64 (c : Int))).run Tryd.prog w = .ok (.slice (some ⟨w.heap.size, 0, none⟩) c c) (w.alloc (.cells (madeCells #[.int .u64 0] c) 40))) := hmk
  clear hmk
  rcases clamp_cases n with ⟨h1, h2⟩ | ⟨h1, h2, h3⟩ | ⟨h1, h2⟩
  · rw [h2]
    clear h2
    go_enter Tryd.func89, Tryd.ntmps89
    go_wp2_with (go_at_call 102; refine (parts64 _ 0 _ rfl (by decide)).mono ?_; rintro e w' ⟨c, rfl, hc, HC, rfl⟩; have hmk := HM.out c hc)
    go_ret
    obtain rfl := HC.out
    exact ⟨rfl, rfl⟩
  · obtain ⟨m, hm⟩ : ∃ m, clampN n = m := ⟨_, rfl⟩
    have hm6 := clamp_le n
    rw [hm] at h3 hm6 ⊢
    clear hm
    subst h3
    go_enter Tryd.func89, Tryd.ntmps89
    go_wp2_with (go_at_call 102; refine (parts64 _ m _ rfl hm6).mono ?_; rintro e w' ⟨c, rfl, hc, HC, rfl⟩; have hmk := HM.out c hc)
    go_ret
    obtain rfl := HC.out
    exact ⟨rfl, rfl⟩
  · rw [h2]
    clear h2
    rcases Int.lt_or_eq_of_le h1 with h3 | rfl
    all_goals
      go_enter Tryd.func89, Tryd.ntmps89
      go_wp2_with (go_at_call 102; refine (parts64 _ 65536 _ c65536 (Nat.le_refl _)).mono ?_; rintro e w' ⟨c, rfl, hc, HC, rfl⟩; have hmk := HM.out c hc)
      go_ret
      obtain rfl := HC.out
      exact ⟨rfl, rfl⟩
end Go.Proofs.YtebmegghojiegaaDoor

/- A span in memory: what Page, Class, Size, Slots, Pages, begin, At, Slot, sized and check answer. -/
namespace Go.Proofs.YtebmegghojiegaaDoor
open Go.RowKit
set_option linter.unusedVariables false

/-- Both tables in their variables. -/
def Tabs (w : World) : Prop := TabC w ∧ TabB w
theorem Tabs.keep {w w' : World} (h : Tabs w) (hb : Below w.heap.size w w') : Tabs w' := ⟨h.1.keep hb, h.2.keep hb h.2.1⟩
theorem Tabs.drewN {w : World} (h : Tabs w) (m : Nat) : Tabs (w.drewN m) := h
theorem Tabs.drew {w : World} (h : Tabs w) : Tabs w.drew := h

/-- The numbers of a span in its box. -/
structure Bx (w : World) (sb : Nat) (p c s : Int) : Prop where
  b0 : w.cell? ⟨sb, 0, none⟩ = some (.int .i64 p)
  b1 : w.cell? ⟨sb, 1, none⟩ = some (.int .i64 c)
  b2 : w.cell? ⟨sb, 2, none⟩ = some (.int .i64 s)
theorem Bx.drewN {w : World} {sb : Nat} {p c s : Int} (h : Bx w sb p c s) (m : Nat) : Bx (w.drewN m) sb p c s := ⟨h.b0, h.b1, h.b2⟩
theorem Bx.drew {w : World} {sb : Nat} {p c s : Int} (h : Bx w sb p c s) : Bx w.drew sb p c s := ⟨h.b0, h.b1, h.b2⟩

theorem page_any (sb : Nat) (p c s : Int) (w : World) (h : Bx w sb p c s) :
    Calls Tryd.prog 48 #[.pointer (some ⟨sb, 0, none⟩)] w fun e w' => e = .returned (.int .i64 p) ∧ w = w' := by
  have b0 := h.b0
  go_enter Tryd.func48, Tryd.ntmps48
  go_wp2
  go_ret
  exact ⟨rfl, rfl⟩
theorem class_any (sb : Nat) (p c s : Int) (w : World) (h : Bx w sb p c s) :
    Calls Tryd.prog 97 #[.pointer (some ⟨sb, 0, none⟩)] w fun e w' => e = .returned (.int .i64 c) ∧ w = w' := by
  have b1 := h.b1
  go_enter Tryd.func97, Tryd.ntmps97
  go_wp2
  go_ret
  exact ⟨rfl, rfl⟩
theorem size_any (sb : Nat) (p c s : Int) (w : World) (h : Bx w sb p c s) (hT : TabC w) (h0 : 0 ≤ c) (h7 : c ≤ 7) :
    Calls Tryd.prog 99 #[.pointer (some ⟨sb, 0, none⟩)] w fun e w' => e = .returned (.int .i64 (szI c s)) ∧ w = w' := by
  have b1 := h.b1
  have b2 := h.b2
  have HT : Hid (TabC w) := hT
  clear h hT
  by_cases hc : c = 7
  · subst hc
    rw [show szI 7 s = s from rfl]
    go_enter Tryd.func99, Tryd.ntmps99
    go_wp2
    go_ret
    exact ⟨rfl, rfl⟩
  · have hq : (c == 7) = false := beq_eq_false_iff_ne.2 hc
    have E : Hid (szI c s = sizeI c) := by show _ = _; unfold szI; rw [if_neg hc]
    rw [E.out]
    clear hc
    go_enter Tryd.func99, Tryd.ntmps99
    go_wp2_with (go_at_call 105; refine (csize_any c _ HT.out (by omega) (by omega)).mono ?_; rintro e w' ⟨rfl, rfl⟩)
    go_ret
    exact ⟨rfl, rfl⟩
theorem slots_any (sb : Nat) (p c s : Int) (w : World) (h : Bx w sb p c s) (hT : TabC w) (h0 : 0 ≤ c) (h7 : c ≤ 7) :
    Calls Tryd.prog 80 #[.pointer (some ⟨sb, 0, none⟩)] w fun e w' => e = .returned (.int .i64 (slotsI c)) ∧ w = w' := by
  have b1 := h.b1
  have HT : Hid (TabC w) := hT
  clear h hT
  go_enter Tryd.func80, Tryd.ntmps80
  go_wp2_with (go_at_call 90; refine (cslots_any c _ HT.out (by omega) (by omega)).mono ?_; rintro e w' ⟨rfl, rfl⟩)
  go_ret
  exact ⟨rfl, rfl⟩
theorem pgs_eq (c s : Int) (h0 : 0 ≤ c) (h7 : c ≤ 7) : pagesN (szI c s) = pgsN c s := by
  rcases eight h0 h7 with rfl | rfl | rfl | rfl | rfl | rfl | rfl | rfl <;> first | rfl | decide
theorem pages_any (sb : Nat) (p c s : Int) (w : World) (h : Bx w sb p c s) (hT : TabC w) (h0 : 0 ≤ c) (h7 : c ≤ 7) :
    Calls Tryd.prog 88 #[.pointer (some ⟨sb, 0, none⟩)] w fun e w' => e = .returned (.int .i64 (pgsN c s : Nat)) ∧ w = w' := by
  have H : Hid (Bx w sb p c s) := h
  have HT : Hid (TabC w) := hT
  have E : Hid (pagesN (szI c s) = pgsN c s) := pgs_eq c s h0 h7
  clear h hT
  rw [← E.out]
  go_enter Tryd.func88, Tryd.ntmps88
  go_wp2_with (first
    | (go_at_call 99; refine (size_any sb p c s _ H.out HT.out h0 h7).mono ?_; rintro e w' ⟨rfl, rfl⟩)
    | (go_at_call 101; refine (cpages_any (szI c s) _ HT.out).mono ?_; rintro e w' ⟨rfl, rfl⟩))
  go_ret
  exact ⟨rfl, rfl⟩
theorem begin_any (sb : Nat) (p c s : Int) (w : World) (h : Bx w sb p c s) (h0 : 0 ≤ p) (h1 : p ≤ 4096) :
    Calls Tryd.prog 100 #[.pointer (some ⟨sb, 0, none⟩)] w fun e w' => e = .returned (.int .i64 (256 * p)) ∧ w = w' := by
  have H : Hid (Bx w sb p c s) := h
  clear h
  go_enter Tryd.func100, Tryd.ntmps100
  go_wp2_with (go_at_call 48; refine (page_any sb p c s _ H.out).mono ?_; rintro e w' ⟨rfl, rfl⟩)
  go_ret
  exact ⟨ret_int (by omega), rfl⟩

/-- What begin, Size and Slots answer of a span that may be. -/
theorem begin_rt (sb : Nat) (p c s : Int) (w : World) (h : Bx w sb p c s) (r : Rt p c s) (B : Int) (hB : B = 256 * p) :
    Calls Tryd.prog 100 #[.pointer (some ⟨sb, 0, none⟩)] w fun e w' => e = .returned (.int .i64 B) ∧ w = w' := by
  subst hB
  obtain ⟨_, _, _, _, _, _, f7, _⟩ := r.facts
  exact begin_any sb p c s w h r.p0 (by have := r.p1; omega)
theorem size_rt (sb : Nat) (p c s : Int) (w : World) (h : Bx w sb p c s) (hT : TabC w) (r : Rt p c s) (z : Int) (hz : szI c s = z) :
    Calls Tryd.prog 99 #[.pointer (some ⟨sb, 0, none⟩)] w fun e w' => e = .returned (.int .i64 z) ∧ w = w' := by
  subst hz; exact size_any sb p c s w h hT r.c0 r.c7
theorem slots_rt (sb : Nat) (p c s : Int) (w : World) (h : Bx w sb p c s) (hT : TabC w) (r : Rt p c s) (n : Nat) (hn : slN c = n) :
    Calls Tryd.prog 80 #[.pointer (some ⟨sb, 0, none⟩)] w fun e w' => e = .returned (.int .i64 (n : Nat)) ∧ w = w' := by
  subst hn
  have := slots_any sb p c s w h hT r.c0 r.c7
  rw [r.facts.2.2.1] at this
  exact this

/-- At of a slot. -/
theorem at_in (sb : Nat) (p c s : Int) (i : Nat) (w : World) (h : Bx w sb p c s) (hT : TabC w) (r : Rt p c s) (hi : i < slN c) :
    Calls Tryd.prog 86 #[.pointer (some ⟨sb, 0, none⟩), .int .i64 (i : Nat)] w fun e w' => e = .returned (.tuple #[.int .i64 (256 * p + (i : Int) * szI c s), .bool true]) ∧ w = w' := by
  have H : Hid (Bx w sb p c s) := h
  have HT : Hid (TabC w) := hT
  have R : Hid (Rt p c s) := r
  obtain ⟨k1, k2, k3⟩ := r.place i hi
  obtain ⟨f1, f2, f3, f4, f5, f6, f7, f8, _⟩ := r.facts
  have hp0 := r.p0
  have hp1 := r.p1
  obtain ⟨z, hz⟩ : ∃ z, szI c s = z := ⟨_, rfl⟩
  obtain ⟨n, hn⟩ : ∃ n, slN c = n := ⟨_, rfl⟩
  have HZ : Hid (szI c s = z) := hz
  have HN : Hid (slN c = n) := hn
  rw [hz] at k1 k2 k3 f4 f5 f6 ⊢
  rw [hn] at hi f1 f2
  have hp2 : p ≤ 4095 := by omega
  obtain ⟨B, hB⟩ : ∃ B, B = 256 * p := ⟨_, rfl⟩
  have HB : Hid (B = 256 * p) := hB
  rw [← hB]
  have hB0 : 0 ≤ B ∧ B ≤ 1048576 := by omega
  clear h hT r k3 f3 f6 f7 f8 hp1 hz hn hB
  go_enter Tryd.func86, Tryd.ntmps86
  go_wp2_with (first
    | (go_at_call 80; refine (slots_rt sb p c s _ H.out HT.out R.out n HN.out).mono ?_; rintro e w' ⟨rfl, rfl⟩)
    | (go_at_call 99; refine (size_rt sb p c s _ H.out HT.out R.out z HZ.out).mono ?_; rintro e w' ⟨rfl, rfl⟩)
    | (go_at_call 100; refine (begin_rt sb p c s _ H.out R.out B HB.out).mono ?_; rintro e w' ⟨rfl, rfl⟩))
  go_ret2
  exact ⟨rfl, rfl⟩
/-- At of no slot. -/
theorem at_out (sb : Nat) (p c s : Int) (i : Int) (w : World) (h : Bx w sb p c s) (hT : TabC w) (r : Rt p c s) (hi : ¬ (0 ≤ i ∧ i < (slN c : Int))) :
    Calls Tryd.prog 86 #[.pointer (some ⟨sb, 0, none⟩), .int .i64 i] w fun e w' => e = .returned (.tuple #[.int .i64 0, .bool false]) ∧ w = w' := by
  have H : Hid (Bx w sb p c s) := h
  have HT : Hid (TabC w) := hT
  have R : Hid (Rt p c s) := r
  obtain ⟨f1, f2, _⟩ := r.facts
  obtain ⟨n, hn⟩ : ∃ n, slN c = n := ⟨_, rfl⟩
  have HN : Hid (slN c = n) := hn
  rw [hn] at hi f1 f2
  clear h hT r hn
  rcases Int.lt_or_le i 0 with h0 | h0
  · go_enter Tryd.func86, Tryd.ntmps86
    go_wp2
    go_ret2
    exact ⟨rfl, rfl⟩
  · have h1 : (n : Int) ≤ i := by omega
    go_enter Tryd.func86, Tryd.ntmps86
    go_wp2_with (go_at_call 80; refine (slots_rt sb p c s _ H.out HT.out R.out n HN.out).mono ?_; rintro e w' ⟨rfl, rfl⟩)
    go_ret2
    exact ⟨rfl, rfl⟩

set_option maxHeartbeats 1000000 in
theorem slot_any (sb : Nat) (p c s : Int) (x : Int) (w : World) (h : Bx w sb p c s) (hT : TabC w) (r : Rt p c s) (hx : -9223372036854775808 ≤ x ∧ x ≤ 9223372036854775807) :
    Calls Tryd.prog 95 #[.pointer (some ⟨sb, 0, none⟩), .int .i64 x] w fun e w' => ∃ y ok, e = .returned (.tuple #[.int .i64 y, .bool ok]) ∧ SlotR (slN c) p (szI c s) x y ok ∧ w = w' := by
  have H : Hid (Bx w sb p c s) := h
  have HT : Hid (TabC w) := hT
  have R : Hid (Rt p c s) := r
  obtain ⟨f1, f2, f3, f4, f5, f6, f7, f8, _⟩ := r.facts
  have hp0 := r.p0
  have hp1 := r.p1
  obtain ⟨z, hz⟩ : ∃ z, szI c s = z := ⟨_, rfl⟩
  have HZ : Hid (szI c s = z) := hz
  rw [hz] at f4 f5 ⊢
  have hp2 : p ≤ 4095 := by omega
  obtain ⟨B, hB⟩ : ∃ B, B = 256 * p := ⟨_, rfl⟩
  have HB : Hid (B = 256 * p) := hB
  have hB0 : 0 ≤ B ∧ B ≤ 1048576 := by omega
  have hzz : (z == 0) = false := by rw [beq_eq_false_iff_ne]; omega
  obtain ⟨d, hd⟩ : ∃ d, wrap64 (x - B) = d := ⟨_, rfl⟩
  have hdb : -9223372036854775808 ≤ d ∧ d ≤ 9223372036854775807 := by rw [← hd]; unfold wrap64; omega
  obtain ⟨q, hq⟩ : ∃ q, d.tdiv z = q := ⟨_, rfl⟩
  by_cases hin : ∃ i : Nat, i < slN c ∧ x = 256 * p + (i : Int) * z
  · obtain ⟨i, hi, hxi⟩ := hin
    obtain ⟨k1, k2, _⟩ := r.place i hi
    rw [hz] at k1 k2
    have hdi : d = (i : Int) * z := by rw [← hd]; unfold wrap64; omega
    have hqi : q = (i : Int) := by rw [← hq, hdi]; exact Int.mul_tdiv_cancel _ (by omega)
    have S : Hid (SlotR (slN c) p z x (i : Int) true) := .inl ⟨rfl, i, hi, rfl, hxi⟩
    have HA : Hid (x = 256 * p + (i : Int) * szI c s) := by show _ = _; rw [HZ.out]; exact hxi
    rw [hqi] at hq
    have hib : (i : Int) ≤ 16 := by omega
    clear h hT r hz hB hdi hqi hxi f1 f2 f3 f6 f7 f8 hp1 k1 k2 hp0 hp2
    go_enter Tryd.func95, Tryd.ntmps95
    go_wp2_with (first
      | (go_at_call 100; refine (begin_rt sb p c s _ H.out R.out B HB.out).mono ?_; rintro e w' ⟨rfl, rfl⟩)
      | (go_at_call 99; refine (size_rt sb p c s _ H.out HT.out R.out z HZ.out).mono ?_; rintro e w' ⟨rfl, rfl⟩)
      | (go_at_call 86; refine (at_in sb p c s i _ H.out HT.out R.out hi).mono ?_; rw [← HA.out]; rintro e w' ⟨rfl, rfl⟩))
    go_ret2
    exact ⟨_, _, rfl, S.out, rfl⟩
  · have S : Hid (SlotR (slN c) p z x 0 false) := .inr ⟨rfl, rfl, fun i hi e => hin ⟨i, hi, e⟩⟩
    by_cases hqn : 0 ≤ q ∧ q < (slN c : Int)
    · obtain ⟨i, rfl⟩ : ∃ i : Nat, q = i := ⟨q.toNat, by omega⟩
      have hi : i < slN c := by omega
      obtain ⟨y, hy⟩ : ∃ y, 256 * p + (i : Int) * szI c s = y := ⟨_, rfl⟩
      have HY : Hid (256 * p + (i : Int) * szI c s = y) := hy
      have hne : (y == x) = false := by rw [beq_eq_false_iff_ne]; intro e; exact hin ⟨i, hi, by rw [← e, ← hy, hz]⟩
      have hne' : (y != x) = true := by rw [bne, hne]; rfl
      have hib : (i : Int) ≤ 16 := by omega
      clear h hT r hz hB hin f1 f2 f3 f6 f7 f8 hp1 hp0 hp2 hy
      go_enter Tryd.func95, Tryd.ntmps95
      go_wp2_with (first
        | (go_at_call 100; refine (begin_rt sb p c s _ H.out R.out B HB.out).mono ?_; rintro e w' ⟨rfl, rfl⟩)
        | (go_at_call 99; refine (size_rt sb p c s _ H.out HT.out R.out z HZ.out).mono ?_; rintro e w' ⟨rfl, rfl⟩)
        | (go_at_call 86; refine (at_in sb p c s i _ H.out HT.out R.out hi).mono ?_; rw [HY.out]; rintro e w' ⟨rfl, rfl⟩))
      go_ret2
      exact ⟨_, _, rfl, S.out, rfl⟩
    · have HQ : Hid (¬ (0 ≤ q ∧ q < (slN c : Int))) := hqn
      have hqb : -9223372036854775808 ≤ q ∧ q ≤ 9223372036854775807 := by
        rw [← hq]
        have a1 := Int.natAbs_tdiv_le_natAbs d z
        rcases Int.lt_or_le d 0 with h9 | h9
        · have e1 : 0 ≤ (-d).tdiv z := Int.tdiv_nonneg (by omega) (by omega)
          rw [Int.neg_tdiv] at e1
          omega
        · have e1 : 0 ≤ d.tdiv z := Int.tdiv_nonneg h9 (by omega)
          omega
      clear h hT r hz hB hin f1 f2 f3 f6 f7 f8 hp1 hp0 hp2 hqn
      go_enter Tryd.func95, Tryd.ntmps95
      go_wp2_with (first
        | (go_at_call 100; refine (begin_rt sb p c s _ H.out R.out B HB.out).mono ?_; rintro e w' ⟨rfl, rfl⟩)
        | (go_at_call 99; refine (size_rt sb p c s _ H.out HT.out R.out z HZ.out).mono ?_; rintro e w' ⟨rfl, rfl⟩)
        | (go_at_call 86; refine (at_out sb p c s q _ H.out HT.out R.out HQ.out).mono ?_; rintro e w' ⟨rfl, rfl⟩))
      go_ret2
      exact ⟨_, _, rfl, S.out, rfl⟩
end Go.Proofs.YtebmegghojiegaaDoor

/- What List of a set in memory answers. -/
namespace Go.Proofs.YtebmegghojiegaaDoor
open Go.RowKit
set_option linter.unusedVariables false


/-- A list of integers of a kind in a block of the call's own. -/
def Owns (w : World) (base : Nat) (e : TypeId) (k : IntKind) (a : Option Addr) (l : List Int) (cap : Nat) : Prop := w.ownsRow base e 1 (.slice a l.length cap) l.length (l.map (Value.int k))
/-- A list of integers that is read. -/
def IsL (w : World) (k : IntKind) (a : Option Addr) (l : List Int) : Prop :=
  l = [] ∨ ∃ b off, a = some ⟨b, off, none⟩ ∧ b < w.heap.size ∧ ∀ i, i < l.length → w.cell? ⟨b, off + i, none⟩ = some (.int k (l.getD i 0))
theorem IsL.keep {w w' : World} {k : IntKind} {a : Option Addr} {l : List Int} (h : IsL w k a l) (hb : Below w.heap.size w w') : IsL w' k a l := by
  rcases h with h | ⟨b, off, e, hs, hc⟩
  · exact .inl h
  · refine .inr ⟨b, off, e, by have := hb.size; omega, fun i hi => ?_⟩
    rw [hb.cell (p := ⟨b, off + i, none⟩) hs]
    exact hc i hi
theorem owns_form {w : World} {base n : Nat} {e : TypeId} {v : Value} {xs : List Value} (h : w.ownsRow base e 1 v n xs) : ∃ a cap, v = .slice a n cap := by
  obtain ⟨_, ⟨rfl, rfl⟩ | ⟨g, c', cur, rfl, _⟩⟩ := h
  · exact ⟨_, _, rfl⟩
  · exact ⟨_, _, rfl⟩
theorem Owns.isL {w : World} {base : Nat} {e : TypeId} {k : IntKind} {a : Option Addr} {l : List Int} {cap : Nat} (h : Owns w base e k a l cap) : IsL w k a l := by
  have h' := h
  obtain ⟨_, ⟨h1, h2⟩ | ⟨g, c', cur, h1, _, h2, _⟩⟩ := h
  · exact .inl (List.eq_nil_of_length_eq_zero h2)
  · cases h1
    refine .inr ⟨g, 0, rfl, (Array.getElem?_eq_some_iff.1 h2).1, ?_⟩
    intro i hi
    have := World.ownsRow.cellAt h' i (by omega)
    rw [Nat.zero_add, this]
    simp [List.getD, hi]
theorem Owns.ge {w : World} {base cap : Nat} {e : TypeId} {k : IntKind} {a : Option Addr} {l : List Int} (h : Owns w base e k a l cap) : ∀ j, (Value.slice a l.length cap).ownBlock = some j → base ≤ j := by
  intro j hj
  obtain ⟨_, ⟨h1, h2⟩ | ⟨g, c', cur, h1, hg, h2, _⟩⟩ := h
  · rw [h1] at hj; simp [Value.ownBlock] at hj
  · rw [h1] at hj
    simp [Value.ownBlock] at hj
    omega
theorem Owns.keep {w w' : World} {base cap : Nat} {e : TypeId} {k : IntKind} {a : Option Addr} {l : List Int} (h : Owns w base e k a l cap) (hb : Below w.heap.size w w') : Owns w' base e k a l cap := by
  obtain ⟨h0, h1 | ⟨g, c', cur, h1, hg, h2, h3⟩⟩ := h
  · exact ⟨h0, .inl h1⟩
  · exact ⟨h0, .inr ⟨g, c', cur, h1, hg, by rw [hb.block g (Array.getElem?_eq_some_iff.1 h2).1]; exact h2, h3⟩⟩
/-- One integer is appended to a list of the call's own. -/
theorem wpList_one {ops : Array Oper} {rest : List Oper} {o : Oper} {a : Act} {Q : Exit → Act → World → Prop} {w : World} (hgd : o.guard = none) (s x : Operand) (t e : TypeId) (k : IntKind) (z : Int) (bytes : Nat)
    (ho : o.op = .call { callee := .builtin .append, args := #[s, x], argTypes := #[t, t] })
    (ht : Tryd.prog.underlying t = some (.slice e)) (hin : (Tryd.prog.info? e).map (fun i => (i.zero, i.size, i.bytes)) = some (some (.int k z), 1, bytes))
    (base : Nat) (hbase : base ≤ w.heap.size) (as0 : Option Addr) (L : List Int) (cs : Nat) (hs : a.eval s = .slice as0 L.length cs) (hown : Owns w base e k as0 L cs)
    (g c : Nat) (y : Int) (hx : a.eval x = .slice (some ⟨g, 0, none⟩) 1 c) (hc : w.cell? ⟨g, 0, none⟩ = some (.int k y)) (hlen : (L.length + 1) * bytes ≤ 140737488355328) (hmax : L.length ≤ 140737488355328)
    (h : ∀ a' cap' w', Owns w' base e k a' (L ++ [y]) cap' → Below base w w' → wpList Tryd.prog ops Q rest (a.put o.dst (.slice a' (L ++ [y]).length cap')) w') :
    wpList Tryd.prog ops Q (o :: rest) a w := by
  obtain ⟨i0, hi, hz0, hz1, hz2⟩ := info_parts hin
  refine wpList_append_own w hgd s x t ho base e i0 (.int k z) 1 bytes ht hi hz0 hz1 hz2 rfl (by decide) _ _ _ hs hown ⟨g, 0, none⟩ 1 c [.int k y] hx rfl ?_ ?_ (by unfold maxLen; omega) hlen hbase ?_
  · intro j u hj
    match j, hj with
    | 0, hj => simp at hj; subst hj; simpa [Addr.add] using hc
  · intro u hu; simp at hu; subst hu; rfl
  · intro v' w' h1 h2 h3
    obtain ⟨a', cap', rfl⟩ := owns_form h1
    have := h a' cap' w' (by simpa [Owns] using h1) ((Below.refl _ w).grown h2 hbase hown.ge)
    simpa using this
theorem Tryd.info3 : (Tryd.prog.info? 3).map (fun i => (i.zero, i.size, i.bytes)) = some (some (.int .i64 0), 1, 8) := by kernel_rfl
theorem make_ints (c : Nat) (hc : c ≤ 65536) (w : World) : (Instr.makeSlice 51 (.int .i64 0) (.int .i64 (c : Int))).run Tryd.prog w = .ok (.slice (some ⟨w.heap.size, 0, none⟩) 0 c) (w.alloc (.cells (madeCells #[.int .i64 0] c) 3)) := by
  obtain ⟨i0, hi, hz0, hz1, hz2⟩ := info_parts Tryd.info3
  have := run_make (P := Tryd.prog) w 51 3 i0 (.int .i64 0) Tryd.underlying51 hi hz0 .i64 .i64 0 c (by omega) (by omega) (by rw [hz2]; omega) (by omega)
  rw [hz1] at this
  simp only [Int.toNat_natCast, Int.toNat_zero, Nat.mul_one] at this
  exact this
def lenOf : Value → Nat
  | .slice _ k _ => k
  | _ => 0
end Go.Proofs.YtebmegghojiegaaDoor
