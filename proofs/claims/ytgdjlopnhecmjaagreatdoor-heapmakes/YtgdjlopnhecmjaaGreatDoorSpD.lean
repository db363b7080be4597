/- A set in memory: next, First, Gap, New, Add, Del. -/
import Derived.Test.YtgdjlopnhecmjaaGreatDoorGzAB
namespace Go.Proofs.YtgdjlopnhecmjaaGreatDoor
open Go.RowKit
set_option linter.unusedVariables false
set_option maxRecDepth 4000


theorem tz_of (x : Nat) (w : World) (hx : x < 18446744073709551616) (hx0 : x ≠ 0) (hT : TabB w) :
    Calls Tryz.prog 275 #[.int .u64 x] w fun e w' => ∃ c : Nat, e = .returned (.int .i64 c) ∧ c < 64 ∧ Hid (c = Lib.ctz 64 x) ∧ w = w' := by
  refine (tz_any x w hx hx0 hT).mono ?_
  rintro e w' ⟨rfl, rfl⟩
  exact ⟨_, rfl, (ctz_bits x hx0 hx).2.2, rfl, rfl⟩
set_option maxHeartbeats 1000000 in
theorem next_any (b g n : Nat) (f q : Nat → Bool) (fr : Int) (T : Nat) (hT64 : T < 18446744073709551616) (hh : ∀ j k, k < 64 → (wd f j ^^^ T).testBit k = q (64 * j + k)) (w : World) (hS : SetAt w b g n f) (hT : TabB w) (hfr : fr ≤ 9223372036854775807) :
    Calls Tryz.prog 268 #[.pointer (some ⟨b, 0, none⟩), .int .i64 fr, .int .u64 T] w fun e w' => e = .returned (.int .i64 (nextL q n fr.toNat)) ∧ w = w' := by
  have hl := hS.len
  have hs := hS.words
  have few := hS.few
  have HW : Hid (∀ j, j < (n + 63) / 64 → w.cell? ⟨g, j, none⟩ = some (.int .u64 (wd f j : Nat))) := hS.word
  have HT : Hid (TabB w) := hT
  have HH : Hid (∀ j k, k < 64 → (wd f j ^^^ T).testBit k = q (64 * j + k)) := hh
  obtain ⟨i0, e0⟩ : ∃ i0 : Nat, fr.toNat = i0 := ⟨_, rfl⟩
  rw [e0]
  have hb0 : i0 ≤ 9223372036854775807 := by omega
  have hcase : (0 < i0 ∧ fr = (i0 : Int)) ∨ (¬ 0 < fr ∧ i0 = 0) := by omega
  clear hS hT hh e0
  rcases hcase with ⟨hpos, rfl⟩ | ⟨hpos, rfl⟩
  all_goals
    go_enter Tryz.func268, Tryz.ntmps268
    go_wp2
    go_loop [7] (fun i => ∃ k : Nat, i = .int .i64 k ∧ k ≤ 9223372036854775807 ∧ Hid (nextL q n _ = nextL q n k)) (fun i => n - (intOf i).toNat)
    case atStart => exact ⟨_, rfl, hb0, rfl⟩
    case round =>
      obtain ⟨k, rfl, hk, HK⟩ := hrel
      by_cases hlt : k < n
      · have hcell := HW.out (k / 64) (by omega)
        obtain ⟨X, hX⟩ : ∃ X : Nat, wd f (k / 64) ^^^ T = X := ⟨_, rfl⟩
        have hXb : ∀ t, t < 64 → X.testBit t = q (64 * (k / 64) + t) := fun t ht => by rw [← hX]; exact HH.out _ t ht
        have hX64 : X < 18446744073709551616 := by rw [← hX]; exact Nat.xor_lt_two_pow (n := 64) (wd_lt f _) hT64
        have hx := u64_xor_nat (wd f (k / 64)) T (wd_lt f _) hT64
        rw [hX] at hx
        obtain ⟨r, hr⟩ : ∃ r : Nat, X / 2 ^ (k % 64) = r := ⟨_, rfl⟩
        have hri : ((X : Int) / 2 ^ (k % 64)) = (r : Int) := by rw [← hr]; simp
        have hr64 : r < 18446744073709551616 := by rw [← hr]; exact Nat.lt_of_le_of_lt (Nat.div_le_self _ _) hX64
        have XB : Hid (∀ t, t < 64 → X.testBit t = q (64 * (k / 64) + t)) := hXb
        have HR : Hid (X / 2 ^ (k % 64) = r) := hr
        clear hX hXb hr
        by_cases hr0 : r = 0
        · have SK : Hid (nextL q n _ = nextL q n (k + (64 - k % 64))) := HK.out.trans (nextL_skip q n k _ (fun m h1 h2 _ => rest_zero q X k XB.out (by rw [HR.out, hr0]) m h1 h2))
          subst hr0
          go_wp2_with (go_at_call 272; refine (slen_any b n _ hl).mono ?_; rintro e w' ⟨rfl, rfl⟩)
          go_round
          case rel => exact ⟨k + (64 - k % 64), by go_num, by omega, SK⟩
          case measure => simp [intOf]; omega
        · have hd : ((r : Int) == 0) = false := by simp; omega
          go_wp2_with (first | (go_at_call 272; refine (slen_any b n _ hl).mono ?_; rintro e w' ⟨rfl, rfl⟩) | (go_at_call 275; refine (tz_of r _ hr64 hr0 HT.out).mono ?_; rintro e w' ⟨c, rfl, hc, HC, rfl⟩))
          obtain ⟨c1, c2, c3⟩ := rest_some q X k r c hX64 XB.out HR.out hr0 HC.out
          have C2 : Hid (q (k + c) = true) := c2
          have SK : Hid (nextL q n _ = nextL q n (k + c)) := HK.out.trans (nextL_skip q n k c (fun m h1 h2 _ => c3 m h1 h2))
          clear c2 c3
          refine (isPlace_any b n _ _ hl).mono ?_
          rintro e w' ⟨rfl, rfl⟩
          by_cases hin : k + c < n
          · have hp : isP n ((k : Int) + (c : Int)) = true := isP_true.2 ⟨by omega, by omega⟩
            rw [hp]
            go_wp2
            go_ret
            exact ⟨ret_int (by rw [SK.out, nextL_at q hin C2.out]; omega), rfl⟩
          · have hp : isP n ((k : Int) + (c : Int)) = false := isP_false.2 (by omega)
            have S2 : Hid (nextL q n _ = nextL q n (k + (64 - k % 64))) := SK.out.trans ((nextL_stop q (by omega)).trans (nextL_stop q (by omega)).symm)
            rw [hp]
            go_wp2
            go_round
            case rel => exact ⟨k + (64 - k % 64), by go_num, by omega, S2⟩
            case measure => simp [intOf]; omega
      · have EE : Hid (nextL q n _ = -1) := HK.out.trans (nextL_stop q (by omega))
        go_wp2_with (go_at_call 272; refine (slen_any b n _ hl).mono ?_; rintro e w' ⟨rfl, rfl⟩)
        go_ret
        exact ⟨ret_int EE.out.symm, rfl⟩
theorem first_any (b g n : Nat) (f : Nat → Bool) (fr : Int) (w : World) (hS : SetAt w b g n f) (hT : TabB w) (hfr : fr ≤ 9223372036854775807) :
    Calls Tryz.prog 251 #[.pointer (some ⟨b, 0, none⟩), .int .i64 fr] w fun e w' => e = .returned (.int .i64 (nextL f n fr.toNat)) ∧ w = w' := by
  have HS : Hid (SetAt w b g n f) := hS
  have HT : Hid (TabB w) := hT
  clear hS hT
  go_enter Tryz.func251, Tryz.ntmps251
  go_wp2_with (go_at_call 268; refine (next_any b g n f f fr 0 (by decide) (same_bits f) _ HS.out HT.out hfr).mono ?_; rintro e w' ⟨rfl, rfl⟩)
  go_ret
  exact ⟨rfl, rfl⟩
def outB (f : Nat → Bool) : Nat → Bool := fun i => !f i
theorem gap_any (b g n : Nat) (f : Nat → Bool) (fr : Int) (w : World) (hS : SetAt w b g n f) (hT : TabB w) (hfr : fr ≤ 9223372036854775807) :
    Calls Tryz.prog 256 #[.pointer (some ⟨b, 0, none⟩), .int .i64 fr] w fun e w' => e = .returned (.int .i64 (nextL (outB f) n fr.toNat)) ∧ w = w' := by
  have HS : Hid (SetAt w b g n f) := hS
  have HT : Hid (TabB w) := hT
  clear hS hT
  go_enter Tryz.func256, Tryz.ntmps256
  go_wp2_with (go_at_call 268; refine (next_any b g n f (outB f) fr 18446744073709551615 (by decide) (turned_bits f) _ HS.out HT.out hfr).mono ?_; rintro e w' ⟨rfl, rfl⟩)
  go_ret
  exact ⟨rfl, rfl⟩


/-- Of the block g alone another may be. -/
structure Only (g : Nat) (w w' : World) : Prop where
  os : w'.os = w.os
  tape : w'.tape = w.tape
  output : w'.output = w.output
  size : w'.heap.size = w.heap.size
  block : ∀ k, k ≠ g → w'.heap[k]? = w.heap[k]?
theorem Only.refl (g : Nat) (w : World) : Only g w w := ⟨rfl, rfl, rfl, rfl, fun _ _ => rfl⟩
theorem Only.trans {g : Nat} {a b c : World} (h : Only g a b) (k : Only g b c) : Only g a c :=
  ⟨k.os.trans h.os, k.tape.trans h.tape, k.output.trans h.output, k.size.trans h.size, fun i hi => (k.block i hi).trans (h.block i hi)⟩
theorem Only.below {g B : Nat} {w w' : World} (h : Only g w w') (hB : B ≤ g) : Below B w w' :=
  ⟨h.os, h.tape, h.output, by rw [h.size]; exact Nat.le_refl _, fun k hk => h.block k (by omega)⟩
theorem Only.drew {g : Nat} {w w' : World} (h : Only g w w') : Only g w w'.drew := ⟨h.os, h.tape, h.output, h.size, h.block⟩
theorem Only.set (g j : Nat) (v : Value) (w : World) : Only g w (w.setCell ⟨g, j, none⟩ v) :=
  ⟨rfl, rfl, rfl, by simp, fun k hk => Below.heap_setCell _ _ _ _ hk⟩
theorem Only.cell {g : Nat} {w w' : World} (h : Only g w w') {p : Addr} (hp : p.block ≠ g) : w'.cell? p = w.cell? p := World.cell?_of_block (h.block p.block hp)
theorem Only.frozen {g : Nat} {w w' : World} (h : Only g w w') {p : Addr} (hp : p.block ≠ g) : w'.frozen? p = w.frozen? p := World.frozen?_of_block (h.block p.block hp)
theorem TabB.keep {w w' : World} {B : Nat} (h : TabB w) (hb : Below B w w') (hB : 1 < B) : TabB w' :=
  ⟨by have := hb.size; have := h.1; omega, fun j hj => by rw [hb.cell (p := ⟨1, j, none⟩) hB]; exact h.2 j hj⟩
theorem SetAt.keep {w w' : World} {b g n B : Nat} {f : Nat → Bool} (h : SetAt w b g n f) (hb : Below B w w') (h1 : b < B) (h2 : g < B) : SetAt w' b g n f where
  len := by rw [hb.cell (p := ⟨b, 0, none⟩) h1]; exact h.len
  words := by rw [hb.cell (p := ⟨b, 1, none⟩) h1]; exact h.words
  word := fun j hj => by rw [hb.cell (p := ⟨g, j, none⟩) h2]; exact h.word j hj
  thawed := fun j => by rw [hb.frozen (p := ⟨g, j, none⟩) h2]; exact h.thawed j
  few := h.few
  within := h.within
  hb := by have := hb.size; have := h.hb; omega
  hg := by have := hb.size; have := h.hg; omega
  apart := h.apart
theorem SetAt.keepAll {w w' : World} {b g n : Nat} {f : Nat → Bool} (h : SetAt w b g n f) (hb : Below w.heap.size w w') : SetAt w' b g n f := h.keep hb h.hb h.hg
theorem SetAt.beside {w w' : World} {b g n o : Nat} {f : Nat → Bool} (h : SetAt w b g n f) (ho : Only o w w') (h1 : b ≠ o) (h2 : g ≠ o) : SetAt w' b g n f where
  len := by rw [ho.cell (p := ⟨b, 0, none⟩) h1]; exact h.len
  words := by rw [ho.cell (p := ⟨b, 1, none⟩) h1]; exact h.words
  word := fun j hj => by rw [ho.cell (p := ⟨g, j, none⟩) h2]; exact h.word j hj
  thawed := fun j => by rw [ho.frozen (p := ⟨g, j, none⟩) h2]; exact h.thawed j
  few := h.few
  within := h.within
  hb := by have := ho.size; have := h.hb; omega
  hg := by have := ho.size; have := h.hg; omega
  apart := h.apart
theorem SetAt.drew {w : World} {b g n : Nat} {f : Nat → Bool} (h : SetAt w b g n f) : SetAt w.drew b g n f :=
  ⟨h.len, h.words, h.word, h.thawed, h.few, h.within, h.hb, h.hg, h.apart⟩
theorem SetAt.congr {w : World} {b g n : Nat} {f f' : Nat → Bool} (h : SetAt w b g n f) (e : ∀ i, f i = f' i) : SetAt w b g n f' := by
  have : f = f' := funext e
  exact this ▸ h
theorem cell_set {w : World} {g j : Nat} {u v : Value} (h : w.cell? ⟨g, j, none⟩ = some u) : (w.setCell ⟨g, j, none⟩ v).cell? ⟨g, j, none⟩ = some v := by
  simp only [World.cell?, World.setCell, Array.getElem?_modify] at h ⊢
  split at h
  · rename_i c t fr hh
    simp at h
    have hj : j < c.size := by
      have := h
      exact (Array.getElem?_eq_some_iff.1 this).1
    simp [hh, hj]
  · cases h
theorem cell_else {w : World} {g j k : Nat} {v : Value} (h : k ≠ j) : (w.setCell ⟨g, j, none⟩ v).cell? ⟨g, k, none⟩ = w.cell? ⟨g, k, none⟩ := by
  simp only [World.cell?, World.setCell, Array.getElem?_modify]
  rcases hh : w.heap[g]? with _ | o
  · simp
  · rcases o with ⟨c, t, fr⟩ | _ <;> simp [Ne.symm h]
theorem frozen_set {w : World} {g j k : Nat} {v : Value} : (w.setCell ⟨g, j, none⟩ v).frozen? ⟨g, k, none⟩ = w.frozen? ⟨g, k, none⟩ := by
  simp only [World.frozen?, World.setCell, Array.getElem?_modify]
  rcases hh : w.heap[g]? with _ | o
  · simp
  · rcases o with ⟨c, t, fr⟩ | _ <;> simp
/-- A word is stored: just the places of that word are others. -/
theorem SetAt.stored {w : World} {b g n j : Nat} {f f' : Nat → Bool} (h : SetAt w b g n f) (hj : j < (n + 63) / 64) (he : ∀ k, k ≠ j → wd f' k = wd f k) (hw : ∀ i, f' i = true → i < n) : SetAt (w.setCell ⟨g, j, none⟩ (.int .u64 (wd f' j : Nat))) b g n f' where
  len := by rw [(Only.set g j _ w).cell (p := ⟨b, 0, none⟩) h.apart]; exact h.len
  words := by rw [(Only.set g j _ w).cell (p := ⟨b, 1, none⟩) h.apart]; exact h.words
  word := fun k hk => by
    by_cases e : k = j
    · subst e; exact cell_set (h.word k hk)
    · rw [cell_else e, he k e]; exact h.word k hk
  thawed := fun k => by rw [frozen_set]; exact h.thawed k
  few := h.few
  within := hw
  hb := by simpa using h.hb
  hg := by simpa using h.hg
  apart := h.apart
theorem put_within {n i : Nat} {f : Nat → Bool} {c : Bool} (h : ∀ k, f k = true → k < n) (hi : i < n) : ∀ k, put f i c k = true → k < n := by
  intro k hk
  rw [put] at hk
  split at hk
  · omega
  · exact h k hk
/-- What Add and Del make of a set. -/
def turn (n : Nat) (f : Nat → Bool) (i : Int) (c : Bool) : Nat → Bool := fun x => if isP n i = true ∧ x = i.toNat then c else f x
theorem turn_same {n : Nat} {f : Nat → Bool} {i : Int} {c : Bool} (h : isP n i = true → f i.toNat = c) : ∀ x, f x = turn n f i c x := by
  intro x
  rw [turn]
  split
  · rename_i hx; rw [hx.2]; exact h hx.1
  · rfl
theorem turn_put {n : Nat} {f : Nat → Bool} {i : Int} {c : Bool} (h : isP n i = true) : ∀ x, put f i.toNat c x = turn n f i c x := by
  intro x
  rw [turn, put]
  simp [h]
theorem shl_int (k : Nat) (hk : k < 64) : IntKind.u64.wrap (2 ^ k) = ((2 ^ k : Nat) : Int) := by
  have hp : 2 ^ k < 2 ^ 64 := Nat.pow_lt_pow_right (by decide) hk
  rw [IntKind.wrap_u64]
  have : ((2 : Int) ^ k) = ((2 ^ k : Nat) : Int) := by simp
  rw [this]
  generalize 2 ^ k = p at *
  omega
theorem add_int (f : Nat → Bool) (k : Nat) : bits BinOp.or IntKind.u64 ((wd f (k / 64) : Nat) : Int) (IntKind.u64.wrap (2 ^ (k % 64))) = (wd (put f k true) (k / 64) : Nat) := by
  have hp : 2 ^ (k % 64) < 2 ^ 64 := Nat.pow_lt_pow_right (by decide) (by omega)
  rw [shl_int _ (by omega), bits_or_u64_nat _ _ (wd_lt f _) (by omega), add_word]
theorem del_int (f : Nat → Bool) (k : Nat) : bits BinOp.andNot IntKind.u64 ((wd f (k / 64) : Nat) : Int) (IntKind.u64.wrap (2 ^ (k % 64))) = (wd (put f k false) (k / 64) : Nat) := by
  have hp : 2 ^ (k % 64) < 2 ^ 64 := Nat.pow_lt_pow_right (by decide) (by omega)
  rw [shl_int _ (by omega), u64_andNot_nat _ _ (wd_lt f _) (by omega), del_word]
set_option maxHeartbeats 1000000 in
theorem sadd_any (b g n : Nat) (f : Nat → Bool) (i : Int) (w : World) (h : SetAt w b g n f) :
    Calls Tryz.prog 254 #[.pointer (some ⟨b, 0, none⟩), .int .i64 i] w fun e w' => e = .returned (.bool (isP n i && !f i.toNat)) ∧ SetAt w' b g n (turn n f i true) ∧ Only g w w' := by
  have hl := h.len
  have hs := h.words
  have few := h.few
  have HS : Hid (SetAt w b g n f) := h
  cases hp : isP n i
  · have HP : Hid (isP n i = false) := hp
    have HE : Hid (SetAt w b g n (turn n f i true)) := h.congr (turn_same (fun e => by rw [hp] at e; cases e))
    clear h hp
    go_enter Tryz.func254, Tryz.ntmps254
    go_wp2_with (go_at_call 261; refine (isPlace_any b n i _ hl).mono ?_; rintro e w' ⟨rfl, rfl⟩; rw [HP.out])
    go_ret
    exact ⟨ret_bool rfl, HE.out, Only.refl _ _⟩
  · have HP : Hid (isP n i = true) := hp
    obtain ⟨h0, h1⟩ := isP_true.1 hp
    obtain ⟨k, rfl⟩ : ∃ k : Nat, i = k := ⟨i.toNat, by omega⟩
    rw [Int.toNat_natCast]
    cases hf : f k
    · have HB : Hid (hasB n f k = false) := by show hasB n f k = false; rw [hasB, hp, Int.toNat_natCast, hf]; rfl
      have hj : k / 64 < (n + 63) / 64 := by omega
      have hw := h.word (k / 64) hj
      have hz := h.thawed (k / 64)
      have hlt := wd_lt f (k / 64)
      have HI := add_int f k
      have HA : Hid (bits BinOp.or IntKind.u64 ((wd f (k / 64) : Nat) : Int) (IntKind.u64.wrap (2 ^ (k % 64))) = (wd (put f k true) (k / 64) : Nat)) := HI
      have HE : Hid (SetAt (w.setCell ⟨g, k / 64, none⟩ (.int .u64 (wd (put f k true) (k / 64) : Nat))) b g n (turn n f k true)) :=
        (h.stored hj (fun m hm => word_else f k m true hm) (put_within h.within (by omega))).congr (turn_put hp)
      clear h hp hf HI
      go_enter Tryz.func254, Tryz.ntmps254
      go_wp2_with (first | (go_at_call 261; refine (isPlace_any b n k _ hl).mono ?_; rintro e w' ⟨rfl, rfl⟩; rw [HP.out]) | (go_at_call 238; refine (shas_any b g n f k _ HS.out).mono ?_; rintro e w' ⟨rfl, rfl⟩; rw [HB.out]))
      go_region
      all_goals go_wp2
      all_goals go_ret
      all_goals rw [HA.out]
      all_goals exact ⟨rfl, HE.out.drew, (Only.set g (k / 64) _ w).drew⟩
    · have HB : Hid (hasB n f k = true) := by show hasB n f k = true; rw [hasB, hp, Int.toNat_natCast, hf]; rfl
      have HE : Hid (SetAt w b g n (turn n f k true)) := h.congr (turn_same (fun e => by rw [Int.toNat_natCast]; exact hf))
      clear h hp hf
      go_enter Tryz.func254, Tryz.ntmps254
      go_wp2_with (first | (go_at_call 261; refine (isPlace_any b n k _ hl).mono ?_; rintro e w' ⟨rfl, rfl⟩; rw [HP.out]) | (go_at_call 238; refine (shas_any b g n f k _ HS.out).mono ?_; rintro e w' ⟨rfl, rfl⟩; rw [HB.out]))
      go_ret
      exact ⟨ret_bool rfl, HE.out, Only.refl _ _⟩
set_option maxHeartbeats 1000000 in
theorem sdel_any (b g n : Nat) (f : Nat → Bool) (i : Int) (w : World) (h : SetAt w b g n f) :
    Calls Tryz.prog 235 #[.pointer (some ⟨b, 0, none⟩), .int .i64 i] w fun e w' => e = .returned (.bool (hasB n f i)) ∧ SetAt w' b g n (turn n f i false) ∧ Only g w w' := by
  have hl := h.len
  have hs := h.words
  have few := h.few
  have HS : Hid (SetAt w b g n f) := h
  cases hB : hasB n f i
  · have HB : Hid (hasB n f i = false) := hB
    have HE : Hid (SetAt w b g n (turn n f i false)) := h.congr (turn_same (fun e => by rw [hasB, e] at hB; simpa using hB))
    clear h hB
    go_enter Tryz.func235, Tryz.ntmps235
    go_wp2_with (go_at_call 238; refine (shas_any b g n f i _ HS.out).mono ?_; rintro e w' ⟨rfl, rfl⟩; rw [HB.out])
    go_ret
    exact ⟨ret_bool rfl, HE.out, Only.refl _ _⟩
  · have HB : Hid (hasB n f i = true) := hB
    have hp : isP n i = true := by rw [hasB] at hB; simp at hB; exact hB.1
    obtain ⟨h0, h1⟩ := isP_true.1 hp
    obtain ⟨k, rfl⟩ : ∃ k : Nat, i = k := ⟨i.toNat, by omega⟩
    have hj : k / 64 < (n + 63) / 64 := by omega
    have hw := h.word (k / 64) hj
    have hz := h.thawed (k / 64)
    have hlt := wd_lt f (k / 64)
    have HA : Hid (bits BinOp.andNot IntKind.u64 ((wd f (k / 64) : Nat) : Int) (IntKind.u64.wrap (2 ^ (k % 64))) = (wd (put f k false) (k / 64) : Nat)) := del_int f k
    have HE : Hid (SetAt (w.setCell ⟨g, k / 64, none⟩ (.int .u64 (wd (put f k false) (k / 64) : Nat))) b g n (turn n f k false)) :=
      (h.stored hj (fun m hm => word_else f k m false hm) (put_within h.within (by omega))).congr (turn_put hp)
    clear h hp hB
    go_enter Tryz.func235, Tryz.ntmps235
    go_wp2_with (go_at_call 238; refine (shas_any b g n f k _ HS.out).mono ?_; rintro e w' ⟨rfl, rfl⟩; rw [HB.out])
    go_region
    all_goals go_wp2
    all_goals go_ret
    all_goals rw [HA.out]
    all_goals exact ⟨rfl, HE.out.drew, (Only.set g (k / 64) _ w).drew⟩
/-- How many places there are. -/
def clampN (n : Int) : Nat := if n < 0 then 0 else if 65536 < n then 65536 else n.toNat
theorem Tryz.info62 : (Tryz.prog.info? 37).map (fun i => (i.zero, i.size, i.bytes)) = some (some (.int .u64 0), 1, 8) := by kernel_rfl
theorem made_cell (z : Value) (n i : Nat) (h : i < n) : (madeCells #[z] n)[i]? = some z := by simp [madeCells, h, Nat.mod_one]
/-- What New lays into memory. -/
def newW (w : World) (n : Nat) : World := (w.alloc (.cells (madeCells #[.int .u64 0] ((n + 63) / 64)) 37)).alloc (.cells #[.int .i64 n, .slice (some ⟨w.heap.size, 0, none⟩) ((n + 63) / 64) ((n + 63) / 64)] 305)
theorem newW_at (w : World) (n : Nat) (hn : n ≤ 65536) : SetAt (newW w n) (w.heap.size + 1) w.heap.size n (fun _ => false) where
  len := by rw [newW, World.cell?_alloc_at _ _ _ _ (by simp)]; rfl
  words := by rw [newW, World.cell?_alloc_at _ _ _ _ (by simp)]; rfl
  word := fun j hj => by
    rw [wd_none, newW, World.cell?_alloc_past _ _ _ (by simp), World.cell?_alloc_at _ _ _ _ rfl, made_cell _ _ _ hj]
    rfl
  thawed := fun j => by
    rw [newW, World.frozen?_alloc_past _ _ _ (by simp), World.frozen?_alloc_at _ _ _ _ rfl]
  few := hn
  within := fun i h => by cases h
  hb := by simp [newW]
  hg := by simp [newW]; omega
  apart := by omega
theorem newW_below (w : World) (n : Nat) : Below w.heap.size w (newW w n) :=
  ((Below.refl _ w).alloc (Nat.le_refl _) _).alloc (by simp) _
theorem parts64 (x : Int) (n : Nat) (w : World) (hx : x = n) (hn : n ≤ 65536) :
    Calls Tryz.prog 276 #[.int .i64 x, .int .i64 64] w fun r w' => ∃ c : Nat, r = .returned (.int .i64 c) ∧ c ≤ 1024 ∧ Hid (c = (n + 63) / 64) ∧ w = w' := by
  subst hx
  refine (sparts_any n 64 w hn (.inr rfl)).mono ?_
  rintro r w' ⟨rfl, rfl⟩
  exact ⟨_, rfl, by omega, rfl, rfl⟩
theorem c65536 : (65536 : Int) = ((65536 : Nat) : Int) := rfl
theorem clamp_cases (n : Int) : n ≤ 0 ∧ clampN n = 0 ∨ 0 < n ∧ n < 65536 ∧ n = (clampN n : Int) ∨ 65536 ≤ n ∧ clampN n = 65536 := by
  rw [clampN]
  split <;> (try split) <;> omega
theorem clamp_le (n : Int) : clampN n ≤ 65536 := by rcases clamp_cases n with h | h | h <;> omega
theorem snew_any (n : Int) (w : World) :
    Calls Tryz.prog 270 #[.int .i64 n] w fun e w' => e = .returned (.pointer (some ⟨w.heap.size + 1, 0, none⟩)) ∧ newW w (clampN n) = w' := by
  have hmk := fun c : Nat => fun hc : c ≤ 1024 => run_make_row' (P := Tryz.prog) 303 37 (.int .u64 0) 8 Tryz.underlying303 Tryz.info62 rfl .i64 .i64 c (by omega) (by omega)
  have HM : Hid (∀ c : Nat, c ≤ 1024 → ∀ w : World, (Instr.makeSlice 303 (.int .i64 (c : Int)) (.int .i64 (c : Int))).run Tryz.prog w = .ok (.slice (some ⟨w.heap.size, 0, none⟩) c c) (w.alloc (.cells (madeCells #[.int .u64 0] c) 37))) := hmk
  clear hmk
  rcases clamp_cases n with ⟨h1, h2⟩ | ⟨h1, h2, h3⟩ | ⟨h1, h2⟩
  · rw [h2]
    clear h2
    go_enter Tryz.func270, Tryz.ntmps270
    go_wp2_with (go_at_call 276; refine (parts64 _ 0 _ rfl (by decide)).mono ?_; rintro e w' ⟨c, rfl, hc, HC, rfl⟩; have hmk := HM.out c hc)
    go_ret
    obtain rfl := HC.out
    exact ⟨rfl, rfl⟩
  · obtain ⟨m, hm⟩ : ∃ m, clampN n = m := ⟨_, rfl⟩
    have hm6 := clamp_le n
    rw [hm] at h3 hm6 ⊢
    clear hm
    subst h3
    go_enter Tryz.func270, Tryz.ntmps270
    go_wp2_with (go_at_call 276; refine (parts64 _ m _ rfl hm6).mono ?_; rintro e w' ⟨c, rfl, hc, HC, rfl⟩; have hmk := HM.out c hc)
    go_ret
    obtain rfl := HC.out
    exact ⟨rfl, rfl⟩
  · rw [h2]
    clear h2
    rcases Int.lt_or_eq_of_le h1 with h3 | rfl
    all_goals
      go_enter Tryz.func270, Tryz.ntmps270
      go_wp2_with (go_at_call 276; refine (parts64 _ 65536 _ c65536 (Nat.le_refl _)).mono ?_; rintro e w' ⟨c, rfl, hc, HC, rfl⟩; have hmk := HM.out c hc)
      go_ret
      obtain rfl := HC.out
      exact ⟨rfl, rfl⟩
end Go.Proofs.YtgdjlopnhecmjaaGreatDoor
