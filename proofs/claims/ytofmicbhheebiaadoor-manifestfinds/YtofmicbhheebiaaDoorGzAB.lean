/- Plain mathematics of layer 2: steps, grids of steps and sums over natural numbers, without any program. -/
import Derived.WalkKit
import Derived.Test.YtofmicbhheebiaaDoorGzAA
namespace Go.Proofs.YtofmicbhheebiaaDoor
open Go.RowKit
set_option linter.unusedVariables false
set_option maxRecDepth 4000

/-- One step, of a number of any length. -/
def step (x : Nat) : Nat := (x / 2) ^^^ (x % 2 * 2197175160)

/-- So many steps. -/
def steps : Nat → Nat → Nat
  | 0, x => x
  | n + 1, x => steps n (step x)

theorem steps_add : ∀ (m n x : Nat), steps (m + n) x = steps n (steps m x)
  | 0, n, x => by simp [steps]
  | m + 1, n, x => by rw [Nat.succ_add]; simp only [steps]; rw [steps_add m]

theorem steps_one (n x : Nat) : steps (n + 1) x = step (steps n x) := by rw [steps_add]; rfl

theorem step_lt (x : Nat) (h : x < 4294967296) : step x < 4294967296 := by
  unfold step
  have : x % 2 * 2197175160 < 2 ^ 32 := by omega
  exact Nat.xor_lt_two_pow (n := 32) (by omega) this

theorem steps_lt : ∀ (n x : Nat), x < 4294967296 → steps n x < 4294967296
  | 0, _, h => h
  | n + 1, x, h => steps_lt n _ (step_lt x h)

theorem xor_lt {a b : Nat} (ha : a < 4294967296) (hb : b < 4294967296) : a ^^^ b < 4294967296 :=
  Nat.xor_lt_two_pow (n := 32) ha hb

/-- A sum's bytes, gone through from x on. -/
def moreF : Nat → List Int → Nat
  | x, [] => x
  | x, c :: l => moreF (steps 8 (x ^^^ c.toNat)) l

/-- A sum gone on with. -/
def moreL (s : Nat) (l : List Int) : Nat := moreF (s ^^^ 4294967295) l ^^^ 4294967295

theorem moreF_append : ∀ (a b : List Int) (x : Nat), moreF x (a ++ b) = moreF (moreF x a) b
  | [], _, _ => rfl
  | c :: a, b, x => by simp only [List.cons_append, moreF]; exact moreF_append a b _

theorem moreF_lt : ∀ (l : List Int) (x : Nat), (∀ c ∈ l, 0 ≤ c ∧ c ≤ 255) → x < 4294967296 → moreF x l < 4294967296
  | [], _, _, h => h
  | c :: l, x, hl, h => by
    have hc := hl c (by simp)
    exact moreF_lt l _ (fun d hd => hl d (by simp [hd])) (steps_lt 8 _ (xor_lt h (by omega)))

theorem moreL_lt (s : Nat) (l : List Int) (hl : ∀ c ∈ l, 0 ≤ c ∧ c ≤ 255) (h : s < 4294967296) : moreL s l < 4294967296 :=
  xor_lt (moreF_lt l _ hl (xor_lt h (by decide))) (by decide)

end Go.Proofs.YtofmicbhheebiaaDoor

/- CnP: out of FrP. -/
set_option linter.unusedVariables false
set_option maxRecDepth 4000
set_option maxRecDepth 4000
namespace Go.Proofs.YtofmicbhheebiaaDoor
open Go.RowKit

/-- The sum of bytes. -/
def sumI (l : List Int) : Int := ((moreL 0 l : Nat) : Int)

theorem sumI_bd {l : List Int} (h : AllB l) : 0 ≤ sumI l ∧ sumI l < 4294967296 := by
  have := moreL_lt 0 l h (by decide)
  unfold sumI
  omega

theorem putL_len : ∀ (k : Nat) (n : Int), (putL k n).length = k
  | 0, _ => rfl
  | k + 1, n => by simp [putL, putL_len k]

theorem putL_allB : ∀ (k : Nat) (n : Int), AllB (putL k n)
  | 0, _ => by intro x hx; cases hx
  | k + 1, n => by
    intro x hx
    rcases List.mem_cons.1 hx with rfl | hx
    · omega
    · exact putL_allB k _ x hx

theorem getL_of_putL : ∀ (k : Nat) (n : Int), 0 ≤ n → n < 256 ^ k → getL (putL k n) = n
  | 0, n, h0, h1 => by simp at h1; simp [putL, getL]; omega
  | k + 1, n, h0, h1 => by
    rw [putL, getL, getL_of_putL k (n / 256) (by omega) (by rw [Int.pow_succ] at h1; omega)]
    omega

end Go.Proofs.YtofmicbhheebiaaDoor

/- Plain mathematics of layer 21: manifests, their bytes, what bytes are read as; a torn manifest and a turned burst. -/
namespace Go.Proofs.YtofmicbhheebiaaDoor
set_option linter.unusedVariables false
set_option maxRecDepth 4000
set_option maxRecDepth 4000

/-- A manifest. -/
structure Mn where
  s : Int
  f : Int
  n : Int
def mnz : Mn := ⟨0, 0, 0⟩
def okM (m : Mn) : Bool := decide (1 ≤ m.s ∧ m.s ≤ 4294967295 ∧ 1 ≤ m.f ∧ m.f ≤ 65534 ∧ 8 ≤ m.n ∧ m.n ≤ 65542)
theorem okM_iff {m : Mn} : okM m = true ↔ 1 ≤ m.s ∧ m.s ≤ 4294967295 ∧ 1 ≤ m.f ∧ m.f ≤ 65534 ∧ 8 ≤ m.n ∧ m.n ≤ 65542 := by
  unfold okM; rw [decide_eq_true_eq]
/-- The bytes ahead of the sum. -/
def hdM (m : Mn) : List Int := putL 4 m.s ++ (putL 4 m.f ++ (putL 4 m.n ++ List.replicate 44 0))
def manM (m : Mn) : List Int := hdM m ++ (putL 4 (sumI (hdM m)) ++ putL 4 m.s)
def tldM (b : List Int) : Mn := ⟨getL (b.take 4), getL ((b.drop 4).take 4), getL ((b.drop 8).take 4)⟩
/-- Why bytes are no manifest. -/
def wrongM (b : List Int) : Int :=
  if b.length < 64 then 3 else if 64 < b.length then 6 else if b.take 4 ≠ b.drop 60 then 9
  else if getL ((b.drop 56).take 4) ≠ sumI (b.take 56) then 5 else if okM (tldM b) = true ∧ manM (tldM b) = b then 0 else 4
def rdM (b : List Int) : Mn := if wrongM b = 0 then tldM b else mnz

theorem hdM_len (m : Mn) : (hdM m).length = 56 := by simp [hdM, putL_len]
theorem manM_len (m : Mn) : (manM m).length = 64 := by simp [manM, hdM_len, putL_len]
theorem noughts_allB (n : Nat) : AllB (List.replicate n 0) := by
  intro x hx
  have := List.eq_of_mem_replicate hx
  omega
theorem hdM_allB (m : Mn) : AllB (hdM m) := (putL_allB _ _).append ((putL_allB _ _).append ((putL_allB _ _).append (noughts_allB _)))
theorem manM_allB (m : Mn) : AllB (manM m) := (hdM_allB m).append ((putL_allB _ _).append (putL_allB _ _))
theorem manM_first (m : Mn) : (manM m).take 4 = putL 4 m.s := by
  unfold manM hdM
  rw [List.append_assoc]
  exact List.take_left' (putL_len _ _)
theorem manM_last (m : Mn) : (manM m).drop 60 = putL 4 m.s := by
  unfold manM
  rw [← List.append_assoc]
  exact List.drop_left' (by simp [hdM_len, putL_len])
theorem manM_second (m : Mn) : ((manM m).drop 4).take 4 = putL 4 m.f := by
  unfold manM hdM
  rw [List.append_assoc, List.drop_left' (putL_len _ _), List.append_assoc]
  exact List.take_left' (putL_len _ _)
theorem manM_third (m : Mn) : ((manM m).drop 8).take 4 = putL 4 m.n := by
  have e : (manM m).drop 8 = ((manM m).drop 4).drop 4 := by rw [List.drop_drop]
  rw [e]
  unfold manM hdM
  rw [List.append_assoc, List.drop_left' (putL_len _ _), List.append_assoc, List.drop_left' (putL_len _ _), List.append_assoc]
  exact List.take_left' (putL_len _ _)
theorem manM_head (m : Mn) : (manM m).take 56 = hdM m := List.take_left' (hdM_len m)
theorem manM_sum (m : Mn) : ((manM m).drop 56).take 4 = putL 4 (sumI (hdM m)) := by
  unfold manM
  rw [List.drop_left' (hdM_len m)]
  exact List.take_left' (putL_len _ _)
theorem manM_told {m : Mn} (h : okM m = true) : tldM (manM m) = m := by
  obtain ⟨h1, h2, h3, h4, h5, h6⟩ := okM_iff.1 h
  have P : ((256 : Int) ^ 4) = 4294967296 := by decide
  unfold tldM
  rw [manM_first, manM_second, manM_third, getL_of_putL 4 _ (by omega) (by rw [P]; omega), getL_of_putL 4 _ (by omega) (by rw [P]; omega), getL_of_putL 4 _ (by omega) (by rw [P]; omega)]
theorem manM_right {m : Mn} (h : okM m = true) : wrongM (manM m) = 0 := by
  have P : ((256 : Int) ^ 4) = 4294967296 := by decide
  obtain ⟨s0, s1⟩ := sumI_bd (hdM_allB m)
  unfold wrongM
  rw [if_neg (by rw [manM_len]; omega), if_neg (by rw [manM_len]; omega), if_neg (by rw [manM_first, manM_last]; simp), if_neg (by rw [manM_sum, manM_head, getL_of_putL 4 _ s0 (by rw [P]; omega)]; simp), if_pos ⟨by rw [manM_told h]; exact h, by rw [manM_told h]⟩]
theorem manM_read {m : Mn} (h : okM m = true) : rdM (manM m) = m := by
  unfold rdM
  rw [if_pos (manM_right h), manM_told h]
theorem wrong_zero {b : List Int} (h : wrongM b = 0) : b.length = 64 ∧ okM (tldM b) = true ∧ manM (tldM b) = b := by
  unfold wrongM at h
  split at h
  · cases h
  split at h
  · cases h
  split at h
  · cases h
  split at h
  · cases h
  split at h
  · rename_i h1 h2 _ _ h3
    exact ⟨by omega, h3.1, h3.2⟩
  · cases h
/-! ### the next checkpoint -/
def lastM : List Int → Int
  | [] => 0
  | s :: l => max s (lastM l)
end Go.Proofs.YtofmicbhheebiaaDoor
