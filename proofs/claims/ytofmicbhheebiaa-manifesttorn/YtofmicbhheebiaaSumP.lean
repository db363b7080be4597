/- Plain mathematics of layer 2: steps, grids of steps and sums over natural numbers, without any program. -/
import Derived.WalkKit
namespace Go.Proofs.Ytofmicbhheebiaa
open Go.RowKit
set_option linter.unusedVariables false
set_option maxRecDepth 4000

theorem xor_back (a b c : Nat) (h : a ^^^ c = b ^^^ c) : a = b := by
  have := congrArg (fun z => z ^^^ c) h
  simpa [Nat.xor_assoc] using this

/-- One step, of a number of any length. -/
def step (x : Nat) : Nat := (x / 2) ^^^ (x % 2 * 2197175160)

/-- So many steps. -/
def steps : Nat → Nat → Nat
  | 0, x => x
  | n + 1, x => steps n (step x)

theorem half_xor (x y : Nat) : (x ^^^ y) / 2 = x / 2 ^^^ y / 2 := by
  have := Nat.shiftRight_xor_distrib (a := x) (b := y) (i := 1)
  simpa [Nat.shiftRight_succ] using this

theorem odd_xor (x y : Nat) : (x ^^^ y) % 2 = x % 2 ^^^ y % 2 := by
  have := Nat.xor_mod_two_pow (a := x) (b := y) (n := 1)
  simpa using this

theorem step_xor (x y : Nat) : step (x ^^^ y) = step x ^^^ step y := by
  unfold step
  rw [half_xor, odd_xor]
  have e : (x % 2 ^^^ y % 2) * 2197175160 = x % 2 * 2197175160 ^^^ y % 2 * 2197175160 := by
    rcases Nat.mod_two_eq_zero_or_one x with hx | hx <;> rcases Nat.mod_two_eq_zero_or_one y with hy | hy <;> simp [hx, hy]
  rw [e]
  simp only [Nat.xor_assoc]
  congr 1
  rw [← Nat.xor_assoc, Nat.xor_comm (y / 2), Nat.xor_assoc]

theorem steps_xor : ∀ (n x y : Nat), steps n (x ^^^ y) = steps n x ^^^ steps n y
  | 0, _, _ => rfl
  | n + 1, x, y => by simp only [steps]; rw [step_xor, steps_xor n]

theorem steps_add : ∀ (m n x : Nat), steps (m + n) x = steps n (steps m x)
  | 0, n, x => by simp [steps]
  | m + 1, n, x => by rw [Nat.succ_add]; simp only [steps]; rw [steps_add m]

theorem steps_one (n x : Nat) : steps (n + 1) x = step (steps n x) := by rw [steps_add]; rfl

theorem step_lt (x : Nat) (h : x < 4294967296) : step x < 4294967296 := by
  unfold step
  have : x % 2 * 2197175160 < 2 ^ 32 := by omega
  exact Nat.xor_lt_two_pow (n := 32) (by omega) this

theorem steps_lt : ∀ (n x : Nat), x < 4294967296 → steps n x < 4294967296
  | 0, _, h => h
  | n + 1, x, h => steps_lt n _ (step_lt x h)

theorem step_ne (x : Nat) (h : x < 4294967296) (h0 : x ≠ 0) : step x ≠ 0 := by
  unfold step
  intro e
  have e2 : x / 2 = x % 2 * 2197175160 := xor_back _ _ (x % 2 * 2197175160) (by rw [e, Nat.xor_self])
  omega

theorem steps_ne : ∀ (n x : Nat), x < 4294967296 → x ≠ 0 → steps n x ≠ 0
  | 0, _, _, h0 => h0
  | n + 1, x, h, h0 => steps_ne n _ (step_lt x h) (step_ne x h h0)

theorem step_double (x : Nat) : step (2 * x) = x := by
  unfold step
  have : 2 * x % 2 = 0 := by omega
  rw [this]
  simp

theorem steps_shl : ∀ (n x : Nat), steps n (x <<< n) = x
  | 0, x => by simp [steps]
  | n + 1, x => by
    have e : x <<< (n + 1) = 2 * (x <<< n) := by rw [Nat.shiftLeft_succ]
    simp only [steps]
    rw [e, step_double, steps_shl n]

theorem steps_zero (n : Nat) : steps n 0 = 0 := by
  have := steps_shl n 0
  simpa using this

theorem xor_lt {a b : Nat} (ha : a < 4294967296) (hb : b < 4294967296) : a ^^^ b < 4294967296 :=
  Nat.xor_lt_two_pow (n := 32) ha hb

/-- What a table makes of a number. -/
def layL : List Nat → Nat → Nat
  | [], _ => 0
  | c :: l, x => (if x % 2 = 1 then c else 0) ^^^ layL l (x / 2)

/-- What so many steps make of each bit. -/
def gridL (m : Nat) : List Nat := (List.range' 0 32).map fun i => steps m (2 ^ i)

theorem gridL_length (m : Nat) : (gridL m).length = 32 := by simp [gridL]

theorem gridL_at (m i : Nat) (h : i < 32) : (gridL m)[i]? = some (steps m (2 ^ i)) := by
  simp [gridL, h]

theorem gridL_get (m i : Nat) (h : i < (gridL m).length) : (gridL m)[i] = steps m (2 ^ i) := by
  simp [gridL]

theorem bit_lt (m i : Nat) (h : i < 32) : steps m (2 ^ i) < 4294967296 := by
  apply steps_lt
  have : 2 ^ i < 2 ^ 32 := Nat.pow_lt_pow_right (by decide) h
  omega

theorem gridL_lt (m : Nat) : ∀ x ∈ gridL m, x < 4294967296 := by
  intro x hx
  simp only [gridL, List.mem_map, List.mem_range'] at hx
  obtain ⟨i, ⟨j, hj, rfl⟩, rfl⟩ := hx
  exact bit_lt m _ (by omega)

theorem split_bit (x k i : Nat) : (x % 2 ^ (k + 1)) <<< i = ((x % 2) <<< i) ^^^ ((x / 2 % 2 ^ k) <<< (i + 1)) := by
  have e1 : x % 2 ^ (k + 1) = x % 2 ^^^ ((x / 2 % 2 ^ k) <<< 1) := by
    have hx : x % 2 ^ (k + 1) = x % 2 + 2 * (x / 2 % 2 ^ k) := by
      rw [Nat.pow_succ, Nat.mul_comm, Nat.mod_mul]
    rw [hx]
    have e2 : (x / 2 % 2 ^ k) <<< 1 = 2 * (x / 2 % 2 ^ k) := by rw [Nat.shiftLeft_succ]; rfl
    rw [e2]
    apply Nat.eq_of_testBit_eq
    intro j
    generalize x / 2 % 2 ^ k = y
    cases j with
    | zero => simp only [Nat.testBit_zero]; rcases Nat.mod_two_eq_zero_or_one x with h | h <;> simp [h]
    | succ j =>
      rw [Nat.testBit_succ, Nat.testBit_xor, Nat.testBit_succ, Nat.testBit_succ]
      rw [show (x % 2 + 2 * y) / 2 = y from by omega, show x % 2 / 2 = 0 from by omega, show 2 * y / 2 = y from by omega, Nat.zero_testBit, Bool.false_xor]
  rw [e1, Nat.shiftLeft_xor_distrib]
  rw [← Nat.shiftLeft_add, Nat.add_comm 1]

theorem lay_from (m : Nat) : ∀ (k i x : Nat), layL ((List.range' i k).map fun i => steps m (2 ^ i)) x = steps m ((x % 2 ^ k) <<< i)
  | 0, i, x => by simp [layL, Nat.mod_one, steps_zero]
  | k + 1, i, x => by
    rw [List.range'_succ, List.map_cons, layL, lay_from m k (i + 1), split_bit, steps_xor]
    congr 1
    rcases Nat.mod_two_eq_zero_or_one x with h | h
    · simp [h, steps_zero]
    · simp [h, Nat.shiftLeft_eq]

/-- What the grid of so many steps makes of a number is the number behind these steps. -/
theorem lay_grid (m x : Nat) (h : x < 4294967296) : layL (gridL m) x = steps m x := by
  rw [gridL, lay_from, Nat.shiftLeft_zero, Nat.mod_eq_of_lt (by omega)]

/-- The squared grid. -/
theorem grid_twice (m i : Nat) (h : i < 32) : steps m (steps m (2 ^ i)) = steps (m + m) (2 ^ i) := (steps_add m m _).symm

theorem layL_step (l : List Nat) (i x : Nat) (h : i < l.length) :
    layL (l.drop i) (x / 2 ^ i) = (if x / 2 ^ i % 2 = 1 then l[i] else 0) ^^^ layL (l.drop (i + 1)) (x / 2 ^ (i + 1)) := by
  rw [List.drop_eq_getElem_cons h, layL, Nat.div_div_eq_div_mul, ← Nat.pow_succ]

/-- A sum's bytes, gone through from x on. -/
def moreF : Nat → List Int → Nat
  | x, [] => x
  | x, c :: l => moreF (steps 8 (x ^^^ c.toNat)) l

def allOnes : Nat := 4294967295

/-- A sum gone on with. -/
def moreL (s : Nat) (l : List Int) : Nat := moreF (s ^^^ 4294967295) l ^^^ 4294967295

/-- The bytes as one number, the first one lowest. -/
def numB : List Int → Nat
  | [] => 0
  | c :: l => c.toNat ^^^ (numB l <<< 8)

theorem moreF_num : ∀ (l : List Int) (x : Nat), moreF x l = steps (8 * l.length) (x ^^^ numB l)
  | [], x => by simp [moreF, steps, numB]
  | c :: l, x => by
    rw [moreF, moreF_num l, numB, List.length_cons, show 8 * (l.length + 1) = 8 + 8 * l.length from by omega, steps_add]
    congr 1
    rw [← Nat.xor_assoc, steps_xor 8 (x ^^^ c.toNat), steps_shl]

theorem moreF_append : ∀ (a b : List Int) (x : Nat), moreF x (a ++ b) = moreF (moreF x a) b
  | [], _, _ => rfl
  | c :: a, b, x => by simp only [List.cons_append, moreF]; exact moreF_append a b _

theorem moreF_xor (x y : Nat) (l : List Int) : moreF (x ^^^ y) l = steps (8 * l.length) x ^^^ moreF y l := by
  rw [moreF_num, moreF_num, Nat.xor_assoc, steps_xor]

theorem moreF_lt : ∀ (l : List Int) (x : Nat), (∀ c ∈ l, 0 ≤ c ∧ c ≤ 255) → x < 4294967296 → moreF x l < 4294967296
  | [], _, _, h => h
  | c :: l, x, hl, h => by
    have hc := hl c (by simp)
    exact moreF_lt l _ (fun d hd => hl d (by simp [hd])) (steps_lt 8 _ (xor_lt h (by omega)))

theorem moreL_lt (s : Nat) (l : List Int) (hl : ∀ c ∈ l, 0 ≤ c ∧ c ≤ 255) (h : s < 4294967296) : moreL s l < 4294967296 :=
  xor_lt (moreF_lt l _ hl (xor_lt h (by decide))) (by decide)

theorem xor_twice (x y : Nat) : x ^^^ y ^^^ y = x := by rw [Nat.xor_assoc, Nat.xor_self, Nat.xor_zero]

/-- From piece to piece. -/
theorem moreL_append (s : Nat) (a b : List Int) : moreL s (a ++ b) = moreL (moreL s a) b := by
  simp only [moreL]
  rw [xor_twice, moreF_append]

theorem moreL_nil (s : Nat) : moreL s [] = s := by simp only [moreL, moreF]; exact xor_twice _ _

/-- The sum of two pieces joined. -/
theorem join_law (a b : List Int) : steps (8 * b.length) (moreL 0 a) ^^^ moreL 0 b = moreL 0 (a ++ b) := by
  rw [moreL_append]
  show _ ^^^ (moreF (0 ^^^ 4294967295) b ^^^ 4294967295) = moreF (moreL 0 a ^^^ 4294967295) b ^^^ 4294967295
  rw [moreF_xor (moreL 0 a), Nat.zero_xor, Nat.xor_assoc]

theorem numB_set : ∀ (l : List Int) (i : Nat) (v : Nat), (∀ c ∈ l, 0 ≤ c) → (h : i < l.length) →
    numB (l.set i ((l[i].toNat ^^^ v : Nat) : Int)) = numB l ^^^ (v <<< (8 * i))
  | c :: l, 0, v, hl, h => by
    simp only [List.set_cons_zero, List.getElem_cons_zero, numB, Int.toNat_natCast, Nat.mul_zero, Nat.shiftLeft_zero]
    rw [Nat.xor_assoc, Nat.xor_assoc, Nat.xor_comm v]
  | c :: l, i + 1, v, hl, h => by
    simp only [List.set_cons_succ, List.getElem_cons_succ, numB]
    rw [numB_set l i v (fun d hd => hl d (by simp [hd])) (by simpa using h), Nat.shiftLeft_xor_distrib, ← Nat.xor_assoc, ← Nat.shiftLeft_add]
    congr 1

/-- Two lists of one length, of which one has a burst laid over it: their sums part just if it has a bit. -/
theorem burst_law (b c : List Int) (at' e : Nat) (hlen : c.length = b.length) (hn : numB c = numB b ^^^ (e <<< at')) (he : e < 4294967296) (ha : e ≠ 0 → at' < 8 * b.length) :
    (moreL 0 c = moreL 0 b ↔ e = 0) := by
  simp only [moreL, moreF_num, hlen, hn, ← Nat.xor_assoc]
  rw [steps_xor _ (0 ^^^ 4294967295 ^^^ numB b)]
  constructor
  · intro h
    have h2 : steps (8 * b.length) (0 ^^^ 4294967295 ^^^ numB b) ^^^ steps (8 * b.length) (e <<< at') = steps (8 * b.length) (0 ^^^ 4294967295 ^^^ numB b) := xor_back _ _ 4294967295 h
    have h3 : steps (8 * b.length) (e <<< at') = 0 := by
      have := congrArg (fun z => steps (8 * b.length) (0 ^^^ 4294967295 ^^^ numB b) ^^^ z) h2
      simpa [← Nat.xor_assoc] using this
    by_cases h0 : e = 0
    · exact h0
    · exfalso
      have hlt := ha h0
      rw [show 8 * b.length = at' + (8 * b.length - at') from by omega, steps_add, steps_shl] at h3
      exact steps_ne _ e he h0 h3
  · rintro rfl
    simp [steps_zero]

/-- A step of halving the count of steps: odd. -/
theorem shift_odd (m n s : Nat) (h : n % 2 = 1) : steps (m * n) s = steps ((m + m) * (n / 2)) (steps m s) := by
  rw [← steps_add]
  congr 1
  have : n = 2 * (n / 2) + 1 := by omega
  rw [show m * n = m * (2 * (n / 2) + 1) from by rw [← this], Nat.mul_add, Nat.add_mul, show m * (2 * (n / 2)) = m * (n / 2) + m * (n / 2) from by rw [Nat.mul_left_comm, Nat.two_mul]]
  omega

theorem shift_even (m n s : Nat) (h : n % 2 = 0) : steps (m * n) s = steps ((m + m) * (n / 2)) s := by
  congr 1
  have : n = 2 * (n / 2) := by omega
  rw [show m * n = m * (2 * (n / 2)) from by rw [← this], Nat.add_mul, Nat.mul_left_comm, Nat.two_mul]
end Go.Proofs.Ytofmicbhheebiaa
