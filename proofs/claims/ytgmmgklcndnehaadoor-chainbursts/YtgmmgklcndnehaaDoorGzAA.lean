/- Plain mathematics of layer 1: bytes and digits of numbers as lists, without any program. -/
import Derived.Lib.BitFns
import Derived.WalkKit
import Derived.Test.YtgmmgklcndnehaaDoorDkP
namespace Go.Proofs.YtgmmgklcndnehaaDoor
open Go.RowKit

/-- The width that counts. -/
def clampW (n : Int) : Int := if n < 0 then 0 else if n > 8 then 8 else n

/-- The lowest k bytes of n. -/
def putL : Nat → Int → List Int
  | 0, _ => []
  | k + 1, n => n % 256 :: putL k (n / 256)

/-- The number of bytes. -/
def getL : List Int → Int
  | [] => 0
  | b :: l => b + 256 * getL l

theorem or_join (k : Nat) (a b : Int) (h0 : 0 ≤ a) (h1 : a < 2 ^ k) (hb : 0 ≤ b) (hs : a + b * 2 ^ k < 18446744073709551616) :
    bits .or .u64 a (b * 2 ^ k) = a + b * 2 ^ k := by
  have hp : (0 : Int) < 2 ^ k := Int.pow_pos (by decide)
  have hbp : 0 ≤ b * 2 ^ k := Int.mul_nonneg hb (by omega)
  rw [u64_or a (b * 2 ^ k) h0 (by omega) hbp (by omega)]
  have e2 : ((2 ^ k : Nat) : Int) = (2 : Int) ^ k := by simp
  have e1 : (b * 2 ^ k).toNat = b.toNat * 2 ^ k := by
    have : b * 2 ^ k = ((b.toNat * 2 ^ k : Nat) : Int) := by rw [Int.natCast_mul, e2, Int.toNat_of_nonneg hb]
    rw [this, Int.toNat_natCast]
  rw [e1, Nat.or_comm, nat_join k _ _ (by simp) (by omega)]
  have : ((b.toNat * 2 ^ k : Nat) : Int) = b * 2 ^ k := by rw [Int.natCast_mul, e2, Int.toNat_of_nonneg hb]
  omega

theorem getL_nonneg (l : List Int) (h : ∀ x ∈ l, 0 ≤ x ∧ x ≤ 255) : 0 ≤ getL l := by
  induction l with
  | nil => simp [getL]
  | cons a l ih =>
    have := ih (fun x hx => h x (List.mem_cons_of_mem _ hx))
    have := h a (List.mem_cons_self)
    simp only [getL]
    omega

theorem getL_lt (l : List Int) (h : ∀ x ∈ l, 0 ≤ x ∧ x ≤ 255) : getL l < 256 ^ l.length := by
  induction l with
  | nil => simp [getL]
  | cons a l ih =>
    have := ih (fun x hx => h x (List.mem_cons_of_mem _ hx))
    have := h a (List.mem_cons_self)
    simp only [getL, List.length_cons]
    rw [Int.pow_succ]
    omega

theorem getL_snoc (l : List Int) (x : Int) : getL (l ++ [x]) = getL l + x * 256 ^ l.length := by
  induction l with
  | nil => simp [getL]
  | cons a l ih =>
    simp only [List.cons_append, getL, ih, List.length_cons]
    rw [Int.pow_succ]
    generalize (256 : Int) ^ l.length = p
    rw [Int.mul_add, ← Int.mul_assoc, Int.mul_comm 256 x, Int.mul_assoc, Int.mul_comm 256 p]
    omega

theorem pow_bits (k : Nat) : (256 : Int) ^ k = 2 ^ (8 * k) := by
  rw [Int.pow_mul]; rfl

theorem take_same (l : List Int) (k : Nat) (h8 : k ≤ 8) (hl : k ≤ l.length) (h : ¬ (k < 8 ∧ k < l.length)) : l.take 8 = l.take k := by
  by_cases e : k = 8
  · rw [e]
  · rw [List.take_of_length_le (by omega), List.take_of_length_le (by omega)]

theorem p256_mono (m n : Nat) (h : m ≤ n) : (256 : Int) ^ m ≤ 256 ^ n := by
  induction n with
  | zero => obtain rfl : m = 0 := by omega
            exact Int.le_refl _
  | succ n ih =>
    by_cases e : m = n + 1
    · rw [e]; exact Int.le_refl _
    · have := ih (by omega)
      have hp : (0 : Int) < 256 ^ n := Int.pow_pos (by decide)
      rw [Int.pow_succ]
      omega

theorem getL_take_bd (l : List Int) (k : Nat) (hb : ∀ x ∈ l, 0 ≤ x ∧ x ≤ 255) (h8 : k ≤ 8) : 0 ≤ getL (l.take k) ∧ getL (l.take k) < 18446744073709551616 := by
  have hb' : ∀ x ∈ l.take k, 0 ≤ x ∧ x ≤ 255 := fun x hx => hb x (List.mem_of_mem_take hx)
  refine ⟨getL_nonneg _ hb', ?_⟩
  have h1 := getL_lt _ hb'
  have h2 : (l.take k).length ≤ 8 := by have := List.length_take_le k l; omega
  have h3 := p256_mono _ _ h2
  have h4 : (256 : Int) ^ 8 = 18446744073709551616 := by decide
  omega

theorem get_step (l : List Int) (k : Nat) (hb : ∀ x ∈ l, 0 ≤ x ∧ x ≤ 255) (h8 : k < 8) (hl : k < l.length) :
    bits BinOp.or IntKind.u64 (getL (l.take k)) (IntKind.u64.wrap (IntKind.u64.wrap l[k] * 2 ^ (8 * k))) = getL (l.take (k + 1)) := by
  have hx := hb l[k] (List.getElem_mem hl)
  have bd := getL_take_bd l (k + 1) hb (by omega)
  have hb' : ∀ x ∈ l.take k, 0 ≤ x ∧ x ≤ 255 := fun x hx => hb x (List.mem_of_mem_take hx)
  have h0 := getL_nonneg _ hb'
  have h1 := getL_lt _ hb'
  have hlen : (l.take k).length = k := by simp; omega
  have e : getL (l.take (k + 1)) = getL (l.take k) + l[k] * 2 ^ (8 * k) := by
    rw [List.take_succ_eq_append_getElem hl, getL_snoc, hlen, pow_bits]
  rw [hlen, pow_bits] at h1
  have hp : (0 : Int) ≤ 2 ^ (8 * k) := Int.le_of_lt (Int.pow_pos (by decide))
  have hm : 0 ≤ l[k] * 2 ^ (8 * k) := Int.mul_nonneg hx.1 hp
  rw [IntKind.wrap_u64 l[k], show l[k] % 18446744073709551616 = l[k] from by omega, IntKind.wrap_u64]
  rw [e] at bd ⊢
  rw [show (l[k] * 2 ^ (8 * k)) % 18446744073709551616 = l[k] * 2 ^ (8 * k) from by omega]
  exact or_join (8 * k) _ _ h0 h1 hx.1 bd.2

end Go.Proofs.YtgmmgklcndnehaaDoor

/- Plain mathematics of layer 2: steps, grids of steps and sums over natural numbers, without any program. -/
namespace Go.Proofs.YtgmmgklcndnehaaDoor
open Go.RowKit
set_option linter.unusedVariables false
set_option maxRecDepth 4000

theorem xor_back (a b c : Nat) (h : a ^^^ c = b ^^^ c) : a = b := by
  have := congrArg (fun z => z ^^^ c) h
  simpa [Nat.xor_assoc] using this

/-- One step, of a number of any length. -/
def step (x : Nat) : Nat := (x / 2) ^^^ (x % 2 * 2197175160)

/-- So many steps. -/
def steps : Nat → Nat → Nat
  | 0, x => x
  | n + 1, x => steps n (step x)

theorem half_xor (x y : Nat) : (x ^^^ y) / 2 = x / 2 ^^^ y / 2 := by
  have := Nat.shiftRight_xor_distrib (a := x) (b := y) (i := 1)
  simpa [Nat.shiftRight_succ] using this

theorem odd_xor (x y : Nat) : (x ^^^ y) % 2 = x % 2 ^^^ y % 2 := by
  have := Nat.xor_mod_two_pow (a := x) (b := y) (n := 1)
  simpa using this

theorem step_xor (x y : Nat) : step (x ^^^ y) = step x ^^^ step y := by
  unfold step
  rw [half_xor, odd_xor]
  have e : (x % 2 ^^^ y % 2) * 2197175160 = x % 2 * 2197175160 ^^^ y % 2 * 2197175160 := by
    rcases Nat.mod_two_eq_zero_or_one x with hx | hx <;> rcases Nat.mod_two_eq_zero_or_one y with hy | hy <;> simp [hx, hy]
  rw [e]
  simp only [Nat.xor_assoc]
  congr 1
  rw [← Nat.xor_assoc, Nat.xor_comm (y / 2), Nat.xor_assoc]

theorem steps_xor : ∀ (n x y : Nat), steps n (x ^^^ y) = steps n x ^^^ steps n y
  | 0, _, _ => rfl
  | n + 1, x, y => by simp only [steps]; rw [step_xor, steps_xor n]

theorem steps_add : ∀ (m n x : Nat), steps (m + n) x = steps n (steps m x)
  | 0, n, x => by simp [steps]
  | m + 1, n, x => by rw [Nat.succ_add]; simp only [steps]; rw [steps_add m]

theorem steps_one (n x : Nat) : steps (n + 1) x = step (steps n x) := by rw [steps_add]; rfl

theorem step_lt (x : Nat) (h : x < 4294967296) : step x < 4294967296 := by
  unfold step
  have : x % 2 * 2197175160 < 2 ^ 32 := by omega
  exact Nat.xor_lt_two_pow (n := 32) (by omega) this

theorem steps_lt : ∀ (n x : Nat), x < 4294967296 → steps n x < 4294967296
  | 0, _, h => h
  | n + 1, x, h => steps_lt n _ (step_lt x h)

theorem step_ne (x : Nat) (h : x < 4294967296) (h0 : x ≠ 0) : step x ≠ 0 := by
  unfold step
  intro e
  have e2 : x / 2 = x % 2 * 2197175160 := xor_back _ _ (x % 2 * 2197175160) (by rw [e, Nat.xor_self])
  omega

theorem steps_ne : ∀ (n x : Nat), x < 4294967296 → x ≠ 0 → steps n x ≠ 0
  | 0, _, _, h0 => h0
  | n + 1, x, h, h0 => steps_ne n _ (step_lt x h) (step_ne x h h0)

theorem step_double (x : Nat) : step (2 * x) = x := by
  unfold step
  have : 2 * x % 2 = 0 := by omega
  rw [this]
  simp

theorem steps_shl : ∀ (n x : Nat), steps n (x <<< n) = x
  | 0, x => by simp [steps]
  | n + 1, x => by
    have e : x <<< (n + 1) = 2 * (x <<< n) := by rw [Nat.shiftLeft_succ]
    simp only [steps]
    rw [e, step_double, steps_shl n]

theorem steps_zero (n : Nat) : steps n 0 = 0 := by
  have := steps_shl n 0
  simpa using this

theorem xor_lt {a b : Nat} (ha : a < 4294967296) (hb : b < 4294967296) : a ^^^ b < 4294967296 :=
  Nat.xor_lt_two_pow (n := 32) ha hb

/-- A sum's bytes, gone through from x on. -/
def moreF : Nat → List Int → Nat
  | x, [] => x
  | x, c :: l => moreF (steps 8 (x ^^^ c.toNat)) l

/-- A sum gone on with. -/
def moreL (s : Nat) (l : List Int) : Nat := moreF (s ^^^ 4294967295) l ^^^ 4294967295

/-- The bytes as one number, the first one lowest. -/
def numB : List Int → Nat
  | [] => 0
  | c :: l => c.toNat ^^^ (numB l <<< 8)

theorem moreF_num : ∀ (l : List Int) (x : Nat), moreF x l = steps (8 * l.length) (x ^^^ numB l)
  | [], x => by simp [moreF, steps, numB]
  | c :: l, x => by
    rw [moreF, moreF_num l, numB, List.length_cons, show 8 * (l.length + 1) = 8 + 8 * l.length from by omega, steps_add]
    congr 1
    rw [← Nat.xor_assoc, steps_xor 8 (x ^^^ c.toNat), steps_shl]

theorem moreF_append : ∀ (a b : List Int) (x : Nat), moreF x (a ++ b) = moreF (moreF x a) b
  | [], _, _ => rfl
  | c :: a, b, x => by simp only [List.cons_append, moreF]; exact moreF_append a b _

theorem moreF_lt : ∀ (l : List Int) (x : Nat), (∀ c ∈ l, 0 ≤ c ∧ c ≤ 255) → x < 4294967296 → moreF x l < 4294967296
  | [], _, _, h => h
  | c :: l, x, hl, h => by
    have hc := hl c (by simp)
    exact moreF_lt l _ (fun d hd => hl d (by simp [hd])) (steps_lt 8 _ (xor_lt h (by omega)))

theorem moreL_lt (s : Nat) (l : List Int) (hl : ∀ c ∈ l, 0 ≤ c ∧ c ≤ 255) (h : s < 4294967296) : moreL s l < 4294967296 :=
  xor_lt (moreF_lt l _ hl (xor_lt h (by decide))) (by decide)

theorem numB_set : ∀ (l : List Int) (i : Nat) (v : Nat), (∀ c ∈ l, 0 ≤ c) → (h : i < l.length) →
    numB (l.set i ((l[i].toNat ^^^ v : Nat) : Int)) = numB l ^^^ (v <<< (8 * i))
  | c :: l, 0, v, hl, h => by
    simp only [List.set_cons_zero, List.getElem_cons_zero, numB, Int.toNat_natCast, Nat.mul_zero, Nat.shiftLeft_zero]
    rw [Nat.xor_assoc, Nat.xor_assoc, Nat.xor_comm v]
  | c :: l, i + 1, v, hl, h => by
    simp only [List.set_cons_succ, List.getElem_cons_succ, numB]
    rw [numB_set l i v (fun d hd => hl d (by simp [hd])) (by simpa using h), Nat.shiftLeft_xor_distrib, ← Nat.xor_assoc, ← Nat.shiftLeft_add]
    congr 1

/-- Two lists of one length, of which one has a burst laid over it: their sums part just if it has a bit. -/
theorem burst_law (b c : List Int) (at' e : Nat) (hlen : c.length = b.length) (hn : numB c = numB b ^^^ (e <<< at')) (he : e < 4294967296) (ha : e ≠ 0 → at' < 8 * b.length) :
    (moreL 0 c = moreL 0 b ↔ e = 0) := by
  simp only [moreL, moreF_num, hlen, hn, ← Nat.xor_assoc]
  rw [steps_xor _ (0 ^^^ 4294967295 ^^^ numB b)]
  constructor
  · intro h
    have h2 : steps (8 * b.length) (0 ^^^ 4294967295 ^^^ numB b) ^^^ steps (8 * b.length) (e <<< at') = steps (8 * b.length) (0 ^^^ 4294967295 ^^^ numB b) := xor_back _ _ 4294967295 h
    have h3 : steps (8 * b.length) (e <<< at') = 0 := by
      have := congrArg (fun z => steps (8 * b.length) (0 ^^^ 4294967295 ^^^ numB b) ^^^ z) h2
      simpa [← Nat.xor_assoc] using this
    by_cases h0 : e = 0
    · exact h0
    · exfalso
      have hlt := ha h0
      rw [show 8 * b.length = at' + (8 * b.length - at') from by omega, steps_add, steps_shl] at h3
      exact steps_ne _ e he h0 h3
  · rintro rfl
    simp [steps_zero]

end Go.Proofs.YtgmmgklcndnehaaDoor

/- CnP: out of FrP. -/
set_option linter.unusedVariables false
set_option maxRecDepth 4000
set_option maxRecDepth 4000
namespace Go.Proofs.YtgmmgklcndnehaaDoor
open Go.RowKit

/-- The sum of bytes. -/
def sumI (l : List Int) : Int := ((moreL 0 l : Nat) : Int)

theorem sumI_bd {l : List Int} (h : AllB l) : 0 ≤ sumI l ∧ sumI l < 4294967296 := by
  have := moreL_lt 0 l h (by decide)
  unfold sumI
  omega

theorem putL_len : ∀ (k : Nat) (n : Int), (putL k n).length = k
  | 0, _ => rfl
  | k + 1, n => by simp [putL, putL_len k]

theorem putL_allB : ∀ (k : Nat) (n : Int), AllB (putL k n)
  | 0, _ => by intro x hx; cases hx
  | k + 1, n => by
    intro x hx
    rcases List.mem_cons.1 hx with rfl | hx
    · omega
    · exact putL_allB k _ x hx

theorem getL_of_putL : ∀ (k : Nat) (n : Int), 0 ≤ n → n < 256 ^ k → getL (putL k n) = n
  | 0, n, h0, h1 => by simp at h1; simp [putL, getL]; omega
  | k + 1, n, h0, h1 => by
    rw [putL, getL, getL_of_putL k (n / 256) (by omega) (by rw [Int.pow_succ] at h1; omega)]
    omega

theorem putL_of_getL : ∀ (l : List Int), AllB l → putL l.length (getL l) = l
  | [], _ => rfl
  | c :: l, h => by
    have hc := h c (by simp)
    have ih := putL_of_getL l (fun x hx => h x (by simp [hx]))
    rw [getL, List.length_cons, putL, show (c + 256 * getL l) % 256 = c from by omega, show (c + 256 * getL l) / 256 = getL l from by omega, ih]

theorem numB_getL : ∀ (l : List Int), AllB l → ((numB l : Nat) : Int) = getL l
  | [], _ => rfl
  | c :: l, h => by
    have hc := h c (by simp)
    have ih := numB_getL l (fun x hx => h x (by simp [hx]))
    rw [numB, getL, ← ih]
    have e1 : (c.toNat ^^^ (numB l <<< 8)) % 2 ^ 8 = c.toNat := by
      rw [Nat.xor_mod_two_pow, Nat.shiftLeft_eq, Nat.mul_mod_left, Nat.xor_zero, Nat.mod_eq_of_lt (by omega)]
    have e2 : (c.toNat ^^^ (numB l <<< 8)) / 2 ^ 8 = numB l := by
      have := Nat.shiftRight_xor_distrib (a := c.toNat) (b := numB l <<< 8) (i := 8)
      rw [Nat.shiftRight_eq_div_pow, Nat.shiftRight_eq_div_pow, Nat.shiftLeft_shiftRight, Nat.div_eq_of_lt (a := c.toNat) (by omega), Nat.zero_xor] at this
      exact this
    omega

/-- Four bytes are a sum's just if their number is it. -/
theorem four_iff {t : List Int} {s : Int} (ht : AllB t) (hl : t.length = 4) (h0 : 0 ≤ s) (h1 : s < 4294967296) : getL t = s ↔ t = putL 4 s := by
  constructor
  · rintro rfl
    rw [← hl, putL_of_getL t ht]
  · rintro rfl
    exact getL_of_putL 4 s h0 (by simpa using h1)

/-- What the register holds behind bytes and their sum. -/
theorem residue (d : List Int) (h : AllB d) : moreF 4294967295 (d ++ putL 4 (sumI d)) = steps 32 4294967295 := by
  have hs := sumI_bd h
  have e : numB (putL 4 (sumI d)) = moreL 0 d := by
    have h1 := numB_getL _ (putL_allB 4 (sumI d))
    rw [getL_of_putL 4 _ hs.1 (by simpa using hs.2)] at h1
    unfold sumI at h1 ⊢
    omega
  rw [moreF_append, moreF_num (putL 4 _), putL_len, e, moreL, Nat.zero_xor, ← Nat.xor_assoc, Nat.xor_self, Nat.zero_xor]

end Go.Proofs.YtgmmgklcndnehaaDoor
