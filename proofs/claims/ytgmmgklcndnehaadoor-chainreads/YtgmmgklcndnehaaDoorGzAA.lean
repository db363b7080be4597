/- Plain mathematics of layer 1: bytes and digits of numbers as lists, without any program. -/
import Derived.Lib.BitFns
import Derived.WalkKit
import Derived.Test.YtgmmgklcndnehaaDoorDkP
namespace Go.Proofs.YtgmmgklcndnehaaDoor
open Go.RowKit

/-- The width that counts. -/
def clampW (n : Int) : Int := if n < 0 then 0 else if n > 8 then 8 else n

/-- The lowest k bytes of n. -/
def putL : Nat → Int → List Int
  | 0, _ => []
  | k + 1, n => n % 256 :: putL k (n / 256)

/-- The number of bytes. -/
def getL : List Int → Int
  | [] => 0
  | b :: l => b + 256 * getL l

theorem or_join (k : Nat) (a b : Int) (h0 : 0 ≤ a) (h1 : a < 2 ^ k) (hb : 0 ≤ b) (hs : a + b * 2 ^ k < 18446744073709551616) :
    bits .or .u64 a (b * 2 ^ k) = a + b * 2 ^ k := by
  have hp : (0 : Int) < 2 ^ k := Int.pow_pos (by decide)
  have hbp : 0 ≤ b * 2 ^ k := Int.mul_nonneg hb (by omega)
  rw [u64_or a (b * 2 ^ k) h0 (by omega) hbp (by omega)]
  have e2 : ((2 ^ k : Nat) : Int) = (2 : Int) ^ k := by simp
  have e1 : (b * 2 ^ k).toNat = b.toNat * 2 ^ k := by
    have : b * 2 ^ k = ((b.toNat * 2 ^ k : Nat) : Int) := by rw [Int.natCast_mul, e2, Int.toNat_of_nonneg hb]
    rw [this, Int.toNat_natCast]
  rw [e1, Nat.or_comm, nat_join k _ _ (by simp) (by omega)]
  have : ((b.toNat * 2 ^ k : Nat) : Int) = b * 2 ^ k := by rw [Int.natCast_mul, e2, Int.toNat_of_nonneg hb]
  omega

theorem getL_nonneg (l : List Int) (h : ∀ x ∈ l, 0 ≤ x ∧ x ≤ 255) : 0 ≤ getL l := by
  induction l with
  | nil => simp [getL]
  | cons a l ih =>
    have := ih (fun x hx => h x (List.mem_cons_of_mem _ hx))
    have := h a (List.mem_cons_self)
    simp only [getL]
    omega

theorem getL_lt (l : List Int) (h : ∀ x ∈ l, 0 ≤ x ∧ x ≤ 255) : getL l < 256 ^ l.length := by
  induction l with
  | nil => simp [getL]
  | cons a l ih =>
    have := ih (fun x hx => h x (List.mem_cons_of_mem _ hx))
    have := h a (List.mem_cons_self)
    simp only [getL, List.length_cons]
    rw [Int.pow_succ]
    omega

theorem getL_snoc (l : List Int) (x : Int) : getL (l ++ [x]) = getL l + x * 256 ^ l.length := by
  induction l with
  | nil => simp [getL]
  | cons a l ih =>
    simp only [List.cons_append, getL, ih, List.length_cons]
    rw [Int.pow_succ]
    generalize (256 : Int) ^ l.length = p
    rw [Int.mul_add, ← Int.mul_assoc, Int.mul_comm 256 x, Int.mul_assoc, Int.mul_comm 256 p]
    omega

theorem pow_bits (k : Nat) : (256 : Int) ^ k = 2 ^ (8 * k) := by
  rw [Int.pow_mul]; rfl

theorem take_same (l : List Int) (k : Nat) (h8 : k ≤ 8) (hl : k ≤ l.length) (h : ¬ (k < 8 ∧ k < l.length)) : l.take 8 = l.take k := by
  by_cases e : k = 8
  · rw [e]
  · rw [List.take_of_length_le (by omega), List.take_of_length_le (by omega)]

theorem p256_mono (m n : Nat) (h : m ≤ n) : (256 : Int) ^ m ≤ 256 ^ n := by
  induction n with
  | zero => obtain rfl : m = 0 := by omega
            exact Int.le_refl _
  | succ n ih =>
    by_cases e : m = n + 1
    · rw [e]; exact Int.le_refl _
    · have := ih (by omega)
      have hp : (0 : Int) < 256 ^ n := Int.pow_pos (by decide)
      rw [Int.pow_succ]
      omega

theorem getL_take_bd (l : List Int) (k : Nat) (hb : ∀ x ∈ l, 0 ≤ x ∧ x ≤ 255) (h8 : k ≤ 8) : 0 ≤ getL (l.take k) ∧ getL (l.take k) < 18446744073709551616 := by
  have hb' : ∀ x ∈ l.take k, 0 ≤ x ∧ x ≤ 255 := fun x hx => hb x (List.mem_of_mem_take hx)
  refine ⟨getL_nonneg _ hb', ?_⟩
  have h1 := getL_lt _ hb'
  have h2 : (l.take k).length ≤ 8 := by have := List.length_take_le k l; omega
  have h3 := p256_mono _ _ h2
  have h4 : (256 : Int) ^ 8 = 18446744073709551616 := by decide
  omega

theorem get_step (l : List Int) (k : Nat) (hb : ∀ x ∈ l, 0 ≤ x ∧ x ≤ 255) (h8 : k < 8) (hl : k < l.length) :
    bits BinOp.or IntKind.u64 (getL (l.take k)) (IntKind.u64.wrap (IntKind.u64.wrap l[k] * 2 ^ (8 * k))) = getL (l.take (k + 1)) := by
  have hx := hb l[k] (List.getElem_mem hl)
  have bd := getL_take_bd l (k + 1) hb (by omega)
  have hb' : ∀ x ∈ l.take k, 0 ≤ x ∧ x ≤ 255 := fun x hx => hb x (List.mem_of_mem_take hx)
  have h0 := getL_nonneg _ hb'
  have h1 := getL_lt _ hb'
  have hlen : (l.take k).length = k := by simp; omega
  have e : getL (l.take (k + 1)) = getL (l.take k) + l[k] * 2 ^ (8 * k) := by
    rw [List.take_succ_eq_append_getElem hl, getL_snoc, hlen, pow_bits]
  rw [hlen, pow_bits] at h1
  have hp : (0 : Int) ≤ 2 ^ (8 * k) := Int.le_of_lt (Int.pow_pos (by decide))
  have hm : 0 ≤ l[k] * 2 ^ (8 * k) := Int.mul_nonneg hx.1 hp
  rw [IntKind.wrap_u64 l[k], show l[k] % 18446744073709551616 = l[k] from by omega, IntKind.wrap_u64]
  rw [e] at bd ⊢
  rw [show (l[k] * 2 ^ (8 * k)) % 18446744073709551616 = l[k] * 2 ^ (8 * k) from by omega]
  exact or_join (8 * k) _ _ h0 h1 hx.1 bd.2

end Go.Proofs.YtgmmgklcndnehaaDoor

/- Plain mathematics of layer 2: steps, grids of steps and sums over natural numbers, without any program. -/
namespace Go.Proofs.YtgmmgklcndnehaaDoor
open Go.RowKit
set_option linter.unusedVariables false
set_option maxRecDepth 4000

/-- One step, of a number of any length. -/
def step (x : Nat) : Nat := (x / 2) ^^^ (x % 2 * 2197175160)

/-- So many steps. -/
def steps : Nat → Nat → Nat
  | 0, x => x
  | n + 1, x => steps n (step x)

theorem steps_add : ∀ (m n x : Nat), steps (m + n) x = steps n (steps m x)
  | 0, n, x => by simp [steps]
  | m + 1, n, x => by rw [Nat.succ_add]; simp only [steps]; rw [steps_add m]

theorem steps_one (n x : Nat) : steps (n + 1) x = step (steps n x) := by rw [steps_add]; rfl

theorem step_lt (x : Nat) (h : x < 4294967296) : step x < 4294967296 := by
  unfold step
  have : x % 2 * 2197175160 < 2 ^ 32 := by omega
  exact Nat.xor_lt_two_pow (n := 32) (by omega) this

theorem steps_lt : ∀ (n x : Nat), x < 4294967296 → steps n x < 4294967296
  | 0, _, h => h
  | n + 1, x, h => steps_lt n _ (step_lt x h)

theorem xor_lt {a b : Nat} (ha : a < 4294967296) (hb : b < 4294967296) : a ^^^ b < 4294967296 :=
  Nat.xor_lt_two_pow (n := 32) ha hb

/-- A sum's bytes, gone through from x on. -/
def moreF : Nat → List Int → Nat
  | x, [] => x
  | x, c :: l => moreF (steps 8 (x ^^^ c.toNat)) l

/-- A sum gone on with. -/
def moreL (s : Nat) (l : List Int) : Nat := moreF (s ^^^ 4294967295) l ^^^ 4294967295

theorem moreF_append : ∀ (a b : List Int) (x : Nat), moreF x (a ++ b) = moreF (moreF x a) b
  | [], _, _ => rfl
  | c :: a, b, x => by simp only [List.cons_append, moreF]; exact moreF_append a b _

theorem moreF_lt : ∀ (l : List Int) (x : Nat), (∀ c ∈ l, 0 ≤ c ∧ c ≤ 255) → x < 4294967296 → moreF x l < 4294967296
  | [], _, _, h => h
  | c :: l, x, hl, h => by
    have hc := hl c (by simp)
    exact moreF_lt l _ (fun d hd => hl d (by simp [hd])) (steps_lt 8 _ (xor_lt h (by omega)))

theorem moreL_lt (s : Nat) (l : List Int) (hl : ∀ c ∈ l, 0 ≤ c ∧ c ≤ 255) (h : s < 4294967296) : moreL s l < 4294967296 :=
  xor_lt (moreF_lt l _ hl (xor_lt h (by decide))) (by decide)

end Go.Proofs.YtgmmgklcndnehaaDoor

/- CnP: out of FrP. -/
set_option linter.unusedVariables false
set_option maxRecDepth 4000
set_option maxRecDepth 4000
namespace Go.Proofs.YtgmmgklcndnehaaDoor
open Go.RowKit

/-- The sum of bytes. -/
def sumI (l : List Int) : Int := ((moreL 0 l : Nat) : Int)

theorem sumI_bd {l : List Int} (h : AllB l) : 0 ≤ sumI l ∧ sumI l < 4294967296 := by
  have := moreL_lt 0 l h (by decide)
  unfold sumI
  omega

theorem putL_len : ∀ (k : Nat) (n : Int), (putL k n).length = k
  | 0, _ => rfl
  | k + 1, n => by simp [putL, putL_len k]

theorem putL_allB : ∀ (k : Nat) (n : Int), AllB (putL k n)
  | 0, _ => by intro x hx; cases hx
  | k + 1, n => by
    intro x hx
    rcases List.mem_cons.1 hx with rfl | hx
    · omega
    · exact putL_allB k _ x hx

theorem getL_of_putL : ∀ (k : Nat) (n : Int), 0 ≤ n → n < 256 ^ k → getL (putL k n) = n
  | 0, n, h0, h1 => by simp at h1; simp [putL, getL]; omega
  | k + 1, n, h0, h1 => by
    rw [putL, getL, getL_of_putL k (n / 256) (by omega) (by rw [Int.pow_succ] at h1; omega)]
    omega

end Go.Proofs.YtgmmgklcndnehaaDoor
