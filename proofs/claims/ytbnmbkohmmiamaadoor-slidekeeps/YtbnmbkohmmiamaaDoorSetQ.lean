/- Plain mathematics of layer 3, going on: counting bits side by side, as math/bits does. -/
import Derived.Test.YtbnmbkohmmiamaaDoorSetP
namespace Go.Proofs.YtbnmbkohmmiamaaDoor
set_option linter.unusedVariables false

theorem and_split (a b y z : Nat) (ha : a < 256) (hb : b < 256) : (a + 256 * y) &&& (b + 256 * z) = (a &&& b) + 256 * (y &&& z) := by
  apply Nat.eq_of_testBit_eq
  intro i
  have hab : a &&& b < 2 ^ 8 := Nat.lt_of_le_of_lt Nat.and_le_left ha
  rw [Nat.testBit_and, Nat.add_comm a, Nat.add_comm b, Nat.add_comm (a &&& b), show (256 : Nat) = 2 ^ 8 from rfl,
    Nat.testBit_two_pow_mul_add _ (show a < 2 ^ 8 from ha), Nat.testBit_two_pow_mul_add _ (show b < 2 ^ 8 from hb), Nat.testBit_two_pow_mul_add _ hab, Nat.testBit_and]
  split <;> simp [Nat.testBit_and]

def m5 : Nat → Nat
  | 0 => 0
  | k + 1 => 85 + 256 * m5 k
def m3 : Nat → Nat
  | 0 => 0
  | k + 1 => 51 + 256 * m3 k
def mf : Nat → Nat
  | 0 => 0
  | k + 1 => 15 + 256 * mf k
theorem m5_8 : m5 8 = 6148914691236517205 := by decide
theorem m3_8 : m3 8 = 3689348814741910323 := by decide
theorem mf_8 : mf 8 = 1085102592571150095 := by decide

def T1 (k x : Nat) : Nat := (x / 2 &&& m5 k) + (x &&& m5 k)
def T2 (k x : Nat) : Nat := (x / 4 &&& m3 k) + (x &&& m3 k)
def T3 (k x : Nat) : Nat := (x / 16 + x) &&& mf k
def t1 (b : Nat) : Nat := (b / 2 &&& 85) + (b &&& 85)
def t2 (b : Nat) : Nat := (b / 4 &&& 51) + (b &&& 51)

theorem f1 : ∀ b : Fin 256, ∀ t : Fin 2, (b.val / 2 + 128 * t.val) &&& 85 = b.val / 2 &&& 85 := by decide +kernel
theorem f2 : ∀ b : Fin 256, ∀ t : Fin 4, (b.val / 4 + 64 * t.val) &&& 51 = b.val / 4 &&& 51 := by decide +kernel
theorem f3 : ∀ b : Fin 256, (t1 b.val < 256) ∧ (t2 b.val < 256) ∧ t2 (t1 b.val) % 16 ≤ 4 ∧ t2 (t1 b.val) / 16 ≤ 4 ∧ (t2 (t1 b.val) / 16 + t2 (t1 b.val)) % 16 = Lib.popAux 8 b.val := by decide +kernel
theorem f4 (x : Nat) : x &&& 15 = x % 16 := Nat.and_two_pow_sub_one_eq_mod x 4

theorem T1_step (k b y : Nat) (hb : b < 256) : T1 (k + 1) (b + 256 * y) = t1 b + 256 * T1 k y := by
  have e : (b + 256 * y) / 2 = (b / 2 + 128 * (y % 2)) + 256 * (y / 2) := by omega
  have g := f1 ⟨b, hb⟩ ⟨y % 2, by omega⟩
  simp only at g
  rw [T1, e, m5, and_split _ _ _ _ (by omega) (by decide), and_split _ _ _ _ hb (by decide), g, t1, T1]
  omega

theorem T2_step (k b y : Nat) (hb : b < 256) : T2 (k + 1) (b + 256 * y) = t2 b + 256 * T2 k y := by
  have e : (b + 256 * y) / 4 = (b / 4 + 64 * (y % 4)) + 256 * (y / 4) := by omega
  have g := f2 ⟨b, hb⟩ ⟨y % 4, by omega⟩
  simp only at g
  rw [T2, e, m3, and_split _ _ _ _ (by omega) (by decide), and_split _ _ _ _ hb (by decide), g, t2, T2]
  omega

theorem T3_step (k c z : Nat) (h1 : c % 16 ≤ 4) (h2 : c / 16 ≤ 4) (h3 : z % 16 ≤ 4) : T3 (k + 1) (c + 256 * z) = (c / 16 + c) % 16 + 256 * T3 k z := by
  have e : (c + 256 * z) / 16 + (c + 256 * z) = (c / 16 + c + 16 * (z % 16)) + 256 * (z / 16 + z) := by omega
  rw [T3, e, mf, and_split _ _ _ _ (by omega) (by decide), f4, T3]
  omega

theorem low_nibble (k y : Nat) (hy : y < 256 ^ k) : T2 k (T1 k y) % 16 ≤ 4 := by
  cases k with
  | zero => simp [T2, m3]
  | succ k =>
    have e : y = y % 256 + 256 * (y / 256) := by omega
    have hb := f3 ⟨y % 256, by omega⟩
    simp only at hb
    rw [e, T1_step _ _ _ (by omega), T2_step _ _ _ hb.1]
    omega

/-- The counts of the bytes, side by side. -/
def pops : Nat → Nat → Nat
  | 0, _ => 0
  | k + 1, x => Lib.popAux 8 (x % 256) + 256 * pops k (x / 256)

theorem T_pops : ∀ k x, x < 256 ^ k → T3 k (T2 k (T1 k x)) = pops k x
  | 0, x, _ => by simp [T3, mf, pops]
  | k + 1, x, h => by
    have e : x = x % 256 + 256 * (x / 256) := by omega
    have hy : x / 256 < 256 ^ k := by rw [Nat.pow_succ] at h; omega
    have hb := f3 ⟨x % 256, by omega⟩
    simp only at hb
    obtain ⟨b1, b2, b3, b4, b5⟩ := hb
    have := T1_step k (x % 256) (x / 256) (by omega)
    rw [← e] at this
    rw [this, T2_step _ _ _ b1, T3_step _ _ _ b3 b4 (low_nibble k _ hy), b5, T_pops k _ hy, pops]

theorem popAux_le : ∀ c x, Lib.popAux c x ≤ c := fun c x => by rw [popAux_cnt]; exact cnt_le _ _

theorem popAux_split (c x : Nat) : ∀ a, Lib.popAux (a + c) x = Lib.popAux a x + Lib.popAux c (x / 2 ^ a) := by
  intro a
  rw [popAux_cnt, popAux_cnt, popAux_cnt, cnt_add]
  congr 1
  refine cnt_congr fun k _ => ?_
  rw [← Nat.shiftRight_eq_div_pow, Nat.testBit_shiftRight]

theorem popAux_mod (x : Nat) : Lib.popAux 8 (x % 256) = Lib.popAux 8 x := by
  rw [popAux_cnt, popAux_cnt]
  refine cnt_congr fun k hk => ?_
  rw [show (256 : Nat) = 2 ^ 8 from rfl, Nat.testBit_mod_two_pow]
  simp [hk]

/-- All the counts: of eight bytes. -/
theorem pops_sum (x : Nat) : Lib.popAux 64 x = Lib.popAux 8 x + Lib.popAux 8 (x / 256) + Lib.popAux 8 (x / 65536) + Lib.popAux 8 (x / 16777216) + Lib.popAux 8 (x / 4294967296) + Lib.popAux 8 (x / 1099511627776) + Lib.popAux 8 (x / 281474976710656) + Lib.popAux 8 (x / 72057594037927936) := by
  rw [show (64 : Nat) = 8 + (8 + (8 + (8 + (8 + (8 + (8 + 8)))))) from rfl]
  simp only [popAux_split _ _ 8, Nat.div_div_eq_div_mul]
  simp only [Nat.reducePow, Nat.reduceMul]
  omega

theorem pops_eight (x : Nat) : pops 8 x = Lib.popAux 8 x + 256 * Lib.popAux 8 (x / 256) + 65536 * Lib.popAux 8 (x / 65536) + 16777216 * Lib.popAux 8 (x / 16777216) + 4294967296 * Lib.popAux 8 (x / 4294967296) + 1099511627776 * Lib.popAux 8 (x / 1099511627776) + 281474976710656 * Lib.popAux 8 (x / 281474976710656) + 72057594037927936 * Lib.popAux 8 (x / 72057594037927936) := by
  simp only [pops, popAux_mod, Nat.div_div_eq_div_mul, Nat.reduceMul]
  omega

theorem fold8 (a b c d e f g h : Nat) (ha : a ≤ 8) (hb : b ≤ 8) (hc : c ≤ 8) (hd : d ≤ 8) (he : e ≤ 8) (hf : f ≤ 8) (hg : g ≤ 8) (hh : h ≤ 8) (y y1 y2 y3 : Nat)
    (hy : y = a + 256 * b + 65536 * c + 16777216 * d + 4294967296 * e + 1099511627776 * f + 281474976710656 * g + 72057594037927936 * h)
    (h1 : y1 = y + y / 256) (h2 : y2 = y1 + y1 / 65536) (h3 : y3 = y2 + y2 / 4294967296) :
    y < 18446744073709551616 ∧ y1 < 18446744073709551616 ∧ y2 < 18446744073709551616 ∧ y3 < 9223372036854775808 ∧ y3 % 128 = a + b + c + d + e + f + g + h := by
  have e1 : y / 256 = b + 256 * c + 65536 * d + 16777216 * e + 4294967296 * f + 1099511627776 * g + 281474976710656 * h := by omega
  rw [e1] at h1
  have e2 : y1 / 65536 = (c + d) + 256 * (d + e) + 65536 * (e + f) + 16777216 * (f + g) + 4294967296 * (g + h) + 1099511627776 * h := by omega
  rw [e2] at h2
  have e3 : y2 / 4294967296 = (e + f + g + h) + 256 * (f + g + h) + 65536 * (g + h) + 16777216 * h := by omega
  rw [e3] at h3
  have k1 : y1 = (a + b) + 256 * (b + c) + 65536 * (c + d) + 16777216 * (d + e) + 4294967296 * (e + f) + 1099511627776 * (f + g) + 281474976710656 * (g + h) + 72057594037927936 * h := by rw [h1, hy]; clear e1 e2 e3 h1 h2 h3 hy; omega
  have k2 : y2 = (a + b + c + d) + 256 * (b + c + d + e) + 65536 * (c + d + e + f) + 16777216 * (d + e + f + g) + 4294967296 * (e + f + g + h) + 1099511627776 * (f + g + h) + 281474976710656 * (g + h) + 72057594037927936 * h := by rw [h2, k1]; clear e1 e2 e3 h1 h2 h3 hy k1; omega
  have k3 : y3 = (a + b + c + d + e + f + g + h) + 128 * (2 * (b + c + d + e + f + g + h) + 512 * (c + d + e + f + g + h) + 131072 * (d + e + f + g + h) + 33554432 * (e + f + g + h) + 8589934592 * (f + g + h) + 2199023255552 * (g + h) + 562949953421312 * h) := by rw [h3, k2]; clear e1 e2 e3 h1 h2 h3 hy k1 k2; omega
  clear e1 e2 e3 h1 h2 h3
  refine ⟨?_, ?_, ?_, ?_, ?_⟩
  · rw [hy]; clear k1 k2 k3 hy; omega
  · rw [k1]; clear k1 k2 k3 hy; omega
  · rw [k2]; clear k1 k2 k3 hy; omega
  · rw [k3]; clear k1 k2 k3 hy; omega
  · rw [k3, Nat.add_mul_mod_self_left, Nat.mod_eq_of_lt (by clear k1 k2 k3 hy; omega)]
end Go.Proofs.YtbnmbkohmmiamaaDoor
