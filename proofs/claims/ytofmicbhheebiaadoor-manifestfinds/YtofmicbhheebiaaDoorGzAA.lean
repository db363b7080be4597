/- Plain mathematics of layer 5: sectors, what is pending, what a crash keeps. -/
import Derived.Test.YtofmicbhheebiaaDoorRows
import Derived.Lib.BitFns
import Derived.WalkKit
namespace Go.Proofs.YtofmicbhheebiaaDoor
set_option linter.unusedVariables false
set_option maxRecDepth 4000

def AllB (l : List Int) : Prop := ∀ x ∈ l, 0 ≤ x ∧ x ≤ 255

theorem AllB.append {a b : List Int} (h : AllB a) (k : AllB b) : AllB (a ++ b) := by
  intro x hx; rcases List.mem_append.1 hx with e | e
  · exact h x e
  · exact k x e
theorem AllB.take {a : List Int} (h : AllB a) (n : Nat) : AllB (a.take n) := fun x hx => h x (List.mem_of_mem_take hx)
theorem AllB.drop {a : List Int} (h : AllB a) (n : Nat) : AllB (a.drop n) := fun x hx => h x (List.mem_of_mem_drop hx)
theorem AllB.at {a : List Int} (h : AllB a) (k : Nat) : 0 ≤ a.getD k 0 ∧ a.getD k 0 ≤ 255 := by
  by_cases hk : k < a.length
  · rw [List.getD_eq_getElem?_getD, List.getElem?_eq_getElem hk]; exact h _ (List.getElem_mem hk)
  · rw [List.getD_eq_getElem?_getD, List.getElem?_eq_none (by omega)]; simp

/-- A sector of noughts. -/
def zeros : List Int := List.replicate 64 0
theorem zeros_len : zeros.length = 64 := by simp [zeros]
theorem zeros_allB : AllB zeros := by intro x hx; simp [zeros] at hx; omega

/-- So many bytes of b laid over s. -/
def over (k : Nat) (b s : List Int) : List Int := b.take k ++ s.drop k
theorem over_len {k : Nat} {b s : List Int} (hb : b.length = 64) (hs : s.length = 64) : (over k b s).length = 64 := by simp [over]; omega
theorem over_allB {k : Nat} {b s : List Int} (hb : AllB b) (hs : AllB s) : AllB (over k b s) := (hb.take k).append (hs.drop k)
theorem over_all {b s : List Int} (hb : b.length = 64) (hs : s.length = 64) : over 64 b s = b := by
  simp [over, List.take_of_length_le (Nat.le_of_eq hb), List.drop_of_length_le (Nat.le_of_eq hs)]

/-- A sector that begins with b. -/
def secL (b : List Int) : List Int := b ++ zeros.drop b.length
theorem secL_len {b : List Int} (h : b.length ≤ 64) : (secL b).length = 64 := by simp [secL, zeros_len]; omega
theorem secL_allB {b : List Int} (h : AllB b) : AllB (secL b) := h.append (zeros_allB.drop _)
theorem secL_full {b : List Int} (h : b.length = 64) : secL b = b := by simp [secL, h, List.drop_of_length_le (Nat.le_of_eq zeros_len)]
/-- A write that isn't sure. -/
structure Wr where
  «at» : Nat
  «by» : List Int

/-- A disk. -/
structure Dk where
  n : Nat
  sure : Nat → List Int
  pend : List Wr
  left : Int
  down : Bool
  ops : Nat

/-- All sectors have 64 bytes. -/
structure DkOk (d : Dk) : Prop where
  few : d.n ≤ 65536
  sec : ∀ i, i < d.n → (d.sure i).length = 64 ∧ AllB (d.sure i)
  wr : ∀ x ∈ d.pend, x.at < d.n ∧ x.by.length = 64 ∧ AllB x.by
  left : -9223372036854775808 ≤ d.left ∧ d.left ≤ 9223372036854775807

def newD (n : Nat) : Dk := ⟨n, fun _ => zeros, [], 0, false, 0⟩
theorem newD_ok {n : Nat} (h : n ≤ 65536) : DkOk (newD n) := ⟨h, fun _ _ => ⟨zeros_len, zeros_allB⟩, fun x hx => by (cases hx), by simp [newD]⟩

def updS (s : Nat → List Int) (i : Nat) (l : List Int) : Nat → List Int := fun j => if j = i then l else s j

/-- Each write, in its order, laid over what is sure. -/
def layAll (keep : Nat → Nat) : Nat → List Wr → (Nat → List Int) → Nat → List Int
  | _, [], s => s
  | k, x :: r, s => layAll keep (k + 1) r (updS s x.at (over (keep k) x.by (s x.at)))

theorem layAll_append (keep : Nat → Nat) : ∀ (a b : List Wr) (k : Nat) (s : Nat → List Int), layAll keep k (a ++ b) s = layAll keep (k + a.length) b (layAll keep k a s)
  | [], b, k, s => rfl
  | x :: a, b, k, s => by
    rw [List.cons_append, layAll, layAll, layAll_append keep a b, List.length_cons]
    congr 1; omega

theorem layAll_step (keep : Nat → Nat) (p : List Wr) (k : Nat) (h : k < p.length) (s : Nat → List Int) :
    layAll keep 0 (p.take (k + 1)) s = updS (layAll keep 0 (p.take k) s) p[k].at (over (keep k) p[k].by (layAll keep 0 (p.take k) s p[k].at)) := by
  rw [List.take_succ_eq_append_getElem h, layAll_append]
  have : (p.take k).length = k := by simp; omega
  rw [this, Nat.zero_add]
  rfl

theorem layAll_ok {n : Nat} (keep : Nat → Nat) : ∀ (p : List Wr) (k : Nat) (s : Nat → List Int), (∀ i, i < n → (s i).length = 64 ∧ AllB (s i)) → (∀ x ∈ p, x.at < n ∧ x.by.length = 64 ∧ AllB x.by) → ∀ i, i < n → (layAll keep k p s i).length = 64 ∧ AllB (layAll keep k p s i)
  | [], _, _, hs, _ => hs
  | x :: r, k, s, hs, hp => by
    rw [layAll]
    refine layAll_ok keep r (k + 1) _ ?_ (fun y hy => hp y (by simp [hy]))
    intro i hi
    have hx := hp x (by simp)
    unfold updS
    split
    · exact ⟨over_len hx.2.1 (hs _ hx.1).1, over_allB hx.2.2 (hs _ hx.1).2⟩
    · exact hs i hi

/-- What is written last of a sector. -/
def lastB (p : List Wr) (i : Nat) (s : List Int) : List Int := p.foldl (fun out x => if x.at = i then x.by else out) s
theorem lastB_snoc (p : List Wr) (x : Wr) (i : Nat) (s : List Int) : lastB (p ++ [x]) i s = if x.at = i then x.by else lastB p i s := by simp [lastB]
theorem lastB_take (p : List Wr) (k : Nat) (h : k < p.length) (i : Nat) (s : List Int) : lastB (p.take (k + 1)) i s = if p[k].at = i then p[k].by else lastB (p.take k) i s := by
  rw [List.take_succ_eq_append_getElem h, lastB_snoc]
theorem lastB_ok {n : Nat} : ∀ (p : List Wr) (i : Nat) (s : List Int), (s.length = 64 ∧ AllB s) → (∀ x ∈ p, x.at < n ∧ x.by.length = 64 ∧ AllB x.by) → (lastB p i s).length = 64 ∧ AllB (lastB p i s)
  | [], _, _, hs, _ => hs
  | x :: r, i, s, hs, hp => by
    have : lastB (x :: r) i s = lastB r i (if x.at = i then x.by else s) := rfl
    rw [this]
    refine lastB_ok r i _ ?_ (fun y hy => hp y (by simp [hy]))
    split
    · exact (hp x (by simp)).2
    · exact hs

/-- Where a sector's last write stands. -/
def Newest (g : Int → Option Nat) (p : List Wr) : Prop := ∀ i : Nat, (g i = none ∧ ∀ s, lastB p i s = s) ∨ ∃ k, ∃ h : k < p.length, g i = some k ∧ ∀ s, lastB p i s = p[k].by
theorem newest_none : Newest (fun _ => none) [] := fun i => .inl ⟨rfl, fun _ => rfl⟩
theorem Newest.snoc {g : Int → Option Nat} {p : List Wr} (h : Newest g p) (x : Wr) : Newest (fun i => if i = (x.at : Int) then some p.length else g i) (p ++ [x]) := by
  intro i
  by_cases e : (i : Int) = (x.at : Int)
  · refine .inr ⟨p.length, by simp, by simp [e], fun s => ?_⟩
    rw [lastB_snoc, if_pos (by omega)]; simp
  · have e' : ¬ x.at = i := by omega
    rcases h i with ⟨h1, h2⟩ | ⟨k, hk, h1, h2⟩
    · exact .inl ⟨by simp [e, h1], fun s => by rw [lastB_snoc, if_neg e', h2]⟩
    · refine .inr ⟨k, by simp; omega, by simp [e, h1], fun s => ?_⟩
      rw [lastB_snoc, if_neg e', h2, List.getElem_append_left hk]

def workD (d : Dk) : Dk := if d.left = 1 then { d with left := 0, down := true } else if 1 < d.left then { d with left := d.left - 1, ops := d.ops + 1 } else { d with ops := d.ops + 1 }
def workE (d : Dk) : Int := if d.left = 1 then 14 else 0
theorem workD_ok {d : Dk} (h : DkOk d) : DkOk (workD d) := by
  have := h.left
  unfold workD
  split
  · exact ⟨h.few, h.sec, h.wr, by simp⟩
  · split
    · exact ⟨h.few, h.sec, h.wr, by show _ ∧ _; simp only; omega⟩
    · exact ⟨h.few, h.sec, h.wr, h.left⟩
theorem workD_ops (d : Dk) : (workD d).ops ≤ d.ops + 1 := by unfold workD; split <;> (try split) <;> simp
theorem workD_n (d : Dk) : (workD d).n = d.n := by unfold workD; split <;> (try split) <;> rfl
theorem workD_pend (d : Dk) : (workD d).pend = d.pend := by unfold workD; split <;> (try split) <;> rfl
theorem workD_sure (d : Dk) : (workD d).sure = d.sure := by unfold workD; split <;> (try split) <;> rfl

/-- Why nothing can be done with a sector. -/
def closedE (d : Dk) (i : Int) : Int := if d.down = true then 14 else if 0 ≤ i ∧ i < d.n then 0 else 2
def deadE (d : Dk) : Int := if d.down = true then 14 else 0
theorem closedE_zero {d : Dk} {i : Int} : closedE d i = 0 ↔ d.down = false ∧ 0 ≤ i ∧ i < d.n := by
  unfold closedE
  cases d.down <;> simp

def pushD (d : Dk) (i : Nat) (l : List Int) : Dk := { d with pend := d.pend ++ [⟨i, secL l⟩] }
theorem pushD_ok {d : Dk} {i : Nat} {l : List Int} (h : DkOk d) (hi : i < d.n) (hl : l.length ≤ 64) (hb : AllB l) : DkOk (pushD d i l) :=
  ⟨h.few, h.sec, fun x hx => by
    rcases List.mem_append.1 hx with e | e
    · exact h.wr x e
    · simp at e; subst e; exact ⟨hi, secL_len hl, secL_allB hb⟩, h.left⟩

def writeE (d : Dk) (i : Int) (l : List Int) : Int := if closedE d i = 0 then (if 64 < l.length then 6 else workE d) else closedE d i
def writeD (d : Dk) (i : Int) (l : List Int) : Dk := if closedE d i = 0 ∧ l.length ≤ 64 then workD (pushD d i.toNat l) else d
def settleD (keep : Nat → Nat) (d : Dk) : Dk := { d with sure := layAll keep 0 d.pend d.sure, pend := [] }
theorem settleD_ok {keep : Nat → Nat} {d : Dk} (h : DkOk d) : DkOk (settleD keep d) :=
  ⟨h.few, layAll_ok keep d.pend 0 d.sure h.sec h.wr, fun x hx => by (cases hx), h.left⟩

def flushE (d : Dk) : Int := if d.down = true then 14 else workE d
def flushD (d : Dk) : Dk := if d.down = true then d else if d.left = 1 then workD d else settleD (fun _ => 64) (workD d)
def armD (d : Dk) (n : Int) : Dk := if d.down = true then d else { d with left := n }
theorem armD_ok {d : Dk} {n : Int} (h : DkOk d) (hn : -9223372036854775808 ≤ n ∧ n ≤ 9223372036854775807) : DkOk (armD d n) := by
  unfold armD; split
  · exact h
  · exact ⟨h.few, h.sec, h.wr, hn⟩

def readL (d : Dk) (i : Int) : List Int := if closedE d i = 0 then lastB d.pend i.toNat (d.sure i.toNat) else []
theorem readL_ok {d : Dk} {i : Int} (h : DkOk d) (hc : closedE d i = 0) : (readL d i).length = 64 ∧ AllB (readL d i) := by
  have := closedE_zero.1 hc
  rw [readL, if_pos hc]
  exact lastB_ok d.pend _ _ (h.sec _ (by omega)) h.wr

end Go.Proofs.YtofmicbhheebiaaDoor

/- Plain mathematics of layer 1: bytes and digits of numbers as lists, without any program. -/
namespace Go.Proofs.YtofmicbhheebiaaDoor
open Go.RowKit

/-- The width that counts. -/
def clampW (n : Int) : Int := if n < 0 then 0 else if n > 8 then 8 else n

/-- The lowest k bytes of n. -/
def putL : Nat → Int → List Int
  | 0, _ => []
  | k + 1, n => n % 256 :: putL k (n / 256)

/-- The number of bytes. -/
def getL : List Int → Int
  | [] => 0
  | b :: l => b + 256 * getL l

theorem or_join (k : Nat) (a b : Int) (h0 : 0 ≤ a) (h1 : a < 2 ^ k) (hb : 0 ≤ b) (hs : a + b * 2 ^ k < 18446744073709551616) :
    bits .or .u64 a (b * 2 ^ k) = a + b * 2 ^ k := by
  have hp : (0 : Int) < 2 ^ k := Int.pow_pos (by decide)
  have hbp : 0 ≤ b * 2 ^ k := Int.mul_nonneg hb (by omega)
  rw [u64_or a (b * 2 ^ k) h0 (by omega) hbp (by omega)]
  have e2 : ((2 ^ k : Nat) : Int) = (2 : Int) ^ k := by simp
  have e1 : (b * 2 ^ k).toNat = b.toNat * 2 ^ k := by
    have : b * 2 ^ k = ((b.toNat * 2 ^ k : Nat) : Int) := by rw [Int.natCast_mul, e2, Int.toNat_of_nonneg hb]
    rw [this, Int.toNat_natCast]
  rw [e1, Nat.or_comm, nat_join k _ _ (by simp) (by omega)]
  have : ((b.toNat * 2 ^ k : Nat) : Int) = b * 2 ^ k := by rw [Int.natCast_mul, e2, Int.toNat_of_nonneg hb]
  omega

theorem getL_nonneg (l : List Int) (h : ∀ x ∈ l, 0 ≤ x ∧ x ≤ 255) : 0 ≤ getL l := by
  induction l with
  | nil => simp [getL]
  | cons a l ih =>
    have := ih (fun x hx => h x (List.mem_cons_of_mem _ hx))
    have := h a (List.mem_cons_self)
    simp only [getL]
    omega

theorem getL_lt (l : List Int) (h : ∀ x ∈ l, 0 ≤ x ∧ x ≤ 255) : getL l < 256 ^ l.length := by
  induction l with
  | nil => simp [getL]
  | cons a l ih =>
    have := ih (fun x hx => h x (List.mem_cons_of_mem _ hx))
    have := h a (List.mem_cons_self)
    simp only [getL, List.length_cons]
    rw [Int.pow_succ]
    omega

theorem getL_snoc (l : List Int) (x : Int) : getL (l ++ [x]) = getL l + x * 256 ^ l.length := by
  induction l with
  | nil => simp [getL]
  | cons a l ih =>
    simp only [List.cons_append, getL, ih, List.length_cons]
    rw [Int.pow_succ]
    generalize (256 : Int) ^ l.length = p
    rw [Int.mul_add, ← Int.mul_assoc, Int.mul_comm 256 x, Int.mul_assoc, Int.mul_comm 256 p]
    omega

theorem pow_bits (k : Nat) : (256 : Int) ^ k = 2 ^ (8 * k) := by
  rw [Int.pow_mul]; rfl

theorem take_same (l : List Int) (k : Nat) (h8 : k ≤ 8) (hl : k ≤ l.length) (h : ¬ (k < 8 ∧ k < l.length)) : l.take 8 = l.take k := by
  by_cases e : k = 8
  · rw [e]
  · rw [List.take_of_length_le (by omega), List.take_of_length_le (by omega)]

theorem p256_mono (m n : Nat) (h : m ≤ n) : (256 : Int) ^ m ≤ 256 ^ n := by
  induction n with
  | zero => obtain rfl : m = 0 := by omega
            exact Int.le_refl _
  | succ n ih =>
    by_cases e : m = n + 1
    · rw [e]; exact Int.le_refl _
    · have := ih (by omega)
      have hp : (0 : Int) < 256 ^ n := Int.pow_pos (by decide)
      rw [Int.pow_succ]
      omega

theorem getL_take_bd (l : List Int) (k : Nat) (hb : ∀ x ∈ l, 0 ≤ x ∧ x ≤ 255) (h8 : k ≤ 8) : 0 ≤ getL (l.take k) ∧ getL (l.take k) < 18446744073709551616 := by
  have hb' : ∀ x ∈ l.take k, 0 ≤ x ∧ x ≤ 255 := fun x hx => hb x (List.mem_of_mem_take hx)
  refine ⟨getL_nonneg _ hb', ?_⟩
  have h1 := getL_lt _ hb'
  have h2 : (l.take k).length ≤ 8 := by have := List.length_take_le k l; omega
  have h3 := p256_mono _ _ h2
  have h4 : (256 : Int) ^ 8 = 18446744073709551616 := by decide
  omega

theorem get_step (l : List Int) (k : Nat) (hb : ∀ x ∈ l, 0 ≤ x ∧ x ≤ 255) (h8 : k < 8) (hl : k < l.length) :
    bits BinOp.or IntKind.u64 (getL (l.take k)) (IntKind.u64.wrap (IntKind.u64.wrap l[k] * 2 ^ (8 * k))) = getL (l.take (k + 1)) := by
  have hx := hb l[k] (List.getElem_mem hl)
  have bd := getL_take_bd l (k + 1) hb (by omega)
  have hb' : ∀ x ∈ l.take k, 0 ≤ x ∧ x ≤ 255 := fun x hx => hb x (List.mem_of_mem_take hx)
  have h0 := getL_nonneg _ hb'
  have h1 := getL_lt _ hb'
  have hlen : (l.take k).length = k := by simp; omega
  have e : getL (l.take (k + 1)) = getL (l.take k) + l[k] * 2 ^ (8 * k) := by
    rw [List.take_succ_eq_append_getElem hl, getL_snoc, hlen, pow_bits]
  rw [hlen, pow_bits] at h1
  have hp : (0 : Int) ≤ 2 ^ (8 * k) := Int.le_of_lt (Int.pow_pos (by decide))
  have hm : 0 ≤ l[k] * 2 ^ (8 * k) := Int.mul_nonneg hx.1 hp
  rw [IntKind.wrap_u64 l[k], show l[k] % 18446744073709551616 = l[k] from by omega, IntKind.wrap_u64]
  rw [e] at bd ⊢
  rw [show (l[k] * 2 ^ (8 * k)) % 18446744073709551616 = l[k] * 2 ^ (8 * k) from by omega]
  exact or_join (8 * k) _ _ h0 h1 hx.1 bd.2

theorem putL_byte (k : Nat) : ∀ n, ∀ x ∈ putL k n, 0 ≤ x ∧ x ≤ 255 := by
  induction k with
  | zero => intro n x hx; simp [putL] at hx
  | succ k ih =>
    intro n x hx
    simp only [putL, List.mem_cons] at hx
    rcases hx with rfl | hx
    · omega
    · exact ih _ x hx

end Go.Proofs.YtofmicbhheebiaaDoor
