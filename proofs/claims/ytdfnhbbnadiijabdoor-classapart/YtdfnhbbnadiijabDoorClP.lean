/- Plain mathematics of layer 6: classes of sizes, how many of a list are of a class, the pages that they need. -/
import Derived.Test.YtdfnhbbnadiijabDoorChecked
namespace Go.Proofs.YtdfnhbbnadiijabDoor
set_option linter.unusedVariables false

/-- The class of an object of so many bytes. -/
def ofI (n : Int) : Int :=
  if n < 1 ∨ 4096 < n then -1 else if n ≤ 16 then 0 else if n ≤ 24 then 1 else if n ≤ 32 then 2 else if n ≤ 48 then 3
  else if n ≤ 64 then 4 else if n ≤ 96 then 5 else if n ≤ 128 then 6 else 7
/-- The pages of a span whose object has so many bytes. -/
def pagesN (n : Int) : Nat := if n < 1 ∨ 4096 < n then 0 else if n ≤ 128 then 1 else (n.toNat + 255) / 256
/-- The bytes of a slot. -/
def sizeI (c : Int) : Int :=
  if c = 0 then 16 else if c = 1 then 24 else if c = 2 then 32 else if c = 3 then 48 else if c = 4 then 64 else if c = 5 then 96 else if c = 6 then 128 else 0
/-- The slots of a span. -/
def slotsI (c : Int) : Int :=
  if c = 0 then 16 else if c = 1 then 10 else if c = 2 then 8 else if c = 3 then 5 else if c = 4 then 4 else if c = 5 then 2 else if c = 6 then 2 else if c = 7 then 1 else 0
def slotsN (c : Nat) : Nat := ([16, 10, 8, 5, 4, 2, 2] : List Nat).getD c 1
def sizeN (c : Nat) : Nat := ([16, 24, 32, 48, 64, 96, 128] : List Nat).getD c 0
/-- How many of a list are of a class. -/
def cntN (c : Nat) (l : List Int) : Nat := l.countP fun x => decide (ofI x = (c : Int))
/-- The pages of the large ones. -/
def largeN (l : List Int) : Nat := (l.map fun x => if ofI x = 7 then pagesN x else 0).sum
def ceilN (n s : Nat) : Nat := (n + s - 1) / s
/-- The pages that the classes below c need. -/
def upN (l : List Int) : Nat → Nat
  | 0 => 0
  | c + 1 => upN l c + ceilN (cntN c l) (slotsN c)
/-- The pages that objects of these sizes need. -/
def needN (l : List Int) : Nat := upN l 7 + largeN l

theorem ofI_range (n : Int) : -1 ≤ ofI n ∧ ofI n ≤ 7 := by unfold ofI; repeat' split <;> omega
theorem ofI_cases (n : Int) : (n < 1 ∨ 4096 < n) ∧ ofI n = -1 ∨ 1 ≤ n ∧ n ≤ 16 ∧ ofI n = 0 ∨ 17 ≤ n ∧ n ≤ 24 ∧ ofI n = 1 ∨ 25 ≤ n ∧ n ≤ 32 ∧ ofI n = 2 ∨ 33 ≤ n ∧ n ≤ 48 ∧ ofI n = 3 ∨ 49 ≤ n ∧ n ≤ 64 ∧ ofI n = 4 ∨ 65 ≤ n ∧ n ≤ 96 ∧ ofI n = 5 ∨ 97 ≤ n ∧ n ≤ 128 ∧ ofI n = 6 ∨ 129 ≤ n ∧ n ≤ 4096 ∧ ofI n = 7 := by
  unfold ofI; repeat' split <;> omega
theorem pagesN_none {n : Int} (h : ofI n = -1) : pagesN n = 0 := by
  unfold pagesN; have := ofI_cases n; rw [if_pos (by omega)]
theorem pagesN_small {n : Int} (h0 : 0 ≤ ofI n) (h : ofI n ≤ 6) : pagesN n = 1 := by
  unfold pagesN; have := ofI_cases n; rw [if_neg (by omega), if_pos (by omega)]
theorem pagesN_large {n : Int} (h : ofI n = 7) : pagesN n = (n.toNat + 255) / 256 ∧ 129 ≤ n ∧ n ≤ 4096 := by
  unfold pagesN; have := ofI_cases n; rw [if_neg (by omega), if_neg (by omega)]; exact ⟨rfl, by omega, by omega⟩
theorem pagesN_le (n : Int) : pagesN n ≤ 16 := by
  unfold pagesN
  split
  · omega
  · split <;> omega

theorem slotsN_pos (c : Nat) (h : c < 7) : 0 < slotsN c ∧ slotsN c ≤ 16 := by
  rcases h' : c with _ | _ | _ | _ | _ | _ | _ | c <;> simp [slotsN] <;> omega

theorem ceil_le {n m s : Nat} (h : n ≤ m) : ceilN n s ≤ ceilN m s := Nat.div_le_div_right (by omega)
theorem ceil_add (n m s : Nat) (hs : 0 < s) : ceilN (n + m) s ≤ ceilN n s + ceilN m s := by
  unfold ceilN
  have h1 := Nat.div_add_mod (n + s - 1) s
  have h2 := Nat.div_add_mod (m + s - 1) s
  have h3 := Nat.mod_lt (n + s - 1) hs
  have h4 := Nat.mod_lt (m + s - 1) hs
  generalize (n + s - 1) / s = a at *
  generalize (m + s - 1) / s = b at *
  refine Nat.le_of_lt_succ ((Nat.div_lt_iff_lt_mul hs).2 ?_)
  have e : (a + b + 1) * s = s * a + s * b + s := by rw [Nat.add_mul, Nat.add_mul, Nat.one_mul, Nat.mul_comm a, Nat.mul_comm b]
  show n + m + s - 1 < (a + b + 1) * s
  omega
theorem ceil_one (s : Nat) (hs : 0 < s) : ceilN 1 s = 1 := by
  unfold ceilN; rw [show 1 + s - 1 = s by omega, Nat.div_self hs]
theorem ceil_zero (s : Nat) (hs : 0 < s) : ceilN 0 s = 0 := by
  unfold ceilN; rw [show 0 + s - 1 = s - 1 by omega, Nat.div_eq_of_lt (by omega)]

theorem cntN_append (c : Nat) (a b : List Int) : cntN c (a ++ b) = cntN c a + cntN c b := by simp [cntN]
theorem cntN_le (c : Nat) (l : List Int) : cntN c l ≤ l.length := List.countP_le_length
theorem largeN_append (a b : List Int) : largeN (a ++ b) = largeN a + largeN b := by simp [largeN]

theorem up_le {a b : List Int} (h : ∀ c, cntN c a ≤ cntN c b) : ∀ k, upN a k ≤ upN b k
  | 0 => Nat.le_refl _
  | k + 1 => Nat.add_le_add (up_le h k) (ceil_le (h k))
theorem up_add (a b : List Int) : ∀ k, k ≤ 7 → upN (a ++ b) k ≤ upN a k + upN b k
  | 0, _ => Nat.le_refl _
  | k + 1, hk => by
    have h1 := up_add a b k (by omega)
    have h2 := ceil_add (cntN k a) (cntN k b) (slotsN k) (slotsN_pos k (by omega)).1
    simp only [upN]
    rw [cntN_append]
    omega
theorem up_same {a b : List Int} (h : ∀ c, cntN c a = cntN c b) (k : Nat) : upN a k = upN b k :=
  Nat.le_antisymm (up_le (fun c => Nat.le_of_eq (h c)) k) (up_le (fun c => Nat.le_of_eq (h c).symm) k)

/-- Together they need no more than apart. -/
theorem need_add (a b : List Int) : needN (a ++ b) ≤ needN a + needN b := by
  have := up_add a b 7 (Nat.le_refl _)
  unfold needN; rw [largeN_append]; omega
theorem need_swap (a b : List Int) : needN (a ++ b) = needN (b ++ a) := by
  unfold needN
  rw [up_same (a := a ++ b) (b := b ++ a) (fun c => by rw [cntN_append, cntN_append, Nat.add_comm]) 7, largeN_append, largeN_append, Nat.add_comm (largeN a)]
theorem need_left (a b : List Int) : needN a ≤ needN (a ++ b) := by
  have := up_le (a := a) (b := a ++ b) (fun c => by rw [cntN_append]; omega) 7
  unfold needN; rw [largeN_append]; omega
theorem need_right (a b : List Int) : needN b ≤ needN (a ++ b) := by rw [need_swap]; exact need_left b a

theorem cnt_one (c : Nat) (n : Int) : cntN c [n] = if ofI n = (c : Int) then 1 else 0 := by
  simp only [cntN, List.countP_cons, List.countP_nil, Nat.zero_add, decide_eq_true_eq]
/-- One alone needs its own pages. -/
theorem need_one (n : Int) : needN [n] = pagesN n := by
  unfold needN
  simp only [upN, cnt_one, largeN, List.map_cons, List.map_nil, List.sum_cons, List.sum_nil]
  have hz : ∀ s, 0 < s → ceilN 0 s = 0 := ceil_zero
  have h1 : ∀ s, 0 < s → ceilN 1 s = 1 := ceil_one
  have hp := @pagesN_none n
  have hq := @pagesN_small n
  rcases ofI_cases n with ⟨_, h⟩ | ⟨_, _, h⟩ | ⟨_, _, h⟩ | ⟨_, _, h⟩ | ⟨_, _, h⟩ | ⟨_, _, h⟩ | ⟨_, _, h⟩ | ⟨_, _, h⟩ | ⟨_, _, h⟩
  all_goals simp [h, slotsN, hz, h1] at *
  · omega
  all_goals omega
theorem need_more (l : List Int) (n : Int) : needN (l ++ [n]) = needN ([n] ++ l) ∧ needN l ≤ needN (l ++ [n]) ∧ needN (l ++ [n]) ≤ needN l + pagesN n :=
  ⟨need_swap _ _, need_left _ _, by have := need_add l [n]; rw [need_one] at this; exact this⟩
theorem need_nil : needN [] = 0 := by decide
theorem need_len (l : List Int) : needN l ≤ 16 * l.length := by
  induction l with
  | nil => simp [need_nil]
  | cons x l ih =>
    have h1 := need_add [x] l
    have h2 := pagesN_le x
    rw [need_one] at h1
    simp only [List.length_cons]
    have : needN (x :: l) ≤ pagesN x + needN l := h1
    omega

/-- The first k of a list, counted. -/
theorem cnt_take (c : Nat) (l : List Int) (k : Nat) (h : k < l.length) : cntN c (l.take (k + 1)) = cntN c (l.take k) + if ofI (l.getD k 0) = (c : Int) then 1 else 0 := by
  rw [List.take_add_one, List.getElem?_eq_getElem h, Option.toList_some, cntN_append, cnt_one, List.getD_eq_getElem?_getD, List.getElem?_eq_getElem h, Option.getD_some]
theorem large_take (l : List Int) (k : Nat) (h : k < l.length) : largeN (l.take (k + 1)) = largeN (l.take k) + if ofI (l.getD k 0) = 7 then pagesN (l.getD k 0) else 0 := by
  rw [List.take_add_one, List.getElem?_eq_getElem h, Option.toList_some, largeN_append, List.getD_eq_getElem?_getD, List.getElem?_eq_getElem h, Option.getD_some]
  simp [largeN]
theorem large_le (l : List Int) : largeN l ≤ 16 * l.length := by have := need_len l; unfold needN at this; omega
theorem up_len (l : List Int) (k : Nat) (h : k ≤ 7) : upN l k ≤ 16 * l.length := by
  have h1 : ∀ i, upN l k ≤ upN l (k + i) := by
    intro i
    induction i with
    | zero => exact Nat.le_refl _
    | succ i ih => exact Nat.le_trans ih (Nat.le_add_right _ _)
  have h2 := h1 (7 - k)
  rw [show k + (7 - k) = 7 by omega] at h2
  have := need_len l
  unfold needN at this
  omega
end Go.Proofs.YtdfnhbbnadiijabDoor
