/- How many pages objects need: Need -/
import Derived.Test.YtebmegghojiegaaDoorLcB
import Derived.Deep.WholeRow
namespace Go.Proofs.YtebmegghojiegaaDoor
open Go.RowKit
set_option linter.unusedVariables false

/-- How many of a list are of a class. -/
def cntN (c : Nat) (l : List Int) : Nat := l.countP fun x => decide (ofI x = (c : Int))
/-- The pages of the large ones. -/
def largeN (l : List Int) : Nat := (l.map fun x => if ofI x = 7 then pagesN x else 0).sum
/-- The pages that the classes below c need. -/
def upN (l : List Int) : Nat → Nat
  | 0 => 0
  | c + 1 => upN l c + ceilN (cntN c l) (slotsN c)
/-- The pages that objects of these sizes need. -/
def needN (l : List Int) : Nat := upN l 7 + largeN l
theorem ceil_le {n m s : Nat} (h : n ≤ m) : ceilN n s ≤ ceilN m s := Nat.div_le_div_right (by omega)
theorem ceil_add (n m s : Nat) (hs : 0 < s) : ceilN (n + m) s ≤ ceilN n s + ceilN m s := by
  unfold ceilN
  have h1 := Nat.div_add_mod (n + s - 1) s
  have h2 := Nat.div_add_mod (m + s - 1) s
  have h3 := Nat.mod_lt (n + s - 1) hs
  have h4 := Nat.mod_lt (m + s - 1) hs
  generalize (n + s - 1) / s = a at *
  generalize (m + s - 1) / s = b at *
  refine Nat.le_of_lt_succ ((Nat.div_lt_iff_lt_mul hs).2 ?_)
  have e : (a + b + 1) * s = s * a + s * b + s := by rw [Nat.add_mul, Nat.add_mul, Nat.one_mul, Nat.mul_comm a, Nat.mul_comm b]
  show n + m + s - 1 < (a + b + 1) * s
  omega
theorem ceil_one (s : Nat) (hs : 0 < s) : ceilN 1 s = 1 := by
  unfold ceilN; rw [show 1 + s - 1 = s by omega, Nat.div_self hs]
theorem ceil_zero (s : Nat) (hs : 0 < s) : ceilN 0 s = 0 := by
  unfold ceilN; rw [show 0 + s - 1 = s - 1 by omega, Nat.div_eq_of_lt (by omega)]
theorem cntN_append (c : Nat) (a b : List Int) : cntN c (a ++ b) = cntN c a + cntN c b := by simp [cntN]
theorem cntN_le (c : Nat) (l : List Int) : cntN c l ≤ l.length := List.countP_le_length
theorem largeN_append (a b : List Int) : largeN (a ++ b) = largeN a + largeN b := by simp [largeN]
theorem up_le {a b : List Int} (h : ∀ c, cntN c a ≤ cntN c b) : ∀ k, upN a k ≤ upN b k
  | 0 => Nat.le_refl _
  | k + 1 => Nat.add_le_add (up_le h k) (ceil_le (h k))
theorem up_add (a b : List Int) : ∀ k, k ≤ 7 → upN (a ++ b) k ≤ upN a k + upN b k
  | 0, _ => Nat.le_refl _
  | k + 1, hk => by
    have h1 := up_add a b k (by omega)
    have h2 := ceil_add (cntN k a) (cntN k b) (slotsN k) (slotsN_pos k (by omega)).1
    simp only [upN]
    rw [cntN_append]
    omega
theorem up_same {a b : List Int} (h : ∀ c, cntN c a = cntN c b) (k : Nat) : upN a k = upN b k :=
  Nat.le_antisymm (up_le (fun c => Nat.le_of_eq (h c)) k) (up_le (fun c => Nat.le_of_eq (h c).symm) k)
/-- Together they need no more than apart. -/
theorem need_add (a b : List Int) : needN (a ++ b) ≤ needN a + needN b := by
  have := up_add a b 7 (Nat.le_refl _)
  unfold needN; rw [largeN_append]; omega
theorem need_swap (a b : List Int) : needN (a ++ b) = needN (b ++ a) := by
  unfold needN
  rw [up_same (a := a ++ b) (b := b ++ a) (fun c => by rw [cntN_append, cntN_append, Nat.add_comm]) 7, largeN_append, largeN_append, Nat.add_comm (largeN a)]
theorem need_left (a b : List Int) : needN a ≤ needN (a ++ b) := by
  have := up_le (a := a) (b := a ++ b) (fun c => by rw [cntN_append]; omega) 7
  unfold needN; rw [largeN_append]; omega
theorem need_right (a b : List Int) : needN b ≤ needN (a ++ b) := by rw [need_swap]; exact need_left b a
theorem cnt_one (c : Nat) (n : Int) : cntN c [n] = if ofI n = (c : Int) then 1 else 0 := by
  simp only [cntN, List.countP_cons, List.countP_nil, Nat.zero_add, decide_eq_true_eq]
/-- One alone needs its own pages. -/
theorem need_one (n : Int) : needN [n] = pagesN n := by
  unfold needN
  simp only [upN, cnt_one, largeN, List.map_cons, List.map_nil, List.sum_cons, List.sum_nil]
  have hz : ∀ s, 0 < s → ceilN 0 s = 0 := ceil_zero
  have h1 : ∀ s, 0 < s → ceilN 1 s = 1 := ceil_one
  have hp := @pagesN_none n
  have hq := @pagesN_small n
  rcases ofI_cases n with ⟨_, h⟩ | ⟨_, _, h⟩ | ⟨_, _, h⟩ | ⟨_, _, h⟩ | ⟨_, _, h⟩ | ⟨_, _, h⟩ | ⟨_, _, h⟩ | ⟨_, _, h⟩ | ⟨_, _, h⟩
  all_goals simp [h, slotsN, hz, h1] at *
  · omega
  all_goals omega
theorem need_more (l : List Int) (n : Int) : needN (l ++ [n]) = needN ([n] ++ l) ∧ needN l ≤ needN (l ++ [n]) ∧ needN (l ++ [n]) ≤ needN l + pagesN n :=
  ⟨need_swap _ _, need_left _ _, by have := need_add l [n]; rw [need_one] at this; exact this⟩
theorem need_nil : needN [] = 0 := by decide
theorem need_len (l : List Int) : needN l ≤ 16 * l.length := by
  induction l with
  | nil => simp [need_nil]
  | cons x l ih =>
    have h1 := need_add [x] l
    have h2 := pagesN_le x
    rw [need_one] at h1
    simp only [List.length_cons]
    have : needN (x :: l) ≤ pagesN x + needN l := h1
    omega
/-- The first k of a list, counted. -/
theorem cnt_take (c : Nat) (l : List Int) (k : Nat) (h : k < l.length) : cntN c (l.take (k + 1)) = cntN c (l.take k) + if ofI (l.getD k 0) = (c : Int) then 1 else 0 := by
  rw [List.take_add_one, List.getElem?_eq_getElem h, Option.toList_some, cntN_append, cnt_one, List.getD_eq_getElem?_getD, List.getElem?_eq_getElem h, Option.getD_some]
theorem large_take (l : List Int) (k : Nat) (h : k < l.length) : largeN (l.take (k + 1)) = largeN (l.take k) + if ofI (l.getD k 0) = 7 then pagesN (l.getD k 0) else 0 := by
  rw [List.take_add_one, List.getElem?_eq_getElem h, Option.toList_some, largeN_append, List.getD_eq_getElem?_getD, List.getElem?_eq_getElem h, Option.getD_some]
  simp [largeN]
theorem large_le (l : List Int) : largeN l ≤ 16 * l.length := by have := need_len l; unfold needN at this; omega
theorem up_len (l : List Int) (k : Nat) (h : k ≤ 7) : upN l k ≤ 16 * l.length := by
  have h1 : ∀ i, upN l k ≤ upN l (k + i) := by
    intro i
    induction i with
    | zero => exact Nat.le_refl _
    | succ i ih => exact Nat.le_trans ih (Nat.le_add_right _ _)
  have h2 := h1 (7 - k)
  rw [show k + (7 - k) = 7 by omega] at h2
  have := need_len l
  unfold needN at this
  omega

/-- Seven counts as the cells of an array. -/
def cellsA7 (f : Nat → Nat) : Array Value := #[.int .i64 (f 0 : Nat), .int .i64 (f 1 : Nat), .int .i64 (f 2 : Nat), .int .i64 (f 3 : Nat), .int .i64 (f 4 : Nat), .int .i64 (f 5 : Nat), .int .i64 (f 6 : Nat)]
theorem cellsA7_at (f : Nat → Nat) (k : Nat) (h : k < 7) : (cellsA7 f)[k]? = some (.int .i64 (f k : Nat)) := by
  rcases k with _ | _ | _ | _ | _ | _ | _ | k <;> first | rfl | omega
theorem cellsA7_set (f : Nat → Nat) (k : Nat) (h : k < 7) (v : Nat) : (cellsA7 f).setIfInBounds k (.int .i64 (v : Nat)) = cellsA7 (fun j => if j = k then v else f j) := by
  rcases k with _ | _ | _ | _ | _ | _ | _ | k <;> first | rfl | omega
theorem size_arrA : (Tryd.prog.info? 128).map (·.size) = some 7 := by kernel_rfl
theorem index_arrA (f : Nat → Nat) (k : Nat) (hk : k < 7) (w : World) :
    (Instr.index 128 (.agg (cellsA7 f)) (.int .i64 (k : Nat))).run Tryd.prog w = .ok (.int .i64 ((f k : Nat) : Int)) w := by
  have e := cellsA7_at f k hk
  simp [Instr.index, asIntOf, Sem.run_bind, run_underlying Tryd.underlying128, hk, Tryd.sizeOf3, part, Tryd.isAgg3, e]
/-- The counts in their block. -/
structure ArrAt (w : World) (g : Nat) (f : Nat → Nat) : Prop where
  block : w.heap[g]? = some (.cells (cellsA7 f) 128 (0, 0))
theorem ArrAt.cell {w : World} {g : Nat} {f : Nat → Nat} (h : ArrAt w g f) (k : Nat) (hk : k < 7) : w.cell? ⟨g, k, none⟩ = some (.int .i64 (f k : Nat)) := by
  rw [cell_of_row _ _ k _ _ _ h.block]; exact cellsA7_at f k hk
theorem ArrAt.thawed {w : World} {g : Nat} {f : Nat → Nat} (h : ArrAt w g f) (k : Nat) : w.frozen? ⟨g, k, none⟩ = false := by
  simp [World.frozen?, h.block]
theorem ArrAt.ext {w : World} {g : Nat} {f f' : Nat → Nat} (h : ArrAt w g f) (e : ∀ k, k < 7 → f k = f' k) : ArrAt w g f' := by
  refine ⟨?_⟩
  have : cellsA7 f' = cellsA7 f := by
    unfold cellsA7
    rw [e 0 (by decide), e 1 (by decide), e 2 (by decide), e 3 (by decide), e 4 (by decide), e 5 (by decide), e 6 (by decide)]
  rw [this]
  exact h.block
theorem ArrAt.stored {w : World} {g : Nat} {f : Nat → Nat} (h : ArrAt w g f) (k : Nat) (hk : k < 7) (v : Nat) : ArrAt (w.setCell ⟨g, k, none⟩ (.int .i64 (v : Nat))) g (fun j => if j = k then v else f j) :=
  ⟨by rw [heap_setCell_same w g k (cellsA7 f) 128 _ h.block, cellsA7_set f k hk]⟩
end Go.Proofs.YtebmegghojiegaaDoor
