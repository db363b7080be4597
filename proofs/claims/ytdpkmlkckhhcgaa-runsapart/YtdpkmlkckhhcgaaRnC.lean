/- What DeleteFunc does. -/
import Derived.Test.YtdpkmlkckhhcgaaRnB
namespace Go.Proofs.Ytdpkmlkckhhcgaa
open Go.RowKit
set_option linter.unusedVariables false

theorem cellsR_set : ∀ (l : List (Nat × Nat)) (i : Nat) (a b : Nat), ((cellsR l).set (i * 2) (.int .i64 (a : Nat))).set (i * 2 + 1) (.int .i64 (b : Nat)) = cellsR (l.set i (a, b))
  | [], i, a, b => by simp [cellsR]
  | r :: l, 0, a, b => by simp [cellsR]
  | r :: l, i + 1, a, b => by
    have := cellsR_set l i a b
    rw [show (i + 1) * 2 = i * 2 + 2 from by omega, show i * 2 + 2 + 1 = i * 2 + 1 + 2 from by omega]
    simp [cellsR, this]
theorem Row.set2 {w : World} {g : Nat} {xs : List (Nat × Nat)} (h : Row w g xs) (i a b : Nat) : Row ((w.setCell ⟨g, i * 2, none⟩ (.int .i64 (a : Nat))).setCell ⟨g, i * 2 + 1, none⟩ (.int .i64 (b : Nat))) g (xs.set i (a, b)) := by
  have h1 := heap_setCell_same w g (i * 2) _ _ (.int .i64 (a : Nat)) h
  have h2 := heap_setCell_same _ g (i * 2 + 1) _ _ (.int .i64 (b : Nat)) h1
  show (World.setCell _ _ _).heap[g]? = _
  rw [h2]
  simp [← cellsR_set]
theorem Only.set2 (g j j' : Nat) (v v' : Value) (w : World) : Only g w ((w.setCell ⟨g, j, none⟩ v).setCell ⟨g, j', none⟩ v') := (Only.set g j v w).trans (Only.set g j' v' _)
theorem Tu.alloc {S : Nat → Prop} {w w' : World} (h : Tu S w w') (o : Obj) : Tu S w (w'.alloc o) := h.trans (Tu.ofBelow ((Below.refl _ w').alloc (Nat.le_refl _) o))
theorem Tu.only {S : Nat → Prop} {g : Nat} {w w' w'' : World} (h : Tu S w w') (k : Only g w' w'') (hg : S g) : Tu S w w'' := h.trans (Tu.ofOnly k hg)
theorem Row.keep {w w' : World} {g : Nat} {xs : List (Nat × Nat)} (h : Row w g xs) (hb : Below w.heap.size w w') : Row w' g xs := by
  show w'.heap[g]? = _; rw [hb.block g h.lt]; exact h
theorem Row.alloc {w : World} {g : Nat} {xs : List (Nat × Nat)} (h : Row w g xs) (o : Obj) : Row (w.alloc o) g xs := h.keep ((Below.refl _ w).alloc (Nat.le_refl _) o)

/-! ### clear -/
theorem zeroCells_R (n : Nat) : (Builtin.zeroCells #[.int .i64 0, .int .i64 0] n).toList = cellsR (List.replicate n (0, 0)) := by
  have e1 : ∀ n, cellsR (List.replicate n (0, 0)) = List.replicate (n * 2) (.int .i64 0) := by
    intro n
    induction n with
    | zero => rfl
    | succ n ih => rw [List.replicate_succ, cellsR, ih, show (n + 1) * 2 = n * 2 + 1 + 1 from by omega, List.replicate_succ, List.replicate_succ]; rfl
  rw [e1]
  simp only [Builtin.zeroCells]
  apply List.ext_getElem
  · simp
  · intro i h1 h2
    simp
    rcases Nat.mod_two_eq_zero_or_one i with e | e <;> rw [e] <;> rfl
theorem zero41 (w : World) : (zeroValue 41).run Try.prog w = .ok (.agg #[.int .i64 0, .int .i64 0]) w := by kernel_rfl

theorem clearR_run (w : World) (g o n c : Nat) (xs : List (Nat × Nat)) (hg : Row w g xs) (hn : 0 < n) (hfit : o + n ≤ xs.length) :
    ∃ w1, (∀ ty, (Builtin.clear_ #[33] ty #[.slice (some ⟨g, o * 2, none⟩) n c]).run Try.prog w = .ok (.tuple #[]) w1) ∧ Row w1 g (xs.take o ++ List.replicate n (0, 0) ++ xs.drop (o + n)) ∧ Only g w w1 := by
  have hst := run_storeCells_at Try.prog g (o * 2) 41 (cellsR (List.replicate n (0, 0))) 0 (cellsR xs).toArray w hg (by simp [cellsR_len]; omega) (cellsR_one _)
  have e : (cellsR (List.replicate n (0, 0))).length = n * 2 := by rw [cellsR_len]; simp
  rw [show (cellsR xs).toArray.toList = cellsR xs from rfl, e, Nat.add_zero, ← Nat.add_mul, cellsR_take, cellsR_drop, ← cellsR_append, ← cellsR_append] at hst
  obtain ⟨m, rfl⟩ : ∃ m, n = m + 1 := ⟨n - 1, by omega⟩
  refine ⟨_, fun ty => ?_, ?_, Only.setRow _ (cellsR (xs.take o ++ List.replicate (m + 1) (0, 0) ++ xs.drop (o + (m + 1)))).toArray _⟩
  · have hz := zeroCells_R (m + 1)
    simp only [Builtin.clear_, Value.cells]
    simp [run_underlying Try.underlying33, hz, hst]
  · show (w.setRow g _).heap[g]? = _
    rw [setRow_heap w g _ _ 41 _ hg]

theorem wpList_clearR {ops : Array Oper} {rest : List Oper} {o : Oper} {a : Act} {Q : Exit → Act → World → Prop} {w : World} (hgd : o.guard = none) (s : Operand)
    (ho : o.op = .call { callee := .builtin .clear, args := #[s], argTypes := #[33] })
    (g off n c : Nat) (xs : List (Nat × Nat)) (hs : a.eval s = .slice (some ⟨g, off * 2, none⟩) n c) (hg : Row w g xs) (hn : 0 < n) (hfit : off + n ≤ xs.length)
    (h : ∀ w1, Row w1 g (xs.take off ++ List.replicate n (0, 0) ++ xs.drop (off + n)) → Only g w w1 → wpList Try.prog ops Q rest (a.put o.dst (.tuple #[])) w1) : wpList Try.prog ops Q (o :: rest) a w := by
  refine wpList_plain hgd fun K' hK' => ?_
  obtain ⟨w1, hrun, r1, r2⟩ := clearR_run w g off n c xs hg hn hfit
  unfold Oper.wp
  simp [execOp, ho, resolve, invoke, builtin, hs, hrun, Result.andThen]
  exact hK' _ _ (h w1 r1 r2)

/-- Under way. -/
structure DelAt (w wr : World) (g i j : Nat) (xs ys : List (Nat × Nat)) : Prop where
  lt : i < j
  le : j ≤ xs.length
  row : Row wr g ys
  len : ys.length = xs.length
  done : ys.take i = (xs.take j).filter notE
  rest : ys.drop j = xs.drop j
  tu : Tu (fun k => k = g) w wr

theorem DelAt.at {w wr : World} {g i j : Nat} {xs ys : List (Nat × Nat)} (h : DelAt w wr g i j xs ys) (hj : j < xs.length) : ys[j]'(by rw [h.len]; exact hj) = xs[j] := by
  have := h.rest
  have hl := h.len
  rw [List.drop_eq_getElem_cons hj, List.drop_eq_getElem_cons (by omega)] at this
  exact (List.cons.inj this).1
theorem DelAt.skip {w wr w' : World} {g i j : Nat} {xs ys : List (Nat × Nat)} (h : DelAt w wr g i j xs ys) (hj : j < xs.length) (hx : notE xs[j] = false) (hb : Below wr.heap.size wr w') : DelAt w w' g i (j + 1) xs ys := by
  refine ⟨by have := h.lt; omega, by omega, h.row.keep hb, h.len, ?_, ?_, h.tu.trans (Tu.ofBelow hb)⟩
  · rw [List.take_succ_eq_append_getElem hj, List.filter_append, h.done]
    simp [hx]
  · have := congrArg (List.drop 1) h.rest
    simpa [List.drop_drop, Nat.add_comm] using this
theorem DelAt.put {w wr w' w'' : World} {g i j : Nat} {xs ys : List (Nat × Nat)} (h : DelAt w wr g i j xs ys) (hj : j < xs.length) (hx : notE xs[j] = true) (hr : Row w' g (ys.set i xs[j])) (ho : Only g wr w') (hb : Below w'.heap.size w' w'') : DelAt w w'' g (i + 1) (j + 1) xs (ys.set i xs[j]) := by
  have hl := h.len
  have hlt := h.lt
  refine ⟨by omega, by omega, hr.keep hb, by simp [h.len], ?_, ?_, (h.tu.only ho rfl).trans (Tu.ofBelow hb)⟩
  · rw [List.take_succ_eq_append_getElem hj, List.filter_append, ← h.done, List.take_succ_eq_append_getElem (by simp; omega)]
    simp [hx, List.take_set]
    rw [List.set_eq_of_length_le (by simp; omega)]
  · rw [List.drop_set_of_lt (by omega)]
    have := congrArg (List.drop 1) h.rest
    simpa [List.drop_drop, Nat.add_comm] using this

set_option maxHeartbeats 4000000 in
theorem delete_any (g : Nat) (xs : List (Nat × Nat)) (w : World) (h : Row w g xs) (hx : xs.length ≤ 1000000) :
    Calls Try.prog 38 #[.slice (some ⟨g, 0, none⟩) xs.length xs.length, .func (.func 39) #[] #[]] w fun e w' => ∃ ys, e = .returned (.slice (some ⟨g, 0, none⟩) (xs.filter notE).length xs.length) ∧
      Row w' g ys ∧ ys.length = xs.length ∧ ys.take (xs.filter notE).length = xs.filter notE ∧ Tu (fun i => i = g) w w' := by
  have H : Hid (Row w g xs) := h
  clear h
  go_enter Try.func38, Try.ntmps38
  go_wp2_with fail
  refine (index_any g _ xs _ H.out hx).mono ?_
  rintro e w1 ⟨b1, ⟨rfl, hall⟩ | ⟨i, hi, rfl, h1, h2⟩⟩
  · have B1 : Hid (Below w.heap.size w w1) := b1
    have HA : Hid (xs.filter notE = xs) := List.filter_eq_self.2 hall
    clear b1 hall
    go_wp2
    go_ret
    exact ⟨xs, by rw [HA.out]; rfl, H.out.keep B1.out, rfl, by rw [HA.out, List.take_length], Tu.ofBelow B1.out⟩
  · have D0 : Hid (DelAt w w1 g i (i + 1) xs xs) := ⟨by omega, by omega, H.out.keep b1, rfl, by
      rw [List.take_succ_eq_append_getElem hi, List.filter_append, List.filter_eq_self.2 h1]; simp [h2], rfl, Tu.ofBelow b1⟩
    have hm1 : ((i : Int) == -1) = false := beq_eq_false_iff_ne.2 (by omega)
    clear b1 h1 h2
    go_wp2
    go_loopw [5, 6] (fun iv jv wr => ∃ (i j : Nat) (ys : List (Nat × Nat)), iv = .int .i64 (i : Nat) ∧ jv = .int .i64 (j : Nat) ∧ DelAt w wr g i j xs ys) (fun _ jv _ => xs.length - (intOf jv).toNat)
    case atStart => exact ⟨i, i + 1, xs, rfl, by go_num, D0.out⟩
    case round =>
      clear D0
      obtain ⟨i, j, ys, rfl, rfl, hD⟩ := hrel
      rename World => wr
      have HD : Hid (DelAt w wr g i j xs ys) := hD
      have hlt := hD.lt
      have hle := hD.le
      have hyl := hD.len
      by_cases hj : j < xs.length
      · have c0 := hD.row.cell0 j (by omega)
        have c1 := hD.row.cell1 j (by omega)
        have e0 := hD.row.cell0 i (by omega)
        have e1 := hD.row.cell1 i (by omega)
        have f0 := hD.row.thawed (i * 2)
        have f1 := hD.row.thawed (i * 2 + 1)
        have hgl := hD.row.lt
        rw [hD.at hj] at c0 c1
        obtain ⟨x, hx'⟩ : ∃ x, xs[j] = x := ⟨_, rfl⟩
        have EX : Hid (xs[j] = x) := hx'
        rw [hx'] at c0 c1
        have n0 := World.new_ne wr ⟨g, j * 2, none⟩ c0
        have n1 := World.new_ne wr ⟨g, j * 2 + 1, none⟩ c1
        have hj' : (j : Int) < xs.length := by omega
        have hi' : (i : Int) < xs.length := by omega
        clear hD hx'
        by_cases hz : x.2 = 0
        · have ED : Hid (decide (x.2 = 0) = true) := decide_eq_true hz
          have EN : Hid (notE xs[j] = false) := by show _ = _; rw [EX.out]; simp [notE, hz]
          clear hz
          go_wp2_with (go_at_call 39; refine (del_any _ _ _).mono ?_; rw [ED.out]; rintro e w1 ⟨rfl, rfl⟩)
          go_roundw
          case rel =>
            refine ⟨i, j + 1, ys, rfl, by go_num, HD.out.skip hj EN.out ?_⟩
            exact ((Below.refl _ wr).alloc (Nat.le_refl _) _).alloc (by simp) _
          case measure => simp [intOf]; omega
        · have ED : Hid (decide (x.2 = 0) = false) := decide_eq_false hz
          have EN : Hid (notE xs[j] = true) := by show _ = _; rw [EX.out]; simp [notE, hz]
          clear hz
          have RS : Hid (Row ((wr.setCell ⟨g, i * 2, none⟩ (.int .i64 (x.1 : Nat))).setCell ⟨g, i * 2 + 1, none⟩ (.int .i64 (x.2 : Nat))) g (ys.set i xs[j])) := by
            show Row _ _ _
            rw [EX.out]
            exact HD.out.row.set2 i x.1 x.2
          go_wp2_with (go_at_call 39; refine (del_any _ _ _).mono ?_; rw [ED.out]; rintro e w1 ⟨rfl, rfl⟩)
          go_roundw
          case rel =>
            exact ⟨i + 1, j + 1, _, by go_num, by go_num, HD.out.put hj EN.out RS.out (Only.set2 _ _ _ _ _ _) (((Below.refl _ _).alloc (Nat.le_refl _) _).alloc (by simp) _)⟩
          case measure => simp [intOf]; omega
      · obtain rfl : j = xs.length := by omega
        have EI : Hid ((xs.filter notE).length = i ∧ ys.take i = xs.filter notE) := by
          have h1 := hD.done
          rw [List.take_length] at h1
          exact ⟨by rw [← h1, List.length_take]; omega, h1⟩
        have hne : ¬ (xs.length = i) := by omega
        have hi' : (i : Int) < xs.length := by omega
        clear hD
        go_wp2_with (refine wpList_clearR rfl _ rfl g i (xs.length - i) (xs.length - i) ys rfl HD.out.row (by omega) (by omega) ?_; intro w2 r2 o2; have R2 : Hid (Row w2 g (ys.take i ++ List.replicate (xs.length - i) (0, 0) ++ ys.drop (i + (xs.length - i)))) := r2; have T2 : Hid (Tu (fun k => k = g) w w2) := HD.out.tu.only o2 rfl; clear r2 o2)
        go_ret
        exact ⟨_, by rw [EI.out.1]; rfl, R2.out, by simp; omega, by rw [EI.out.1, List.append_assoc, List.take_left' (by simp; omega)]; exact EI.out.2, T2.out⟩
end Go.Proofs.Ytdpkmlkckhhcgaa
