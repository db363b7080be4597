/- Layer 15: RuB again -/
import Derived.Test.YtgdjlopnhecmjaaGreatDoorGzAK
import Derived.BigQuiet
import Derived.Test.YtgdjlopnhecmjaaGreatDoorGzAJ
import Derived.Maps.AppendAt
import Derived.Lib.Overlaps
namespace Go.Proofs.YtgdjlopnhecmjaaGreatDoor
open Go.RowKit
set_option linter.unusedVariables false
set_option maxRecDepth 4000
theorem end_any (a l : Nat) (w : World) (h : a + l ≤ 1000000) :
    Calls Tryz.prog 230 #[.agg #[.int .i64 (a : Nat), .int .i64 (l : Nat)]] w fun e w' => e = .returned (.int .i64 ((a + l : Nat) : Int)) ∧ w' = w.alloc (.cells #[.int .i64 (a : Nat), .int .i64 (l : Nat)] 260) := by
  go_enter Tryz.func230, Tryz.ntmps230
  go_wp2
  go_ret
  exact ⟨ret_int (by omega), rfl⟩
theorem del_any (a l : Nat) (w : World) :
    Calls Tryz.prog 226 #[.agg #[.int .i64 (a : Nat), .int .i64 (l : Nat)]] w fun e w' => e = .returned (.bool (decide (l = 0))) ∧ w' = w.alloc (.cells #[.int .i64 (a : Nat), .int .i64 (l : Nat)] 260) := by
  by_cases h : l = 0
  · subst h
    go_enter Tryz.func226, Tryz.ntmps226
    go_wp2
    go_ret
    exact ⟨rfl, rfl⟩
  · have hn : ¬ ((l : Int) = 0) := by omega
    rw [decide_eq_false h]
    go_enter Tryz.func226, Tryz.ntmps226
    go_wp2
    go_ret
    exact ⟨ret_bool (by simpa using h), rfl⟩
set_option maxHeartbeats 1000000 in
theorem index_any (g c : Nat) (xs : List (Nat × Nat)) (w : World) (h : Row w g xs) (hx : xs.length ≤ 1000000) :
    Calls Tryz.prog 257 #[.slice (some ⟨g, 0, none⟩) xs.length c, .func (.func 226) #[] #[]] w fun e w' => Below w.heap.size w w' ∧
      ((e = .returned (.int .i64 (-1)) ∧ ∀ r ∈ xs, notE r = true) ∨ ∃ (i : Nat) (hi : i < xs.length), e = .returned (.int .i64 (i : Nat)) ∧ (∀ r ∈ xs.take i, notE r = true) ∧ notE xs[i] = false) := by
  have H : Hid (Row w g xs) := h
  have B0 : Hid (Below w.heap.size w w) := Below.refl _ _
  clear h
  go_enter Tryz.func257, Tryz.ntmps257
  go_wp2
  go_loopw [8] (fun iv wr => ∃ i : Nat, i ≤ xs.length ∧ iv = .int .i64 (i : Nat) ∧ (∀ r ∈ xs.take i, notE r = true) ∧ Below w.heap.size w wr) (fun iv _ => xs.length - (intOf iv).toNat)
  case atStart => exact ⟨0, Nat.zero_le _, rfl, by simp, B0.out⟩
  case round =>
    obtain ⟨i, hi, rfl, hA, hB⟩ := hrel
    rename World => wr
    have HA : Hid (∀ r ∈ xs.take i, notE r = true) := hA
    have HB : Hid (Below w.heap.size w wr) := hB
    by_cases hlt : i < xs.length
    · have c0 : wr.cell? ⟨g, i * 2, none⟩ = some (.int .i64 (xs[i].1 : Nat)) := (hB.cell (p := ⟨g, i * 2, none⟩) H.out.lt).trans (H.out.cell0 i hlt)
      have c1 : wr.cell? ⟨g, i * 2 + 1, none⟩ = some (.int .i64 (xs[i].2 : Nat)) := (hB.cell (p := ⟨g, i * 2 + 1, none⟩) H.out.lt).trans (H.out.cell1 i hlt)
      obtain ⟨x, hx'⟩ : ∃ x, xs[i] = x := ⟨_, rfl⟩
      have EX : Hid (xs[i] = x) := hx'
      rw [hx'] at c0 c1
      clear hA hB hx'
      have hlt' : (i : Int) < xs.length := by omega
      by_cases hz : x.2 = 0
      · have ED : Hid (decide (x.2 = 0) = true) := decide_eq_true hz
        have HZ : Hid (x.2 = 0) := hz
        clear hz
        go_wp2_with (go_at_call 226; refine (del_any _ _ _).mono ?_; rw [ED.out]; rintro e w1 ⟨rfl, rfl⟩)
        go_ret
        refine ⟨HB.out.alloc HB.out.size _, .inr ⟨i, hlt, rfl, HA.out, ?_⟩⟩
        rw [EX.out]; simp [notE, HZ.out]
      · have ED : Hid (decide (x.2 = 0) = false) := decide_eq_false hz
        go_wp2_with (go_at_call 226; refine (del_any _ _ _).mono ?_; rw [ED.out]; rintro e w1 ⟨rfl, rfl⟩)
        go_roundw
        case rel =>
          refine ⟨i + 1, by omega, by go_num, ?_, HB.out.alloc HB.out.size _⟩
          intro r hr
          rw [List.take_succ_eq_append_getElem hlt, List.mem_append] at hr
          rcases hr with hr | hr
          · exact HA.out r hr
          · simp at hr; subst hr; rw [EX.out]; simp [notE, hz]
        case measure => simp [intOf]; omega
    · obtain rfl : i = xs.length := by omega
      clear hA hB
      go_wp2
      go_ret
      exact ⟨HB.out, .inl ⟨rfl, by have := HA.out; rwa [List.take_length] at this⟩⟩
end Go.Proofs.YtgdjlopnhecmjaaGreatDoor

/- Layer 15: RuC again -/
namespace Go.Proofs.YtgdjlopnhecmjaaGreatDoor
open Go.RowKit
set_option linter.unusedVariables false
set_option maxRecDepth 4000
theorem cellsR_set : ∀ (l : List (Nat × Nat)) (i : Nat) (a b : Nat), ((cellsR l).set (i * 2) (.int .i64 (a : Nat))).set (i * 2 + 1) (.int .i64 (b : Nat)) = cellsR (l.set i (a, b))
  | [], i, a, b => by simp [cellsR]
  | r :: l, 0, a, b => by simp [cellsR]
  | r :: l, i + 1, a, b => by
    have := cellsR_set l i a b
    rw [show (i + 1) * 2 = i * 2 + 2 from by omega, show i * 2 + 2 + 1 = i * 2 + 1 + 2 from by omega]
    simp [cellsR, this]
theorem Row.set2 {w : World} {g : Nat} {xs : List (Nat × Nat)} (h : Row w g xs) (i a b : Nat) : Row ((w.setCell ⟨g, i * 2, none⟩ (.int .i64 (a : Nat))).setCell ⟨g, i * 2 + 1, none⟩ (.int .i64 (b : Nat))) g (xs.set i (a, b)) := by
  have h1 := heap_setCell_same w g (i * 2) _ _ (.int .i64 (a : Nat)) h
  have h2 := heap_setCell_same _ g (i * 2 + 1) _ _ (.int .i64 (b : Nat)) h1
  show (World.setCell _ _ _).heap[g]? = _
  rw [h2]
  simp [← cellsR_set]
theorem Only.set2 (g j j' : Nat) (v v' : Value) (w : World) : Only g w ((w.setCell ⟨g, j, none⟩ v).setCell ⟨g, j', none⟩ v') := (Only.set g j v w).trans (Only.set g j' v' _)
theorem Tu.only {S : Nat → Prop} {g : Nat} {w w' w'' : World} (h : Tu S w w') (k : Only g w' w'') (hg : S g) : Tu S w w'' := h.trans (Tu.ofOnly k hg)
theorem Row.keep {w w' : World} {g : Nat} {xs : List (Nat × Nat)} (h : Row w g xs) (hb : Below w.heap.size w w') : Row w' g xs := by
  show w'.heap[g]? = _; rw [hb.block g h.lt]; exact h
theorem zeroCells_R (n : Nat) : (Builtin.zeroCells #[.int .i64 0, .int .i64 0] n).toList = cellsR (List.replicate n (0, 0)) := by
  have e1 : ∀ n, cellsR (List.replicate n (0, 0)) = List.replicate (n * 2) (.int .i64 0) := by
    intro n
    induction n with
    | zero => rfl
    | succ n ih => rw [List.replicate_succ, cellsR, ih, show (n + 1) * 2 = n * 2 + 1 + 1 from by omega, List.replicate_succ, List.replicate_succ]; rfl
  rw [e1]
  simp only [Builtin.zeroCells]
  apply List.ext_getElem
  · simp
  · intro i h1 h2
    simp
    rcases Nat.mod_two_eq_zero_or_one i with e | e <;> rw [e] <;> rfl
theorem clearR_run (w : World) (g o n c : Nat) (xs : List (Nat × Nat)) (hg : Row w g xs) (hn : 0 < n) (hfit : o + n ≤ xs.length) :
    ∃ w1, (∀ ty, (Builtin.clear_ #[255] ty #[.slice (some ⟨g, o * 2, none⟩) n c]).run Tryz.prog w = .ok (.tuple #[]) w1) ∧ Row w1 g (xs.take o ++ List.replicate n (0, 0) ++ xs.drop (o + n)) ∧ Only g w w1 := by
  have hst := run_storeCells_at Tryz.prog g (o * 2) 260 (cellsR (List.replicate n (0, 0))) 0 (cellsR xs).toArray w hg (by simp [cellsR_len]; omega) (cellsR_one _)
  have e : (cellsR (List.replicate n (0, 0))).length = n * 2 := by rw [cellsR_len]; simp
  rw [show (cellsR xs).toArray.toList = cellsR xs from rfl, e, Nat.add_zero, ← Nat.add_mul, cellsR_take, cellsR_drop, ← cellsR_append, ← cellsR_append] at hst
  obtain ⟨m, rfl⟩ : ∃ m, n = m + 1 := ⟨n - 1, by omega⟩
  refine ⟨_, fun ty => ?_, ?_, Only.setRow _ (cellsR (xs.take o ++ List.replicate (m + 1) (0, 0) ++ xs.drop (o + (m + 1)))).toArray _⟩
  · have hz := zeroCells_R (m + 1)
    simp only [Builtin.clear_, Value.cells]
    simp [run_underlying Tryz.underlying255, hz, hst]
  · show (w.setRow g _).heap[g]? = _
    rw [setRow_heap w g _ _ 260 _ hg]
theorem wpList_clearR {ops : Array Oper} {rest : List Oper} {o : Oper} {a : Act} {Q : Exit → Act → World → Prop} {w : World} (hgd : o.guard = none) (s : Operand)
    (ho : o.op = .call { callee := .builtin .clear, args := #[s], argTypes := #[255] })
    (g off n c : Nat) (xs : List (Nat × Nat)) (hs : a.eval s = .slice (some ⟨g, off * 2, none⟩) n c) (hg : Row w g xs) (hn : 0 < n) (hfit : off + n ≤ xs.length)
    (h : ∀ w1, Row w1 g (xs.take off ++ List.replicate n (0, 0) ++ xs.drop (off + n)) → Only g w w1 → wpList Tryz.prog ops Q rest (a.put o.dst (.tuple #[])) w1) : wpList Tryz.prog ops Q (o :: rest) a w := by
  refine wpList_plain hgd fun K' hK' => ?_
  obtain ⟨w1, hrun, r1, r2⟩ := clearR_run w g off n c xs hg hn hfit
  unfold Oper.wp
  simp [execOp, ho, resolve, invoke, builtin, hs, hrun, Result.andThen]
  exact hK' _ _ (h w1 r1 r2)
/-- Under way. -/
structure DelAt (w wr : World) (g i j : Nat) (xs ys : List (Nat × Nat)) : Prop where
  lt : i < j
  le : j ≤ xs.length
  row : Row wr g ys
  len : ys.length = xs.length
  done : ys.take i = (xs.take j).filter notE
  rest : ys.drop j = xs.drop j
  tu : Tu (fun k => k = g) w wr
theorem DelAt.at {w wr : World} {g i j : Nat} {xs ys : List (Nat × Nat)} (h : DelAt w wr g i j xs ys) (hj : j < xs.length) : ys[j]'(by rw [h.len]; exact hj) = xs[j] := by
  have := h.rest
  have hl := h.len
  rw [List.drop_eq_getElem_cons hj, List.drop_eq_getElem_cons (by omega)] at this
  exact (List.cons.inj this).1
theorem DelAt.skip {w wr w' : World} {g i j : Nat} {xs ys : List (Nat × Nat)} (h : DelAt w wr g i j xs ys) (hj : j < xs.length) (hx : notE xs[j] = false) (hb : Below wr.heap.size wr w') : DelAt w w' g i (j + 1) xs ys := by
  refine ⟨by have := h.lt; omega, by omega, h.row.keep hb, h.len, ?_, ?_, h.tu.trans (Tu.ofBelow hb)⟩
  · rw [List.take_succ_eq_append_getElem hj, List.filter_append, h.done]
    simp [hx]
  · have := congrArg (List.drop 1) h.rest
    simpa [List.drop_drop, Nat.add_comm] using this
theorem DelAt.put {w wr w' w'' : World} {g i j : Nat} {xs ys : List (Nat × Nat)} (h : DelAt w wr g i j xs ys) (hj : j < xs.length) (hx : notE xs[j] = true) (hr : Row w' g (ys.set i xs[j])) (ho : Only g wr w') (hb : Below w'.heap.size w' w'') : DelAt w w'' g (i + 1) (j + 1) xs (ys.set i xs[j]) := by
  have hl := h.len
  have hlt := h.lt
  refine ⟨by omega, by omega, hr.keep hb, by simp [h.len], ?_, ?_, (h.tu.only ho rfl).trans (Tu.ofBelow hb)⟩
  · rw [List.take_succ_eq_append_getElem hj, List.filter_append, ← h.done, List.take_succ_eq_append_getElem (by simp; omega)]
    simp [hx, List.take_set]
    rw [List.set_eq_of_length_le (by simp; omega)]
  · rw [List.drop_set_of_lt (by omega)]
    have := congrArg (List.drop 1) h.rest
    simpa [List.drop_drop, Nat.add_comm] using this
set_option maxHeartbeats 4000000 in
theorem delete_any (g : Nat) (xs : List (Nat × Nat)) (w : World) (h : Row w g xs) (hx : xs.length ≤ 1000000) :
    Calls Tryz.prog 225 #[.slice (some ⟨g, 0, none⟩) xs.length xs.length, .func (.func 226) #[] #[]] w fun e w' => ∃ ys, e = .returned (.slice (some ⟨g, 0, none⟩) (xs.filter notE).length xs.length) ∧
      Row w' g ys ∧ ys.length = xs.length ∧ ys.take (xs.filter notE).length = xs.filter notE ∧ Tu (fun i => i = g) w w' := by
  have H : Hid (Row w g xs) := h
  clear h
  go_enter Tryz.func225, Tryz.ntmps225
  go_wp2_with fail
  refine (index_any g _ xs _ H.out hx).mono ?_
  rintro e w1 ⟨b1, ⟨rfl, hall⟩ | ⟨i, hi, rfl, h1, h2⟩⟩
  · have B1 : Hid (Below w.heap.size w w1) := b1
    have HA : Hid (xs.filter notE = xs) := List.filter_eq_self.2 hall
    clear b1 hall
    go_wp2
    go_ret
    exact ⟨xs, by rw [HA.out]; rfl, H.out.keep B1.out, rfl, by rw [HA.out, List.take_length], Tu.ofBelow B1.out⟩
  · have D0 : Hid (DelAt w w1 g i (i + 1) xs xs) := ⟨by omega, by omega, H.out.keep b1, rfl, by
      rw [List.take_succ_eq_append_getElem hi, List.filter_append, List.filter_eq_self.2 h1]; simp [h2], rfl, Tu.ofBelow b1⟩
    have hm1 : ((i : Int) == -1) = false := beq_eq_false_iff_ne.2 (by omega)
    clear b1 h1 h2
    go_wp2
    go_loopw [5, 6] (fun iv jv wr => ∃ (i j : Nat) (ys : List (Nat × Nat)), iv = .int .i64 (i : Nat) ∧ jv = .int .i64 (j : Nat) ∧ DelAt w wr g i j xs ys) (fun _ jv _ => xs.length - (intOf jv).toNat)
    case atStart => exact ⟨i, i + 1, xs, rfl, by go_num, D0.out⟩
    case round =>
      clear D0
      obtain ⟨i, j, ys, rfl, rfl, hD⟩ := hrel
      rename World => wr
      have HD : Hid (DelAt w wr g i j xs ys) := hD
      have hlt := hD.lt
      have hle := hD.le
      have hyl := hD.len
      by_cases hj : j < xs.length
      · have c0 := hD.row.cell0 j (by omega)
        have c1 := hD.row.cell1 j (by omega)
        have e0 := hD.row.cell0 i (by omega)
        have e1 := hD.row.cell1 i (by omega)
        have f0 := hD.row.thawed (i * 2)
        have f1 := hD.row.thawed (i * 2 + 1)
        have hgl := hD.row.lt
        rw [hD.at hj] at c0 c1
        obtain ⟨x, hx'⟩ : ∃ x, xs[j] = x := ⟨_, rfl⟩
        have EX : Hid (xs[j] = x) := hx'
        rw [hx'] at c0 c1
        have n0 := World.new_ne wr ⟨g, j * 2, none⟩ c0
        have n1 := World.new_ne wr ⟨g, j * 2 + 1, none⟩ c1
        have hj' : (j : Int) < xs.length := by omega
        have hi' : (i : Int) < xs.length := by omega
        clear hD hx'
        by_cases hz : x.2 = 0
        · have ED : Hid (decide (x.2 = 0) = true) := decide_eq_true hz
          have EN : Hid (notE xs[j] = false) := by show _ = _; rw [EX.out]; simp [notE, hz]
          clear hz
          go_wp2_with (go_at_call 226; refine (del_any _ _ _).mono ?_; rw [ED.out]; rintro e w1 ⟨rfl, rfl⟩)
          go_roundw
          case rel =>
            refine ⟨i, j + 1, ys, rfl, by go_num, HD.out.skip hj EN.out ?_⟩
            exact ((Below.refl _ wr).alloc (Nat.le_refl _) _).alloc (by simp) _
          case measure => simp [intOf]; omega
        · have ED : Hid (decide (x.2 = 0) = false) := decide_eq_false hz
          have EN : Hid (notE xs[j] = true) := by show _ = _; rw [EX.out]; simp [notE, hz]
          clear hz
          have RS : Hid (Row ((wr.setCell ⟨g, i * 2, none⟩ (.int .i64 (x.1 : Nat))).setCell ⟨g, i * 2 + 1, none⟩ (.int .i64 (x.2 : Nat))) g (ys.set i xs[j])) := by
            show Row _ _ _
            rw [EX.out]
            exact HD.out.row.set2 i x.1 x.2
          go_wp2_with (go_at_call 226; refine (del_any _ _ _).mono ?_; rw [ED.out]; rintro e w1 ⟨rfl, rfl⟩)
          go_roundw
          case rel =>
            exact ⟨i + 1, j + 1, _, by go_num, by go_num, HD.out.put hj EN.out RS.out (Only.set2 _ _ _ _ _ _) (((Below.refl _ _).alloc (Nat.le_refl _) _).alloc (by simp) _)⟩
          case measure => simp [intOf]; omega
      · obtain rfl : j = xs.length := by omega
        have EI : Hid ((xs.filter notE).length = i ∧ ys.take i = xs.filter notE) := by
          have h1 := hD.done
          rw [List.take_length] at h1
          exact ⟨by rw [← h1, List.length_take]; omega, h1⟩
        have hne : ¬ (xs.length = i) := by omega
        have hi' : (i : Int) < xs.length := by omega
        clear hD
        go_wp2_with (refine wpList_clearR rfl _ rfl g i (xs.length - i) (xs.length - i) ys rfl HD.out.row (by omega) (by omega) ?_; intro w2 r2 o2; have R2 : Hid (Row w2 g (ys.take i ++ List.replicate (xs.length - i) (0, 0) ++ ys.drop (i + (xs.length - i)))) := r2; have T2 : Hid (Tu (fun k => k = g) w w2) := HD.out.tu.only o2 rfl; clear r2 o2)
        go_ret
        exact ⟨_, by rw [EI.out.1]; rfl, R2.out, by simp; omega, by rw [EI.out.1, List.append_assoc, List.take_left' (by simp; omega)]; exact EI.out.2, T2.out⟩
end Go.Proofs.YtgdjlopnhecmjaaGreatDoor

/- Layer 15: RuD again -/
namespace Go.Proofs.YtgdjlopnhecmjaaGreatDoor
open Go.RowKit
set_option linter.unusedVariables false
set_option maxRecDepth 4000
/-- A slice of runs in a row of one's own, in a block of the set S. -/
def RowAt (w : World) (S : Nat → Prop) (a : Option Addr) (L : List (Nat × Nat)) (cap : Nat) : Prop :=
  cap ≤ 9223372036854775807 ∧ ((a = none ∧ L = [] ∧ cap = 0) ∨ ∃ g xs, a = some ⟨g, 0, none⟩ ∧ S g ∧ Row w g xs ∧ xs.length = cap ∧ xs.take L.length = L)
theorem RowAt.nil (w : World) (S : Nat → Prop) : RowAt w S none [] 0 := ⟨by omega, .inl ⟨rfl, rfl, rfl⟩⟩
theorem RowAt.len {w : World} {S : Nat → Prop} {a : Option Addr} {L : List (Nat × Nat)} {cap : Nat} (h : RowAt w S a L cap) : L.length ≤ cap := by
  obtain ⟨_, ⟨_, rfl, rfl⟩ | ⟨g, xs, _, _, _, h1, h2⟩⟩ := h
  · simp
  · have := congrArg List.length h2
    simp at this; omega
theorem RowAt.same {w w' : World} {S : Nat → Prop} {a : Option Addr} {L : List (Nat × Nat)} {cap : Nat} (h : RowAt w S a L cap) (he : ∀ (i : Nat) (o : Obj), w.heap[i]? = some o → S i → w'.heap[i]? = some o) : RowAt w' S a L cap := by
  obtain ⟨h0, h1 | ⟨g, xs, rfl, hs, hr, h1, h2⟩⟩ := h
  · exact ⟨h0, .inl h1⟩
  · exact ⟨h0, .inr ⟨g, xs, rfl, hs, he g _ hr hs, h1, h2⟩⟩
theorem RowAt.mono {w : World} {S T : Nat → Prop} {a : Option Addr} {L : List (Nat × Nat)} {cap : Nat} (h : RowAt w S a L cap) (he : ∀ i, i < w.heap.size → S i → T i) : RowAt w T a L cap := by
  obtain ⟨h0, h1 | ⟨g, xs, rfl, hs, hr, h1, h2⟩⟩ := h
  · exact ⟨h0, .inl h1⟩
  · exact ⟨h0, .inr ⟨g, xs, rfl, he g hr.lt hs, hr, h1, h2⟩⟩
theorem zeroC_R (n : Nat) : Builtin.zeroCells #[.int .i64 0, .int .i64 0] n = (cellsR (List.replicate n (0, 0))).toArray := by
  apply Array.toList_inj.1
  rw [zeroCells_R]
set_option maxHeartbeats 1000000 in
theorem grow_any (S : Nat → Prop) (a : Option Addr) (L : List (Nat × Nat)) (cap n : Nat) (w : World) (h : RowAt w S a L cap) (hS : ∀ i, w.heap.size ≤ i → S i) (hl : L.length ≤ 1000000) (hn : n ≤ 1000000) :
    Calls Tryz.prog 227 #[.slice a L.length cap, .int .i64 (n : Nat)] w fun e w' => ∃ a' cap', e = .returned (.slice a' L.length cap') ∧ RowAt w' S a' L cap' ∧ L.length + n ≤ cap' ∧ Below w.heap.size w w' := by
  have H : Hid (RowAt w S a L cap) := h
  have hlc := h.len
  have hc := h.1
  by_cases hroom : L.length + n ≤ cap
  · clear h
    obtain ⟨l, hL⟩ : ∃ l, L.length = l := ⟨_, rfl⟩
    have EL : Hid (L.length = l) := hL
    rw [hL] at hl hlc hroom ⊢
    clear hL
    have h1 : ¬ ((n : Int) < 0) := by omega
    have h4 : ¬ ((n : Int) - ((cap : Int) - (l : Int)) > 0) := by omega
    go_enter Tryz.func227, Tryz.ntmps227
    go_wp2
    go_ret
    exact ⟨a, cap, rfl, H.out, hroom, Below.refl _ _⟩
  · obtain ⟨i0, hi0, hz0, hs0, hb0⟩ := info_parts Tryz.info41
    obtain ⟨xs, hxs⟩ : ∃ xs : List (Nat × Nat), xs.length = cap ∧ xs.take L.length = L ∧ (Builtin.firstCells i0.size cap (.slice a cap cap)).run Tryz.prog w.drew = .ok (cellsR xs).toArray w.drew := by
      obtain ⟨_, ⟨rfl, rfl, rfl⟩ | ⟨g, xs, rfl, _, hr, h1, h2⟩⟩ := h
      · exact ⟨[], rfl, rfl, run_firstCells_none w.drew i0.size 0 0 0⟩
      · refine ⟨xs, h1, h2, run_firstCells_some w.drew i0.size cap _ cap cap (cellsR xs) (by rw [cellsR_len, hs0, h1]) (fun j v hj => ?_)⟩
        rw [addr_add, Nat.zero_add]
        have := cell_of_row w g j _ _ _ hr
        have e : w.drew.cell? ⟨g, j, none⟩ = w.cell? ⟨g, j, none⟩ := rfl
        rw [e, this]; simpa using hj
    have hGn : L.length + n ≤ grownCap w (L.length + n) cap 260 := grownCap_ge w _ _ _
    have hGm := grownCap_le_maxLen w (L.length + n) cap 260 (by unfold maxLen; omega)
    unfold maxLen at hGm
    have hck : cap + (L.length + n - cap) = L.length + n := by omega
    have hrz : ∀ ty, (Builtin.append_ #[255, 3] ty #[.slice a cap cap, .int .i64 ((n : Int) - ((cap : Int) - (L.length : Int)))]).run Tryz.prog w =
        .ok (.slice (some ⟨w.heap.size, 0, none⟩) (L.length + n) (grownCap w (L.length + n) cap 260)) (w.drew.alloc (.cells (cellsR (xs ++ List.replicate (L.length + n - cap) (0, 0) ++ List.replicate (grownCap w (L.length + n) cap 260 - (L.length + n)) (0, 0))).toArray 260)) := fun ty => by
      have h := Lib.run_append_grow_zeros w 255 3 ty 260 i0 _ .i64 .i64 Tryz.underlying255 Tryz.underlying3 hi0 hz0 a cap cap (cellsR xs) hxs.2.2 (L.length + n - cap) (by omega) (by omega) (by omega) (by omega) (by rw [hb0]; omega)
        (by rw [hck, hb0]; exact growslice_fits (by omega) (by omega))
      rw [hck] at h
      rw [show (n : Int) - ((cap : Int) - (L.length : Int)) = ((L.length + n - cap : Nat) : Int) by omega, h]
      simp only [Value.cells, zeroC_R, cellsR_append, List.append_toArray]
    obtain ⟨G, hG⟩ : ∃ G, grownCap w (L.length + n) cap 260 = G := ⟨_, rfl⟩
    rw [hG] at hrz hGn hGm
    have RN : Hid (RowAt (w.drew.alloc (.cells (cellsR (xs ++ List.replicate (L.length + n - cap) (0, 0) ++ List.replicate (G - (L.length + n)) (0, 0))).toArray 260)) S (some ⟨w.heap.size, 0, none⟩) L G) := by
      refine ⟨by omega, .inr ⟨w.heap.size, xs ++ List.replicate (L.length + n - cap) (0, 0) ++ List.replicate (G - (L.length + n)) (0, 0), rfl, hS _ (Nat.le_refl _), Go.heap_alloc_new w.drew _, ?_, ?_⟩⟩
      · simp [hxs.1]; omega
      · rw [List.append_assoc, List.take_append_of_le_length (by rw [hxs.1]; exact hlc)]; exact hxs.2.1
    have BN : Hid (Below w.heap.size w (w.drew.alloc (.cells (cellsR (xs ++ List.replicate (L.length + n - cap) (0, 0) ++ List.replicate (G - (L.length + n)) (0, 0))).toArray 260))) := (Below.refl _ w).drew.alloc (Nat.le_refl _) _
    have hnil : a = none → cap = 0 ∧ L.length = 0 := by
      intro e
      obtain ⟨_, ⟨_, rfl, rfl⟩ | ⟨g, xs, rfl, _⟩⟩ := h
      · exact ⟨rfl, rfl⟩
      · cases e
    obtain ⟨wz, hwz⟩ : ∃ wz, w.drew.alloc (.cells (cellsR (xs ++ List.replicate (L.length + n - cap) (0, 0) ++ List.replicate (G - (L.length + n)) (0, 0))).toArray 260) = wz := ⟨_, rfl⟩
    rw [hwz] at hrz RN BN
    clear hxs hck hG h hwz hi0 hz0 hs0 hb0
    obtain ⟨l, hL⟩ : ∃ l, L.length = l := ⟨_, rfl⟩
    have EL : Hid (L.length = l) := hL
    rw [hL] at hl hlc hroom hrz hGn hnil ⊢
    clear hL
    have h1 : ¬ ((n : Int) < 0) := by omega
    have h4 : (n : Int) - ((cap : Int) - (l : Int)) > 0 := by omega
    have RZ : Hid (∀ ty, (Builtin.append_ #[255, 3] ty #[.slice a cap cap, .int .i64 ((n : Int) - ((cap : Int) - (l : Int)))]).run Tryz.prog w = .ok (.slice (some ⟨w.heap.size, 0, none⟩) (l + n) G) wz) := hrz
    clear hrz
    go_enter Tryz.func227, Tryz.ntmps227
    cases a with
    | none =>
      obtain ⟨rfl, rfl⟩ := hnil rfl
      go_wp2_with (at_builtin; refine Lib.wpList_append_run _ rfl _ _ _ _ rfl _ _ rfl rfl _ _ (RZ.out _) ?_)
      all_goals (go_ret; exact ⟨_, G, rfl, RN.out, by omega, BN.out⟩)
    | some ad =>
      obtain ⟨ab, ao, asp⟩ := ad
      go_wp2_with (at_builtin; refine Lib.wpList_append_run _ rfl _ _ _ _ rfl _ _ rfl rfl _ _ (RZ.out _) ?_)
      all_goals (go_ret; exact ⟨_, G, rfl, RN.out, hGn, BN.out⟩)
/-- s[k:]. -/
theorem wpList_sliceR {ops : Array Oper} {rest : List Oper} {o : Oper} {a : Act} {Q : Exit → Act → World → Prop} {w : World} (hgd : o.guard = none) (x lo : Operand)
    (ho : o.op = .slice 255 x (some lo) none none) (a0 : Option Addr) (len cap k : Nat) (kI : Int) (hx : a.eval x = .slice a0 len cap) (hl : a.eval lo = .int .i64 kI) (hkI : kI = (k : Nat)) (hk : k ≤ len)
    (h : ∀ a2, a2 = (if cap = k then a0 else a0.map (·.add (k * 2))) → wpList Tryz.prog ops Q rest (a.put o.dst (.slice a2 (len - k) (cap - k))) w) : wpList Tryz.prog ops Q (o :: rest) a w := by
  refine wpList_plain hgd fun K' hK' => ?_
  subst hkI
  have hs : ∀ w, (Go.sizeOf 260).run Tryz.prog w = .ok 2 w := fun w => by kernel_rfl
  have hrun : (Instr.slice 255 (.slice a0 len cap) (some (.int .i64 (k : Nat))) none none).run Tryz.prog w = .ok (.slice (if cap = k then a0 else a0.map (·.add (k * 2))) (len - k) (cap - k)) w := by
    simp [Instr.slice, run_underlying Tryz.underlying255, Instr.sliceBounds, run_sliceBound, hk, hs]
  unfold Oper.wp
  simp [execOp, ho, hx, hl, Instr.sliceAt, run_underlying Tryz.underlying255, hrun, Result.andThen]
  exact hK' _ _ (h _ rfl)
end Go.Proofs.YtgdjlopnhecmjaaGreatDoor

/- Layer 15: VaA again -/
namespace Go.Proofs.YtgdjlopnhecmjaaGreatDoor
open Go.RowKit
set_option linter.unusedVariables false
set_option maxRecDepth 4000
theorem Tryz.info190 : (Tryz.prog.info? 190).map (fun i => (i.zero, i.size, i.bytes)) = some (some (.pointer none), 1, 8) := by kernel_rfl
/-- More of the row is looked at. -/
theorem VAt.cur {w : World} {S : Nat → Prop} {t : TypeId} {g : Nat} {l : List Value} {cap : Nat} (h : VAt w S t (some ⟨g, 0, none⟩) l cap) : ∃ cur, S g ∧ w.heap[g]? = some (.cells cur t (0, 0)) ∧ l.length ≤ cap ∧ cap ≤ maxLen ∧ cur.size = cap ∧ cur.toList.take l.length = l := by
  rcases h with ⟨h1, _⟩ | ⟨g', cur, h1, h2⟩
  · cases h1
  · cases h1; exact ⟨cur, h2⟩
/-- Values are appended to a row. -/
theorem appV_run (ts t : TypeId) (z : Value) (hz1 : z.cells.size = 1) (hu : Tryz.prog.underlying ts = some (.slice t)) (hinf : (Tryz.prog.info? t).map (fun i => (i.zero, i.size, i.bytes)) = some (some z, 1, 8)) (ty : TypeId)
    (S : Nat → Prop) (w : World) (hS : ∀ i, w.heap.size ≤ i → S i) (a : Option Addr) (L : List Value) (cap : Nat) (h : VAt w S t a L cap) (q : Addr) (l : List Value) (c : Nat) (hq : ∀ j u, l[j]? = some u → w.cell? (q.add j) = some u) (h1 : ∀ u ∈ l, u.oneCell' = true) (hL : L.length ≤ 100000) (hl : l.length ≤ 100000) :
    ∃ a' cap' w', (Builtin.append_ #[ts, ts] ty #[.slice a L.length cap, .slice (some q) l.length c]).run Tryz.prog w = .ok (.slice a' (L ++ l).length cap') w' ∧ VAt w' S t a' (L ++ l) cap' ∧ Tu (fun k => ob a = some k) w w' ∧ (ob a' = ob a ∨ ob a' = some w.heap.size) := by
  obtain ⟨i0, hi, hz0, hz2, hz3⟩ := info_parts hinf
  obtain ⟨v', w', hr, h2, h3, _, h4⟩ := run_append_own_at (P := Tryz.prog) w 0 ts ty t i0 z 1 8 hu hi hz0 hz2 hz3 hz1 (by decide) (.slice a L.length cap) L.length L h.owns q l.length c l (by simp) hq h1 (by unfold maxLen; omega) (by omega) (Nat.zero_le _)
  obtain ⟨a', cap', rfl⟩ := ownsForm h2
  rw [ob_own] at h3 h4
  rw [ob_own] at h4
  rw [← List.length_append] at hr h2
  refine ⟨a', cap', w', hr, VAt.of h2 (fun g hg => ?_), Tu.grown h3 (fun g hg => hg), h4⟩
  rcases h4 with e | e
  · rw [e] at hg
    rcases h with ⟨rfl, _⟩ | ⟨g', cur, rfl, hs, _⟩
    · cases hg
    · cases hg; exact hs
  · rw [e] at hg; cases hg; exact hS _ (Nat.le_refl _)
theorem wpList_appV (ts t : TypeId) (z : Value) (hz1 : z.cells.size = 1) (hu : Tryz.prog.underlying ts = some (.slice t)) (hinf : (Tryz.prog.info? t).map (fun i => (i.zero, i.size, i.bytes)) = some (some z, 1, 8))
    {ops : Array Oper} {rest : List Oper} {o : Oper} {a : Act} {Q : Exit → Act → World → Prop} {w : World} (hgd : o.guard = none) (s x : Operand)
    (ho : o.op = .call { callee := .builtin .append, args := #[s, x], argTypes := #[ts, ts] })
    (S : Nat → Prop) (hS : ∀ i, w.heap.size ≤ i → S i) (as0 : Option Addr) (L : List Value) (cs : Nat) (hs : a.eval s = .slice as0 L.length cs) (h : VAt w S t as0 L cs)
    (q : Addr) (l : List Value) (n c : Nat) (hx : a.eval x = .slice (some q) n c) (hn : n = l.length) (hq : ∀ j u, l[j]? = some u → w.cell? (q.add j) = some u) (h1 : ∀ u ∈ l, u.oneCell' = true) (hL : L.length ≤ 100000) (hl : l.length ≤ 100000)
    (K : ∀ a' cap' w', VAt w' S t a' (L ++ l) cap' → Tu (fun k => ob as0 = some k) w w' → (ob a' = ob as0 ∨ ob a' = some w.heap.size) → wpList Tryz.prog ops Q rest (a.put o.dst (.slice a' (L ++ l).length cap')) w') :
    wpList Tryz.prog ops Q (o :: rest) a w := by
  subst hn
  obtain ⟨a', cap', w', hr, r1, r2, r3⟩ := appV_run ts t z hz1 hu hinf o.type S w hS as0 L cs h q l c hq h1 hL hl
  refine wpList_plain hgd fun K' hK' => ?_
  unfold Oper.wp
  simp [execOp, ho, resolve, invoke, builtin, hs, hx, hr, Result.andThen]
  have := K a' cap' w' r1 r2 r3
  rw [List.length_append] at this
  exact hK' _ _ this
/-- A part of a row is written over. -/
theorem VAt.put {w w' : World} {S : Nat → Prop} {t : TypeId} {g : Nat} {l : List Value} {cap : Nat} {cur : Array Value} (hs : S g) (hg : w'.heap[g]? = some (.cells cur t (0, 0))) (h1 : cur.size = cap) (h2 : cap ≤ maxLen) (h3 : l.length ≤ cap) (h4 : cur.toList.take l.length = l) : VAt w' S t (some ⟨g, 0, none⟩) l cap :=
  .inr ⟨g, cur, rfl, hs, hg, h3, h2, h1, h4⟩
end Go.Proofs.YtgdjlopnhecmjaaGreatDoor
