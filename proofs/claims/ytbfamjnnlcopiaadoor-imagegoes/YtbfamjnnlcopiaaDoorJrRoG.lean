/- Layer 17: RoG again -/
import Derived.Test.YtbfamjnnlcopiaaDoorAuB
import Derived.Test.YtbfamjnnlcopiaaDoorMhA
import Derived.Test.YtbfamjnnlcopiaaDoorGtH
import Derived.WalkMore
namespace Go.Proofs.YtbfamjnnlcopiaaDoor
open Go.RowKit
set_option linter.unusedVariables false
set_option maxRecDepth 4000
theorem rmake_T (w : World) (n : Nat) (hn : n ≤ 140737488355328) : (Instr.makeSlice 25 (.int .i64 (n : Nat)) (.int .i64 (n : Nat))).run Tryd.prog w = .ok (.slice (some ⟨w.heap.size, 0, none⟩) n n) (w.alloc (.cells (cellsB (List.replicate n 0)).toArray 5)) := by
  obtain ⟨i0, hi0, hz0, hs0, hb0⟩ := info_parts Tryd.info5
  have h := run_make (P := Tryd.prog) w 25 5 i0 _ Tryd.underlying25 hi0 hz0 .i64 .i64 (n : Int) (n : Int) (by omega) (Int.le_refl _) (by rw [hb0]; omega) (by omega)
  rw [h, hs0]
  simp only [Int.toNat_natCast, Value.cells, Nat.mul_one, made_B]
theorem IsB.partR {w : World} {bb off : Nat} {b : List Int} (h : IsB w (some ⟨bb, off, none⟩) b) (o k : Nat) : IsB w (some ⟨bb, off + o, none⟩) ((b.drop o).take k) := by
  obtain ⟨hb, h0 | ⟨b', off', e, h1, h2⟩⟩ := h
  · subst h0; exact ⟨by simp, .inl (by simp)⟩
  · simp only [Option.some.injEq, Addr.mk.injEq, and_true] at e
    obtain ⟨rfl, rfl⟩ := e
    refine ⟨fun x hx => hb x (List.mem_of_mem_drop (List.mem_of_mem_take hx)), .inr ⟨bb, off + o, rfl, h1, fun i hi => ?_⟩⟩
    simp at hi
    rw [show off + o + i = off + (o + i) from by omega, h2 (o + i) (by omega)]
    simp [List.getD_eq_getElem?_getD, List.getElem?_drop, show i < k by omega]
theorem step_copyB {ops : Array Oper} {o : Oper} {a : Act} {K : Act → World → Prop} {Q : Exit → Act → World → Prop} {E : Prop} {w : World} (hgd : o.guard = none) (s x : Operand)
    (ho : o.op = .call { callee := .builtin .copy, args := #[s, x], argTypes := #[25, 25] }) (v1 v2 : Value) (hs : a.eval s = v1) (hx : a.eval x = v2) (v' : Value) (w' : World)
    (hr : (Builtin.copy_ #[25, 25] o.type #[v1, v2]).run Tryd.prog w = .ok v' w') (h : K (a.put o.dst v') w') :
    if Region.wanted o (yielded ops a.tmps) = true then Oper.wp Tryd.prog o a w K Q else E := by
  have hw : Region.wanted o (yielded ops a.tmps) = true := by simp [Region.wanted, hgd]
  rw [if_pos hw]
  unfold Oper.wp execOp
  simp only [ho, resolve, invoke, builtin, Sem.run_bind, Sem.run_pure, Result.andThen_ok, List.map_toArray, List.map_cons, List.map_nil, hs, hx, hr]
  exact h

theorem owithin_any (x fr n : Int) (w : World) (x0 : 0 ≤ x) (x1 : x ≤ 18446744073709551615) (f0 : 0 ≤ fr) (f1 : fr ≤ 1099511627776) (n0 : 0 ≤ n) (n1 : n ≤ 1048576) :
    Calls Tryd.prog 43 #[.int .u64 x, .int .i64 fr, .int .i64 n] w fun e w' => e = .returned (.bool (decide (fr ≤ x ∧ x - fr < n))) ∧ w = w' := by
  by_cases h1 : fr ≤ x
  · by_cases h2 : x - fr < n
    · rw [decide_eq_true ⟨h1, h2⟩]
      go_enter Tryd.func43, Tryd.ntmps43
      go_wp2
      go_ret
      exact ⟨ret_bool (by simp), rfl⟩
    · rw [decide_eq_false (fun q => h2 q.2)]
      go_enter Tryd.func43, Tryd.ntmps43
      go_wp2
      go_ret
      exact ⟨ret_bool (by simp), rfl⟩
  · rw [decide_eq_false (fun q => h1 q.1)]
    go_enter Tryd.func43, Tryd.ntmps43
    go_wp2
    go_ret
    exact ⟨rfl, rfl⟩
theorem owithin_of (x fr n : Int) (v : Bool) (w : World) (hv : decide (fr ≤ x ∧ x - fr < n) = v) (x0 : 0 ≤ x) (x1 : x ≤ 18446744073709551615) (f0 : 0 ≤ fr) (f1 : fr ≤ 1099511627776) (n0 : 0 ≤ n) (n1 : n ≤ 1048576) :
    Calls Tryd.prog 43 #[.int .u64 x, .int .i64 fr, .int .i64 n] w fun e w' => e = .returned (.bool v) ∧ w = w' := by
  subst hv; exact owithin_any x fr n w x0 x1 f0 f1 n0 n1

/-- Bytes in new memory, or none. -/
def NewB (w : World) (base : Nat) (a : Option Addr) (l : List Int) : Prop := AllB l ∧ (l = [] ∨ ∃ g, a = some ⟨g, 0, none⟩ ∧ base ≤ g ∧ RowB w g l)
theorem NewB.isB {w : World} {base : Nat} {a : Option Addr} {l : List Int} (h : NewB w base a l) : IsB w a l := by
  obtain ⟨h0, rfl | ⟨g, rfl, _, h2⟩⟩ := h
  · exact IsB.nil _ _
  · exact h2.isB h0
/-- What Apply leaves behind. -/
def ApplyP (w : World) (R : List Int) (E : Int) (e : Ending) (w' : World) : Prop :=
  ∃ a' c', e = .returned (.tuple #[.slice a' R.length c', .int .i64 E]) ∧ NewB w' w.heap.size a' R ∧ R.length ≤ c' ∧ c' ≤ maxLen ∧ (a' = none → R = [] ∧ c' = 0) ∧ Below w.heap.size w w'
/-- Under way. -/
structure ApA (w wr : World) (b l : List Int) (fr t n : Int) (g k : Nat) : Prop where
  row : RowB wr g (goT fr t b (l.take k) b)
  below : Below w.heap.size w wr
  ge : w.heap.size ≤ g
  all : allT fr n b (l.take k) = true
theorem allT_snoc {fr n : Int} {b l : List Int} {k : Nat} (hk : k < l.length) : allT fr n b (l.take (k + 1)) = (allT fr n b (l.take k) && decide (inT fr n (wordT b (l.getD k 0)))) := by
  rw [List.take_succ_eq_append_getElem hk, allT, List.all_append]
  simp [allT, List.getD, hk]
theorem allT_not {fr n : Int} {b l : List Int} {k : Nat} (hk : k < l.length) (h : ¬ inT fr n (wordT b (l.getD k 0))) : allT fr n b l = false := by
  unfold allT
  rw [List.all_eq_false]
  refine ⟨l.getD k 0, by simp [List.getD, hk], ?_⟩
  simpa using h

set_option maxHeartbeats 4000000 in
/-- The bases or the number may not be. -/
theorem oapply_arg (a al : Option Addr) (c cl : Nat) (b l : List Int) (fr t n : Int) (w : World) (h : ¬ argT fr t n) :
    Calls Tryd.prog 19 #[.slice a b.length c, .slice al l.length cl, .int .i64 fr, .int .i64 t, .int .i64 n] w (ApplyP w (applyB b l fr t n) (applyE b l fr t n)) := by
  obtain ⟨e1, e2⟩ := apply_arg (b := b) (l := l) h
  rw [e1, e2]
  clear e1 e2
  have FIN : Hid (ApplyP w [] 2 (.returned (.tuple #[.slice none 0 0, .int .i64 2])) w) := ⟨none, 0, rfl, ⟨AllB.nil, .inl rfl⟩, by simp, Nat.zero_le _, fun _ => ⟨rfl, rfl⟩, Below.refl _ _⟩
  by_cases g1 : goodR fr
  · have G1 : Hid (decide (goodR fr) = true) := decide_eq_true g1
    by_cases g2 : goodR t
    · have G2 : Hid (decide (goodR t) = true) := decide_eq_true g2
      have hn : n < 0 ∨ (0 ≤ n ∧ 1048576 < n) := by
        by_cases q : n < 0
        · exact .inl q
        · refine .inr ⟨by omega, ?_⟩
          by_cases q2 : 1048576 < n
          · exact q2
          · exact absurd ⟨g1, g2, by omega, by omega⟩ h
      clear h g1 g2
      rcases hn with q | ⟨q, q'⟩
      all_goals
        go_enter Tryd.func19, Tryd.ntmps19
        go_wp2
        go_step3
        go_wp2_with (first | (go_at_call_of 16 t; refine (good_of t true _ G2.out).mono ?_; rintro e w1 ⟨rfl, rfl⟩) | (go_at_call_of 16 fr; refine (good_of fr true _ G1.out).mono ?_; rintro e w1 ⟨rfl, rfl⟩))
        (try rw [Exit.noGoto_ret])
        go_ret2
        exact FIN.out
    · have G2 : Hid (decide (goodR t) = false) := decide_eq_false g2
      clear h g1 g2
      go_enter Tryd.func19, Tryd.ntmps19
      go_wp2
      go_step3
      go_wp2_with (first | (go_at_call_of 16 t; refine (good_of t false _ G2.out).mono ?_; rintro e w1 ⟨rfl, rfl⟩) | (go_at_call_of 16 fr; refine (good_of fr true _ G1.out).mono ?_; rintro e w1 ⟨rfl, rfl⟩))
      (try rw [Exit.noGoto_ret])
      go_ret2
      exact FIN.out
  · have G1 : Hid (decide (goodR fr) = false) := decide_eq_false g1
    clear h g1
    go_enter Tryd.func19, Tryd.ntmps19
    go_wp2
    go_step3
    go_wp2_with (go_at_call_of 16 fr; refine (good_of fr false _ G1.out).mono ?_; rintro e w1 ⟨rfl, rfl⟩)
    (try rw [Exit.noGoto_ret])
    go_ret2
    exact FIN.out
end Go.Proofs.YtbfamjnnlcopiaaDoor
