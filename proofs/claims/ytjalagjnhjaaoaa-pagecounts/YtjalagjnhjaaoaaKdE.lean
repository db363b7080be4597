/- What is wrong with a kind: what placed, Check and right answer. -/
import Derived.Test.YtjalagjnhjaaoaaKdA
namespace Go.Proofs.Ytjalagjnhjaaoaa
open Go.RowKit
set_option linter.unusedVariables false
set_option maxRecDepth 4000

theorem IsI.drewN {w : World} {a : Option Addr} {l : List Int} (h : IsI w a l) (m : Nat) : IsI (w.drewN m) a l := h
theorem IsI.drew {w : World} {a : Option Addr} {l : List Int} (h : IsI w a l) : IsI w.drew a l := h
theorem IsI.all {w : World} {a : Option Addr} {l : List Int} (h : IsI w a l) : AllI l := h.1
theorem IsI.nil (w : World) (a : Option Addr) : IsI w a [] := ⟨fun x hx => by (cases hx), .inl rfl⟩
theorem AllI.at {l : List Int} (h : AllI l) (i : Nat) : -9223372036854775808 ≤ l.getD i 0 ∧ l.getD i 0 ≤ 9223372036854775807 := by
  by_cases hi : i < l.length
  · have := h l[i] (List.getElem_mem hi)
    simpa [List.getD, hi] using this
  · simp [List.getD, List.getElem?_eq_none (Nat.le_of_not_lt hi)]

/-- An append whose run is known, in a region that draws. -/
theorem step_app {ops : Array Oper} {o : Oper} {a : Act} {K : Act → World → Prop} {Q : Exit → Act → World → Prop} {E : Prop} {w : World} (hgd : o.guard = none) (s x : Operand) (t : TypeId)
    (ho : o.op = .call { callee := .builtin .append, args := #[s, x], argTypes := #[t, t] }) (v1 v2 : Value) (hs : a.eval s = v1) (hx : a.eval x = v2) (v' : Value) (w' : World)
    (hr : (Builtin.append_ #[t, t] o.type #[v1, v2]).run Try.prog w = .ok v' w') (h : K (a.put o.dst v') w') :
    if Region.wanted o (yielded ops a.tmps) = true then Oper.wp Try.prog o a w K Q else E := by
  have hw : Region.wanted o (yielded ops a.tmps) = true := by simp [Region.wanted, hgd]
  rw [if_pos hw]
  unfold Oper.wp execOp
  simp only [ho, resolve, invoke, builtin, Sem.run_bind, Sem.run_pure, Result.andThen_ok, List.map_toArray, List.map_cons, List.map_nil, hs, hx, hr]
  exact h

/-- A kind in a box. -/
theorem box_below (w : World) (s : Int) (a : Option Addr) (n c : Nat) : Below w.heap.size w (w.alloc (.cells #[.int .i64 s, .slice a n c] 54)) := (Below.refl _ w).alloc (Nat.le_refl _) _

theorem box_cells (w : World) (s : Int) (a : Option Addr) (n c : Nat) : (w.alloc (.cells #[.int .i64 s, .slice a n c] 54)).cell? ⟨w.heap.size, 0, none⟩ = some (.int .i64 s) ∧ (w.alloc (.cells #[.int .i64 s, .slice a n c] 54)).cell? ⟨w.heap.size, 1, none⟩ = some (.slice a n c) := by
  have h := Go.heap_alloc_new w (.cells #[.int .i64 s, .slice a n c] 54)
  exact ⟨cell_of_row _ _ 0 _ _ _ h, cell_of_row _ _ 1 _ _ _ h⟩

set_option maxHeartbeats 2000000 in
theorem placed_any (s : Int) (a : Option Addr) (c : Nat) (ps : List Int) (w : World) (hI : IsI w a ps) (hs : 1 ≤ s) (hs' : s ≤ 4096) (hn : ps.length ≤ 16) :
    Calls Try.prog 63 #[.agg #[.int .i64 s, .slice a ps.length c]] w fun e w' => e = .returned (.bool (placedB s 0 ps)) ∧ Below w.heap.size w w' := by
  have HB : Hid (Below w.heap.size w (w.alloc (.cells #[.int .i64 s, .slice a ps.length c] 54))) := box_below w s a _ c
  have I1 : Hid (IsI (w.alloc (.cells #[.int .i64 s, .slice a ps.length c] 54)) a ps) := hI.keep HB.out
  clear hI
  go_enter Try.func63, Try.ntmps63
  go_wp2
  go_loop [3, 9] (fun fv iv => ∃ (k : Nat) (f : Int), k ≤ ps.length ∧ iv = .int .i64 k ∧ fv = .int .i64 f ∧ 0 ≤ f ∧ f ≤ 4096 ∧ placedB s 0 ps = placedB s f (ps.drop k)) (fun _ iv => ps.length - (intOf iv).toNat)
  case atStart => exact ⟨0, 0, Nat.zero_le _, rfl, rfl, by omega, by omega, rfl⟩
  case round =>
    obtain ⟨k, f, hk, rfl, rfl, f0, f1, hp⟩ := hrel
    have HP : Hid (placedB s 0 ps = placedB s f (ps.drop k)) := hp
    clear hp
    by_cases hlt : k < ps.length
    · obtain ⟨hin, h0 | ⟨b, off, rfl, hsz, hc⟩⟩ := I1.out
      · rw [h0] at hlt; simp at hlt
      have hcell := hc k hlt
      have hpb := AllI.at (show AllI ps from hin) k
      have EP : Hid (placedB s f (ps.drop k) = (decide (f ≤ ps.getD k 0 ∧ ps.getD k 0 ≤ s - 8 ∧ ps.getD k 0 % 8 = 0) && placedB s (ps.getD k 0 + 8) (ps.drop (k + 1)))) := placed_step s f ps k hlt
      obtain ⟨p, hp⟩ : ∃ p, ps.getD k 0 = p := ⟨_, rfl⟩
      rw [hp] at hcell hpb EP
      clear hp hc hin hsz
      by_cases hok : f ≤ p ∧ p ≤ s - 8 ∧ p % 8 = 0
      · obtain ⟨k1, k2, k3⟩ := hok
        have EQ : Hid (placedB s 0 ps = placedB s (p + 8) (ps.drop (k + 1))) := by show _ = _; rw [HP.out, EP.out, decide_eq_true ⟨k1, k2, k3⟩, Bool.true_and]
        clear HP EP
        go_wp2
        go_round
        case rel => exact ⟨k + 1, p + 8, by omega, by go_num, rfl, by omega, by omega, EQ.out⟩
        case measure => simp [intOf]; omega
      · have EQ : Hid (placedB s 0 ps = false) := by show _ = _; rw [HP.out, EP.out, decide_eq_false hok, Bool.false_and]
        clear HP EP
        have hcs : p < f ∨ (f ≤ p ∧ s - 8 < p) ∨ (f ≤ p ∧ p ≤ s - 8 ∧ (p % 8 != 0) = true) := by
          rcases Int.lt_or_le p f with h | h
          · exact .inl h
          · rcases Int.lt_or_le (s - 8) p with h' | h'
            · exact .inr (.inl ⟨h, h'⟩)
            · exact .inr (.inr ⟨h, h', by rw [bne_iff_ne]; intro h8; exact hok ⟨h, h', h8⟩⟩)
        clear hok
        rcases hcs with h | ⟨h, h'⟩ | ⟨h, h', h8⟩
        all_goals (go_wp2; go_ret; exact ⟨ret_bool EQ.out.symm, HB.out⟩)
    · have EQ : Hid (placedB s 0 ps = true) := by show _ = _; rw [HP.out]; exact placed_end s f ps k (by omega)
      clear HP
      go_wp2
      go_ret
      exact ⟨ret_bool EQ.out.symm, HB.out⟩

set_option maxHeartbeats 2000000 in
theorem check_any (s : Int) (a : Option Addr) (c : Nat) (ps : List Int) (w : World) (hI : IsI w a ps) (hm : ps.length ≤ maxLen) :
    Calls Try.prog 60 #[.agg #[.int .i64 s, .slice a ps.length c]] w fun e w' => e = .returned (.int .i64 (checkK s ps)) ∧ Below w.heap.size w w' := by
  have HB : Hid (Below w.heap.size w (w.alloc (.cells #[.int .i64 s, .slice a ps.length c] 54))) := box_below w s a _ c
  have I1 : Hid (IsI (w.alloc (.cells #[.int .i64 s, .slice a ps.length c] 54)) a ps) := hI.keep HB.out
  clear hI
  unfold maxLen at hm
  by_cases h1 : s < 1 ∨ 4096 < s
  · have E : Hid (checkK s ps = 2) := check_two h1
    go_enter Try.func60, Try.ntmps60
    go_wp2
    all_goals (go_ret; exact ⟨ret_int E.out.symm, HB.out⟩)
  · by_cases h2 : 16 < ps.length
    · have E : Hid (checkK s ps = 6) := check_six h1 h2
      have g1 : ¬ s < 1 := by omega
      have g2 : ¬ 4096 < s := by omega
      clear h1
      go_enter Try.func60, Try.ntmps60
      go_wp2
      all_goals (go_ret; exact ⟨ret_int E.out.symm, HB.out⟩)
    · have g1 : 1 ≤ s := by omega
      have g2 : s ≤ 4096 := by omega
      have g3 : ps.length ≤ 16 := by omega
      rcases hp : placedB s 0 ps with _ | _
      · have E : Hid (checkK s ps = 11) := check_el h1 h2 hp
        have EP : Hid (placedB s 0 ps = false) := hp
        clear h1 h2 hp
        go_enter Try.func60, Try.ntmps60
        go_wp2_with (go_at_call 63; refine (placed_any s a c ps _ I1.out g1 g2 g3).mono ?_; rw [EP.out]; rintro e w1 ⟨rfl, b1⟩)
        go_ret
        exact ⟨ret_int E.out.symm, HB.out.trans (b1.mono HB.out.size)⟩
      · have E : Hid (checkK s ps = 0) := check_ok h1 h2 hp
        have EP : Hid (placedB s 0 ps = true) := hp
        clear h1 h2 hp
        go_enter Try.func60, Try.ntmps60
        go_wp2_with (go_at_call 63; refine (placed_any s a c ps _ I1.out g1 g2 g3).mono ?_; rw [EP.out]; rintro e w1 ⟨rfl, b1⟩)
        go_ret
        exact ⟨ret_int E.out.symm, HB.out.trans (b1.mono HB.out.size)⟩

/-- Check, its length and what it answers told apart. -/
theorem check_is (s : Int) (a : Option Addr) (c n : Nat) (ps : List Int) (r : Int) (w : World) (hn : n = ps.length) (hr : checkK s ps = r) (hI : IsI w a ps) (hm : ps.length ≤ maxLen) :
    Calls Try.prog 60 #[.agg #[.int .i64 s, .slice a n c]] w fun e w' => e = .returned (.int .i64 r) ∧ Below w.heap.size w w' := by
  subst hn hr; exact check_any s a c ps w hI hm

theorem right_any (s : Int) (a : Option Addr) (c : Nat) (ps : List Int) (w : World) (hI : IsI w a ps) (hm : ps.length ≤ maxLen) :
    Calls Try.prog 52 #[.agg #[.int .i64 s, .slice a ps.length c]] w fun e w' => e = .returned (.bool (decide (checkK s ps = 0))) ∧ Below w.heap.size w w' := by
  have HB : Hid (Below w.heap.size w (w.alloc (.cells #[.int .i64 s, .slice a ps.length c] 54))) := box_below w s a _ c
  have I1 : Hid (IsI (w.alloc (.cells #[.int .i64 s, .slice a ps.length c] 54)) a ps) := hI.keep HB.out
  clear hI
  obtain ⟨r, hr⟩ : ∃ r, checkK s ps = r := ⟨_, rfl⟩
  have ER : Hid (checkK s ps = r) := hr
  rw [hr]
  clear hr
  by_cases h0 : r = 0
  · subst h0
    go_enter Try.func52, Try.ntmps52
    go_wp2_with (go_at_call 60; refine (check_is s a c _ ps 0 _ rfl ER.out I1.out hm).mono ?_; rintro e w1 ⟨rfl, b1⟩)
    go_ret
    exact ⟨rfl, HB.out.trans (b1.mono HB.out.size)⟩
  · have hq : (r == 0) = false := by rw [beq_eq_false_iff_ne]; exact h0
    have D : Hid (decide (r = 0) = false) := decide_eq_false h0
    rw [D.out]
    go_enter Try.func52, Try.ntmps52
    go_wp2_with (go_at_call 60; refine (check_is s a c _ ps r _ rfl ER.out I1.out hm).mono ?_; rintro e w1 ⟨rfl, b1⟩)
    go_ret
    exact ⟨by simp, HB.out.trans (b1.mono HB.out.size)⟩
theorem right_is (s : Int) (a : Option Addr) (c n : Nat) (ps : List Int) (r : Bool) (w : World) (hn : n = ps.length) (hr : decide (checkK s ps = 0) = r) (hI : IsI w a ps) (hm : ps.length ≤ maxLen) :
    Calls Try.prog 52 #[.agg #[.int .i64 s, .slice a n c]] w fun e w' => e = .returned (.bool r) ∧ Below w.heap.size w w' := by
  subst hn hr; exact right_any s a c ps w hI hm
end Go.Proofs.Ytjalagjnhjaaoaa
