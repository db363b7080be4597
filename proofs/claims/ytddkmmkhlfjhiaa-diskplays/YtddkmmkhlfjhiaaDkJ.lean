/- What Flush and Crash answer. -/
import Derived.Test.YtddkmmkhlfjhiaaDkI
namespace Go.Proofs.Ytddkmmkhlfjhiaa
open Go.RowKit Go.Maps
set_option linter.unusedVariables false

theorem ent_f1 : (match Try.prog.funcs[41]? with | some fn => !(fn.name == "runtime.NumGoroutine") && !fn.body.isNone | none => false) = true := by kernel_rfl
theorem ent_c1 : (match Try.prog.funcs[42]? with | some fn => !(fn.name == "runtime.NumGoroutine") && !fn.body.isNone | none => false) = true := by kernel_rfl

theorem flush1_any (k : Nat) (w : World) : Calls Try.prog 41 #[.int .i64 (k : Nat)] w fun e w' => e = .returned (.int .i64 ((64 : Nat) : Int)) ∧ w = w' := by
  go_enter Try.func41, Try.ntmps41
  go_wp2
  go_ret
  exact ⟨rfl, rfl⟩

/-- A slice of numbers. -/
def IsI (w : World) (a : Option Addr) (l : List Int) : Prop :=
  (∀ x ∈ l, -9223372036854775808 ≤ x ∧ x ≤ 9223372036854775807) ∧ (l = [] ∨ ∃ b off, a = some ⟨b, off, none⟩ ∧ b < w.heap.size ∧ ∀ i, i < l.length → w.cell? ⟨b, off + i, none⟩ = some (.int .i64 (l.getD i 0)))
theorem IsI.keep {w w' : World} {a : Option Addr} {l : List Int} (h : IsI w a l) (hb : Below w.heap.size w w') : IsI w' a l := by
  obtain ⟨h1, h2 | ⟨b, off, e, hs, hc⟩⟩ := h
  · exact ⟨h1, .inl h2⟩
  · refine ⟨h1, .inr ⟨b, off, e, by have := hb.size; omega, fun i hi => ?_⟩⟩
    rw [hb.cell (p := ⟨b, off + i, none⟩) hs]; exact hc i hi

theorem keep_cases (v : Int) : v < 0 ∧ (max (min v 64) 0).toNat = 0 ∨ v = 0 ∧ (max (min v 64) 0).toNat = 0 ∨ 0 < v ∧ v < 64 ∧ v = ((max (min v 64) 0).toNat : Nat) ∨ v = 64 ∧ (max (min v 64) 0).toNat = 64 ∨ 64 < v ∧ (max (min v 64) 0).toNat = 64 := by omega

theorem crash1_any (k q : Nat) (ka : Option Addr) (kn kc : Nat) (l : List Int) (w : World) (hq : w.cell? ⟨q, 0, none⟩ = some (.slice ka kn kc)) (hn : kn = l.length) (hI : IsI w ka l) (hk : k ≤ 1000000) (hl : l.length ≤ 9223372036854775807) :
    Calls Try.prog 42 #[.int .i64 (k : Nat), .pointer (some ⟨q, 0, none⟩)] w fun e w' => e = .returned (.int .i64 (keepN l k : Nat)) ∧ w = w' := by
  subst hn
  by_cases hlt : k < l.length
  · obtain ⟨hb, rfl | ⟨b, off, rfl, hs, hc⟩⟩ := hI
    · simp at hlt
    · have hcell := hc k hlt
      have E : Hid (keepN l k = (max (min (l.getD k 0) 64) 0).toNat) := rfl
      obtain ⟨v, hv⟩ : ∃ v, l.getD k 0 = v := ⟨_, rfl⟩
      rw [hv] at hcell E
      clear hc hv hb
      obtain ⟨r, hr⟩ : ∃ r, (max (min v 64) 0).toNat = r := ⟨_, rfl⟩
      have hcs := keep_cases v
      rw [hr] at hcs E
      clear hr
      rw [E.out]
      rcases hcs with ⟨h1, rfl⟩ | ⟨rfl, rfl⟩ | ⟨h1, h2, rfl⟩ | ⟨rfl, rfl⟩ | ⟨h1, rfl⟩
      all_goals
        go_enter Try.func42, Try.ntmps42
        go_wp2
        go_ret
        exact ⟨rfl, rfl⟩
  · have E : keepN l k = 0 := by rw [keepN, List.getD_eq_getElem?_getD, List.getElem?_eq_none (by omega)]; rfl
    rw [E]
    clear hI E
    go_enter Try.func42, Try.ntmps42
    go_wp2
    go_ret
    exact ⟨rfl, rfl⟩

theorem flush_nil (w : World) : Calls Try.prog 19 #[.pointer none] w fun e w' => e = .returned (.int .i64 1) ∧ w = w' := by
  go_enter Try.func19, Try.ntmps19
  go_wp2_with (go_at_call 39; refine (dead_nil _).mono ?_; rintro e w' ⟨rfl, rfl⟩)
  go_ret
  exact ⟨rfl, rfl⟩

theorem flush_any (base b m : Nat) (d : Dk) (w : World) (h : IsD w base b m d) (hbase : base ≤ w.heap.size) (hm : m ≤ 900000) (ho : d.ops ≤ 1000000000) :
    Calls Try.prog 19 #[.pointer (some ⟨b, 0, none⟩)] w fun e w' => e = .returned (.int .i64 (flushE d)) ∧ IsD w' base b m (flushD d) ∧ Turn base KC w w' := by
  have H : Hid (IsD w base b m d) := h
  cases hd : d.down
  · have E : Hid (deadE d = 0) := by show deadE d = 0; simp [deadE, hd]
    have HD : Hid (d.down = false) := hd
    by_cases h1 : d.left = 1
    · have E1 : Hid (workE d = 14) := by show workE d = 14; simp [workE, h1]
      have E2 : Hid (flushE d = 14) := by show flushE d = 14; simp [flushE, hd, workE, h1]
      have E3 : Hid (flushD d = workD d) := by show flushD d = workD d; simp [flushD, hd, h1]
      rw [E2.out, E3.out]
      clear hd h1 h
      go_enter Try.func19, Try.ntmps19
      go_wp2_with (first
        | (go_at_call 39; refine (dead_any base b m d _ H.out).mono ?_; rw [E.out]; rintro e w' ⟨rfl, rfl⟩)
        | (go_at_call 37; refine (worked_any base b m d _ H.out HD.out ho).mono ?_; rw [E1.out]; rintro e w1 ⟨rfl, i1, t1⟩))
      go_ret
      exact ⟨rfl, i1, t1⟩
    · have E1 : Hid (workE d = 0) := by show workE d = 0; simp [workE, h1]
      have E2 : Hid (flushE d = 0) := by show flushE d = 0; simp [flushE, hd, workE, h1]
      have E3 : Hid (flushD d = settleD (fun _ => 64) (workD d)) := by show flushD d = _; simp [flushD, hd, h1]
      rw [E2.out, E3.out]
      clear hd h1 h
      go_enter Try.func19, Try.ntmps19
      go_wp2_with (first
        | (go_at_call 39; refine (dead_any base b m d _ H.out).mono ?_; rw [E.out]; rintro e w' ⟨rfl, rfl⟩)
        | (go_at_call 37; refine (worked_any base b m d _ H.out HD.out ho).mono ?_; rw [E1.out]; rintro e w1 ⟨rfl, i1, t1⟩; have I1 : Hid (IsD w1 base b m (workD d)) := i1; have T1 : Hid (Turn base KC w w1) := t1; clear i1 t1)
        | (go_at_call 40; refine (settle_any base b m (workD d) 41 [] (fun _ => 64) _ I1.out (by have := T1.out.size; omega) hm ent_f1 (fun w' k _ _ => flush1_any k w') (fun _ => Nat.le_refl _)).mono ?_; rintro e w2 ⟨rfl, i2, t2⟩; have I2 : Hid (IsD w2 base b m (settleD (fun _ => 64) (workD d))) := i2; have T2 : Hid (Turn base KC w w2) := T1.out.trans t2; clear i2 t2))
      go_ret
      exact ⟨rfl, I2.out, T2.out⟩
  · have E : Hid (deadE d = 14) := by show deadE d = 14; simp [deadE, hd]
    have E2 : Hid (flushE d = 14) := by show flushE d = 14; simp [flushE, hd]
    have E3 : Hid (flushD d = d) := by show flushD d = d; simp [flushD, hd]
    rw [E2.out, E3.out]
    clear hd h
    go_enter Try.func19, Try.ntmps19
    go_wp2_with (go_at_call 39; refine (dead_any base b m d _ H.out).mono ?_; rw [E.out]; rintro e w' ⟨rfl, rfl⟩)
    go_ret
    exact ⟨rfl, H.out, Turn.refl _ _ _⟩

theorem crash_nil (ka : Option Addr) (kn kc : Nat) (w : World) : Calls Try.prog 23 #[.pointer none, .slice ka kn kc] w fun e w' => e = .returned (.tuple #[]) ∧ Below w.heap.size w w' := by
  go_enter Try.func23, Try.ntmps23
  go_wp2
  refine bodyPost_ret (v := .tuple #[]) (by simp [results, Try.results23, go_sem]) rfl ⟨rfl, (Below.refl _ w).alloc (Nat.le_refl _) _⟩

set_option maxHeartbeats 1000000 in
theorem crash_any (base b m : Nat) (d : Dk) (ka : Option Addr) (kn kc : Nat) (l : List Int) (w : World) (h : IsD w base b m d) (hbase : base ≤ w.heap.size) (hm : m ≤ 900000) (hn : kn = l.length) (hl : l.length ≤ 9223372036854775807) (hI : ∀ w', Turn base KC w w' → IsI w' ka l) :
    Calls Try.prog 23 #[.pointer (some ⟨b, 0, none⟩), .slice ka kn kc] w fun e w' => e = .returned (.tuple #[]) ∧ IsD w' base b m (crashD d l) ∧ Turn base KC w w' := by
  have hpl : d.pend.length ≤ m := by obtain ⟨bs, bn, ap, cp, ns, nn, f, g, h, h1, _⟩ := h; omega
  have W1 : Hid (IsD (w.alloc (.cells #[.slice ka kn kc] 33)) base b m d) := h.keep ((Below.refl _ w).alloc (Nat.le_refl _) _)
  have T1 : Hid (Turn base KC w (w.alloc (.cells #[.slice ka kn kc] 33))) := (Turn.refl _ _ _).alloc _
  have HK : Hid (∀ w' (k : Nat), Turn base KC (w.alloc (.cells #[.slice ka kn kc] 33)) w' → k < d.pend.length → Calls Try.prog 42 ([Value.int .i64 (k : Nat)] ++ [Value.pointer (some ⟨w.heap.size, 0, none⟩)]).toArray w' (fun e w'' => e = .returned (.int .i64 (keepN l k : Nat)) ∧ w' = w'')) := by
    intro w' k ht hk
    have hbx : w'.heap[w.heap.size]? = some (.cells #[.slice ka kn kc] 33 (0, 0)) := ht.block _ _ (Go.heap_alloc_new w _) (.inr rfl)
    exact crash1_any k w.heap.size ka kn kc l w' (cell_of_row _ _ _ _ _ _ hbx) hn (hI w' (T1.out.trans ht)) (by omega) hl
  have OK : Hid (DkOk (crashD d l)) := crashD_ok h.ok
  clear h hI hn hl
  go_enter Try.func23, Try.ntmps23
  go_wp2_with (go_at_call 40; refine (settle_any base b m d 42 [.pointer (some ⟨w.heap.size, 0, none⟩)] (keepN l) _ W1.out (by simp; omega) hm ent_c1 HK.out (keepN_le l)).mono ?_; rintro e w2 ⟨rfl, i2, t2⟩; have I2 : Hid (IsD w2 base b m (settleD (keepN l) d)) := i2; have T2 : Hid (Turn base KC w w2) := T1.out.trans t2; obtain ⟨bs, bn, ap, cp, ns, nn, f, g, hA, _⟩ := i2; have c4 : w2.cell? ⟨b, 4, none⟩ = some (.int .i64 d.left) := hA.cell 4; have c5 : w2.cell? ⟨b, 5, none⟩ = some (.bool d.down) := hA.cell 5; have z4 := hA.thawed 4; have z5 := hA.thawed 5; clear hA t2)
  go_end0
  obtain ⟨hge, cs, hbx⟩ := I2.out.ge
  refine ⟨rfl, ?_, ?_⟩
  · refine I2.out.field rfl rfl rfl OK.out (fun bs bn ap cp hb => ?_) (fun i hi => by rw [set_else _ _ _ _ i hi, set_else _ _ _ _ i hi])
    exact set_same _ _ _ _ _ _ _ (set_same _ _ _ _ _ _ _ hb rfl) (by simp [boxC, crashD])
  · have b1 := set_same w2 b 4 (.int .i64 0) _ _ _ hbx rfl
    exact (T2.out.trans (set_turn hbx hge)).trans (set_turn b1 hge)
end Go.Proofs.Ytddkmmkhlfjhiaa
