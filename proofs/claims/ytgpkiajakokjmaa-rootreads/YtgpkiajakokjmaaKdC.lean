/- The reader of layer 1: what Open, Upto, Var, Fail, Err and Left answer, and what becomes of it. -/
import Derived.Test.YtgpkiajakokjmaaKdB
namespace Go.Proofs.Ytgpkiajakokjmaa
open Go.RowKit
set_option linter.unusedVariables false
set_option maxRecDepth 4000


/-- A reader lies in block B: what is left, and the fault. Its bytes lie in an earlier block. -/
def RdAt (w : World) (B : Nat) (l : List Int) (e : Int) : Prop :=
  ∃ a cap, w.heap[B]? = some (.cells #[.slice a l.length cap, .int .i64 e] 82 (0, 0)) ∧ l.length ≤ cap ∧ cap ≤ maxLen ∧ (∀ x ∈ l, 0 ≤ x ∧ x ≤ 255) ∧
    (l = [] ∨ ∃ b off, a = some ⟨b, off, none⟩ ∧ b < B ∧ ∀ i, i < l.length → w.cell? ⟨b, off + i, none⟩ = some (.int .u8 (l.getD i 0)))
theorem cell_two {w : World} {B : Nat} {x y : Value} {t : TypeId} (h : w.heap[B]? = some (.cells #[x, y] t (0, 0))) :
    w.cell? ⟨B, 0, none⟩ = some x ∧ w.cell? ⟨B, 1, none⟩ = some y ∧ w.frozen? ⟨B, 0, none⟩ = false ∧ w.frozen? ⟨B, 1, none⟩ = false := by
  simp [World.cell?, World.frozen?, h]
theorem err_two (B : Nat) (e : Int) (w : World) (h : w.cell? ⟨B, 1, none⟩ = some (.int .i64 e)) :
    Calls Try.prog 49 #[.pointer (some ⟨B, 0, none⟩)] w fun r w' => r = .returned (.int .i64 e) ∧ w = w' := by
  go_enter Try.func49, Try.ntmps49
  go_wp2
  go_ret
  exact ⟨rfl, rfl⟩
theorem err_nil (w : World) :
    Calls Try.prog 49 #[.pointer none] w fun r w' => r = .returned (.int .i64 1) ∧ w = w' := by
  go_enter Try.func49, Try.ntmps49
  go_wp2
  go_ret
  exact ⟨rfl, rfl⟩
theorem fail_first (B : Nat) (x : Int) (w : World) (h : w.cell? ⟨B, 1, none⟩ = some (.int .i64 0)) (hf : w.frozen? ⟨B, 1, none⟩ = false) :
    Calls Try.prog 36 #[.pointer (some ⟨B, 0, none⟩), .int .i64 x] w fun r w' => r = .returned (.tuple #[]) ∧ w' = w.setCell ⟨B, 1, none⟩ (.int .i64 x) := by
  go_enter Try.func36, Try.ntmps36
  go_wp2_with (go_at_call 49; refine (err_two B 0 _ h).mono ?_; rintro r w' ⟨rfl, rfl⟩)
  go_end0
  exact ⟨rfl, rfl⟩
theorem fail_more (B : Nat) (x e : Int) (w : World) (h : w.cell? ⟨B, 1, none⟩ = some (.int .i64 e)) (he : (e == 0) = false) :
    Calls Try.prog 36 #[.pointer (some ⟨B, 0, none⟩), .int .i64 x] w fun r w' => r = .returned (.tuple #[]) ∧ w = w' := by
  go_enter Try.func36, Try.ntmps36
  go_wp2_with (go_at_call 49; refine (err_two B e _ h).mono ?_; rintro r w' ⟨rfl, rfl⟩)
  go_end0
  exact ⟨rfl, rfl⟩
theorem fail_nil (x : Int) (w : World) :
    Calls Try.prog 36 #[.pointer none, .int .i64 x] w fun r w' => r = .returned (.tuple #[]) ∧ w = w' := by
  go_enter Try.func36, Try.ntmps36
  go_wp2_with (go_at_call 49; refine (err_nil _).mono ?_; rintro r w' ⟨rfl, rfl⟩)
  go_end0
  exact ⟨rfl, rfl⟩
theorem left_ok (B : Nat) (a : Option Addr) (n cap : Nat) (w : World) (h0 : w.cell? ⟨B, 0, none⟩ = some (.slice a n cap)) (h : w.cell? ⟨B, 1, none⟩ = some (.int .i64 0)) :
    Calls Try.prog 53 #[.pointer (some ⟨B, 0, none⟩)] w fun r w' => r = .returned (.int .i64 n) ∧ w = w' := by
  go_enter Try.func53, Try.ntmps53
  go_wp2_with (go_at_call 49; refine (err_two B 0 _ h).mono ?_; rintro r w' ⟨rfl, rfl⟩)
  go_ret
  exact ⟨rfl, rfl⟩
theorem left_fault (B : Nat) (e : Int) (w : World) (h : w.cell? ⟨B, 1, none⟩ = some (.int .i64 e)) (he : (e != 0) = true) :
    Calls Try.prog 53 #[.pointer (some ⟨B, 0, none⟩)] w fun r w' => r = .returned (.int .i64 0) ∧ w = w' := by
  go_enter Try.func53, Try.ntmps53
  go_wp2_with (go_at_call 49; refine (err_two B e _ h).mono ?_; rintro r w' ⟨rfl, rfl⟩)
  go_ret
  exact ⟨rfl, rfl⟩
theorem left_nil (w : World) :
    Calls Try.prog 53 #[.pointer none] w fun r w' => r = .returned (.int .i64 0) ∧ w = w' := by
  go_enter Try.func53, Try.ntmps53
  go_wp2_with (go_at_call 49; refine (err_nil _).mono ?_; rintro r w' ⟨rfl, rfl⟩)
  go_ret
  exact ⟨rfl, rfl⟩
theorem take_fault (B : Nat) (e k : Int) (w : World) (h : w.cell? ⟨B, 1, none⟩ = some (.int .i64 e)) (he : (e != 0) = true) :
    Calls Try.prog 51 #[.pointer (some ⟨B, 0, none⟩), .int .i64 k] w fun r w' => r = .returned (.slice none 0 0) ∧ w = w' := by
  go_enter Try.func51, Try.ntmps51
  go_wp2_with (go_at_call 49; refine (err_two B e _ h).mono ?_; rintro r w' ⟨rfl, rfl⟩)
  go_ret
  exact ⟨rfl, rfl⟩
theorem take_nil (k : Int) (w : World) :
    Calls Try.prog 51 #[.pointer none, .int .i64 k] w fun r w' => r = .returned (.slice none 0 0) ∧ w = w' := by
  go_enter Try.func51, Try.ntmps51
  go_wp2_with (go_at_call 49; refine (err_nil _).mono ?_; rintro r w' ⟨rfl, rfl⟩)
  go_ret
  exact ⟨rfl, rfl⟩
theorem take_short (B : Nat) (a : Option Addr) (n cap : Nat) (k : Int) (w : World) (h0 : w.cell? ⟨B, 0, none⟩ = some (.slice a n cap)) (h : w.cell? ⟨B, 1, none⟩ = some (.int .i64 0)) (hf : w.frozen? ⟨B, 1, none⟩ = false) (hk : (n : Int) < k) :
    Calls Try.prog 51 #[.pointer (some ⟨B, 0, none⟩), .int .i64 k] w fun r w' => r = .returned (.slice none 0 0) ∧ w' = w.setCell ⟨B, 1, none⟩ (.int .i64 3) := by
  go_enter Try.func51, Try.ntmps51
  go_wp2_with (first
    | (go_at_call 49; refine (err_two B 0 _ h).mono ?_; rintro r w' ⟨rfl, rfl⟩)
    | (go_at_call 36; refine (fail_first B 3 _ h hf).mono ?_; rintro r w' ⟨rfl, rfl⟩))
  go_ret
  exact ⟨rfl, rfl⟩
theorem take_some (B b off n cap k : Nat) (w : World) (h0 : w.cell? ⟨B, 0, none⟩ = some (.slice (some ⟨b, off, none⟩) n cap)) (h : w.cell? ⟨B, 1, none⟩ = some (.int .i64 0)) (hf : w.frozen? ⟨B, 0, none⟩ = false) (hk : k ≤ n) (hc : n ≤ cap) (hm : cap ≤ maxLen) :
    Calls Try.prog 51 #[.pointer (some ⟨B, 0, none⟩), .int .i64 k] w fun r w' => r = .returned (.slice (some ⟨b, off, none⟩) k cap) ∧ ∃ a', w' = w.setCell ⟨B, 0, none⟩ (.slice a' (n - k) (cap - k)) ∧ (n = k ∨ a' = some ⟨b, off + k, none⟩) := by
  unfold maxLen at hm
  by_cases hck : cap = k
  · subst hck
    obtain rfl : n = cap := by omega
    go_enter Try.func51, Try.ntmps51
    go_wp2_with (go_at_call 49; refine (err_two B 0 _ h).mono ?_; rintro r w' ⟨rfl, rfl⟩)
    go_ret
    exact ⟨rfl, some ⟨b, off, none⟩, by simp, by simp⟩
  · go_enter Try.func51, Try.ntmps51
    go_wp2_with (go_at_call 49; refine (err_two B 0 _ h).mono ?_; rintro r w' ⟨rfl, rfl⟩)
    go_ret
    exact ⟨rfl, some ⟨b, off + k, none⟩, rfl, .inr rfl⟩
theorem take_none (B cap : Nat) (a : Option Addr) (w : World) (h0 : w.cell? ⟨B, 0, none⟩ = some (.slice a 0 cap)) (h : w.cell? ⟨B, 1, none⟩ = some (.int .i64 0)) (hf : w.frozen? ⟨B, 0, none⟩ = false) (hm : cap ≤ maxLen) :
    Calls Try.prog 51 #[.pointer (some ⟨B, 0, none⟩), .int .i64 0] w fun r w' => r = .returned (.slice a 0 cap) ∧ ∃ a', w' = w.setCell ⟨B, 0, none⟩ (.slice a' 0 cap) := by
  unfold maxLen at hm
  rcases a with _ | ⟨b, off, p⟩
  · go_enter Try.func51, Try.ntmps51
    go_wp2_with (go_at_call 49; refine (err_two B 0 _ h).mono ?_; rintro r w' ⟨rfl, rfl⟩)
    go_ret
    exact ⟨rfl, _, rfl⟩
  · go_enter Try.func51, Try.ntmps51
    go_wp2_with (go_at_call 49; refine (err_two B 0 _ h).mono ?_; rintro r w' ⟨rfl, rfl⟩)
    go_ret
    exact ⟨rfl, _, rfl⟩


theorem ret3 {k1 k2 k3 : IntKind} {a b c a' b' c' : Int} (h : a = a') (h' : b = b') (h'' : c = c') : Ending.returned (.tuple #[.int k1 a, .int k2 b, .int k3 c]) = .returned (.tuple #[.int k1 a', .int k2 b', .int k3 c']) := by rw [h, h', h'']
set_option maxHeartbeats 2000000 in
theorem digits_any (a : Option Addr) (cap : Nat) (l : List Int) (w : World) (h : IsB w a l) (hm : l.length ≤ maxLen) :
    Calls Try.prog 50 #[.slice a l.length cap] w fun e w' => e = .returned (.tuple #[.int .u64 (rdL l).1, .int .i64 (rdL l).2.1, .int .i64 (rdL l).2.2]) ∧ w = w' := by
  obtain ⟨hb, rfl | ⟨b, off, rfl, hsz, hc⟩⟩ := h
  · go_enter Try.func50, Try.ntmps50
    go_wp2
    refine wp_loop_rounds 1 ?_
    rw [rounds_succ]
    go_wp2
    go_ret3
    exact ⟨rfl, rfl⟩
  · unfold maxLen at hm
    go_enter Try.func50, Try.ntmps50
    go_wp2
    go_loop [2, 9] (fun n i => ∃ (k : Nat) (acc : Int), k ≤ l.length ∧ k ≤ 9 ∧ i = .int .i64 k ∧ n = .int .u64 acc ∧ 0 ≤ acc ∧ acc < 2 ^ (7 * k) ∧ rdL l = rdF k acc (l.drop k)) (fun _ i => l.length - (intOf i).toNat)
    case atStart => exact ⟨0, 0, Nat.zero_le _, Nat.zero_le _, rfl, rfl, by decide, by decide, rfl⟩
    case round =>
      obtain ⟨k, acc, hkl, hk9, rfl, rfl, ha0, ha1, hr⟩ := hrel
      have HR : Hid (rdL l = rdF k acc (l.drop k)) := hr
      clear hr
      by_cases hl : k < l.length
      · have hcell := hc k hl
        have hx := hb l[k] (List.getElem_mem hl)
        go_wp2
        all_goals first
          | (go_round
             case rel =>
               have h9 : ¬ (k : Int) = 9 := by assumption
               have hge : 128 ≤ l[k] := by assumption
               have D := dig_or k acc (l[k] % 128) ha0 ha1 (by omega) (.inl ⟨by omega, by omega⟩)
               exact ⟨k + 1, acc + l[k] % 128 * 2 ^ (7 * k), by omega, by omega, by go_num, by rw [D.1], D.2.1, dig_bd k acc _ ha1 (by omega), by rw [HR.out]; exact rd_go l k acc hl (by omega) (by omega) hge⟩
             case measure => simp [intOf]; omega)
          | (have h1 : 1 < l[k] := by assumption
             have E : rdL l = (0, 0, 4) := by rw [HR.out]; exact rd_bad l k acc hl (.inl ⟨by omega, h1⟩)
             go_ret3
             rw [E]
             exact ⟨rfl, rfl⟩)
          | (have h1 : (l[k] == 0) = true := by assumption
             have E : rdL l = (0, 0, 4) := by rw [HR.out]; exact rd_bad l k acc hl (.inr ⟨by omega, by simpa using h1⟩)
             go_ret3
             rw [E]
             exact ⟨rfl, rfl⟩)
          | (have h1 : l[k] < 128 := by assumption
             have h2 : ¬ (k = 9 ∧ 1 < l[k]) := by omega
             have h3 : ¬ (0 < k ∧ l[k] = 0) := by
               first
                 | (have h4 : (l[k] == 0) = false := by assumption
                    intro h5
                    simp [h5.2] at h4)
                 | omega
             have E : rdL l = (acc + l[k] % 128 * 2 ^ (7 * k), k + 1, 0) := by rw [HR.out]; exact rd_stop l k acc hl h2 h3 h1
             have D := dig_or k acc (l[k] % 128) ha0 ha1 (by omega) (by omega)
             go_ret3
             rw [E]
             first
               | exact ⟨ret3 D.1 (by first | (dsimp only; omega) | omega | simp) rfl, rfl⟩
               | (have hk : k = 9 := by omega
                  have D9 := dig_or9 k acc (l[k] % 128) hk ha0 ha1 (by omega) (by omega)
                  exact ⟨ret3 D9 (by first | (dsimp only; omega) | omega | simp) rfl, rfl⟩))
      · have E : rdL l = (0, 0, 3) := by rw [HR.out]; exact rd_end l k acc (by omega)
        have HE : Hid (rdL l = (0, 0, 3)) := E
        clear E
        go_wp2
        go_ret3
        rw [HE.out]
        exact ⟨rfl, rfl⟩

theorem clone_nil (n c : Nat) (w : World) :
    Calls Try.prog 48 #[.slice none n c] w fun e w' => e = .returned (.slice none 0 0) ∧ w = w' := by
  have q : ∀ (w : World) (a : Option Addr) (n c n' c' : Nat), (binOp .eql 30 (.slice a n c) (.slice none n' c')).run Try.prog w = .ok (.bool a.isNone) w := fun w a n c n' c' => Lib.run_eql_slice_nil w _ _ a n c n' c' Try.underlying30
  go_enter Try.func48, Try.ntmps48
  go_wp2
  go_ret
  exact ⟨rfl, rfl⟩
set_option maxHeartbeats 2000000 in
theorem clone_at (a : Addr) (n c : Nat) (xs : List Int) (w : World) (hx : xs.length = n) (hbig : n ≤ 140737488355328) (hc : ∀ i, i < n → w.cell? (a.add i) = some (.int .u8 (xs.getD i 0))) :
    Calls Try.prog 48 #[.slice (some a) n c] w fun e w' => ∃ v', e = .returned v' ∧ w'.ownsRow w.heap.size 5 1 v' n (xs.map (Value.int .u8)) ∧ v' ≠ .slice none 0 0 ∧ Below w.heap.size w w' := by
  obtain ⟨i0, hi, hz0, hz1, hz2⟩ := info_parts Try.info5
  have q : ∀ (w : World) (a : Option Addr) (n c n' c' : Nat), (binOp .eql 30 (.slice a n c) (.slice none n' c')).run Try.prog w = .ok (.bool a.isNone) w := fun w a n c n' c' => Lib.run_eql_slice_nil w _ _ a n c n' c' Try.underlying30
  have A : Hid (∀ i, i < n → w.cell? (a.add i) = some (.int .u8 (xs.getD i 0))) := hc
  clear hc
  go_enter Try.func48, Try.ntmps48
  go_wp2_with (at_builtin; refine wpList_append_own _ rfl _ _ 30 rfl w.heap.size 5 i0 (.int .u8 0) 1 1 Try.underlying30 hi hz0 hz1 hz2 rfl (by decide) _ _ _ rfl (World.ownsRow_made w #[] 0 (Nat.le_refl _) (Nat.zero_le _) rfl) a n c (xs.map (Value.int .u8)) rfl ?qc1 ?qc2 ?qc3 ?qc4 ?qc5 ?qc6 ?_)
  case qc1 => simp; omega
  case qc2 =>
    intro j u hj
    have hjn : j < n := by
      have := (List.getElem?_eq_some_iff.1 hj).1
      simp at this
      omega
    refine Lib.cell?_alloc_some _ ?_
    rw [A.out j hjn]
    have e : (xs.map (Value.int .u8))[j]? = some (Value.int .u8 (xs.getD j 0)) := by simp [List.getD, List.getElem?_eq_getElem (show j < xs.length by omega)]
    rw [e] at hj
    exact hj
  case qc3 => intro u hu; obtain ⟨x, _, rfl⟩ := List.mem_map.1 hu; rfl
  case qc4 => unfold maxLen; omega
  case qc5 => omega
  case qc6 => simp
  intro v' w1 hown hgrow hnil
  go_wp2
  go_ret
  refine ⟨v', rfl, by simpa using hown, ?_, ?_⟩
  · first | exact hnil | (intro e; exact absurd (hnil.1 e).1 (by simp))
  · exact ((Below.refl _ w).alloc (Nat.le_refl _) _).grown hgrow (by simp) (by intro k hk; simp [Value.ownBlock] at hk; omega)
/-- What an owned row is, taken apart. -/
theorem owns_parts {w : World} {base n : Nat} {v : Value} {l : List Int} (hn : l.length = n) (h : w.ownsRow base 5 1 v n (l.map (Value.int .u8))) (hv : v ≠ .slice none 0 0) :
    ∃ g cap, v = .slice (some ⟨g, 0, none⟩) n cap ∧ base ≤ g ∧ g < w.heap.size ∧ n ≤ cap ∧ cap ≤ maxLen ∧ ∀ i, i < l.length → w.cell? ⟨g, i, none⟩ = some (.int .u8 (l.getD i 0)) := by
  have h' := h
  obtain ⟨_, ⟨h1, _⟩ | ⟨g, c', cur, rfl, hb, h2, hc1, hc2, _, _⟩⟩ := h
  · exact absurd h1 hv
  · refine ⟨g, c', rfl, hb, (Array.getElem?_eq_some_iff.1 h2).1, hc1, hc2, ?_⟩
    intro i hi
    have := h'.cellAt i (by omega)
    rw [this]
    simp [List.getD, hi]
theorem cell_push (w : World) (cs : Array Value) (t : TypeId) : (w.alloc (.cells cs t)).heap[w.heap.size]? = some (.cells cs t (0, 0)) := by
  show (w.heap.push _)[w.heap.size]? = _
  simp
set_option maxHeartbeats 1000000 in
theorem open_any (a : Option Addr) (cap : Nat) (l : List Int) (w : World) (h : IsB w a l) (hm : l.length ≤ 140737488355328) (ha : a = none → l = []) :
    Calls Try.prog 33 #[.slice a l.length cap] w fun e w' => ∃ B, e = .returned (.pointer (some ⟨B, 0, none⟩)) ∧ w.heap.size ≤ B ∧ B < w'.heap.size ∧ RdAt w' B l 0 ∧ Below w.heap.size w w' := by
  rcases a with _ | ad
  · obtain rfl := ha rfl
    go_enter Try.func33, Try.ntmps33
    go_wp2_with (go_at_call 48; refine (clone_nil _ _ _).mono ?_; rintro e w' ⟨rfl, rfl⟩)
    go_ret
    refine ⟨w.heap.size, rfl, Nat.le_refl _, by simp, ⟨none, 0, cell_push _ _ _, Nat.le_refl _, Nat.zero_le _, h.1, .inl rfl⟩, (Below.refl _ _).alloc (Nat.le_refl _) _⟩
  · have hc : ∀ i, i < l.length → w.cell? (ad.add i) = some (.int .u8 (l.getD i 0)) := by
      intro i hi
      obtain ⟨_, rfl | ⟨b, off, e, _, hc⟩⟩ := h
      · simp at hi
      · cases e
        rw [addr_add]; exact hc i hi
    have H : Hid (∀ i, i < l.length → w.cell? (ad.add i) = some (.int .u8 (l.getD i 0))) := hc
    clear hc
    have hb := h.1
    clear h ha
    go_enter Try.func33, Try.ntmps33
    go_wp2_with fail
    refine (clone_at ad l.length cap l w rfl hm H.out).mono ?_
    rintro e w1 ⟨v, rfl, hown, hv, hbel⟩
    obtain ⟨g, c, hvv, hg1, hg2, hc1, hc2, hcell⟩ := owns_parts rfl hown hv
    rw [hvv]
    have HC : Hid (∀ i, i < l.length → w1.cell? ⟨g, i, none⟩ = some (.int .u8 (l.getD i 0))) := hcell
    clear hcell hown hv hvv
    go_wp2
    go_ret
    refine ⟨w1.heap.size, rfl, hbel.size, by simp, ⟨some ⟨g, 0, none⟩, c, cell_push _ _ _, hc1, hc2, hb, .inr ⟨g, 0, rfl, hg2, ?_⟩⟩, hbel.alloc hbel.size _⟩
    intro i hi
    rw [Nat.zero_add]
    exact Lib.cell?_alloc_some _ (HC.out i hi)


theorem digits_is (a : Option Addr) (cap : Nat) (l : List Int) (w : World) (h : IsB w a l) (hm : l.length ≤ maxLen) (n : Int) (sz : Nat) (er : Int) (hr : rdL l = (n, sz, er)) :
    Calls Try.prog 50 #[.slice a l.length cap] w fun e w' => e = .returned (.tuple #[.int .u64 n, .int .i64 sz, .int .i64 er]) ∧ w = w' := by
  have := digits_any a cap l w h hm
  rw [hr] at this
  exact this
theorem cell_far (w : World) (B o : Nat) (v : Value) (b i : Nat) (h : b ≠ B) : (w.setCell ⟨B, o, none⟩ v).cell? ⟨b, i, none⟩ = w.cell? ⟨b, i, none⟩ :=
  World.cell?_of_block (w := w) (Below.heap_setCell w ⟨B, o, none⟩ v b h)
theorem two_set0 {w : World} {B : Nat} {x y v : Value} {t : TypeId} (h : w.heap[B]? = some (.cells #[x, y] t (0, 0))) : (w.setCell ⟨B, 0, none⟩ v).heap[B]? = some (.cells #[v, y] t (0, 0)) := by
  have hlt := lt_of_block h
  have h' : w.heap[B] = .cells #[x, y] t (0, 0) := by simpa [Array.getElem?_eq_getElem hlt] using h
  show (w.heap.modify B _)[B]? = _
  rw [Array.getElem?_eq_getElem (by simpa using hlt), Array.getElem_modify_self, h']
  rfl
theorem two_set1 {w : World} {B : Nat} {x y v : Value} {t : TypeId} (h : w.heap[B]? = some (.cells #[x, y] t (0, 0))) : (w.setCell ⟨B, 1, none⟩ v).heap[B]? = some (.cells #[x, v] t (0, 0)) := by
  have hlt := lt_of_block h
  have h' : w.heap[B] = .cells #[x, y] t (0, 0) := by simpa [Array.getElem?_eq_getElem hlt] using h
  show (w.heap.modify B _)[B]? = _
  rw [Array.getElem?_eq_getElem (by simpa using hlt), Array.getElem_modify_self, h']
  rfl
theorem grown_set (w : World) (a : Addr) (v : Value) : w.grownBy (w.setCell a v) (some a.block) :=
  ⟨rfl, rfl, rfl, by show w.heap.size ≤ (w.heap.modify _ _).size; simp, fun k _ hk => Below.heap_setCell w a v k (fun e => hk (by rw [e]))⟩
theorem rd_fault {w : World} {B : Nat} {l : List Int} {e : Int} (h : RdAt w B l e) (x : Int) : RdAt (w.setCell ⟨B, 1, none⟩ (.int .i64 x)) B l x := by
  obtain ⟨a, cap, hh, h1, h2, h3, h4⟩ := h
  refine ⟨a, cap, two_set1 hh, h1, h2, h3, ?_⟩
  rcases h4 with h4 | ⟨b, off, e1, e2, e3⟩
  · exact .inl h4
  · exact .inr ⟨b, off, e1, e2, fun i hi => by rw [cell_far _ _ _ _ _ _ (by omega)]; exact e3 i hi⟩
theorem isB_of_rd {w : World} {B : Nat} {l : List Int} {e : Int} (h : RdAt w B l e) : ∃ a cap, w.cell? ⟨B, 0, none⟩ = some (.slice a l.length cap) ∧ w.cell? ⟨B, 1, none⟩ = some (.int .i64 e) ∧ w.frozen? ⟨B, 0, none⟩ = false ∧ w.frozen? ⟨B, 1, none⟩ = false ∧ IsB w a l ∧ l.length ≤ cap ∧ cap ≤ maxLen := by
  obtain ⟨a, cap, hh, h1, h2, h3, h4⟩ := h
  obtain ⟨c1, c2, c3, c4⟩ := cell_two hh
  refine ⟨a, cap, c1, c2, c3, c4, ⟨h3, ?_⟩, h1, h2⟩
  rcases h4 with h4 | ⟨b, off, e1, e2, e3⟩
  · exact .inl h4
  · exact .inr ⟨b, off, e1, by have := lt_of_block hh; omega, e3⟩
/-- take, of a reader without a fault, of no more than is left: what it answers is the reader's own memory. -/
theorem take_rd (B k : Nat) (l : List Int) (w : World) (h : RdAt w B l 0) (hk : k ≤ l.length) :
    Calls Try.prog 51 #[.pointer (some ⟨B, 0, none⟩), .int .i64 k] w fun r w' => ∃ a cap, r = .returned (.slice a k cap) ∧ RdAt w' B (l.drop k) 0 ∧ w.grownBy w' (some B) ∧ IsB w' a (l.take k) := by
  obtain ⟨a, cap, hh, h1, h2, h3, h4⟩ := h
  obtain ⟨c1, c2, c3, c4⟩ := cell_two hh
  rcases h4 with rfl | ⟨b, off, rfl, hbB, hc⟩
  · obtain rfl : k = 0 := by simpa using hk
    refine (take_none B cap a w c1 c2 c3 h2).mono ?_
    rintro r w' ⟨rfl, a', rfl⟩
    exact ⟨a, cap, rfl, ⟨a', cap, two_set0 hh, h1, h2, h3, .inl rfl⟩, grown_set _ _ _, ⟨by simp, .inl rfl⟩⟩
  · refine (take_some B b off l.length cap k w c1 c2 c3 hk h1 h2).mono ?_
    rintro r w' ⟨rfl, a', rfl, ha⟩
    have hcell : ∀ (v : Value) i, i < l.length → (w.setCell ⟨B, 0, none⟩ v).cell? ⟨b, off + i, none⟩ = some (.int .u8 (l.getD i 0)) := by
      intro v i hi
      rw [cell_far _ _ _ _ _ _ (by omega)]
      exact hc i hi
    have hlt := lt_of_block hh
    refine ⟨_, cap, rfl, ⟨a', cap - k, ?_, by simp; omega, by omega, fun x hx => h3 x (List.mem_of_mem_drop hx), ?_⟩, grown_set _ _ _, fun x hx => h3 x (List.mem_of_mem_take hx), ?_⟩
    · rw [List.length_drop]
      exact two_set0 hh
    · rcases ha with ha | ha
      · exact .inl (List.drop_eq_nil_of_le (by omega))
      · refine .inr ⟨b, off + k, ha, hbB, fun i hi => ?_⟩
        rw [List.length_drop] at hi
        have := hcell (.slice a' (l.length - k) (cap - k)) (k + i) (by omega)
        rw [Nat.add_assoc, this]
        simp [List.getD]
    · refine .inr ⟨b, off, rfl, by show b < (w.heap.modify _ _).size; simp; omega, fun i hi => ?_⟩
      rw [List.length_take] at hi
      rw [hcell _ i (by omega)]
      simp [List.getD, show i < k by omega]
set_option maxHeartbeats 1000000 in
theorem upto_any (B : Nat) (l : List Int) (e most : Int) (w : World) (h : RdAt w B l e) :
    Calls Try.prog 35 #[.pointer (some ⟨B, 0, none⟩), .int .u64 most] w fun r w' => r = .returned (.int .u64 (upS l e most).1) ∧ RdAt w' B (upS l e most).2.1 (upS l e most).2.2 ∧ w.grownBy w' (some B) := by
  obtain ⟨a, cap, c1, c2, c3, c4, hB, hc, hm⟩ := isB_of_rd h
  by_cases he : e = 0
  · subst he
    have hF := rdL_facts l hB.1
    obtain ⟨n, sz, er, hr⟩ : ∃ n sz er, rdL l = (n, sz, er) := ⟨_, _, _, rfl⟩
    rw [hr] at hF
    dsimp only at hF
    have HU : upS l 0 most = if er = 0 then (if n ≤ most then (n, l.drop sz, 0) else (0, l, 4)) else (0, l, er) := by rw [upS, if_pos rfl, hr]
    have HR : Hid (rdL l = (n, sz, er)) := hr
    have HRd : Hid (RdAt w B l 0) := h
    have HB : Hid (IsB w a l) := hB
    clear hr h hB
    rcases hF with ⟨rfl, n0, n1, s1, s2⟩ | ⟨he, rfl, rfl⟩
    · by_cases hle : n ≤ most
      · rw [if_pos rfl, if_pos hle] at HU
        have HU' : Hid (upS l 0 most = (n, l.drop sz, 0)) := HU
        clear HU
        go_enter Try.func35, Try.ntmps35
        go_wp2_with (first
          | (go_at_call 49; refine (err_two B 0 _ c2).mono ?_; rintro r w' ⟨rfl, rfl⟩)
          | (go_at_call 50; refine (digits_is a cap l _ HB.out (by omega) n sz 0 HR.out).mono ?_; rintro r w' ⟨rfl, rfl⟩)
          | (go_at_call 51; refine (take_rd B sz l _ HRd.out s2).mono ?_; rintro r w1 ⟨a1, cap1, rfl, hR1, hg1, _⟩))
        go_ret
        rw [HU'.out]
        exact ⟨rfl, hR1, hg1⟩
      · rw [if_pos rfl, if_neg hle] at HU
        have HU' : Hid (upS l 0 most = (0, l, 4)) := HU
        clear HU
        go_enter Try.func35, Try.ntmps35
        go_wp2_with (first
          | (go_at_call 49; refine (err_two B 0 _ c2).mono ?_; rintro r w' ⟨rfl, rfl⟩)
          | (go_at_call 50; refine (digits_is a cap l _ HB.out (by omega) n sz 0 HR.out).mono ?_; rintro r w' ⟨rfl, rfl⟩)
          | (go_at_call 36; refine (fail_first B 4 _ c2 c4).mono ?_; rintro r w' ⟨rfl, rfl⟩))
        go_ret
        rw [HU'.out]
        exact ⟨rfl, rd_fault HRd.out 4, grown_set _ _ _⟩
    · have hq : (er == 0) = false := by rw [beq_eq_false_iff_ne]; omega
      have hq' : (er != 0) = true := by rw [bne_iff_ne]; omega
      rw [if_neg (by omega)] at HU
      have HU' : Hid (upS l 0 most = (0, l, er)) := HU
      clear HU
      go_enter Try.func35, Try.ntmps35
      go_wp2_with (first
        | (go_at_call 49; refine (err_two B 0 _ c2).mono ?_; rintro r w' ⟨rfl, rfl⟩)
        | (go_at_call 50; refine (digits_is a cap l _ HB.out (by omega) 0 0 er HR.out).mono ?_; rintro r w' ⟨rfl, rfl⟩)
        | (go_at_call 36; refine (fail_first B er _ c2 c4).mono ?_; rintro r w' ⟨rfl, rfl⟩))
      go_ret
      rw [HU'.out]
      exact ⟨rfl, rd_fault HRd.out er, grown_set _ _ _⟩
  · have hq' : (e != 0) = true := by rw [bne_iff_ne]; exact he
    have HRd : Hid (RdAt w B l e) := h
    have HU : Hid (upS l e most = (0, l, e)) := by show _ = _; rw [upS, if_neg he]
    clear h hB
    go_enter Try.func35, Try.ntmps35
    go_wp2_with (go_at_call 49; refine (err_two B e _ c2).mono ?_; rintro r w' ⟨rfl, rfl⟩)
    go_ret
    rw [HU.out]
    exact ⟨rfl, HRd.out, World.grownBy.refl _ _⟩
theorem upto_nil (most : Int) (w : World) :
    Calls Try.prog 35 #[.pointer none, .int .u64 most] w fun r w' => r = .returned (.int .u64 0) ∧ w = w' := by
  go_enter Try.func35, Try.ntmps35
  go_wp2_with (go_at_call 49; refine (err_nil _).mono ?_; rintro r w' ⟨rfl, rfl⟩)
  go_ret
  exact ⟨rfl, rfl⟩
theorem grown_below {w w' : World} (h : Below w.heap.size w w') (row : Option Nat) : w.grownBy w' row := ⟨h.os, h.tape, h.output, h.size, fun k hk _ => h.block k hk⟩
theorem grown_then {a b c : World} {row : Option Nat} (h : a.grownBy b row) (k : Below b.heap.size b c) : a.grownBy c row :=
  ⟨k.os.trans h.os, k.tape.trans h.tape, k.output.trans h.output, Nat.le_trans h.size k.size, fun i hi hn => (k.block i (Nat.lt_of_lt_of_le hi h.size)).trans (h.block i hi hn)⟩
theorem rd_keep {w w' : World} {B : Nat} {l : List Int} {e : Int} (h : RdAt w B l e) (hb : Below w.heap.size w w') : RdAt w' B l e := by
  obtain ⟨a, cap, hh, h1, h2, h3, h4⟩ := h
  have hlt := lt_of_block hh
  refine ⟨a, cap, (hb.block B hlt).trans hh, h1, h2, h3, ?_⟩
  rcases h4 with h4 | ⟨b, off, e1, e2, e3⟩
  · exact .inl h4
  · exact .inr ⟨b, off, e1, e2, fun i hi => by rw [hb.cell (p := ⟨b, off + i, none⟩) (by show b < _; omega)]; exact e3 i hi⟩

def failV (e x : Int) : Int := if e = 0 then x else e
def leftV (l : List Int) (e : Int) : Int := if e = 0 then (l.length : Int) else 0
theorem left_any (B : Nat) (l : List Int) (e : Int) (w : World) (h : RdAt w B l e) :
    Calls Try.prog 53 #[.pointer (some ⟨B, 0, none⟩)] w fun r w' => r = .returned (.int .i64 (leftV l e)) ∧ w = w' := by
  obtain ⟨a, cap, c1, c2, c3, c4, _, _, _⟩ := isB_of_rd h
  by_cases he : e = 0
  · subst he
    rw [leftV, if_pos rfl]
    exact left_ok B a l.length cap w c1 c2
  · rw [leftV, if_neg he]
    exact left_fault B e w c2 (by rw [bne_iff_ne]; exact he)
theorem err_any (B : Nat) (l : List Int) (e : Int) (w : World) (h : RdAt w B l e) :
    Calls Try.prog 49 #[.pointer (some ⟨B, 0, none⟩)] w fun r w' => r = .returned (.int .i64 e) ∧ w = w' := by
  obtain ⟨a, cap, c1, c2, c3, c4, _, _, _⟩ := isB_of_rd h
  exact err_two B e w c2
theorem fail_any (B : Nat) (l : List Int) (e x : Int) (w : World) (h : RdAt w B l e) :
    Calls Try.prog 36 #[.pointer (some ⟨B, 0, none⟩), .int .i64 x] w fun r w' => r = .returned (.tuple #[]) ∧ RdAt w' B l (failV e x) ∧ w.grownBy w' (some B) := by
  obtain ⟨a, cap, c1, c2, c3, c4, _, _, _⟩ := isB_of_rd h
  by_cases he : e = 0
  · subst he
    refine (fail_first B x w c2 c4).mono ?_
    rintro r w' ⟨rfl, rfl⟩
    rw [failV, if_pos rfl]
    exact ⟨rfl, rd_fault h x, grown_set _ _ _⟩
  · refine (fail_more B x e w c2 (by rw [beq_eq_false_iff_ne]; exact he)).mono ?_
    rintro r w' ⟨rfl, rfl⟩
    rw [failV, if_neg he]
    exact ⟨rfl, h, World.grownBy.refl _ _⟩
end Go.Proofs.Ytgpkiajakokjmaa
