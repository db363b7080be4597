/- What slices.Clone and num.Open return. -/
import Derived.Test.YtdhamfhicdcdgaaNumDg
namespace Go.Proofs.Ytdhamfhicdcdgaa
open Go.RowKit
set_option linter.unusedVariables false

theorem addr_add (b off i : Nat) : (⟨b, off, none⟩ : Addr).add i = ⟨b, off + i, none⟩ := by by_cases h : i = 0 <;> simp [Addr.add, h]

theorem clone_nil (n c : Nat) (w : World) :
    Calls Try.prog 38 #[.slice none n c] w fun e w' => e = .returned (.slice none 0 0) ∧ w = w' := by
  have q : ∀ (w : World) (a : Option Addr) (n c n' c' : Nat), (binOp .eql 23 (.slice a n c) (.slice none n' c')).run Try.prog w = .ok (.bool a.isNone) w := fun w a n c n' c' => Lib.run_eql_slice_nil w _ _ a n c n' c' Try.underlying23
  go_enter Try.func38, Try.ntmps38
  go_wp2
  go_ret
  exact ⟨rfl, rfl⟩

set_option maxHeartbeats 2000000 in
theorem clone_at (a : Addr) (n c : Nat) (xs : List Int) (w : World) (hx : xs.length = n) (hbig : n ≤ 140737488355328) (hc : ∀ i, i < n → w.cell? (a.add i) = some (.int .u8 (xs.getD i 0))) :
    Calls Try.prog 38 #[.slice (some a) n c] w fun e w' => ∃ v', e = .returned v' ∧ w'.ownsRow w.heap.size 5 1 v' n (xs.map (Value.int .u8)) ∧ v' ≠ .slice none 0 0 ∧ Below w.heap.size w w' := by
  obtain ⟨i0, hi, hz0, hz1, hz2⟩ := info_parts Try.info5
  have q : ∀ (w : World) (a : Option Addr) (n c n' c' : Nat), (binOp .eql 23 (.slice a n c) (.slice none n' c')).run Try.prog w = .ok (.bool a.isNone) w := fun w a n c n' c' => Lib.run_eql_slice_nil w _ _ a n c n' c' Try.underlying23
  have A : Hid (∀ i, i < n → w.cell? (a.add i) = some (.int .u8 (xs.getD i 0))) := hc
  clear hc
  go_enter Try.func38, Try.ntmps38
  go_wp2_with (at_builtin; refine wpList_append_own _ rfl _ _ 23 rfl w.heap.size 5 i0 (.int .u8 0) 1 1 Try.underlying23 hi hz0 hz1 hz2 rfl (by decide) _ _ _ rfl (World.ownsRow_made w #[] 0 (Nat.le_refl _) (Nat.zero_le _) rfl) a n c (xs.map (Value.int .u8)) rfl ?qc1 ?qc2 ?qc3 ?qc4 ?qc5 ?qc6 ?_)
  case qc1 => simp; omega
  case qc2 =>
    intro j u hj
    have hjn : j < n := by
      have := (List.getElem?_eq_some_iff.1 hj).1
      simp at this
      omega
    refine Lib.cell?_alloc_some _ ?_
    rw [A.out j hjn]
    have e : (xs.map (Value.int .u8))[j]? = some (Value.int .u8 (xs.getD j 0)) := by simp [List.getD, List.getElem?_eq_getElem (show j < xs.length by omega)]
    rw [e] at hj
    exact hj
  case qc3 => intro u hu; obtain ⟨x, _, rfl⟩ := List.mem_map.1 hu; rfl
  case qc4 => unfold maxLen; omega
  case qc5 => omega
  case qc6 => simp
  intro v' w1 hown hgrow hnil
  go_wp2
  go_ret
  refine ⟨v', rfl, by simpa using hown, ?_, ?_⟩
  · first | exact hnil | (intro e; exact absurd (hnil.1 e).1 (by simp))
  · exact ((Below.refl _ w).alloc (Nat.le_refl _) _).grown hgrow (by simp) (by intro k hk; simp [Value.ownBlock] at hk; omega)

/-- What an owned row is, taken apart. -/
theorem owns_parts {w : World} {base n : Nat} {v : Value} {l : List Int} (hn : l.length = n) (h : w.ownsRow base 5 1 v n (l.map (Value.int .u8))) (hv : v ≠ .slice none 0 0) :
    ∃ g cap, v = .slice (some ⟨g, 0, none⟩) n cap ∧ base ≤ g ∧ g < w.heap.size ∧ n ≤ cap ∧ cap ≤ maxLen ∧ ∀ i, i < l.length → w.cell? ⟨g, i, none⟩ = some (.int .u8 (l.getD i 0)) := by
  have h' := h
  obtain ⟨_, ⟨h1, _⟩ | ⟨g, c', cur, rfl, hb, h2, hc1, hc2, _, _⟩⟩ := h
  · exact absurd h1 hv
  · refine ⟨g, c', rfl, hb, (Array.getElem?_eq_some_iff.1 h2).1, hc1, hc2, ?_⟩
    intro i hi
    have := h'.cellAt i (by omega)
    rw [this]
    simp [List.getD, hi]

theorem cell_push (w : World) (cs : Array Value) (t : TypeId) : (w.alloc (.cells cs t)).heap[w.heap.size]? = some (.cells cs t (0, 0)) := by
  show (w.heap.push _)[w.heap.size]? = _
  simp

set_option maxHeartbeats 1000000 in
theorem open_any (a : Option Addr) (cap : Nat) (l : List Int) (w : World) (h : IsB w a l) (hm : l.length ≤ 140737488355328) (ha : a = none → l = []) :
    Calls Try.prog 19 #[.slice a l.length cap] w fun e w' => ∃ B, e = .returned (.pointer (some ⟨B, 0, none⟩)) ∧ w.heap.size ≤ B ∧ B < w'.heap.size ∧ RdAt w' B l 0 ∧ Below w.heap.size w w' := by
  rcases a with _ | ad
  · obtain rfl := ha rfl
    go_enter Try.func19, Try.ntmps19
    go_wp2_with (go_at_call 38; refine (clone_nil _ _ _).mono ?_; rintro e w' ⟨rfl, rfl⟩)
    go_ret
    refine ⟨w.heap.size, rfl, Nat.le_refl _, by simp, ⟨none, 0, cell_push _ _ _, Nat.le_refl _, Nat.zero_le _, h.1, .inl rfl⟩, (Below.refl _ _).alloc (Nat.le_refl _) _⟩
  · have hc : ∀ i, i < l.length → w.cell? (ad.add i) = some (.int .u8 (l.getD i 0)) := by
      intro i hi
      obtain ⟨_, rfl | ⟨b, off, e, _, hc⟩⟩ := h
      · simp at hi
      · cases e
        rw [addr_add]; exact hc i hi
    have H : Hid (∀ i, i < l.length → w.cell? (ad.add i) = some (.int .u8 (l.getD i 0))) := hc
    clear hc
    have hb := h.1
    clear h ha
    go_enter Try.func19, Try.ntmps19
    go_wp2_with fail
    refine (clone_at ad l.length cap l w rfl hm H.out).mono ?_
    rintro e w1 ⟨v, rfl, hown, hv, hbel⟩
    obtain ⟨g, c, hvv, hg1, hg2, hc1, hc2, hcell⟩ := owns_parts rfl hown hv
    rw [hvv]
    have HC : Hid (∀ i, i < l.length → w1.cell? ⟨g, i, none⟩ = some (.int .u8 (l.getD i 0))) := hcell
    clear hcell hown hv hvv
    go_wp2
    go_ret
    refine ⟨w1.heap.size, rfl, hbel.size, by simp, ⟨some ⟨g, 0, none⟩, c, cell_push _ _ _, hc1, hc2, hb, .inr ⟨g, 0, rfl, hg2, ?_⟩⟩, hbel.alloc hbel.size _⟩
    intro i hi
    rw [Nat.zero_add]
    exact Lib.cell?_alloc_some _ (HC.out i hi)
end Go.Proofs.Ytdhamfhicdcdgaa
